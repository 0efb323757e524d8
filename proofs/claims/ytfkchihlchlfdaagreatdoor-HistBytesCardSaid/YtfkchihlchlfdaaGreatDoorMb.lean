import Derived.Test.YtfkchihlchlfdaaGreatDoorMa
import Derived.Laws.Bits64b
import Derived.Laws.BitsAllLaws
import Derived.Laws.Externs
open Array renaming replicate->bE,getD_eq_getD_getElem?->cN,getElem?_eq_some_iff->dC,getElem?_eq_getElem->dM,any_eq_true'->fK,getElem?_setIfInBounds_ne->pC,size_setIfInBounds->I2
open Bool renaming and_eq_true->aW,or_eq_true->fO
open Classical renaming choose->Br,choose_spec->IY
open Go.Act renaming put->aG,eval->AV
open Go.Exit renaming inBlock->eE
open Go.Extern.MathBitsCarry renaming m64->yK
open Go.IntKind renaming wrap_u64->aP
open Go.Oper renaming upon->mJ,wp->nC
open Go.Region renaming wanted->aN,ready->bC,binds->eN,noSelect_spec->nM,noSelect->tS
open Go.Result renaming andThen_ok->aF
open Go.Sem renaming run_bind->aJ,run_pure->aK
open Go.World renaming size_alloc->aZ,cell?_setCell_other->sV,setCell->IZ,frozen?_setCell->ND
open List renaming length_append->aI,getElem?_eq_getElem->aX,length_take->aY,mem_cons_of_mem->bL,getElem?_cons_zero->b6,mem_cons->b7,map_cons->cA,mem_cons_self->cB,length_cons->cC,all_eq_true->cL,eq_nil_of_length_eq_zero->cM,getElem?_eq_some_iff->dI,ext_getElem->fR,mem_map->gP,getElem?_take->iJ,mem_range->lX,mem_append->mN,mem_append_left->qW,range->tT,mem_append_right->yI,getElem?_cons_succ->Aa,pairwise_cons->BA,cons_append->Ku,getElem?_toArray->NO
open List.cons renaming injEq->uI
open Nat renaming le_refl->aH,blt->aQ,eq_of_beq_eq_true->bD,lt_of_le_of_lt->bX,zero_add->cK,add_right_comm->cX,add_assoc->dO,add_zero->fN,beq->hH,ne_of_lt->nO,pow_mul->xJ,and_two_pow_sub_one_eq_mod->EK
open Option.some renaming injEq->bG,inj->fV
namespace Go.Proofs.YtfkchihlchlfdaaGreatDoor
open Go.RowKit Go.IntWalk
def look : List (Nat × Value) -> Nat -> Option Value
  | [],_=>none
  | (k,v) :: r,j=>match hH k j with
    | true=>some v
    | false=>look r j
theorem fU (k j : Nat) (v : Value) (r : List (Nat × Value)) : look ((k,v) :: r) j = if k = j then some v else look r j:=by
 show (match hH k j with | true=>some v | false=>look r j) = _
 by_cases h : k = j
 ·subst h
  rw [if_pos rfl,Nat.beq_refl]
 ·rw [if_neg h]
  cases e : hH k j with
  | true=>exact absurd (bD e) h
  | false=>rfl
def ev (E : List (Nat × Value)) : Operand -> Option Value
  | .tmp t=>look E t
  | .const v=>some v
  | .global g=>some (.pointer (some ⟨g,0,none⟩))
  | .func f=>some (.func (.func f) #[] #[])
def Sub : List (Nat × Value) -> List (Nat × Value) -> Prop
  | [],_=>True
  | p :: r,E=>look E p.1 = some p.2 /\ Sub r E
structure Fr (N : Nat) (E : List (Nat × Value)) (a : Act) : Prop where
  size : a.tmps.size = N
  defers : a.defers = []
  get : ∀ k v,look E k = some v -> a.eval (.tmp k) = v
section
variable {N : Nat} {E E' : List (Nat × Value)} {a : Act}
theorem Fr.eval (h : Fr N E a) {x : Operand} {v : Value} (hx : ev E x = some v) : a.eval x = v:=by
 cases x with
 | tmp t=>exact h.get t v hx
 | const u=>exact fV hx
 | global g=>exact fV hx
 | func f=>exact fV hx
theorem Fr.put (h : Fr N E a) {k : Nat} (hk : aQ k N = true) (v : Value) : Fr N ((k,v) :: E) (a.put (some k) v):=by
 have hk : k < N:=by simpa using hk
 refine ⟨by simp [aG,h.size],h.defers,λj u hj=>?_⟩;rw [fU] at hj
 have hs : k < a.tmps.size:=by rw [h.size]; exact hk
 by_cases e : k = j
 ·subst e
  rw [if_pos rfl] at hj
  cases hj
  simp [aG,AV,hs]
 ·rw [if_neg e] at hj
  have h1:=h.get j u hj;simp only [aG,AV,cN] at h1 ⊢;rw [pC (by omega)];exact h1
theorem Fr.sub (h : Fr N E a) (hs : Sub E' E) : Fr N E' a:=by
 refine ⟨h.size,h.defers,?_⟩
 induction E' with
 | nil=>intro k v hk; cases hk
 | cons p r ih =>
  intro k v hk
  obtain ⟨j,u⟩:=p;rw [fU] at hk
  by_cases e : j = k
  ·subst e
   rw [if_pos rfl] at hk
   cases hk
   exact h.get _ _ hs.1
  ·rw [if_neg e] at hk
   exact ih hs.2 k v hk
theorem Fr.start {args : Array Value} {n : Nat} (h : args.size + n = N) (E : List (Nat × Value)) (hE : ∀ k v,look E k = some v -> args[k]? = some v) :
  Fr N E { tmps:=args ++ bE n undef,defers:=[] }:=by
 refine ⟨by simp [h],rfl,λk v hk=>?_⟩;have h1:=hE k v hk;have h2:=(dC.1 h1).1;simp only [AV,cN];rw [Array.getElem?_append_left h2,h1]
 rfl
end
def cF (P : Program) (c : Code) (Q : Exit -> Act -> World -> Prop) (N : Nat) (E : List (Nat × Value)) (w : World) : Prop:=∀ a,Fr N E a -> c.wp P Q a w
def bF (P : Program) (ops : Array Oper) (C0 : World -> Prop) (Q : Act -> Prop) (l : List Oper) (N : Nat) (E : List (Nat × Value)) : Prop:=∀ a,Fr N E a -> wpB P ops C0 Q l a
def lF (P : Program) (ops : Array Oper) (Q : Exit -> Act -> World -> Prop) (l : List Oper) (N : Nat) (E : List (Nat × Value)) (w : World) : Prop:=∀ a,Fr N E a -> wpList P ops Q l a w
def kF (K : Act -> World -> Prop) (N : Nat) (E : List (Nat × Value)) (w : World) : Prop:=∀ a,Fr N E a -> K a w
section
variable {P : Program} {Q : Exit -> Act -> World -> Prop} {N : Nat} {E E' : List (Nat × Value)} {w : World}
theorem eC {K : Act -> World -> Prop} (hs : Sub E' E) (h : kF K N E' w) : kF K N E w:=λa ha=>h a (ha.sub hs)
theorem aO {x y : Code} (h : ∀ K : Act -> World -> Prop,(∀ E' w',cF P y Q N E' w' -> kF K N E' w') -> cF P x (Exit.then K Q) N E w) : cF P (.seq x y) Q N E w:=λa ha =>
 wp_seq_k λK hK=>h K (λ_ _ h' a' ha'=>hK _ _ (h' a' ha')) a ha
theorem cI {c : Operand} {x y : Code} (t : Bool) (hc : ev E c = some (.bool t)) (h : cF P (if t then x else y) Q N E w) : cF P (.cond c x y) Q N E w:=λa ha=>wp_cond (ha.eval hc) (h a ha)
theorem dS {id : Nat} {c : Code} (h : cF P c (eE id Q) N E w) : cF P (.block id c) Q N E w:=λa ha=>wp_block (h a ha)
theorem fG (h : kF (Q .normal) N E w) : cF P .skip Q N E w:=λa ha=>wp_skip (h a ha)
theorem kR {id : Nat} (h : kF (Q (.exit id)) N E w) : cF P (.exit id) Q N E w:=λa ha=>wp_exit (h a ha)
theorem gX (h : kF (Q .ret) N E w) : cF P .ret Q N E w:=λa ha=>wp_ret (h a ha)
theorem oL {id : Nat} (h : kF (Q .normal) N E w) : kF (eE id Q (.exit id)) N E w:=λa ha=>by
 simp only [eE,if_true];exact h a ha
theorem least {σ : Type} (m : σ -> Nat) (p : σ -> Prop) : (∃ s,p s) -> ∃ s,p s /\ ∀ s',p s' -> m s <= m s':=by
 rintro ⟨s,hs⟩
 have key : ∀ n s,m s <= n -> p s -> ∃ s,p s /\ ∀ s',p s' -> m s <= m s':=by
  intro n
  induction n with
  | zero=>exact λs hn hs=>⟨s,hs,λs' _=>by omega⟩
  | succ n ih =>
   intro s hn hs
   by_cases h : ∃ s',p s' /\ m s' < m s
   ·obtain ⟨s',h1,h2⟩:=h
    exact ih s' (by omega) h1
   ·exact ⟨s,hs,λs' h1=>by
     by_cases h2 : m s' < m s
     ·exact absurd ⟨s',h1,h2⟩ h
     ·omega⟩
 exact key (m s) s (aH _) hs
open Classical in
theorem kQ {σ : Type} {c : Code} (m : σ -> Nat) (F : σ -> List (Nat × Value)) (R : σ -> World -> Prop)
  (round : ∀ s w,R s w -> cF P c (Exit.then (λa' w'=>∃ s',R s' w' /\ Fr N (F s') a' /\ m s' < m s) Q) N (F s) w) (s0 : σ) (h0 : R s0 w) : cF P (.loop c) Q N (F s0) w:=λa ha=>by
 let T : Act -> World -> σ -> Prop:=λa w s=>R s w /\ Fr N (F s) a
 let μ : Act -> World -> Nat:=λa w=>if h : ∃ s,T a w s then m (Br (least m (T a w) h)) else 0
 have hμ : ∀ a w (h : ∃ s,T a w s),∃ s,T a w s /\ (∀ s',T a w s' -> m s <= m s') /\ μ a w = m s:=λa w h=>by
  refine ⟨Br (least m (T a w) h),(IY (least m (T a w) h)).1,(IY (least m (T a w) h)).2,?_⟩
  show (if h : ∃ s,T a w s then m (Br (least m (T a w) h)) else 0) = _
  rw [dif_pos h]
 refine wp_loop (λa w=>∃ s,T a w s) μ ⟨s0,h0,ha⟩ λa w hI=>?_;obtain ⟨s,hs,_,e⟩:=hμ a w hI;refine wp_mono (round s w hs.1 a hs.2) λx a' w' hx=>?_
 cases x with
 | normal =>
  obtain ⟨s',h1,h2,h3⟩:=hx;have hI' : ∃ s,T a' w' s:=⟨s',h1,h2⟩;obtain ⟨s2,hs2,hm2,e2⟩:=hμ a' w' hI';refine ⟨hI',?_⟩;rw [e,e2];exact bX (hm2 s' ⟨h1,h2⟩) h3
 | exit _=>exact hx
 | goto _=>exact hx
 | ret=>exact hx
 | panic _=>exact hx
 | outgrown=>exact hx
theorem gT {σ : Type} {m : σ -> Nat} {F : σ -> List (Nat × Value)} {R : σ -> World -> Prop} {s : σ} (s' : σ) (hs : Sub (F s') E) (hR : R s' w) (hm : m s' < m s) :
  kF (λa' w'=>∃ s',R s' w' /\ Fr N (F s') a' /\ m s' < m s) N E w:=λ_ ha=>⟨s',hR,ha.sub hs,hm⟩
end
section
variable {P : Program} {Q : Exit -> Act -> World -> Prop} {N : Nat} {E : List (Nat × Value)} {w : World} {id : Nat} {l : List Oper}
theorem c_q (hm : P.follows .mixedOrders = true) (hB : nV l.toArray l.length 0 0 = true) (hQ : ∀ c a d v w,Q (.panic c) (a.put d v) w -> Q (.panic c) a w)
  (h : bF P l.toArray (Up w) (λa'=>∀ w',Up w w' -> Q .normal a' w') l N E) : cF P (.region id l.toArray true) Q N E w:=λa ha=>yW hm hB hQ (h a ha)
theorem dG (h : bF P l.toArray (Up w) (λa'=>∀ w',Up w w' -> Q .normal a' w') l N E) : cF P (.region id l.toArray false) Q N E w:=λa ha=>Fb (h a ha)
theorem c_t (n : Nat) (hn : n <= l.length) (hm : P.follows .mixedOrders = true) (hB : nV l.toArray n 0 (l.drop n).length = true) (hQ : ∀ c a d v w,Q (.panic c) (a.put d v) w -> Q (.panic c) a w)
  (h : bF P l.toArray (Up w) (λa'=>∀ w',Up w w' -> wpList P l.toArray Q (l.drop n) a' w') (l.take n) N E) : cF P (.region id l.toArray true) Q N E w:=λa ha =>
 yV n (Up w) hn hm hB (λ_ _ h k=>h.step k) (Up.drew w) hQ (h a ha)
theorem lL (n : Nat) (h : bF P l.toArray (Up w) (λa'=>∀ w',Up w w' -> wpList P l.toArray Q (l.drop n) a' w') (l.take n) N E) : cF P (.region id l.toArray false) Q N E w:=λa ha=>D2 n (h a ha)
theorem eX (h : lF P l.toArray Q l N E w) : cF P (.region id l.toArray false) Q N E w:=λa ha=>wp_region_lit (h a ha)
end
section
variable {P : Program} {ops : Array Oper} {C0 : World -> Prop} {Q : Act -> Prop} {N : Nat} {E : List (Nat × Value)} {o : Oper} {rest : List Oper} {k : Nat}
theorem dP (v : Value) (hg : o.guard = none) (hd : o.dst = some k) (hk : aQ k N = true) (h : ∀ a,Fr N E a -> ∀ w,C0 w -> (execOp a.eval o).run P w = .ok (.value v) w) (hn : bF P ops C0 Q rest N ((k,v) :: E)) :
  bF P ops C0 Q (o :: rest) N E:=λa ha=>k5 (by simp [aN,hg]) (h a ha) (by rw [hd]; exact hn _ (ha.put hk v))
theorem aM {x : Operand} (v : Value) (hg : o.guard = none) (hd : o.dst = some k) (hk : aQ k N = true) (ho : o.op = .move x) (hx : ev E x = some v) (hn : bF P ops C0 Q rest N ((k,v) :: E)) : bF P ops C0 Q (o :: rest) N E :=
 dP v hg hd hk (λa ha w _=>by
  have h1:=ha.eval hx
  unfold execOp
  simp only [ho,h1,aK]) hn
theorem cE {x : Operand} (v : Value) (hg : o.guard = none) (hd : o.dst = some k) (hk : aQ k N = true) (ho : o.op = .assign x) (hx : ev E x = some v) (hn : bF P ops C0 Q rest N ((k,v) :: E)) : bF P ops C0 Q (o :: rest) N E :=
 dP v hg hd hk (λa ha w _=>by
  have h1:=ha.eval hx
  unfold execOp
  simp only [ho,h1,aK]) hn
end
theorem bN {P : Program} {ops : Array Oper} {Q : Exit -> Act -> World -> Prop} {N : Nat} {E : List (Nat × Value)} {w : World} (h : ∀ w',Up w w' -> kF (Q .normal) N E w') :
  bF P ops (Up w) (λa'=>∀ w',Up w w' -> Q .normal a' w') [] N E:=λa ha=>cQ λw' hw'=>h w' hw' a ha
section
variable {ops : Array Oper} {C0 : World -> Prop} {Q : Act -> Prop} {N : Nat} {E : List (Nat × Value)} {o : Oper} {rest : List Oper} {k : Nat}
theorem dN {f : FuncId} {xs : Array Operand} {ats : Array TypeId} (args : Array Value) (v : Value) (hg : o.guard = none) (hd : o.dst = some k) (hk : aQ k N = true)
  (hf : Own f) (hc : ∀ w,C0 w -> Calls Tryz.prog f args w (λe w'=>e = .returned v /\ Below w.heap.size w w'))
  (ho : o.op = .call { callee:=.value (.func f),args:=xs,argTypes:=ats }) (hx : xs.toList.map (ev E) = args.toList.map some) (hn : bF Tryz.prog ops C0 Q rest N ((k,v) :: E)) : bF Tryz.prog ops C0 Q (o :: rest) N E:=λa ha=>by
 refine Rq (v:=v) (args:=args) (by simp [aN,hg]) hf hc ho ?_ (by rw [hd]; exact hn _ (ha.put hk v))
 have key : ∀ (l : List Operand) (m : List Value),l.map (ev E) = m.map some -> l.map a.eval = m:=by
  intro l
  induction l with
  | nil=>intro m h; cases m with
   | nil=>rfl
   | cons=>cases h
  | cons y l ih=>intro m h; cases m with
   | nil=>cases h
   | cons u m =>
    simp only [cA,uI] at h ⊢;exact ⟨ha.eval h.1,ih m h.2⟩
 exact key _ _ hx
theorem iP {x y : Operand} (m n r : Int) (hg : o.guard = none) (hd : o.dst = some k) (hk : aQ k N = true) (ho : o.op = .binOp .add 3 x y 3) (hx : ev E x = some (.int .i64 m)) (hy : ev E y = some (.int .i64 n))
  (hr : IntKind.i64.wrap (m + n) = r) (hn : bF Tryz.prog ops C0 Q rest N ((k,.int .i64 r) :: E)) : bF Tryz.prog ops C0 Q (o :: rest) N E :=
 dP _ hg hd hk (λa ha w _=>by
  have h1:=ha.eval hx;have h2:=ha.eval hy
  unfold execOp
  simp only [ho,h1,h2]
  go_simp) hn
theorem pG {x y : Operand} (m n r : Int) (hg : o.guard = none) (hd : o.dst = some k) (hk : aQ k N = true) (ho : o.op = .binOp .sub 3 x y 3) (hx : ev E x = some (.int .i64 m)) (hy : ev E y = some (.int .i64 n))
  (hr : IntKind.i64.wrap (m - n) = r) (hn : bF Tryz.prog ops C0 Q rest N ((k,.int .i64 r) :: E)) : bF Tryz.prog ops C0 Q (o :: rest) N E :=
 dP _ hg hd hk (λa ha w _=>by
  have h1:=ha.eval hx;have h2:=ha.eval hy
  unfold execOp
  simp only [ho,h1,h2]
  go_simp) hn
theorem AF {x y : Operand} (m n r : Int) (hg : o.guard = none) (hd : o.dst = some k) (hk : aQ k N = true) (ho : o.op = .binOp .mul 3 x y 3) (hx : ev E x = some (.int .i64 m)) (hy : ev E y = some (.int .i64 n))
  (hr : IntKind.i64.wrap (m * n) = r) (hn : bF Tryz.prog ops C0 Q rest N ((k,.int .i64 r) :: E)) : bF Tryz.prog ops C0 Q (o :: rest) N E :=
 dP _ hg hd hk (λa ha w _=>by
  have h1:=ha.eval hx;have h2:=ha.eval hy
  unfold execOp
  simp only [ho,h1,h2]
  go_simp) hn
theorem fZ {x y : Operand} {t : TypeId} (m n : Int) (q : Bool) (hg : o.guard = none) (hd : o.dst = some k) (hk : aQ k N = true) (ho : o.op = .binOp .lss 3 x y t) (hx : ev E x = some (.int .i64 m)) (hy : ev E y = some (.int .i64 n))
  (hr : decide (m < n) = q) (hn : bF Tryz.prog ops C0 Q rest N ((k,.bool q) :: E)) : bF Tryz.prog ops C0 Q (o :: rest) N E :=
 dP _ hg hd hk (λa ha w _=>by
  have h1:=ha.eval hx;have h2:=ha.eval hy;subst hr
  unfold execOp
  simp only [ho,h1,h2]
  go_simp) hn
theorem pH {x y : Operand} {t : TypeId} (m n r : Int) (hg : o.guard = none) (hd : o.dst = some k) (hk : aQ k N = true) (ho : o.op = .binOp .add 48 x y t) (hx : ev E x = some (.int .u64 m)) (hy : ev E y = some (.int .u64 n))
  (hr : IntKind.u64.wrap (m + n) = r) (hn : bF Tryz.prog ops C0 Q rest N ((k,.int .u64 r) :: E)) : bF Tryz.prog ops C0 Q (o :: rest) N E :=
 dP _ hg hd hk (λa ha w _=>by
  have h1:=ha.eval hx;have h2:=ha.eval hy
  unfold execOp
  simp only [ho,h1,h2]
  go_simp) hn
theorem QQ {x y : Operand} {t : TypeId} (m n r : Int) (hg : o.guard = none) (hd : o.dst = some k) (hk : aQ k N = true) (ho : o.op = .binOp .mul 48 x y t) (hx : ev E x = some (.int .u64 m)) (hy : ev E y = some (.int .u64 n))
  (hr : IntKind.u64.wrap (m * n) = r) (hn : bF Tryz.prog ops C0 Q rest N ((k,.int .u64 r) :: E)) : bF Tryz.prog ops C0 Q (o :: rest) N E :=
 dP _ hg hd hk (λa ha w _=>by
  have h1:=ha.eval hx;have h2:=ha.eval hy
  unfold execOp
  simp only [ho,h1,h2]
  go_simp) hn
theorem C4 {x y : Operand} {t : TypeId} (m n r : Int) (hg : o.guard = none) (hd : o.dst = some k) (hk : aQ k N = true) (ho : o.op = .binOp .and 48 x y t) (hx : ev E x = some (.int .u64 m)) (hy : ev E y = some (.int .u64 n))
  (hr : bits .and .u64 m n = r) (hn : bF Tryz.prog ops C0 Q rest N ((k,.int .u64 r) :: E)) : bF Tryz.prog ops C0 Q (o :: rest) N E :=
 dP _ hg hd hk (λa ha w _=>by
  have h1:=ha.eval hx;have h2:=ha.eval hy
  unfold execOp
  simp only [ho,h1,h2]
  go_simp) hn
theorem QO {x y : Operand} {t : TypeId} (m n r : Int) (hg : o.guard = none) (hd : o.dst = some k) (hk : aQ k N = true) (ho : o.op = .binOp .or 48 x y t) (hx : ev E x = some (.int .u64 m)) (hy : ev E y = some (.int .u64 n))
  (hr : bits .or .u64 m n = r) (hn : bF Tryz.prog ops C0 Q rest N ((k,.int .u64 r) :: E)) : bF Tryz.prog ops C0 Q (o :: rest) N E :=
 dP _ hg hd hk (λa ha w _=>by
  have h1:=ha.eval hx;have h2:=ha.eval hy
  unfold execOp
  simp only [ho,h1,h2]
  go_simp) hn
theorem Wl {x : Operand} {t : TypeId} (m r : Int) (hg : o.guard = none) (hd : o.dst = some k) (hk : aQ k N = true) (ho : o.op = .unOp .xor t x) (hx : ev E x = some (.int .u64 m))
  (hr : bits .xor .u64 (if IntKind.u64.signed = true then -1 else IntKind.u64.max) m = r) (hn : bF Tryz.prog ops C0 Q rest N ((k,.int .u64 r) :: E)) : bF Tryz.prog ops C0 Q (o :: rest) N E :=
 dP _ hg hd hk (λa ha w _=>by
  have h1:=ha.eval hx;subst hr
  unfold execOp
  simp only [ho,h1]
  go_simp) hn
theorem dA {x : Operand} {t : TypeId} (p : Addr) (v : Value) (ht : t = 48 \/ t = 53 \/ t = 5 \/ t = 3) (hg : o.guard = none) (hd : o.dst = some k) (hk : aQ k N = true) (ho : o.op = .load t x) (hx : ev E x = some (.pointer (some p)))
  (hc : ∀ w,C0 w -> w.cell? p = some v) (hn : bF Tryz.prog ops C0 Q rest N ((k,v) :: E)) : bF Tryz.prog ops C0 Q (o :: rest) N E :=
 dP _ hg hd hk (λa ha w hw=>by
  have h1:=ha.eval hx;have h2:=hc w hw
  unfold execOp
  simp only [ho,h1]
  rcases ht with rfl | rfl | rfl | rfl <;> go_simp) hn
end
inductive EJ (ops : Array Oper) : Nat -> Nat -> Prop
  | edge {j i : Nat} {o : Oper} (hj : ops[j]? = some o) (h : lG .any o i = true) : EJ ops j i
  | via {j m i : Nat} {o : Oper} (hj : ops[j]? = some o) (h : lG .any o m = true) (hm : EJ ops m i) : EJ ops j i
theorem rG {o : Oper} {i : Nat} (h : lG .any o i = true) : ∃ e ∈ o.after,eN .any e = true /\ e.on = i:=by
 unfold lG at h
 obtain ⟨e,he,hb⟩:=fK.1 h;simp only [aW,beq_iff_eq] at hb;exact ⟨e,he,hb.1,hb.2⟩
theorem iQ.N2 {ops : Array Oper} {listed : Array Bool} (hc : iQ .any ops listed) {j i : Nat} (h : EJ ops j i) : ∀ o,ops[j]? = some o -> (∀ e ∈ o.after,eN .any e = true -> listed.getD e.on false = true) -> listed.getD i false = true:=by
 induction h with
 | edge hj h =>
  intro o ho hl
  obtain rfl:=fV (hj.symm.trans ho);obtain ⟨e,he,hb,rfl⟩:=rG h;exact hl e he hb
 | @via j m i o' hj h hm ih =>
  intro o ho hl
  obtain rfl:=fV (hj.symm.trans ho);obtain ⟨e,he,hb,rfl⟩:=rG h;have h1:=hl e he hb
  obtain ⟨om,hom⟩ : ∃ om,ops[e.on]? = some om:=by cases hm with
   | edge hj _=>exact ⟨_,hj⟩
   | via hj _ _=>exact ⟨_,hj⟩
  exact ih om hom (hc _ om hom h1)
def Eo (ms : List Nat) : List Edge -> Nat
  | []=>0
  | e :: l=>if eN .any e then (2 ^ e.on ||| ms.getD e.on 0) ||| Eo ms l else Eo ms l
def xC : List Oper -> List Nat -> List Nat
  | [],ms=>ms
  | o :: l,ms=>xC l (ms ++ [Eo ms o.after.toList])
theorem xZ {ms : List Nat} {i : Nat} : ∀ {l : List Edge},(Eo ms l).testBit i = true -> ∃ e ∈ l,eN .any e = true /\ (e.on = i \/ ∃ b,ms[e.on]? = some b /\ b.testBit i = true)
 | [],h=>by simp [Eo] at h
 | e :: l,h=>by
  unfold Eo at h
  split at h
  ·rename_i hb
   rw [Nat.testBit_or,Nat.testBit_or] at h;simp only [fO] at h
   rcases h with (h | h) | h
   ·refine ⟨e,by simp,hb,.inl ?_⟩
    rw [Nat.testBit_two_pow] at h
    simpa using h
   ·refine ⟨e,by simp,hb,.inr ?_⟩
    rw [List.getD_eq_getElem?_getD] at h
    cases hm : ms[e.on]? with
    | none=>rw [hm] at h; simp at h
    | some b=>rw [hm] at h; exact ⟨b,rfl,h⟩
   ·obtain ⟨e',he,h'⟩:=xZ h
    exact ⟨e',bL _ he,h'⟩
  ·obtain ⟨e',he,h'⟩:=xZ h
   exact ⟨e',bL _ he,h'⟩
def OkM (ops : Array Oper) (ms : List Nat) : Prop:=∀ j b i : Nat,ms[j]? = some b -> b.testBit i = true -> EJ ops j i
theorem Ht {ops : Array Oper} : ∀ (l : List Oper) (ms : List Nat),(∀ j,j < l.length -> l[j]? = ops[ms.length + j]?) -> OkM ops ms -> OkM ops (xC l ms)
 | [],_,_,h=>h
 | o :: l,ms,hl,h=>by
  unfold xC
  refine Ht l _ (λj hj=>?_) ?_
  ·have:=hl (j + 1) (by simpa using hj)
   simpa [dO,Nat.add_comm 1 j] using this
  ·intro j b i hj hb
   rw [List.getElem?_append] at hj
   split at hj
   ·exact h j b i hj hb
   ·rename_i hlt
    have h0 : j - ms.length = 0:=by
     by_cases e : j - ms.length = 0
     ·exact e
     ·exfalso
      obtain ⟨k,hk⟩ : ∃ k,j - ms.length = k + 1:=⟨j - ms.length - 1,by omega⟩;rw [hk] at hj
      simp at hj
    obtain rfl : j = ms.length:=by omega
    rw [h0] at hj;simp only [b6,bG] at hj;subst hj
    have ho : ops[ms.length]? = some o:=by simpa using (hl 0 (by simp)).symm
    obtain ⟨e,he,hbd,h5⟩:=xZ hb
    have he' : e ∈ o.after:=by simpa using he
    have hed : lG .any o e.on = true:=by
     unfold lG
     exact fK.2 ⟨e,he',by simp [hbd]⟩
    rcases h5 with rfl | ⟨b,hb1,hb2⟩
    ·exact .edge ho hed
    ·exact .via ho hed (h _ b i hb1 hb2)
def zD (ops : Array Oper) (o : Oper) (k : Nat) : List Oper -> List Nat -> Bool
  | [],_=>true
  | _ :: _,[]=>false
  | x :: l,m :: ms=>(m.testBit k || (o.apart ops x && (mE x.op || !tE o.op))) && zD ops o k l ms
def Bf (ops : Array Oper) : List Oper -> List Nat -> Nat -> Bool
  | [],_,_=>true
  | _ :: _,[],_=>false
  | o :: l,_ :: ms,k=>o.after.all (λe=>!Region.binds .any e || decide (e.on < k)) && zD ops o k l ms && Bf ops l ms (k + 1)
def AX (ops : Array Oper) (n m : Nat) : Bool :=
  tS ops && Bf ops (ops.toList.take n) (xC ops.toList []) 0 && (match (xC ops.toList [])[n]? with | none=>true | some b=>(tT n).all b.testBit) &&
    decide (ops.size = m + n) && kP .any ops m n (marks n 0 (bE ops.size false))
theorem Ej {ops : Array Oper} {o : Oper} {k : Nat} : ∀ {l : List Oper} {ms : List Nat},zD ops o k l ms = true -> ∀ (j : Nat) (x : Oper),l[j]? = some x -> ∃ m,ms[j]? = some m /\ (m.testBit k = true \/ (o.apart ops x = true /\ (mE x.op = true \/ tE o.op = false)))
 | [],_,_,j,x,hx=>by simp at hx
 | _ :: _,[],h,_,_,_=>by cases h
 | y :: l,m :: ms,h,0,x,hx=>by
  simp only [b6,bG] at hx;subst hx;simp only [zD,aW,fO,Bool.not_eq_true'] at h;exact ⟨m,rfl,h.1⟩
 | y :: l,m :: ms,h,j + 1,x,hx=>by
  simp only [zD,aW] at h;obtain ⟨m',h1,h2⟩:=Ej h.2 j x (by simpa using hx);exact ⟨m',by simpa using h1,h2⟩
theorem Ls {ops : Array Oper} : ∀ {l : List Oper} {ms : List Nat} {k : Nat},Bf ops l ms k = true -> ∀ (i j : Nat) (x y : Oper),i < j -> l[i]? = some x -> l[j]? = some y -> ∃ m,ms[j]? = some m /\ (m.testBit (k + i) = true \/ (x.apart ops y = true /\ (mE y.op = true \/ tE x.op = false)))
 | [],_,_,_,i,_,x,_,_,hx,_=>by simp at hx
 | _ :: _,[],_,h,_,_,_,_,_,_,_=>by cases h
 | o :: l,m :: ms,k,h,0,0,x,y,hij,_,_=>absurd hij (by omega)
 | o :: l,m :: ms,k,h,0,j + 1,x,y,_,hx,hy=>by
  simp only [Bf,aW] at h;simp only [b6,bG] at hx;subst hx;obtain ⟨m',h1,h2⟩:=Ej h.1.2 j y (by simpa using hy);exact ⟨m',by simpa using h1,h2⟩
 | o :: l,m :: ms,k,h,i + 1,0,x,y,hij,_,_=>absurd hij (by omega)
 | o :: l,m :: ms,k,h,i + 1,j + 1,x,y,hij,hx,hy=>by
  simp only [Bf,aW] at h;obtain ⟨m',h1,h2⟩:=Ls h.2 i j x y (by omega) (by simpa using hx) (by simpa using hy);exact ⟨m',by simpa using h1,by rwa [show k + (i + 1) = k + 1 + i by omega]⟩
theorem CO {ops : Array Oper} : ∀ {l : List Oper} {ms : List Nat} {k : Nat},Bf ops l ms k = true -> ∀ (i : Nat) (x : Oper),l[i]? = some x -> ∀ e ∈ x.after,eN .any e = true -> e.on < k + i
 | [],_,_,_,i,x,hx=>by simp at hx
 | _ :: _,[],_,h,_,_,_=>by cases h
 | o :: l,m :: ms,k,h,0,x,hx=>λe he hb=>by
  simp only [Bf,aW] at h;simp only [b6,bG] at hx;subst hx;have h5:=Array.all_eq_true'.1 h.1.1 e he
  simpa [hb] using h5
 | o :: l,m :: ms,k,h,i + 1,x,hx=>λe he hb=>by
  simp only [Bf,aW] at h;have:=CO h.2 i x (by simpa using hx) e he hb
  omega
structure RE (ops : Array Oper) (n : Nat) (l : List (Nat × Oper)) (listed : Array Bool) : Prop where
  size : listed.size = ops.size
  mem : ∀ x ∈ l,ops[x.1]? = some x.2 /\ x.1 < n /\ listed.getD x.1 true = false
  out : ∀ j o,j < n -> ops[j]? = some o -> listed.getD j true = false -> (j,o) ∈ l
  tail : ∀ j,n <= j -> j < ops.size -> listed.getD j true = false
  sort : l.Pairwise λx y=>x.1 < y.1
  closed : iQ .any ops listed
theorem getD_in {listed : Array Bool} {j : Nat} (h : j < listed.size) : listed.getD j true = listed.getD j false:=by
 simp only [cN];rw [dM h]
 rfl
theorem RE.step {ops : Array Oper} {n i : Nat} {o : Oper} {l1 l2 : List (Nat × Oper)} {listed : Array Bool} (h : RE ops n (l1 ++ (i,o) :: l2) listed) (hr : i ∈ bC .any ops listed) : RE ops n (l1 ++ l2) (listed.setIfInBounds i true):=by
 have hs:=h.sort;rw [List.pairwise_append,BA] at hs;have hm:=h.mem (i,o) (by simp)
 have hil : i < listed.size:=by rw [h.size]; exact (dC.1 hm.1).1
 refine ⟨by rw [I2,h.size],λx hx=>?_,λj o' hj ho hl=>?_,λj hj hjs=>?_,?_,h.closed.set hr⟩
 ·have hne : i ≠ x.1:=by
   rcases mN.1 hx with h1 | h1
   ·have:=hs.2.2 x h1 (i,o) (by simp)
    dsimp only at this
    omega
   ·have:=hs.2.1.1 x h1
    dsimp only at this
    omega
  obtain ⟨h1,h2,h3⟩:=h.mem x (by
   rcases mN.1 hx with h1 | h1
   ·exact qW _ h1
   ·exact yI _ (bL _ h1))
  exact ⟨h1,h2,by rw [getD_set_ne true hne]; exact h3⟩
 ·by_cases e : i = j
  ·subst e
   simp [hil] at hl
  ·rw [getD_set_ne true e] at hl
   have h1:=h.out j o' hj ho hl
   rcases mN.1 h1 with h2 | h2
   ·exact qW _ h2
   ·rcases b7.1 h2 with h3 | h3
    ·injection h3 with h4 h5
     exact absurd h4.symm e
    ·exact yI _ h3
 ·rw [getD_set_ne true (by have:=hm.2.1; dsimp only at this; omega)]
  exact h.tail j hj hjs
 ·exact h.sort.sublist (List.Sublist.append (List.Sublist.refl _) (List.sublist_cons_self _ _))
def Bw (P : Program) (ops : Array Oper) (Q : Exit -> Act -> World -> Prop) (C0 : World -> Prop) (T : List Oper) (F : Facts) (a : Act) : Prop:=∀ w,C0 w -> (∀ k,F k w) -> wpList P ops Q T a w
theorem Ns {P : Program} {ops : Array Oper} {Q : Exit -> Act -> World -> Prop} {C0 : World -> Prop} {T : List Oper} : ∀ (F F' : Facts) (a : Act),(∀ k w,F' k w -> F k w) -> Bw P ops Q C0 T F a -> Bw P ops Q C0 T F' a :=
 λ_ _ _ h hh w hw hF=>hh w hw λk=>h k w (hF k)
section
variable {P : Program} {Rel : World -> World -> Prop} {ops : Array Oper} {Q : Exit -> Act -> World -> Prop} {C0 : World -> Prop}
theorem SI (hcl : ∀ w w',C0 w -> Rel w w' -> C0 w') {n : Nat} {T : List Oper} (hB : AX ops n T.length = true) (hT : ∀ j,j < T.length -> T[j]? = ops[n + j]?) :
  ∀ (N : Nat) (l : List (Nat × Oper)) (listed : Array Bool) (F : Facts) (a : Act) (w : World),l.length = N -> RE ops n l listed -> vL Rel C0 F w -> Unl l F ->
   wpG P Rel ops C0 (Bw P ops Q C0 T) l F a -> wpAny P .any ops Q (T.length + N) listed a w:=by
 simp only [AX,aW,decide_eq_true_eq] at hB;obtain ⟨⟨⟨⟨hsel,hh⟩,hsk⟩,hsz⟩,hf⟩:=hB;have hM : OkM ops (xC ops.toList []):=Ht ops.toList [] (λj _=>by simp) (λj b i hj=>by simp at hj)
 have htk : ∀ (j : Nat) (o : Oper),j < n -> ops[j]? = some o -> (ops.toList.take n)[j]? = some o:=λj o hj ho=>by
  rw [iJ,if_pos hj]
  simpa using ho
 have hI : Inv ops n (marks n 0 (bE ops.size false)):=by
  have:=Inv.marks (listed:=#[]) n (Inv.start (ops:=ops))
  rwa [cK] at this
 intro N
 induction N with
 | zero =>
  intro l listed F a w hl hP hG hU h
  obtain rfl:=cM hl
  have e : listed = marks n 0 (bE ops.size false):=by
   have hms : ∀ (k m : Nat) (x : Array Bool),(marks k m x).size = x.size:=by
    intro k
    induction k with
    | zero=>intro m x; rfl
    | succ k ih=>intro m x; rw [marks,ih,I2]
   refine Array.ext (by rw [hms,hP.size,Array.size_replicate]) λj h1 h2=>?_
   have hj : j < ops.size:=by rw [<-hP.size]; exact h1
   have h3:=hI j hj;rw [dM h2] at h3
   injection h3 with h3
   rw [h3]
   have h4 : listed.getD j true = listed[j]:=by
    simp only [cN];rw [dM h1]
    rfl
   by_cases hjn : j < n
   ·rw [decide_eq_true hjn]
    cases hv : listed[j] with
    | true=>rfl
    | false =>
     have h5:=hP.out j ops[j] hjn (dM hj) (h4.trans hv)
     simp at h5
   ·rw [decide_eq_false hjn,<-h4]
    exact hP.tail j (by omega) hj
  exact kJ T n listed a w hT (by rw [e]; exact hf) (h w hG.cls hG.all)
 | succ N ih =>
  intro l listed F a w hl hP hG hU h
  obtain ⟨x0,l0,rfl⟩ : ∃ x l',l = x :: l':=by cases l with
   | nil=>simp at hl
   | cons x l=>exact ⟨x,l,rfl⟩
  have hm0:=hP.mem x0 (by simp);have hs0:=BA.1 hP.sort
  have hx0 : x0.1 ∈ bC .any ops listed:=by
   refine mem_ready.2 ⟨hm0.2.2,x0.2,hm0.1,λe he hb=>?_⟩;have hlow:=CO hh x0.1 x0.2 (htk _ _ hm0.2.1 hm0.1) e he hb;rw [cK] at hlow;have hes : e.on < ops.size:=Nat.lt_trans hlow (dC.1 hm0.1).1
   cases hv : listed.getD e.on false with
   | true=>rfl
   | false =>
    rw [<-getD_in (by rw [hP.size]; exact hes)] at hv;have h5:=hP.out e.on ops[e.on] (by omega) (dM hes) hv
    rcases b7.1 h5 with h6 | h6
    ·rw [<-h6] at hlow
     exact absurd hlow (by simp)
    ·have:=hs0.1 _ h6
     dsimp only at this
     omega
  refine ⟨λh0=>(by rw [h0] at hx0; cases hx0),λi hi=>?_⟩;obtain ⟨hiu,o,hio,hall⟩:=mem_ready.1 hi;have his:=(dC.1 hio).1
  have hin : i < n:=by
   by_cases hin : i < n
   ·exact hin
   ·exfalso
    have hr : i ∈ bC .any ops (marks n 0 (bE ops.size false)):=mem_ready.2 ⟨hI.out his (by omega) true,o,hio,λe he hb=>by
     have h5:=hall e he hb
     have hes : e.on < ops.size:=by
      rcases Nat.lt_or_ge e.on listed.size with h6 | h6
      ·rw [<-hP.size]; exact h6
      ·simp [Array.getElem?_eq_none h6] at h5
     by_cases hen : e.on < n
     ·exact hI.in_ hes hen false
     ·have h6:=hP.tail e.on (by omega) hes
      rw [getD_in (by rw [hP.size]; exact hes),h5] at h6
      cases h6⟩
    have hw : EJ ops i x0.1:=by
     cases hTl : T.length with
     | zero =>
      rw [hTl] at hf;simp only [kP,List.isEmpty_iff] at hf;rw [hf] at hr
      cases hr
     | succ m =>
      rw [hTl] at hf;simp only [kP,aW,decide_eq_true_eq] at hf;rw [hf.1,List.mem_singleton] at hr;subst hr
      cases hms : (xC ops.toList [])[i]? with
      | none =>
       exfalso
       have hlen : ∀ (l : List Oper) (ms : List Nat),(xC l ms).length = l.length + ms.length:=by
        intro l
        induction l with
        | nil=>intro ms; simp [xC]
        | cons o l ih=>intro ms; rw [xC,ih]; simp; omega
       rw [List.getElem?_eq_none_iff,hlen] at hms
       simp at hms
       omega
      | some b =>
       rw [hms] at hsk;simp only [cL,lX] at hsk;exact hM i b x0.1 hms (hsk x0.1 hm0.2.1)
    have h7:=hP.closed.N2 hw o hio hall;have h8:=lU hx0;rw [h7] at h8
    cases h8
  have hil : (i,o) ∈ x0 :: l0:=hP.out i o hin hio hiu;generalize x0 :: l0 = l at *;clear hm0 hs0 hx0;obtain ⟨l1,l2,rfl⟩:=List.append_of_mem hil;have hs:=hP.sort;have hs':=hs;rw [List.pairwise_append,BA] at hs';have hnd : ((l1 ++ (i,o) :: l2).map (·.1)).Nodup:=List.Pairwise.map _ (λ_ _ h=>nO h) hs
  have hp : ∀ x ∈ l1,RF ops x (i,o):=λx hx=>by
   have hlt:=hs'.2.2 x hx (i,o) (by simp)
   dsimp only at hlt
   have hm:=hP.mem x (qW _ hx);have hxu:=hm.2.2
   have hxs : x.1 < listed.size:=by rw [hP.size]; exact (dC.1 hm.1).1
   rw [getD_in hxs] at hxu;obtain ⟨m,h1,h2⟩:=Ls hh x.1 i x.2 o hlt (htk _ _ hm.2.1 hm.1) (htk _ _ hin hio);rw [cK] at h2
   have h3 : x.2.apart ops o = true /\ (mE o.op = true \/ tE x.2.op = false):=by
    rcases h2 with h2 | h2
    ·have h7:=hP.closed.N2 (hM i m x.1 h1 h2) o hio hall
     rw [h7] at hxu
     cases hxu
    ·exact h2
   refine ⟨nO hlt,h3.1,λe he hb hon=>?_,λe he hb hon=>?_,h3.2,λcs b=>nM hsel x.1 x.2 cs b hm.1,λcs b=>nM hsel i o cs b hio⟩
   ·have h7:=hall e he hb
    rw [hon,hxu] at h7
    cases h7
   ·have h7:=CO hh x.1 x.2 (htk _ _ hm.2.1 hm.1) e he hb
    dsimp only at hon
    omega
  have h9:=QA hcl Ns (i,o) l2 l1 F a w hp hnd hG hU h;have hP':=hP.step hi
  have hU' : Unl (l1 ++ l2) F:=λx hx=>hU x (by
   rcases mN.1 hx with h1 | h1
   ·exact qW _ h1
   ·exact yI _ (bL _ h1))
  have hi' : i ∉ (l1 ++ l2).map (·.1):=λhmem=>by
   obtain ⟨x,hx,hxi⟩:=gP.1 hmem
   rcases mN.1 hx with h1 | h1
   ·have:=hs'.2.2 x h1 (i,o) (by simp)
    dsimp only at this hxi
    omega
   ·have:=hs'.2.1.1 x h1
    dsimp only at this hxi
    omega
  have hlen : (l1 ++ l2).length = N:=by
   simp only [aI,cC] at hl ⊢
   omega
  unfold wpOp
  simp only [hio]
  unfold wpG at h9
  dsimp only at h9
  split
  ·rename_i hw
   rw [if_pos hw] at h9;obtain ⟨V,hpv,_,hy,hn⟩:=h9;refine .inl ?_;have h3:=hy w hG.cls (λe _ _=>hG.all e.on)
   have fin : ∀ u w',Rel w w' -> V u w' -> wpAny P .any ops Q (T.length + N) (listed.setIfInBounds i true) (a.put o.dst u) w':=λu w' hb hV=>by
    have hC:=hcl _ _ hG.cls hb;have hF : ∀ k,F k w':=λk=>hG.pers k _ _ (hG.all k) hb;exact ih (l1 ++ l2) _ _ _ w' hlen hP' (hG.up (hpv u) hC hF hV) (hU'.up hi') (hn u w' hC hF hV)
   unfold nC
   generalize (execOp a.eval o).run P w = r at *
   cases r with
   | ok n w' =>
    cases n <;> simp only [pJ] at h3 <;> simp only [mJ]
    case value u=>exact fin u w' h3.1 h3.2
    case skip=>exact fin _ w' h3.1 h3.2
    case enter f args =>
     obtain ⟨e1,hc⟩:=h3;rw [e1]
     exact hc.mono λe w'' ⟨v,he,hb,hV⟩=>by subst he; exact fin v w'' hb hV
   | halt x w'=>simp only [pJ] at h3
  ·rename_i hw
   rw [if_neg hw] at h9;exact ih (l1 ++ l2) _ _ _ w hlen hP' (hG.up (λ_ _ _ _=>trivial) hG.cls hG.all trivial) (hU'.up hi') h9
theorem Ck (hcl : ∀ w w',C0 w -> Rel w w' -> C0 w') {T : List Oper} : ∀ (l : List (Nat × Oper)) (F : Facts) (a : Act) (w : World),vL Rel C0 F w -> wpG P Rel ops C0 (Bw P ops Q C0 T) l F a -> wpList P ops Q (l.map (·.2) ++ T) a w
 | [],F,a,w,hG,h=>h w hG.cls hG.all
 | x :: l,F,a,w,hG,h=>by
  rw [cA,Ku]
  unfold wpList
  unfold wpG at h
  split
  ·rename_i hw
   rw [if_pos hw] at h;obtain ⟨V,hpv,_,hy,hn⟩:=h;refine .inl ?_;have h3:=hy w hG.cls (λe _ _=>hG.all e.on)
   have fin : ∀ u w',Rel w w' -> V u w' -> wpList P ops Q (l.map (·.2) ++ T) (a.put x.2.dst u) w':=λu w' hb hV=>by
    have hC:=hcl _ _ hG.cls hb;have hF : ∀ k,F k w':=λk=>hG.pers k _ _ (hG.all k) hb;exact Ck hcl l _ _ w' (hG.up (hpv u) hC hF hV) (hn u w' hC hF hV)
   unfold nC
   generalize (execOp a.eval x.2).run P w = r at *
   cases r with
   | ok n w' =>
    cases n <;> simp only [pJ] at h3 <;> simp only [mJ]
    case value u=>exact fin u w' h3.1 h3.2
    case skip=>exact fin _ w' h3.1 h3.2
    case enter f args =>
     obtain ⟨e1,hc⟩:=h3;rw [e1]
     exact hc.mono λe w'' ⟨v,he,hb,hV⟩=>by subst he; exact fin v w'' hb hV
   | halt x w'=>simp only [pJ] at h3
  ·rename_i hw
   rw [if_neg hw] at h;exact Ck hcl l _ _ w (hG.up (λ_ _ _ _=>trivial) hG.cls hG.all trivial) h
end
def idx : Nat -> List Oper -> List (Nat × Oper)
  | _,[]=>[]
  | k,o :: l=>(k,o) :: idx (k + 1) l
theorem Lp : ∀ (k : Nat) (l : List Oper),(idx k l).map (·.2) = l
 | _,[]=>rfl
 | k,o :: l=>by rw [idx,cA,Lp]
theorem Lq : ∀ (k : Nat) (l : List Oper),(idx k l).length = l.length
 | _,[]=>rfl
 | k,o :: l=>by rw [idx,cC,Lq,cC]
theorem FB : ∀ {k : Nat} {l : List Oper} {x : Nat × Oper},x ∈ idx k l -> k <= x.1 /\ l[x.1 - k]? = some x.2
 | _,[],_,h=>by simp [idx] at h
 | k,o :: l,x,h=>by
  rcases b7.1 h with rfl | h
  ·exact ⟨aH _,by simp⟩
  ·obtain ⟨h1,h2⟩:=FB h
   refine ⟨by omega,?_⟩;rw [show x.1 - k = x.1 - (k + 1) + 1 by omega]
   simpa using h2
theorem Lg : ∀ {k : Nat} {l : List Oper} {j : Nat} {o : Oper},l[j]? = some o -> (k + j,o) ∈ idx k l
 | _,[],_,_,h=>by simp at h
 | k,x :: l,0,o,h=>by
  simp only [b6,bG] at h;subst h;exact cB
 | k,x :: l,j + 1,o,h=>by
  have h1:=Lg (k:=k + 1) (l:=l) (j:=j) (o:=o) (by simpa using h);rw [show k + (j + 1) = k + 1 + j by omega];exact bL _ h1
theorem H5 : ∀ (k : Nat) (l : List Oper),(idx k l).Pairwise λx y=>x.1 < y.1
 | _,[]=>List.Pairwise.nil
 | k,o :: l=>List.Pairwise.cons (λx hx=>by have:=(FB hx).1; dsimp only; omega) (H5 (k + 1) l)
abbrev Told:=List (Nat × (World -> Prop))
def Es : Told -> Nat -> Option (World -> Prop)
  | [],_=>none
  | (k,p) :: r,j=>match hH k j with
    | true=>some p
    | false=>Es r j
def rS (i : Nat) (Fa : Told) : Bool:=Fa.all λx=>!Nat.beq x.1 i
def FX (Fa : Told) (F : Facts) : Prop:=∀ x ∈ Fa,∀ w,F x.1 w -> x.2 w
theorem wI : ∀ {Fa : Told} {j : Nat} {p : World -> Prop},Es Fa j = some p -> (j,p) ∈ Fa
 | [],_,_,h=>by cases h
 | (k,q) :: r,j,p,h=>by
  unfold Es at h
  split at h
  ·rename_i e
   obtain rfl:=bD e
   cases h
   exact cB
  ·exact bL _ (wI h)
theorem FX.up {Fa : Told} {F : Facts} {i : Nat} {p : World -> Prop} (h : FX Fa F) (hf : rS i Fa = true) : FX Fa (upF F i p):=λx hx w hw=>by
 have h1:=cL.1 hf x hx
 have e : x.1 ≠ i:=by
  rintro rfl
  simp at h1
 rw [jO e] at hw;exact h x hx w hw
theorem FX.more {Fa : Told} {F : Facts} {i : Nat} {p : World -> Prop} (h : FX Fa F) (hf : rS i Fa = true) : FX ((i,p) :: Fa) (upF F i p):=λx hx w hw=>by
 rcases b7.1 hx with rfl | hx
 ·rwa [jH] at hw
 ·exact h.up hf x hx w hw
def gF (P : Program) (Rel : World -> World -> Prop) (ops : Array Oper) (C0 : World -> Prop) (Q : Facts -> Act -> Prop) (l : List (Nat × Oper)) (N : Nat) (E : List (Nat × Value)) (Fa : Told) : Prop :=
  ∀ a F,Fr N E a -> FX Fa F -> wpG P Rel ops C0 Q l F a
def Uses (o : Oper) (Fa : Told) (w : World) : Prop:=∀ j p,Es Fa j = some p -> lG .any o j = true -> p w
section
variable {P : Program} {Rel : World -> World -> Prop} {C0 : World -> Prop} {Q : Exit -> Act -> World -> Prop} {N : Nat} {E : List (Nat × Value)} {w : World} {id : Nat} {l : List Oper}
theorem Yg (n : Nat) (hcl : ∀ w w',C0 w -> Rel w w' -> C0 w') (h0 : C0 w.drew) (hn : n <= l.length) (hm : P.follows .mixedOrders = true) (hB : AX l.toArray n (l.drop n).length = true)
  (h : gF P Rel l.toArray C0 (Bw P l.toArray Q C0 (l.drop n)) (idx 0 (l.take n)) N E []) : cF P (.region id l.toArray true) Q N E w:=λa ha=>by
 refine wp_region_any hm ?_
 have hL : (l.take n).length = n:=by rw [aY]; omega
 have hG : vL Rel C0 (λ_ _=>True) w.drew:=⟨λ_ _ _ _ _=>trivial,h0,λ_=>trivial⟩
 have hP : RE l.toArray n (idx 0 (l.take n)) (bE l.toArray.size false):=by
  refine ⟨by simp,λx hx=>?_,λj o hj ho _=>?_,λj _ hj=>by
   have hj' : j < l.length:=by simpa using hj
   simp [hj'],H5 _ _,iQ.none _⟩
  ·obtain ⟨_,h2⟩:=FB hx
   rw [Nat.sub_zero,iJ] at h2
   split at h2
   ·rename_i hlt
    have h3 : x.1 < l.length:=(dI.1 h2).1;exact ⟨by simpa using h2,hlt,by simp [h3]⟩
   ·cases h2
  ·have h1:=Lg (k:=0) (l:=l.take n) (j:=j) (o:=o) (by rw [iJ,if_pos hj]; simpa using ho)
   rwa [cK] at h1
 have h2:=SI (Q:=Q) hcl hB (λj _=>by simp) n (idx 0 (l.take n)) _ _ a w.drew (by rw [Lq,hL]) hP hG (λ_ _ _=>trivial) (h a _ ha (λx hx=>by cases hx))
 have e : (l.drop n).length + n = l.toArray.size:=by simp; omega
 rw [e] at h2;exact h2
theorem Yf (n : Nat) (hcl : ∀ w w',C0 w -> Rel w w' -> C0 w') (h0 : C0 w) (h : gF P Rel l.toArray C0 (Bw P l.toArray Q C0 (l.drop n)) (idx 0 (l.take n)) N E []) : cF P (.region id l.toArray false) Q N E w:=λa ha=>by
 refine wp_region_lit ?_;have hG : vL Rel C0 (λ_ _=>True) w:=⟨λ_ _ _ _ _=>trivial,h0,λ_=>trivial⟩;have h2:=Ck (Q:=Q) hcl (idx 0 (l.take n)) _ a w hG (h a _ ha (λx hx=>by cases hx));rw [Lp,List.take_append_drop] at h2;exact h2
end
section
variable {P : Program} {Q : Exit -> Act -> World -> Prop} {N : Nat} {E : List (Nat × Value)} {w : World} {id : Nat} {l : List Oper}
theorem c_g (n : Nat) (hn : n <= l.length) (hm : P.follows .mixedOrders = true) (hB : AX l.toArray n (l.drop n).length = true)
  (h : gF P Bel l.toArray (Up w) (Bw P l.toArray Q (Up w) (l.drop n)) (idx 0 (l.take n)) N E []) : cF P (.region id l.toArray true) Q N E w:=Yg (Rel:=Bel) (C0:=Up w) n (λ_ _ h k=>Up.step h k) (Up.drew w) hn hm hB h
theorem yF (n : Nat) (h : gF P Bel l.toArray (Up w) (Bw P l.toArray Q (Up w) (l.drop n)) (idx 0 (l.take n)) N E []) : cF P (.region id l.toArray false) Q N E w:=Yf (Rel:=Bel) (C0:=Up w) n (λ_ _ h k=>Up.step h k) (Up.refl w) h
end
section
variable {P : Program} {Rel : World -> World -> Prop} {ops : Array Oper} {C0 : World -> Prop} {Q : Facts -> Act -> Prop} {N : Nat} {E : List (Nat × Value)} {Fa : Told} {o : Oper} {rest : List (Nat × Oper)} {i k : Nat}
theorem Lw (V : Value -> World -> Prop) (hg : o.guard = none) (hd : o.dst = some k) (hk : aQ k N = true) (hf : rS i Fa = true) (hm : tE o.op = true) (hp : ∀ v,IU Rel (V v))
  (h : ∀ a,Fr N E a -> ∀ w,C0 w -> Uses o Fa w -> pJ P Rel w V ((execOp a.eval o).run P w)) (hn : ∀ v w,C0 w -> V v w -> gF P Rel ops C0 Q rest N ((k,v) :: E) ((i,V v) :: Fa)) : gF P Rel ops C0 Q ((i,o) :: rest) N E Fa:=λa F ha hF=>by
 unfold wpG
 rw [if_pos (by simp [aN,hg])];refine ⟨V,hp,.inr hm,λw hw he=>h a ha w hw λj p hj hed=>?_,λv w hw _ hV=>hn v w hw hV _ _ (by dsimp only; rw [hd]; exact ha.put hk v) (hF.more hf)⟩;obtain ⟨e,h1,h2,rfl⟩:=rG hed;exact hF _ (wI hj) w (he e h1 h2)
theorem cZ [hR : L4 Rel] (hf : rS i Fa = true) (h : bF P ops (λw=>C0 w /\ Uses o Fa w) (λa'=>∀ F,FX Fa F -> wpG P Rel ops C0 Q rest F a') [o] N E) : gF P Rel ops C0 Q ((i,o) :: rest) N E Fa:=λa F ha hF=>by
 have h1:=h a ha
 unfold wpB at h1
 unfold wpG
 split
 ·rename_i hw
  rw [if_pos hw] at h1
  have huse : ∀ w,(∀ e ∈ o.after,eN .any e = true -> F e.on w) -> Uses o Fa w:=λw he j p hj hed=>by
   obtain ⟨e,h1,h2,rfl⟩:=rG hed;exact hF _ (wI hj) w (he e h1 h2)
  have hup : ∀ (V : Value -> Prop) (w : World) (r : Result Next),pK P w V r -> pJ P Rel w (λu _=>V u) r:=λV w r hr=>by
   cases r with
   | ok n w' =>
    cases n <;> simp only [pK] at hr <;> simp only [pJ]
    case value u=>obtain ⟨rfl,h⟩:=hr; exact ⟨hR.below _ _ (Below.refl _ _),h⟩
    case skip=>obtain ⟨rfl,h⟩:=hr; exact ⟨hR.below _ _ (Below.refl _ _),h⟩
    case enter f args =>
     obtain ⟨rfl,h⟩:=hr;exact ⟨rfl,h.mono λe w'' ⟨v,h1,h2,h3⟩=>⟨v,h1,hR.below _ _ h3,h2⟩⟩
   | halt x w'=>simp only [pK] at hr
  rcases h1 with ⟨v,h2,h3⟩ | ⟨hp,V,h2,h3⟩
  ·exact ⟨λu _=>u = v,λ_ _ _ h _=>h,.inl ⟨v,λ_ _ h=>h⟩,λw hw he=>hup (· = v) _ _ (h2 w ⟨hw,huse w he⟩),λu w _ _ hu=>by
    rw [hu]
    exact h3 _ (hF.up hf)⟩
  ·refine ⟨λu _=>V u,λ_ _ _ h _=>h,.inr ?_,λw hw he=>hup V _ _ (h2 w ⟨hw,huse w he⟩),λu w _ _ hu=>h3 u hu _ (hF.up hf)⟩
   unfold tE
   split <;> first | rfl | exact hp
 ·rename_i hw
  rw [if_neg hw] at h1;exact h1 _ (hF.up hf)
theorem c9 (h : gF P Rel ops C0 Q rest N E Fa) : bF P ops (λw=>C0 w /\ Uses o Fa w) (λa'=>∀ F,FX Fa F -> wpG P Rel ops C0 Q rest F a') [] N E:=λa ha=>cQ λF hF=>h a F ha hF
theorem jT {Q : Exit -> Act -> World -> Prop} {T : List Oper} (h : ∀ w,C0 w -> (∀ j p,Es Fa j = some p -> p w) -> lF P ops Q T N E w) : gF P Rel ops C0 (Bw P ops Q C0 T) [] N E Fa:=λa _ ha hF w hw hFw =>
 h w hw (λj _ hj=>hF _ (wI hj) w (hFw j)) a ha
end
def Us (l : List Nat) : List Value:=l.map λx : Nat=>.int .u64 (x : Int)
theorem dB (l : List Nat) : (Us l).length = l.length:=by simp [Us]
theorem cO (l : List Nat) : ∀ u ∈ Us l,u.oneCell' = true:=by
 intro u hu
 obtain ⟨x,_,rfl⟩:=gP.1 hu
 rfl
theorem iY {l : List Nat} {j : Nat} (h : j < l.length) : (Us l).toArray[j]? = some (.int .u64 (l[j]! : Nat)):=by
 simp [Us,h]
theorem vJ (l : List Nat) (k x : Nat) : (Us l).toArray.setIfInBounds k (.int .u64 (x : Int)) = (Us (l.set k x)).toArray:=by
 simp [Us,List.map_set]
theorem En (a : Nat) (ha : a < 18446744073709551616) : bits .and .u64 (a : Int) 2251799813685247 = ((a % 2251799813685248 : Nat) : Int):=by
 have h:=u64_and_nat a 2251799813685247 ha (by omega);have e : a &&& 2251799813685247 = a % 2251799813685248:=EK a 51;rw [e] at h;exact h
theorem orW (i x y : Nat) (hx : x % 2 ^ i = 0) (hy : y < 2 ^ i) (h1 : x < 18446744073709551616) (h2 : y < 18446744073709551616) : bits .or .u64 (x : Int) (y : Int) = ((x + y : Nat) : Int):=by
 rw [u64_or_nat x y h1 h2,nat_join i x y hx hy]
theorem Fu (a : Nat) (ha : a < 18446744073709551616) : bits .and .u64 (a : Int) 4294967295 = ((a % 4294967296 : Nat) : Int):=by
 have h:=u64_and_nat a 4294967295 ha (by omega);have e : a &&& 4294967295 = a % 4294967296:=EK a 32;rw [e] at h;exact h
theorem Q3 (a : Nat) : (a : Int) / 4294967296 = ((a / 4294967296 : Nat) : Int):=by omega
theorem X3 (a : Nat) : (a : Int) / 2251799813685248 = ((a / 2251799813685248 : Nat) : Int):=by omega
theorem YB (a b : Nat) : (a : Int) * (b : Int) = ((a * b : Nat) : Int):=(Int.natCast_mul a b).symm
theorem YR (a b : Nat) : (a : Int) + (b : Int) = ((a + b : Nat) : Int):=(Int.natCast_add a b).symm
theorem sC (a : Nat) (ha : a < 18446744073709551616) : IntKind.u64.wrap (a : Int) = (a : Int):=by rw [aP]; omega
theorem Xa (a : Nat) : IntKind.u64.wrap (a : Int) = ((a % 18446744073709551616 : Nat) : Int):=by rw [aP]; omega
def Gw : Array Value -> Sem Value:=λargs=>do
  let (x,y,b) <-Extern.MathBitsCarry.three "Sub64" args
  pure (Extern.MathBitsCarry.pair ((x + yK - y - b) % yK) (if x < y + b then 1 else 0))
theorem Su {P : Program} (x y b : Nat) (hb : b <= 1) (w : World) :
  (Gw #[.int .u64 x,.int .u64 y,.int .u64 b]).run P w =
   .ok (.tuple #[.int .u64 (((x + 18446744073709551616 - y - b) % 18446744073709551616 : Nat) : Int),.int .u64 ((if x < y + b then 1 else 0 : Nat) : Int)]) w:=by
 have : b = 0 \/ b = 1:=by omega
 rcases this with rfl | rfl <;> rfl
def fb (l : List UInt8) (n : Nat) : List UInt8:=(tT 32).map λm=>if m < n then l[m]! else 0
theorem J2 (l : List UInt8) (n : Nat) : (fb l n).length = 32:=by simp [fb]
theorem FI (l : List UInt8) : fb l 0 = List.replicate 32 0:=by
 apply fR (by simp [fb])
 intro i h1 h2
 rw [List.getElem_replicate]
 simp [fb]
theorem J3 {l : List UInt8} (h : l.length = 32) : fb l 32 = l:=by
 apply fR (by simp [fb,h])
 intro i h1 h2
 have h3 : i < 32:=by simpa [fb] using h1
 simp [fb,h3,h2]
theorem J1 (l : List UInt8) {n : Nat} : (fb l n).set n l[n]! = fb l (n + 1):=by
 apply fR (by simp [fb])
 intro j h1 h2
 rw [List.getElem_set];simp only [fb,List.getElem_map,List.getElem_range]
 by_cases hjk : n = j
 ·subst hjk
  simp
 ·rw [if_neg hjk]
  by_cases hlt : j < n
  ·rw [if_pos hlt,if_pos (by omega)]
  ·rw [if_neg hlt,if_neg (by omega)]
def wd (L k : Nat) : Nat:=L / 18446744073709551616 ^ k % 18446744073709551616
theorem KA (L k j : Nat) (hj : j < 8) : wd L k / 2 ^ (8 * j) % 256 = L / 256 ^ (8 * k + j) % 256:=by
 have e1 : (256 : Nat) ^ (8 * k + j) = 18446744073709551616 ^ k * 256 ^ j:=by
  rw [Nat.pow_add,xJ]
 have e2 : (2 : Nat) ^ (8 * j) = 256 ^ j:=by rw [xJ]
 rw [e1,e2,<-Nat.div_div_eq_div_mul]
 unfold wd
 generalize L / 18446744073709551616 ^ k = z
 have h8 : j = 0 \/ j = 1 \/ j = 2 \/ j = 3 \/ j = 4 \/ j = 5 \/ j = 6 \/ j = 7:=by omega
 rcases h8 with rfl | rfl | rfl | rfl | rfl | rfl | rfl | rfl <;> simp only [Nat.reducePow] <;> omega
structure VL (w : World) (g : Nat) (l : List Value) : Prop where
  lt : g < w.heap.size
  cell : ∀ j v,l[j]? = some v -> w.cell? ⟨g,j,none⟩ = some v
  free : ∀ j,j < l.length -> w.frozen? ⟨g,j,none⟩ = false
section
variable {w w' : World} {g B : Nat} {l : List Value}
theorem VL.below (h : VL w g l) (hb : Below B w w') (hg : g < B) : VL w' g l :=
 ⟨Nat.lt_of_lt_of_le h.lt hb.size,λj v hj=>(hb.cell (p:=⟨g,j,none⟩) hg).trans (h.cell j v hj),λj hj=>(hb.frozen (p:=⟨g,j,none⟩) hg).trans (h.free j hj)⟩
theorem VL.up (h : VL w g l) (hb : Up w w') : VL w' g l:=h.below hb h.lt
theorem VL.set (h : VL w g l) (k : Nat) (x : Value) : VL (w.setCell ⟨g,k,none⟩ x) g (l.set k x):=by
 refine ⟨by simpa [IZ] using h.lt,λj v hj=>?_,λj hj=>?_⟩
 ·rw [List.getElem?_set] at hj
  by_cases e : k = j
  ·subst e
   rw [if_pos rfl] at hj
   split at hj
   ·rename_i hk
    cases hj
    exact World.cell?_setCell_same _ _ _ (h.cell k l[k] (aX hk))
   ·cases hj
  ·rw [if_neg e] at hj
   rw [sV _ _ _ _ (by intro he; injection he with _ he _; omega),h.cell j v hj]
 ·rw [List.length_set] at hj
  rw [ND];exact h.free j hj
theorem VL.far (h : VL w g l) {p : Addr} (hp : g ≠ p.block) (u : Value) : VL (w.setCell p u) g l :=
 ⟨by simpa [IZ] using h.lt,λj v hj=>by rw [sV _ _ _ _ (λe=>hp (by rw [e]))]; exact h.cell j v hj,λj hj=>by rw [ND]; exact h.free j hj⟩
end
theorem WQ {l : List Nat} {j : Nat} (h : j < l.length) : (Us l)[j]? = some (.int .u64 (l[j]! : Nat)):=by
 simp [Us,h]
theorem Ko (l : List Nat) (k x : Nat) : (Us l).set k (.int .u64 (x : Int)) = Us (l.set k x):=by
 simp [Us,List.map_set]
theorem Kr {l : List UInt8} {j : Nat} (h : j < l.length) : (By l)[j]? = some (.int .u8 ((l[j]!).toNat : Int)):=by
 have h1:=gJ h
 simpa using h1
theorem VL.byte {w : World} {g : Nat} {l : List UInt8} (h : VL w g (By l)) {j : Nat} (hj : j < l.length) : w.cell? ⟨g,j,none⟩ = some (.int .u8 ((l[j]!).toNat : Int)):=h.cell j _ (Kr hj)
theorem VL.word {w : World} {g : Nat} {l : List Nat} (h : VL w g (Us l)) {j : Nat} (hj : j < l.length) : w.cell? ⟨g,j,none⟩ = some (.int .u64 (l[j]! : Nat)):=h.cell j _ (WQ hj)
section
variable {ops : Array Oper} {Q : Exit -> Act -> World -> Prop} {N : Nat} {E : List (Nat × Value)} {w : World}
theorem mP {os : Oper} {px x : Operand} {t : TypeId} {K : IntKind} (p : Addr) (v : Int) (old : Value) (ht : (t = 48 /\ K = .u64) \/ (t = 5 /\ K = .u8)) (hg : os.guard = none) (hd : os.dst = none) (ho : os.op = .store t px x) (hp : ev E px = some (.pointer (some p))) (hx : ev E x = some (.int K v))
  (hc : w.cell? p = some old) (hf : w.frozen? p = false) (hlt : p.block < w.heap.size) (h : ∀ w',Up w w' -> kF (Q .normal) N E (w'.setCell p (.int K v))) :
  bF Tryz.prog ops (Up w) (λa'=>∀ w',Up w w' -> wpList Tryz.prog ops Q [os] a' w') [] N E:=λa ha=>cQ λw' hw'=>by
 have h1:=ha.eval hp;have h2:=ha.eval hx;have h3 : w'.cell? p = some old:=(hw'.cell hlt).trans hc;have h4 : w'.frozen? p = false:=(hw'.frozen hlt).trans hf;have h5:=h w' hw' a ha
 unfold wpList
 rw [if_pos (by simp [aN,hg])];refine .inl ?_
 unfold nC execOp
 simp only [ho,h1,h2]
 have key : (Instr.storeAt t (.pointer (some p)) (.int K v)).run Tryz.prog w' = .ok () (w'.setCell p (.int K v)):=by
  rcases ht with ⟨rfl,rfl⟩ | ⟨rfl,rfl⟩ <;> go_simp
 simp only [aJ,key,aF,aK,mJ,hd];exact h5
end
section
variable {ops : Array Oper} {C0 : World -> Prop} {Q : Act -> Prop} {N : Nat} {E : List (Nat × Value)} {o : Oper} {rest : List Oper} {k : Nat}
theorem QJ {x y : Operand} {t : TypeId} (m n r : Int) (hg : o.guard = none) (hd : o.dst = some k) (hk : aQ k N = true) (ho : o.op = .binOp .sub 53 x y t) (hx : ev E x = some (.int .u64 m)) (hy : ev E y = some (.int .u64 n))
  (hr : IntKind.u64.wrap (m - n) = r) (hn : bF Tryz.prog ops C0 Q rest N ((k,.int .u64 r) :: E)) : bF Tryz.prog ops C0 Q (o :: rest) N E :=
 dP _ hg hd hk (λa ha w _=>by
  have h1:=ha.eval hx;have h2:=ha.eval hy
  unfold execOp
  simp only [ho,h1,h2]
  go_simp) hn
theorem J4 {x y : Operand} {t : TypeId} (m : Int) (n : Nat) (r : Int) (h64 : n <= 64) (hg : o.guard = none) (hd : o.dst = some k) (hk : aQ k N = true) (ho : o.op = .binOp .shr 48 x y t) (hx : ev E x = some (.int .u64 m)) (hy : ev E y = some (.int .u64 (n : Int)))
  (hr : m / 2 ^ n = r) (hn : bF Tryz.prog ops C0 Q rest N ((k,.int .u64 r) :: E)) : bF Tryz.prog ops C0 Q (o :: rest) N E :=
 dP _ hg hd hk (λa ha w _=>by
  have h1:=ha.eval hx;have h2:=ha.eval hy
  have h3 : (n : Int) <= 64:=by omega
  unfold execOp
  simp only [ho,h1,h2]
  go_simp) hn
end
theorem VL.new (w : World) (l : List Value) (t : TypeId) : VL (w.alloc (.cells l.toArray t)) w.heap.size l:=by
 have hb:=Blk.new w t l.toArray;exact ⟨by rw [aZ]; omega,λj v hj=>by rw [hb.cell j]; simpa using hj,λj _=>hb.free j⟩
section
variable {ops : Array Oper} {C0 : World -> Prop} {Q : Act -> Prop} {N : Nat} {E : List (Nat × Value)} {o : Oper} {rest : List Oper} {k : Nat}
theorem TQ {x : Operand} (m r : Int) (hg : o.guard = none) (hd : o.dst = some k) (hk : aQ k N = true) (ho : o.op = .convert 5 48 x) (hx : ev E x = some (.int .u8 m))
  (hr : IntKind.u64.wrap m = r) (hn : bF Tryz.prog ops C0 Q rest N ((k,.int .u64 r) :: E)) : bF Tryz.prog ops C0 Q (o :: rest) N E :=
 dP _ hg hd hk (λa ha w _=>by
  have h1:=ha.eval hx
  unfold execOp
  simp only [ho,h1]
  go_simp) hn
theorem LF {x : Operand} (m r : Int) (hg : o.guard = none) (hd : o.dst = some k) (hk : aQ k N = true) (ho : o.op = .convert 48 5 x) (hx : ev E x = some (.int .u64 m))
  (hr : IntKind.u8.wrap m = r) (hn : bF Tryz.prog ops C0 Q rest N ((k,.int .u8 r) :: E)) : bF Tryz.prog ops C0 Q (o :: rest) N E :=
 dP _ hg hd hk (λa ha w _=>by
  have h1:=ha.eval hx
  unfold execOp
  simp only [ho,h1]
  go_simp) hn
theorem TS {x : Operand} (m r : Int) (hg : o.guard = none) (hd : o.dst = some k) (hk : aQ k N = true) (ho : o.op = .convert 3 53 x) (hx : ev E x = some (.int .i64 m))
  (hr : IntKind.u64.wrap m = r) (hn : bF Tryz.prog ops C0 Q rest N ((k,.int .u64 r) :: E)) : bF Tryz.prog ops C0 Q (o :: rest) N E :=
 dP _ hg hd hk (λa ha w _=>by
  have h1:=ha.eval hx
  unfold execOp
  simp only [ho,h1]
  go_simp) hn
theorem TP {x : Operand} (m r : Int) (hg : o.guard = none) (hd : o.dst = some k) (hk : aQ k N = true) (ho : o.op = .convert 3 48 x) (hx : ev E x = some (.int .i64 m))
  (hr : IntKind.u64.wrap m = r) (hn : bF Tryz.prog ops C0 Q rest N ((k,.int .u64 r) :: E)) : bF Tryz.prog ops C0 Q (o :: rest) N E :=
 dP _ hg hd hk (λa ha w _=>by
  have h1:=ha.eval hx
  unfold execOp
  simp only [ho,h1]
  go_simp) hn
theorem AG {x y : Operand} {t : TypeId} (m n : Int) (q : Bool) (hg : o.guard = none) (hd : o.dst = some k) (hk : aQ k N = true) (ho : o.op = .binOp .geq 3 x y t) (hx : ev E x = some (.int .i64 m)) (hy : ev E y = some (.int .i64 n))
  (hr : decide (n <= m) = q) (hn : bF Tryz.prog ops C0 Q rest N ((k,.bool q) :: E)) : bF Tryz.prog ops C0 Q (o :: rest) N E :=
 dP _ hg hd hk (λa ha w _=>by
  have h1:=ha.eval hx;have h2:=ha.eval hy;subst hr
  unfold execOp
  simp only [ho,h1,h2]
  go_simp) hn
theorem QP {x y : Operand} {t : TypeId} (m n : Int) (q : Bool) (hg : o.guard = none) (hd : o.dst = some k) (hk : aQ k N = true) (ho : o.op = .binOp .neq 3 x y t) (hx : ev E x = some (.int .i64 m)) (hy : ev E y = some (.int .i64 n))
  (hr : decide (m ≠ n) = q) (hn : bF Tryz.prog ops C0 Q rest N ((k,.bool q) :: E)) : bF Tryz.prog ops C0 Q (o :: rest) N E :=
 dP _ hg hd hk (λa ha w _=>by
  have h1:=ha.eval hx;have h2:=ha.eval hy;subst hr
  unfold execOp
  simp only [ho,h1,h2]
  by_cases e : m = n <;> go_simp) hn
theorem QN {x y : Operand} {t : TypeId} (m n r : Int) (hz : n ≠ 0) (hg : o.guard = none) (hd : o.dst = some k) (hk : aQ k N = true) (ho : o.op = .binOp .rem 3 x y t) (hx : ev E x = some (.int .i64 m)) (hy : ev E y = some (.int .i64 n))
  (hr : m.tmod n = r) (hn : bF Tryz.prog ops C0 Q rest N ((k,.int .i64 r) :: E)) : bF Tryz.prog ops C0 Q (o :: rest) N E :=
 dP _ hg hd hk (λa ha w _=>by
  have h1:=ha.eval hx;have h2:=ha.eval hy;subst hr
  unfold execOp
  simp only [ho,h1,h2]
  go_simp) hn
theorem Wf {x y : Operand} {t : TypeId} (m n r : Int) (hz : n ≠ 0) (hg : o.guard = none) (hd : o.dst = some k) (hk : aQ k N = true) (ho : o.op = .binOp .rem 48 x y t) (hx : ev E x = some (.int .u64 m)) (hy : ev E y = some (.int .u64 n))
  (hr : m.tmod n = r) (hn : bF Tryz.prog ops C0 Q rest N ((k,.int .u64 r) :: E)) : bF Tryz.prog ops C0 Q (o :: rest) N E :=
 dP _ hg hd hk (λa ha w _=>by
  have h1:=ha.eval hx;have h2:=ha.eval hy;subst hr
  unfold execOp
  simp only [ho,h1,h2]
  go_simp) hn
theorem Wh {x y : Operand} {t : TypeId} (m n r : Int) (hz : n ≠ 0) (hg : o.guard = none) (hd : o.dst = some k) (hk : aQ k N = true) (ho : o.op = .binOp .quo 48 x y t) (hx : ev E x = some (.int .u64 m)) (hy : ev E y = some (.int .u64 n))
  (hr : IntKind.u64.wrap (m.tdiv n) = r) (hn : bF Tryz.prog ops C0 Q rest N ((k,.int .u64 r) :: E)) : bF Tryz.prog ops C0 Q (o :: rest) N E :=
 dP _ hg hd hk (λa ha w _=>by
  have h1:=ha.eval hx;have h2:=ha.eval hy;subst hr
  unfold execOp
  simp only [ho,h1,h2]
  go_simp) hn
end
section
variable {ops : Array Oper}
def Ou (f : Nat) (md : Region.Mode) (ops : Array Oper) (N : Nat) : Bool:=match ops[N]? with
  | none=>true
  | some o=>(tT N).all λi=>lG md o i || iM md ops (min f ops.size) N i
def tailD (f : Nat) (ops : Array Oper) (n k m : Nat) : Bool :=
  tS ops && CP .any ops n ops.toList 0 && chainB .any ops.toList 0 none && decide (ops.size = m + k + n) && Ou f .any ops (k + n) &&
    kP .any ops m (k + n) (marks k n (marks n 0 (bE ops.size false)))
theorem Gt (f : Nat) {n k m : Nat} (h : tailD f ops n k m = true) : nV ops n k m = true:=by
 simp only [tailD,aW,decide_eq_true_eq] at h;obtain ⟨⟨⟨⟨⟨h1,h2⟩,h3⟩,h4⟩,h5⟩,h6⟩:=h
 have hr : ∀ j ∈ bC .any ops (marks k n (marks n 0 (bE ops.size false))),j = k + n:=by
  intro j hj
  cases m with
  | zero =>
   simp only [kP,List.isEmpty_iff] at h6;rw [h6] at hj
   cases hj
  | succ m =>
   simp only [kP,aW,decide_eq_true_eq] at h6;rw [h6.1] at hj
   simpa using hj
 simp only [nV,aW,decide_eq_true_eq];refine ⟨⟨⟨⟨h1,zI h3 n ops.toList 0 _ Inv.start rfl h2⟩,h4⟩,?_⟩,h6⟩
 unfold EV
 rw [cL]
 intro j hj
 have hjk:=hr j hj;subst hjk;obtain ⟨_,o,ho,_⟩:=mem_ready.1 hj
 unfold Ou at h5
 rw [ho] at h5;simp only [cL,lX] at h5 ⊢
 intro i hi
 have hz : 0 < ops.size:=bX (Nat.zero_le _) (dC.1 ho).1;obtain ⟨g,hg⟩ : ∃ g,ops.size = g + 1:=⟨ops.size - 1,by omega⟩;have h7:=h5 i hi;simp only [fO] at h7
 rcases h7 with h7 | h7
 ·rw [hg]
  exact uL ho h7
 ·exact mV (Nat.min_le_right _ _) h7
end
theorem vE {P : Program} {ops : Array Oper} {Q : Exit -> Act -> World -> Prop} {T : List Oper} {N : Nat} {E : List (Nat × Value)} {w : World} (h : ∀ w',Up w w' -> lF P ops Q T N E w') :
  bF P ops (Up w) (λa'=>∀ w',Up w w' -> wpList P ops Q T a' w') [] N E:=λa ha=>cQ λw' hw'=>h w' hw' a ha
section
variable {P : Program} {ops : Array Oper} {Q : Exit -> Act -> World -> Prop} {N : Nat} {E : List (Nat × Value)} {w : World} {o : Oper} {rest : List Oper} {k : Nat}
theorem bI (h : kF (Q .normal) N E w) : lF P ops Q [] N E w:=λa ha=>dX (h a ha)
theorem nZ {w' : World} (v : Value) (hg : o.guard = none) (hd : o.dst = some k) (hk : aQ k N = true) (h : ∀ a,Fr N E a -> (execOp a.eval o).run P w = .ok (.value v) w') (hn : lF P ops Q rest N ((k,v) :: E) w') : lF P ops Q (o :: rest) N E w:=λa ha=>by
 have h1:=h a ha;have h2:=hn _ (ha.put hk v)
 unfold wpList
 rw [if_pos (by simp [aN,hg])];refine .inl ?_
 unfold nC
 rw [h1];simp only [mJ,hd];exact h2
theorem oJ {x : Operand} (v : Value) (hg : o.guard = none) (hd : o.dst = some k) (hk : aQ k N = true) (ho : o.op = .move x) (hx : ev E x = some v) (hn : lF P ops Q rest N ((k,v) :: E) w) : lF P ops Q (o :: rest) N E w :=
 nZ v hg hd hk (λa ha=>by
  have h1:=ha.eval hx
  unfold execOp
  simp only [ho,h1,aK]) hn
theorem cV {x : Operand} (v : Value) (hg : o.guard = none) (hd : o.dst = some k) (hk : aQ k N = true) (ho : o.op = .assign x) (hx : ev E x = some v) (hn : lF P ops Q rest N ((k,v) :: E) w) : lF P ops Q (o :: rest) N E w :=
 nZ v hg hd hk (λa ha=>by
  have h1:=ha.eval hx
  unfold execOp
  simp only [ho,h1,aK]) hn
end
theorem jL {f : FuncId} {args : Array Value} {v : Value} {w : World} (h : Calls Tryz.prog f args w λe w'=>e = .returned v /\ w' = w) : Calls Tryz.prog f args w λe w'=>e = .returned v /\ Below w.heap.size w w' :=
 h.mono λ_ _ ⟨h1,h2⟩=>⟨h1,by rw [h2]; exact Below.refl _ _⟩
structure NV where
  t : Nat
  ty : TypeId
  zs : Array Value
section
variable {P : Program} {N : Nat}
def PM (P : Program) (N : Nat) (o : Oper) (v : NV) : Prop:=o.guard = none /\ o.dst = some v.t /\ aQ v.t N = true /\ o.op = .alloc v.ty /\ (P.info? v.ty).bind (λi=>i.zero.map (·.cells)) = some v.zs
def PN (P : Program) (N : Nat) : List Oper -> List NV -> Prop
  | _,[]=>True
  | [],_ :: _=>False
  | o :: l,v :: vs=>PM P N o v /\ PN P N l vs
theorem Hp : ∀ {l : List Oper} {vs : List NV},PN P N l vs -> ∀ (j : Nat) (v : NV),vs[j]? = some v -> ∃ o : Oper,l[j]? = some o /\ PM P N o v
 | _,[],_,j,v,hv=>by simp at hv
 | [],_ :: _,h,_,_,_=>h.elim
 | o :: l,v0 :: vs,h,0,v,hv=>by
  simp only [b6,bG] at hv;subst hv;exact ⟨o,rfl,h.1⟩
 | o :: l,v0 :: vs,h,j + 1,v,hv=>by
  simp only [Aa] at hv;obtain ⟨o',h1,h2⟩:=Hp h.2 j v hv;exact ⟨o',by simpa using h1,h2⟩
end
def l8 : List NV -> Nat -> (Nat -> Nat) -> List (Nat × Value) -> List (Nat × Value)
  | [],_,_,E=>E
  | v :: vs,j,gs,E=>(v.t,.pointer (some ⟨gs j,0,none⟩)) :: l8 vs (j + 1) gs E
def far (E : List (Nat × Value)) : List NV -> Prop
  | []=>True
  | v :: vs=>look E v.t = none /\ far E vs
theorem Ih {E : List (Nat × Value)} {k : Nat} {x : Value} : ∀ {vs : List NV},(∀ v ∈ vs,k ≠ v.t) -> far E vs -> far ((k,x) :: E) vs
 | [],_,_=>trivial
 | v :: vs,h,hE=>⟨by rw [fU,if_neg (h v (by simp))]; exact hE.1,Ih (λu hu=>h u (by simp [hu])) hE.2⟩
theorem FJ {E : List (Nat × Value)} : ∀ {vs : List NV},far E vs -> ∀ (j : Nat) (v : NV),vs[j]? = some v -> look E v.t = none
 | [],_,j,v,hv=>by simp at hv
 | v0 :: vs,h,0,v,hv=>by
  simp only [b6,bG] at hv;subst hv;exact h.1
 | v0 :: vs,h,j + 1,v,hv=>FJ h.2 j v (by simpa using hv)
section
variable {N : Nat} {E : List (Nat × Value)} {a : Act}
theorem Fr.Fc (h : Fr N E a) {k : Nat} (hk : look E k = none) (v : Value) : Fr N E (a.put (some k) v):=by
 refine ⟨by simp [aG,h.size],h.defers,λj u hj=>?_⟩
 have e : k ≠ j:=by
  rintro rfl
  rw [hk] at hj
  cases hj
 have h1:=h.get j u hj;simp only [aG,AV,cN] at h1 ⊢;rw [pC (by omega)];exact h1
theorem Fr.more (h : Fr N E a) {k : Nat} {v : Value} (hv : a.eval (.tmp k) = v) : Fr N ((k,v) :: E) a:=by
 refine ⟨h.size,h.defers,λj u hj=>?_⟩;rw [fU] at hj
 by_cases e : k = j
 ·subst e
  rw [if_pos rfl] at hj
  cases hj
  exact hv
 ·rw [if_neg e] at hj
  exact h.get j u hj
theorem Fr.tail {k : Nat} {v : Value} (h : Fr N ((k,v) :: E) a) (hk : look E k = none) : Fr N E a:=by
 refine ⟨h.size,h.defers,λj u hj=>h.get j u ?_⟩;rw [fU,if_neg]
 ·exact hj
 ·rintro rfl
  rw [hk] at hj
  cases hj
theorem rU (h : Fr N E a) {k : Nat} (hk : aQ k N = true) (v : Value) : (a.put (some k) v).eval (.tmp k) = v:=(h.put hk v).get k v (by rw [fU,if_pos rfl])
theorem Io {k j : Nat} (hk : k ≠ j) (v : Value) : (a.put (some k) v).eval (.tmp j) = a.eval (.tmp j):=by
 simp only [aG,AV,cN];rw [pC (by omega)]
theorem Fr.l8 (h : Fr N E a) (gs : Nat -> Nat) : ∀ (vs : List NV) (j0 : Nat),(∀ (j : Nat) (v : NV),vs[j]? = some v -> a.eval (.tmp v.t) = .pointer (some ⟨gs (j0 + j),0,none⟩)) -> Fr N (l8 vs j0 gs E) a
 | [],_,_=>h
 | v :: vs,j0,hv=>by
  refine Fr.more (Fr.l8 h gs vs (j0 + 1) λj u hu=>?_) (hv 0 v rfl);have:=hv (j + 1) u (by simpa using hu)
  rwa [<-dO,cX] at this
end
def PS (ops : Array Oper) (n : Nat) (lend : Array Bool) : Nat -> List Nat -> Array Bool -> Bool
  | 0,_,listed=>decide (listed = lend)
  | f + 1,rem,listed=>decide (bC .any ops listed = rem.map (n + ·)) && rem.all λj=>PS ops n lend f (rem.erase j) (listed.setIfInBounds (n + j) true)
def kK : List NV -> Bool
  | []=>true
  | v :: vs=>(vs.all λu=>!(v.t == u.t)) && kK vs
theorem xP : ∀ {vs : List NV},kK vs = true -> ∀ (i j : Nat) (vi vj : NV),i < j -> vs[i]? = some vi -> vs[j]? = some vj -> vi.t ≠ vj.t
 | [],_,i,j,vi,vj,_,hi,_=>by simp at hi
 | v :: vs,h,0,j + 1,vi,vj,_,hi,hj=>by
  simp only [kK,aW,cL] at h;simp only [b6,bG,Aa] at hi hj;subst hi;have:=h.1 vj (List.mem_of_getElem? hj)
  simpa using this
 | v :: vs,h,i + 1,j + 1,vi,vj,hij,hi,hj=>by
  simp only [kK,aW] at h;exact xP h.2 i j vi vj (by omega) (by simpa using hi) (by simpa using hj)
theorem Cb {vs : List NV} (h : kK vs = true) {i j : Nat} {vi vj : NV} (hij : i ≠ j) (hi : vs[i]? = some vi) (hj : vs[j]? = some vj) : vi.t ≠ vj.t:=by
 rcases Nat.lt_or_gt_of_ne hij with h1 | h1
 ·exact xP h i j vi vj h1 hi hj
 ·exact (xP h j i vj vi h1 hj hi).symm
section
variable {P : Program} {Q : Exit -> Act -> World -> Prop} {N : Nat} {E : List (Nat × Value)} {w : World}
def VM (P : Program) (ops : Array Oper) (Q : Exit -> Act -> World -> Prop) (w : World) (vs : List NV) (T : List Oper) (N : Nat) (E : List (Nat × Value)) : Prop :=
  ∀ gs w',(∀ j,j < vs.length -> w.heap.size <= gs j) -> (∀ i j,i < vs.length -> j < vs.length -> i ≠ j -> gs i ≠ gs j) -> Up w w' -> (∀ (j : Nat) (v : NV),vs[j]? = some v -> Blk w' (gs j) v.ty v.zs) -> lF P ops Q T N (l8 vs 0 gs E) w'
def Fp (P : Program) (ops : Array Oper) (Q : Exit -> Act -> World -> Prop) (w : World) (vs : List NV) (T : List Oper) (N : Nat) (a' : Act) : Prop :=
  ∃ E',Fr N E' a' /\ far E' vs /\ VM P ops Q w vs T N E'
theorem Hq {ops : Array Oper} {n m M : Nat} {lend : Array Bool} (vs : List NV) (hap : kK vs = true) (hnv : ∀ j v,vs[j]? = some v -> ∃ o,ops[n + j]? = some o /\ PM P N o v) (hE : far E vs)
  (fin : ∀ gs w0 a,Up w w0 -> Fr N (l8 vs 0 gs E) a -> (∀ j,j < vs.length -> w.heap.size <= gs j) -> (∀ i j,i < vs.length -> j < vs.length -> i ≠ j -> gs i ≠ gs j) -> (∀ (j : Nat) (v : NV),vs[j]? = some v -> Blk w0 (gs j) v.ty v.zs) ->
   lP P .any ops (Up w) Q M m 0 w0 lend a) :
  ∀ (f : Nat) (rem : List Nat) (listed : Array Bool) (w0 : World) (a : Act) (gs : Nat -> Nat),PS ops n lend f rem listed = true -> rem.Nodup -> f = rem.length -> (∀ j ∈ rem,j < vs.length) -> Up w w0 -> Fr N E a ->
   (∀ (j : Nat) (v : NV),j ∉ rem -> vs[j]? = some v -> w.heap.size <= gs j /\ Blk w0 (gs j) v.ty v.zs /\ a.eval (.tmp v.t) = .pointer (some ⟨gs j,0,none⟩)) ->
   (∀ i j,i < vs.length -> j < vs.length -> i ∉ rem -> j ∉ rem -> i ≠ j -> gs i ≠ gs j) -> lP P .any ops (Up w) Q M m f w0 listed a
 | 0,rem,listed,w0,a,gs,hc,_,hf,_,hU,hF,hd,hg=>by
  obtain rfl : rem = []:=cM hf.symm;simp only [PS,decide_eq_true_eq] at hc;subst hc;refine fin gs w0 a hU (hF.l8 gs vs 0 λj v hv=>?_) (λj hj=>?_) (λi j hi hj hij=>hg i j hi hj (by simp) (by simp) hij) (λj v hv=>(hd j v (by simp) hv).2.1)
  ·rw [cK]
   exact (hd j v (by simp) hv).2.2
  ·exact (hd j vs[j] (by simp) (aX hj)).1
 | f + 1,rem,listed,w0,a,gs,hc,hnd,hf,hlt,hU,hF,hd,hg=>by
  simp only [PS,aW,decide_eq_true_eq,cL] at hc;obtain ⟨hr,hc⟩:=hc;refine ⟨?_,λi hi=>?_⟩
  ·rw [hr]
   cases rem with
   | nil=>cases hf
   | cons j rem=>exact List.cons_ne_nil _ _
  ·rw [hr] at hi
   obtain ⟨j,hj,rfl⟩:=gP.1 hi;have hjl:=hlt j hj;have hv : vs[j]? = some vs[j]:=aX hjl;generalize vs[j] = v at hv;obtain ⟨o,ho,hgd,hds,hb,hop,hz⟩:=hnv j v hv;refine xO (base:=w.heap.size) ho hgd (dE hop hz) (λ_ _ h k=>h.step k) (λ_ h=>h.size) hU λw1 hw1 hC1 hp=>?_;rw [hds];have hfar:=FJ hE j v hv;have hal:=(Below.refl w1.heap.size w1).alloc (aH _) (.cells v.zs v.ty)
   have hem : ∀ i,i ∉ rem.erase j -> i = j \/ i ∉ rem:=λi hi=>by
    by_cases e : i = j
    ·exact .inl e
    ·exact .inr λhm=>hi ((List.mem_erase_of_ne e).2 hm)
   refine Hq vs hap hnv hE fin f (rem.erase j) _ _ _ (λi=>if i = j then w1.heap.size else gs i) (hc j hj) (hnd.erase j) (by rw [List.length_erase_of_mem hj]; omega) (λi hi=>hlt i (List.mem_of_mem_erase hi)) (hC1.step hal) (hF.Fc hfar _) ?_ ?_
   ·intro i u hi hu
    by_cases e : i = j
    ·subst e
     obtain rfl : u = v:=fV (hu.symm.trans hv);rw [if_pos rfl];exact ⟨hp,Blk.new w1 _ _,rU hF hb _⟩
    ·rw [if_neg e]
     obtain ⟨h1,h2,h3⟩:=hd i u ((hem i hi).resolve_left e) hu;exact ⟨h1,(h2.later hw1).later hal,by rw [Io (Cb hap (Ne.symm e) hv hu)]; exact h3⟩
   ·intro i k hi hk hir hkr hik
    have hlt1 : ∀ i,i < vs.length -> i ∉ rem -> gs i < w1.heap.size:=λi hi hir=>((hd i vs[i] hir (aX hi)).2.1.later hw1).lt
    by_cases e : i = j
    ·rw [if_pos e,if_neg (λh=>hik (e.trans h.symm))]
     have:=hlt1 k hk ((hem k hkr).resolve_left (λh=>hik (e.trans h.symm)))
     omega
    ·rw [if_neg e]
     by_cases e2 : k = j
     ·rw [if_pos e2]
      have:=hlt1 i hi ((hem i hir).resolve_left e)
      omega
     ·rw [if_neg e2]
      exact hg i k hi hk ((hem i hir).resolve_left e) ((hem k hkr).resolve_left e2) hik
theorem Bl {id : Nat} {l : List Oper} (n : Nat) (vs : List NV) (hn : n + vs.length <= l.length) (hap : kK vs = true) (hnv : PN P N (l.drop n) vs) (hm : P.follows .mixedOrders = true)
  (hB : nV l.toArray n vs.length (l.drop (n + vs.length)).length = true)
  (hC : PS l.toArray n (marks vs.length n (marks n 0 (bE l.toArray.size false))) vs.length (tT vs.length) (marks n 0 (bE l.toArray.size false)) = true)
  (hQ : ∀ c a d v w,Q (.panic c) (a.put d v) w -> Q (.panic c) a w)
  (h : bF P l.toArray (Up w) (Fp P l.toArray Q w vs (l.drop (n + vs.length)) N) (l.take n) N E) : cF P (.region id l.toArray true) Q N E w:=λa ha=>by
 simp only [nV,aW,decide_eq_true_eq] at hB;obtain ⟨⟨⟨⟨hs,hh⟩,hz⟩,hsk⟩,hf⟩:=hB
 have hL : (l.take n).length = n:=by rw [aY]; omega
 refine wp_region_any hm ?_
 have hT : ∀ j,j < (l.drop (n + vs.length)).length -> (l.drop (n + vs.length))[j]? = l.toArray[vs.length + n + j]?:=λj _=>by
  simp only [List.getElem?_drop,NO]
  congr 1
  omega
 have hG : lP P .any l.toArray (Up w) Q (vs.length + n) (l.drop (n + vs.length)).length (vs.length + (l.take n).length) w.drew (bE l.toArray.size false) a:=by
  refine oX (λ_ _ h k=>h.step k) hs hQ vs.length w.drew (Up.drew w) (l.take n) 0 _ a (iQ.none _) (by omega) (λj hj=>?_) (by rw [hL]; exact hh) ?_
  ·rw [hL] at hj
   simp [hj]
  rw [hL];refine kW (λa' h'=>?_) _ a (h a ha);obtain ⟨E',hF,hE,hk⟩:=h';refine Hq (E:=E') (w:=w) vs hap (λj v hv=>?_) hE (λgs w0 a hU hF hb hd hB=>⟨λj hj i hi=>?_,λw' hw'=>?_⟩) vs.length (tT vs.length) _ w.drew a' (λ_=>0) hC List.nodup_range (by simp) (λj hj=>by simpa using hj) (Up.drew w) hF ?_ ?_
  ·obtain ⟨o,h1,h2⟩:=Hp hnv j v hv
   exact ⟨o,by simpa using h1,h2⟩
  ·have h1:=cL.1 hsk j hj
   exact cL.1 h1 i (lX.2 hi)
  ·exact kJ _ (vs.length + n) _ _ w' hT hf (hk gs w' hb hd (hU.step hw') (λj v hv=>(hB j v hv).later hw') a hF)
  ·intro j v hj hv
   exact absurd (lX.2 (dI.1 hv).1) hj
  ·intro i j hi hj h1
   exact absurd (lX.2 hi) h1
 have h2:=qC (vs.length + (l.take n).length) _ a w.drew hG;rw [hL] at h2
 have e : l.toArray.size = (l.drop (n + vs.length)).length + (vs.length + n):=by rw [hz,dO]
 rw [<-e] at h2;exact h2
theorem Qf {ops : Array Oper} {T : List Oper} : ∀ (vs : List NV) (l : List Oper) (j0 : Nat) (gs : Nat -> Nat) (w : World) (E : List (Nat × Value)),PN P N l vs -> l.drop vs.length = T ->
  (∀ (gs' : Nat -> Nat) (w' : World),(∀ j,j < j0 -> gs' j = gs j) -> (∀ j,j < vs.length -> w.heap.size <= gs' (j0 + j)) -> (∀ i j,i < vs.length -> j < vs.length -> i ≠ j -> gs' (j0 + i) ≠ gs' (j0 + j)) -> Up w w' -> (∀ (j : Nat) (v : NV),vs[j]? = some v -> Blk w' (gs' (j0 + j)) v.ty v.zs) ->
   ∀ a,Fr N E a -> (∀ (j : Nat) (v : NV),vs[j]? = some v -> a.eval (.tmp v.t) = .pointer (some ⟨gs' (j0 + j),0,none⟩)) -> wpList P ops Q T a w') ->
  far E vs -> kK vs = true -> ∀ a,Fr N E a -> wpList P ops Q l a w
 | [],l,j0,gs,w,E,_,hT,h,_,_,a,ha=>by
  obtain rfl : l = T:=by simpa using hT
  exact h gs w (λ_ _=>rfl) (λ_ h=>absurd h (by simp)) (λ_ _ h=>absurd h (by simp)) (Up.refl w) (λ_ _ h=>by simp at h) a ha (λ_ _ h=>by simp at h)
 | _ :: _,[],_,_,_,_,hnv,_,_,_,_,_,_=>hnv.elim
 | v :: vs,o :: l,j0,gs,w,E,hnv,hT,h,hE,hap,a,ha=>by
  obtain ⟨⟨hgd,hds,hb,hop,hz⟩,hnv⟩:=hnv
  have hap' : kK vs = true:=by
   simp only [kK,aW] at hap;exact hap.2
  refine dV hgd hop hz ?_;rw [hds];have hF:=ha.Fc hE.1 (.pointer (some ⟨w.heap.size,0,none⟩));have hal:=(Below.refl w.heap.size w).alloc (aH _) (.cells v.zs v.ty);refine Qf (T:=T) vs l (j0 + 1) (λj=>if j = j0 then w.heap.size else gs j) _ ((v.t,.pointer (some ⟨w.heap.size,0,none⟩)) :: E) hnv (by simpa using hT) (λgs' w' hg hge hd hU hB a' ha' hp=>?_) ?_ hap' _ (ha.put hb _)
  ·have hsz : (w.alloc (.cells v.zs v.ty)).heap.size = w.heap.size + 1:=aZ _ _
   rw [hsz] at hge
   have e0 : gs' j0 = w.heap.size:=by rw [hg j0 (by omega),if_pos rfl]
   refine h gs' w' (λj hj=>by rw [hg j (by omega),if_neg (by omega)]) (λj hj=>?_) (λi j hi hj hij=>?_) ((Up.refl w).alloc _ |>.step hU) (λj u hu=>?_) a' (ha'.tail hE.1) (λj u hu=>?_)
   ·cases j with
    | zero=>rw [fN,e0]; exact aH _
    | succ j =>
     have:=hge j (by simpa using hj);rw [cX] at this;rw [<-dO]
     omega
   ·have hge' : ∀ j,j < vs.length -> w.heap.size + 1 <= gs' (j0 + (j + 1)):=λj hj=>by
     have:=hge j hj;rw [cX,dO] at this;exact this
    cases i with
    | zero =>
     cases j with
     | zero=>exact absurd rfl hij
     | succ j =>
      have:=hge' j (by simpa using hj)
      have e1 : gs' (j0 + 0) = w.heap.size:=by rw [fN,e0]
      rw [e1]
      omega
    | succ i =>
     cases j with
     | zero =>
      have:=hge' i (by simpa using hi)
      have e1 : gs' (j0 + 0) = w.heap.size:=by rw [fN,e0]
      rw [e1]
      omega
     | succ j =>
      have:=hd i j (by simpa using hi) (by simpa using hj) (by omega)
      rwa [cX,cX j0 1 j] at this
   ·cases j with
    | zero =>
     simp only [b6,bG] at hu;subst hu;rw [fN,e0];exact (Blk.new w _ _).later hU
    | succ j =>
     have:=hB j u (by simpa using hu)
     rwa [cX] at this
   ·cases j with
    | zero =>
     simp only [b6,bG] at hu;subst hu;rw [fN,e0];exact ha'.get _ _ (by rw [fU,if_pos rfl])
    | succ j =>
     have:=hp j u (by simpa using hu)
     rwa [cX] at this
  ·refine Ih (λu hu=>?_) hE.2
   simp only [kK,aW,cL] at hap;have:=hap.1 u hu
   simpa using this
theorem tN {id : Nat} {l : List Oper} (n : Nat) (vs : List NV) (hap : kK vs = true) (hnv : PN P N (l.drop n) vs)
  (h : bF P l.toArray (Up w) (Fp P l.toArray Q w vs (l.drop (n + vs.length)) N) (l.take n) N E) : cF P (.region id l.toArray false) Q N E w:=λa ha=>by
 refine D2 n (kW (λa' h' w' hw'=>?_) _ _ (h a ha));obtain ⟨E',hF,hE,hk⟩:=h';refine Qf vs (l.drop n) 0 (λ_=>0) w' E' hnv (by rw [List.drop_drop]) (λgs w2 _ hge hd hU hB a2 ha2 hp=>?_) hE hap a' hF;simp only [cK] at hge hd hB hp;exact hk gs w2 (λj hj=>Nat.le_trans hw'.size (hge j hj)) hd (hw'.step hU) hB a2 (ha2.l8 gs vs 0 (by simpa using hp))
def Vh : List NV -> List Operand -> List Oper -> List Oper -> Prop
  | [],[],T,T'=>T = T'
  | v :: vs,x :: xs,o :: T,T'=>(o.guard = none /\ o.dst = none /\ o.op = .store v.ty (.tmp v.t) x) /\ Vh vs xs T T'
  | _,_,_,_=>False
def Gl (P : Program) (E : List (Nat × Value)) : List NV -> List Operand -> List (Array Value) -> Prop
  | [],[],[]=>True
  | v :: vs,x :: xs,c :: cs=>(ev E x = some (.agg c) /\ v.zs.size = c.size /\ (P.info? v.ty).map (·.size) = some c.size /\ ∀ u ∈ c.toList,u.oneCell' = true) /\ Gl P E vs xs cs
  | _,_,_=>False
def Ui (w : World) : List NV -> List (Array Value) -> Nat -> (Nat -> Nat) -> Prop
  | v :: vs,c :: cs,j,gs=>Blk w (gs j) v.ty c /\ Ui w vs cs (j + 1) gs
  | _,_,_,_=>True
theorem HO {ops : Array Oper} {T' : List Oper} {W : World} {gs : Nat -> Nat} : ∀ (vs : List NV) (xs : List Operand) (cs : List (Array Value)) (T : List Oper) (j0 : Nat) (w : World),Vh vs xs T T' -> Gl P E vs xs cs ->
  (∀ (j : Nat) (v : NV),vs[j]? = some v -> look E v.t = some (.pointer (some ⟨gs (j0 + j),0,none⟩))) -> (∀ j,j < vs.length -> W.heap.size <= gs (j0 + j)) -> (∀ i j,i < vs.length -> j < vs.length -> i ≠ j -> gs (j0 + i) ≠ gs (j0 + j)) -> Up W w -> (∀ (j : Nat) (v : NV),vs[j]? = some v -> Blk w (gs (j0 + j)) v.ty v.zs) ->
  (∀ w',Up W w' -> (∀ g t c,(∀ j,j < vs.length -> gs (j0 + j) ≠ g) -> Blk w g t c -> Blk w' g t c) -> Ui w' vs cs j0 gs -> lF P ops Q T' N E w') -> lF P ops Q T N E w
 | [],xs,cs,T,j0,w,hst,hv,_,_,_,hU,_,h=>by
  cases xs with
  | cons=>exact hst.elim
  | nil =>
   obtain rfl : T = T':=hst;exact h w hU (λ_ _ _ _ h=>h) (by unfold Ui; trivial)
 | v :: vs,xs,cs,T,j0,w,hst,hv,hl,hge,hd,hU,hB,h=>by
  cases xs with
  | nil=>exact hst.elim
  | cons x xs =>
   cases T with
   | nil=>exact hst.elim
   | cons o T =>
    cases cs with
    | nil=>exact hv.elim
    | cons c cs =>
     obtain ⟨⟨hgd,hds,hop⟩,hst⟩:=hst;obtain ⟨⟨hx,hz,hi,ho⟩,hv⟩:=hv
     intro a ha
     have h0:=hB 0 v rfl
     have hd0 : ∀ j,j < vs.length -> gs (j0 + 1 + j) ≠ gs j0:=λj hj=>by
      have:=hd (j + 1) 0 (by simpa using hj) (by simp) (by omega)
      rwa [<-dO,cX,fN] at this
     rw [fN] at h0;refine wpList_store_row hgd v.ty (.tmp v.t) x hop (gs j0) (ha.get _ _ (hl 0 v rfl)) c (ha.eval hx) v.ty v.zs h0 hi hz ho ?_;rw [hds];refine HO (gs:=gs) (W:=W) vs xs cs T (j0 + 1) (w.setRow (gs j0) c) hst hv (λj u hu=>?_) (λj hj=>?_) (λi j hi hj hij=>?_) (cT hU (hge 0 (by simp)) _) (λj u hu=>?_) (λw' hU' hK hb=>?_) a ha
     ·have:=hl (j + 1) u (by simpa using hu)
      rwa [<-dO,cX] at this
     ·have:=hge (j + 1) (by simpa using hj)
      rwa [<-dO,cX] at this
     ·have:=hd (i + 1) (j + 1) (by simpa using hi) (by simpa using hj) (by omega)
      rwa [<-dO,<-dO,cX,cX j0 j 1] at this
     ·have:=hB (j + 1) u (by simpa using hu)
      rw [<-dO,cX] at this;exact this.aT (hd0 j (dI.1 hu).1) _
     ·refine h w' hU' (λg t c' hg hb'=>hK g t c' (λj hj=>?_) (hb'.aT (Ne.symm (by have:=hg 0 (by simp); rwa [fN] at this)) _)) ⟨hK _ _ _ hd0 (h0.row _),hb⟩
      have:=hg (j + 1) (by simpa using hj)
      rwa [<-dO,cX] at this
theorem Ep {gs : Nat -> Nat} {E : List (Nat × Value)} {k : Nat} : ∀ (vs : List NV) (j0 : Nat),(∀ v ∈ vs,v.t ≠ k) -> look (l8 vs j0 gs E) k = look E k
 | [],_,_=>rfl
 | v :: vs,j0,h=>by
  rw [l8,fU,if_neg (h v (by simp))];exact Ep vs (j0 + 1) λu hu=>h u (by simp [hu])
theorem Hy {gs : Nat -> Nat} {E : List (Nat × Value)} : ∀ (vs : List NV) (j0 : Nat),kK vs = true -> ∀ (j : Nat) (v : NV),vs[j]? = some v -> look (l8 vs j0 gs E) v.t = some (.pointer (some ⟨gs (j0 + j),0,none⟩))
 | [],_,_,_,_,hv=>by simp at hv
 | v0 :: vs,j0,hap,0,v,hv=>by
  simp only [b6,bG] at hv;subst hv;rw [l8,fU,if_pos rfl,fN]
 | v0 :: vs,j0,hap,j + 1,v,hv=>by
  have hne : v0.t ≠ v.t:=Cb hap (i:=0) (j:=j + 1) (by omega) rfl hv;simp only [kK,aW] at hap;rw [l8,fU,if_neg hne,Hy vs (j0 + 1) hap.2 j v (by simpa using hv),<-dO,cX]
theorem Ws {gs : Nat -> Nat} {E : List (Nat × Value)} {vs : List NV} (hE : far E vs) {x : Operand} {v : Value} (hx : ev E x = some v) : ev (l8 vs 0 gs E) x = some v:=by
 cases x with
 | tmp t =>
  show look (l8 vs 0 gs E) t = some v
  rw [Ep vs 0 λu hu=>?_]
  ·exact hx
  ·rintro rfl
   obtain ⟨j,hj⟩:=List.getElem?_of_mem hu;have h1:=FJ hE j u hj;have h2 : look E u.t = some v:=hx;rw [h1] at h2
   cases h2
 | const u=>exact hx
 | global g=>exact hx
 | func f=>exact hx
theorem DU {gs : Nat -> Nat} {E : List (Nat × Value)} {ws : List NV} (hE : far E ws) : ∀ (vs : List NV) (xs : List Operand) (cs : List (Array Value)),Gl P E vs xs cs -> Gl P (l8 ws 0 gs E) vs xs cs
 | [],[],[],_=>trivial
 | _ :: vs,_ :: xs,_ :: cs,h=>⟨⟨Ws hE h.1.1,h.1.2⟩,DU hE vs xs cs h.2⟩
 | [],[],_ :: _,h=>h.elim
 | [],_ :: _,_,h=>h.elim
 | _ :: _,[],_,h=>h.elim
 | _ :: _,_ :: _,[],h=>h.elim
theorem o7 {ops : Array Oper} {vs : List NV} {T T' : List Oper} (xs : List Operand) (cs : List (Array Value)) (hE : far E vs) (hap : kK vs = true) (hst : Vh vs xs T T') (hv : Gl P E vs xs cs)
  (h : ∀ gs w',(∀ j,j < vs.length -> w.heap.size <= gs j) -> (∀ i j,i < vs.length -> j < vs.length -> i ≠ j -> gs i ≠ gs j) -> Up w w' -> Ui w' vs cs 0 gs -> lF P ops Q T' N (l8 vs 0 gs E) w') :
  bF P ops (Up w) (Fp P ops Q w vs T N) [] N E:=λa ha=>cQ ⟨E,ha,hE,λgs w' hge hd hU hB=>by
 refine HO (W:=w) (gs:=gs) vs xs cs T 0 w' hst (DU hE _ _ _ hv) (λj v hv=>Hy vs 0 hap j v hv) (by simpa using hge) (by simpa using hd) hU (by simpa using hB) λw2 hU2 _ hb=>?_
 exact h gs w2 hge hd hU2 hb⟩
end
section
variable {N : Nat} {E : List (Nat × Value)} {a : Act}
theorem Fr.Im (ha : Fr N E a) : ∀ (l : List Operand) (m : List Value),l.map (ev E) = m.map some -> l.map a.eval = m
 | [],[],_=>rfl
 | [],_ :: _,h=>by cases h
 | _ :: _,[],h=>by cases h
 | y :: l,u :: m,h=>by
  simp only [cA,uI] at h ⊢;exact ⟨ha.eval h.1,Fr.Im ha l m h.2⟩
theorem Fr.parts (ha : Fr N E a) : ∀ (l : List (Nat × Operand)) (m : List (Nat × Value)),l.map (λp=>(p.1,ev E p.2)) = m.map (λp=>(p.1,some p.2)) -> (l.map λ(i,x)=>(i,a.eval x)) = m
 | [],[],_=>rfl
 | [],_ :: _,h=>by cases h
 | _ :: _,[],h=>by cases h
 | y :: l,u :: m,h=>by
  simp only [cA,uI,Prod.mk.injEq] at h ⊢;refine ⟨?_,Fr.parts ha l m h.2⟩;rw [ha.eval h.1.2,h.1.1]
end
section
variable {P : Program} {ops : Array Oper} {C0 : World -> Prop} {Q : Act -> Prop} {N : Nat} {E : List (Nat × Value)} {o : Oper} {rest : List Oper} {k : Nat}
theorem gI {s : TypeId} {x : Operand} {f : Nat} (b off off' : Nat) (hg : o.guard = none) (hd : o.dst = some k) (hk : aQ k N = true) (ho : o.op = .fieldAddr s x f) (hx : ev E x = some (.pointer (some ⟨b,off,none⟩)))
  (hr : ∀ w,(Instr.fieldAt s (.pointer (some ⟨b,off,none⟩)) f).run P w = .ok (.pointer (some ⟨b,off',none⟩)) w) (hn : bF P ops C0 Q rest N ((k,.pointer (some ⟨b,off',none⟩)) :: E)) : bF P ops C0 Q (o :: rest) N E :=
 dP _ hg hd hk (λa ha w _=>by
  have h1:=ha.eval hx
  unfold execOp
  simp only [ho,h1,aJ,hr,aF,aK]) hn
theorem uE {t : TypeId} {x y : Operand} (p : Value) (i : Int) (q : Addr) (hg : o.guard = none) (hd : o.dst = some k) (hk : aQ k N = true) (ho : o.op = .indexAddr t x y) (hx : ev E x = some p) (hy : ev E y = some (.int .i64 i))
  (hr : ∀ w,(Instr.indexAt t p (.int .i64 i)).run P w = .ok (.pointer (some q)) w) (hn : bF P ops C0 Q rest N ((k,.pointer (some q)) :: E)) : bF P ops C0 Q (o :: rest) N E :=
 dP _ hg hd hk (λa ha w _=>by
  have h1:=ha.eval hx;have h2:=ha.eval hy
  unfold execOp
  simp only [ho,h1,h2,aJ,hr,aF,aK]) hn
theorem Bj {ty : TypeId} {x : Operand} (b off : Nat) (cs : List Value) (d : TypeDesc) (hg : o.guard = none) (hd : o.dst = some k) (hk : aQ k N = true) (ho : o.op = .load ty x) (hx : ev E x = some (.pointer (some ⟨b,off,none⟩)))
  (hc : ∀ w,C0 w -> w.rangeAt b off cs) (hu : P.underlying ty = some d) (hr : d.isRow = true) (hi : (P.info? ty).map (·.size) = some cs.length)
  (hn : bF P ops C0 Q rest N ((k,.agg cs.toArray) :: E)) : bF P ops C0 Q (o :: rest) N E :=
 dP _ hg hd hk (λa ha w hw=>by
  have h1:=ha.eval hx
  unfold execOp
  simp only [ho,h1,Instr.loadAt,Instr.sureAddr,aJ,aK,aF,run_loadVar_mid w b off ty cs d (hc w hw) hu hr hi]) hn
theorem g7 {t : TypeId} {parts : Array (Nat × Operand)} (vs : List (Nat × Value)) (cells : Array Value) (hg : o.guard = none) (hd : o.dst = some k) (hk : aQ k N = true) (ho : o.op = .build t parts)
  (hv : parts.toList.map (λp=>(p.1,ev E p.2)) = vs.map (λp=>(p.1,some p.2))) (hb : P.built t vs = some cells) (hn : bF P ops C0 Q rest N ((k,.agg cells) :: E)) : bF P ops C0 Q (o :: rest) N E :=
 dP _ hg hd hk (λa ha w _=>by
  have h1:=ha.parts _ _ hv
  unfold execOp
  simp only [ho,aJ,run_build w t _ cells (by rw [Array.toList_map,h1]; exact hb),aF,aK]) hn
theorem dY {x : Operand} {i : Nat} {vs : Array Value} (v : Value) (hg : o.guard = none) (hd : o.dst = some k) (hk : aQ k N = true) (ho : o.op = .extract x i) (hx : ev E x = some (.tuple vs)) (hv : vs[i]? = some v)
  (hn : bF P ops C0 Q rest N ((k,v) :: E)) : bF P ops C0 Q (o :: rest) N E :=
 dP _ hg hd hk (λa ha w _=>by
  have h1:=ha.eval hx
  unfold execOp
  simp only [ho,h1]
  go_simp) hn
theorem Nq {t t' : TypeId} {x y : Operand} {q : Bool} (xs ys : Array Value) (hg : o.guard = none) (hd : o.dst = some k) (hk : aQ k N = true) (ho : o.op = .binOp .eql t x y t') (hx : ev E x = some (.agg xs)) (hy : ev E y = some (.agg ys))
  (ht : P.eqGuardType P.depth t = false) (he : ∀ w,(Op.equalIn 10000 t (.agg xs) (.agg ys)).run P w = .ok q w) (hn : bF P ops C0 Q rest N ((k,.bool q) :: E)) : bF P ops C0 Q (o :: rest) N E :=
 dP _ hg hd hk (λa ha w _=>by
  have h1:=ha.eval hx;have h2:=ha.eval hy
  unfold execOp
  simp only [ho,h1,h2,aJ,run_eqGuard_agg (hm:=ht),aF,binOp,Op.equal,Op.maxDepth,he,aK]) hn
end
section
variable {ops : Array Oper} {C0 : World -> Prop} {Q : Act -> Prop} {N : Nat} {E : List (Nat × Value)} {o : Oper} {rest : List Oper} {k : Nat}
theorem tK {f : FuncId} {xs : Array Operand} {ats : Array TypeId} (args : Array Value) (V : Value -> Prop) (hg : o.guard = none) (hd : o.dst = some k) (hk : aQ k N = true)
  (hf : Own f) (hc : ∀ w,C0 w -> Calls Tryz.prog f args w (λe w'=>∃ v,e = .returned v /\ V v /\ Below w.heap.size w w'))
  (ho : o.op = .call { callee:=.value (.func f),args:=xs,argTypes:=ats }) (hx : xs.toList.map (ev E) = args.toList.map some) (hn : ∀ v,V v -> bF Tryz.prog ops C0 Q rest N ((k,v) :: E)) : bF Tryz.prog ops C0 Q (o :: rest) N E:=λa ha=>by
 refine Un (f:=f) (args:=args) V (by simp [aN,hg]) hf hc ho (ha.Im _ _ hx) λv hv=>?_;rw [hd];exact hn v hv _ (ha.put hk v)
end
section
variable {P : Program} {ops : Array Oper} {Q : Exit -> Act -> World -> Prop} {N : Nat} {E : List (Nat × Value)} {w : World} {o : Oper} {rest : List Oper} {k : Nat}
theorem XJ {ty : TypeId} {x : Operand} (cs : Array Value) (hg : o.guard = none) (hd : o.dst = some k) (hk : aQ k N = true) (ho : o.op = .box ty x) (hx : ev E x = some (.agg cs))
  (hn : lF P ops Q rest N ((k,.pointer (some ⟨w.heap.size,0,none⟩)) :: E) (w.alloc (.cells cs ty))) : lF P ops Q (o :: rest) N E w :=
 nZ _ hg hd hk (λa ha=>by
  have h1:=ha.eval hx
  unfold execOp
  simp only [ho,h1,aJ,A6,aF,aK]) hn
theorem Tv {ty : TypeId} {zs : Array Value} (hg : o.guard = none) (hd : o.dst = some k) (hk : aQ k N = true) (ho : o.op = .alloc ty) (hz : (P.info? ty).bind (λi=>i.zero.map (·.cells)) = some zs)
  (hn : lF P ops Q rest N ((k,.pointer (some ⟨w.heap.size,0,none⟩)) :: E) (w.alloc (.cells zs ty))) : lF P ops Q (o :: rest) N E w :=
 nZ _ hg hd hk (λ_ _=>dE ho hz _ w) hn
theorem gR {ty : TypeId} {x : Operand} (cs : Array Value) (hg : o.guard = none) (hd : o.dst = some k) (hk : aQ k N = true) (ho : o.op = .box ty x) (hx : ev E x = some (.agg cs))
  (hn : ∀ W g,Up w W -> g = w.heap.size -> Blk W g ty cs -> lF P ops Q rest N ((k,.pointer (some ⟨g,0,none⟩)) :: E) W) : lF P ops Q (o :: rest) N E w :=
 XJ cs hg hd hk ho hx (hn _ _ ((Up.refl w).alloc _) rfl (Blk.new w _ _))
theorem cY {ty : TypeId} (zs : Array Value) (hg : o.guard = none) (hd : o.dst = some k) (hk : aQ k N = true) (ho : o.op = .alloc ty) (hz : (P.info? ty).bind (λi=>i.zero.map (·.cells)) = some zs)
  (hn : ∀ W g,Up w W -> g = w.heap.size -> Blk W g ty zs -> lF P ops Q rest N ((k,.pointer (some ⟨g,0,none⟩)) :: E) W) : lF P ops Q (o :: rest) N E w :=
 Tv hg hd hk ho hz (hn _ _ ((Up.refl w).alloc _) rfl (Blk.new w _ _))
theorem mY {ty t : TypeId} {p x : Operand} (g : Nat) (old cells : Array Value) (hg : o.guard = none) (hd : o.dst = none) (ho : o.op = .store ty p x) (hp : ev E p = some (.pointer (some ⟨g,0,none⟩))) (hx : ev E x = some (.agg cells))
  (hb : Blk w g t old) (hi : (P.info? ty).map (·.size) = some cells.size) (hz : old.size = cells.size) (h1 : ∀ v ∈ cells.toList,v.oneCell' = true) (hn : lF P ops Q rest N E (w.setRow g cells)) : lF P ops Q (o :: rest) N E w:=λa ha=>by
 refine wpList_store_row hg ty p x ho g (ha.eval hp) cells (ha.eval hx) t old hb hi hz h1 ?_;rw [hd];exact hn a ha
theorem XI {ty : TypeId} {p x : Operand} (g off : Nat) (cells : Array Value) (hg : o.guard = none) (hd : o.dst = none) (ho : o.op = .store ty p x) (hp : ev E p = some (.pointer (some ⟨g,off,none⟩))) (hx : ev E x = some (.agg cells))
  (ht : w.there g off cells.size) (hi : (P.info? ty).map (·.size) = some cells.size) (h1 : cells.all (·.oneCell') = true) (hn : lF P ops Q rest N E (w.setCells g off cells.toList)) : lF P ops Q (o :: rest) N E w:=λa ha=>by
 refine wpList_store_mid hg ty p x ho g off cells (ha.eval hp) (ha.eval hx) ht hi h1 ?_;rw [hd];exact hn a ha
end
theorem QS {ops : Array Oper} {C0 : World -> Prop} {Q : Act -> Prop} {N : Nat} {E : List (Nat × Value)} {o : Oper} {rest : List Oper} {k : Nat} {x y : Operand} {t : TypeId} (m n : Int) (q : Bool) (hg : o.guard = none) (hd : o.dst = some k) (hk : aQ k N = true) (ho : o.op = .binOp .eql 3 x y t) (hx : ev E x = some (.int .i64 m)) (hy : ev E y = some (.int .i64 n))
  (hr : decide (m = n) = q) (hn : bF Tryz.prog ops C0 Q rest N ((k,.bool q) :: E)) : bF Tryz.prog ops C0 Q (o :: rest) N E :=
 dP _ hg hd hk (λa ha w _=>by
  have h1:=ha.eval hx;have h2:=ha.eval hy;subst hr
  unfold execOp
  simp only [ho,h1,h2]
  by_cases e : m = n <;> go_simp) hn
theorem DI (a b : Nat) (h : a + b < 9223372036854775808) : IntKind.i64.wrap ((a : Int) + (b : Int)) = ((a + b : Nat) : Int):=by rw [i64_left,wrap64_in _ (by omega)]; omega
theorem Xf (a b : Nat) (h : b <= a) (h2 : a < 9223372036854775808) : IntKind.i64.wrap ((a : Int) - (b : Int)) = ((a - b : Nat) : Int):=by rw [i64_left,wrap64_in _ (by omega)]; omega
structure vK (w w' : World) (g : Nat) : Prop where
  size : w'.heap.size = w.heap.size
  blk : ∀ g' t c,g' ≠ g -> Blk w g' t c -> Blk w' g' t c
  cell : ∀ p : Addr,p.block ≠ g -> w'.cell? p = w.cell? p
  up : ∀ w0,w0.heap.size <= g -> Up w0 w -> Up w0 w'
theorem vK.set {w w' : World} {g : Nat} (h : vK w w' g) (k : Nat) (u : Value) : vK w (w'.setCell ⟨g,k,none⟩ u) g where
 size:=by rw [<-h.size]; simp [IZ]
 blk:=λg' t c hg hb=>(h.blk g' t c hg hb).far hg u
 cell:=λp hp=>by rw [sV _ _ _ _ (λe=>hp (by rw [<-e])),h.cell p hp]
 up:=λw0 hg hU=>(h.up w0 hg hU).setCell hg u
theorem vK.refl (w : World) (g : Nat) : vK w w g:=⟨rfl,λ_ _ _ _ h=>h,λ_ _=>rfl,λ_ _ h=>h⟩
theorem yS {w0 : World} {g t : Nat} : ∀ (U A V Z : List Value) (w : World),Blk w g t (A ++ (V ++ Z)).toArray -> V.length = U.length -> vK w0 w g -> Blk (w.setCells g A.length U) g t (A ++ (U ++ Z)).toArray /\ vK w0 (w.setCells g A.length U) g
 | [],A,V,Z,w,hb,hl,ho=>by
  obtain rfl : V = []:=cM hl;exact ⟨hb,ho⟩
 | u :: U,A,[],Z,w,hb,hl,ho=>by simp at hl
 | u :: U,A,v :: V,Z,w,hb,hl,ho=>by
  have h1:=hb.set A.length u
  have e : (A ++ (v :: V ++ Z)).toArray.setIfInBounds A.length u = (A ++ [u] ++ (V ++ Z)).toArray:=by simp
  rw [e] at h1;have h2:=yS U (A ++ [u]) V Z _ h1 (by simpa using hl) (ho.set A.length u);simp only [aI,cC,List.length_nil,cK,List.append_assoc,Ku,List.nil_append] at h2
  simpa [World.setCells] using h2
theorem Ml {w : World} {g t : Nat} {A V Z : List Value} (h : Blk w g t (A ++ (V ++ Z)).toArray) : w.there g A.length V.length:=λj hj=>by
 refine ⟨?_,h.free _⟩;rw [h.cell];simp only [NO];rw [List.getElem?_append_right (by omega),Nat.add_sub_cancel_left,List.getElem?_append_left hj,aX hj]
 rfl
section
variable {P : Program} {ops : Array Oper} {Q : Exit -> Act -> World -> Prop} {N : Nat} {E : List (Nat × Value)} {w : World} {o : Oper} {rest : List Oper} {k : Nat}
theorem Qg {ty t : TypeId} {p x : Operand} (g off : Nat) (A V Z U : List Value) (hg : o.guard = none) (hd : o.dst = none) (ho : o.op = .store ty p x) (hp : ev E p = some (.pointer (some ⟨g,off,none⟩))) (hx : ev E x = some (.agg U.toArray))
  (hb : Blk w g t (A ++ (V ++ Z)).toArray) (hoff : off = A.length) (hl : V.length = U.length) (hi : (P.info? ty).map (·.size) = some U.length) (h1 : ∀ v ∈ U,v.oneCell' = true)
  (hn : ∀ W',vK w W' g -> Blk W' g t (A ++ (U ++ Z)).toArray -> lF P ops Q rest N E W') : lF P ops Q (o :: rest) N E w:=by
 subst hoff;have h2:=yS U A V Z w hb hl (vK.refl w g);exact XI g A.length U.toArray hg hd ho hp hx (by have:=Ml hb; rw [hl] at this; simpa using this) (by simpa using hi) (all_oneCell_toArray h1) (by simpa using hn _ h2.2 h2.1)
end
theorem lT {K : Act -> World -> Prop} {Q : Exit -> Act -> World -> Prop} {N : Nat} {E : List (Nat × Value)} {w : World} (h : kF (Q .ret) N E w) : kF (Exit.then K Q .ret) N E w:=h
theorem iW {P : Program} {ops : Array Oper} {Q : Exit -> Act -> World -> Prop} {N : Nat} {E : List (Nat × Value)} {w : World} {o : Oper} {rest : List Oper} {ty t : TypeId} {p x : Operand} (g : Nat) (old cells : Array Value) (hg : o.guard = none) (hd : o.dst = none) (ho : o.op = .store ty p x) (hp : ev E p = some (.pointer (some ⟨g,0,none⟩))) (hx : ev E x = some (.agg cells))
  (hb : Blk w g t old) (hi : (P.info? ty).map (·.size) = some cells.size) (hz : old.size = cells.size) (h1 : ∀ v ∈ cells.toList,v.oneCell' = true) (hn : ∀ w',Up w w' -> Blk (w'.setRow g cells) g t cells -> lF P ops Q rest N E (w'.setRow g cells)) :
  bF P ops (Up w) (λa'=>∀ w',Up w w' -> wpList P ops Q (o :: rest) a' w') [] N E :=
 vE λw' hw'=>mY g old cells hg hd ho hp hx (hw'.blk hb) hi hz h1 (hn w' hw' ((hw'.blk hb).row _))
end Go.Proofs.YtfkchihlchlfdaaGreatDoor
