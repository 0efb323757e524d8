import Derived.Test.YtfkchihlchlfdaaDoorMa
import Derived.Laws.Bits64b
import Derived.Laws.BitsAllLaws
import Derived.Laws.Externs
open Array renaming replicate->bD,getD_eq_getD_getElem?->cI,getElem?_eq_some_iff->cZ,getElem?_eq_getElem->dF,any_eq_true'->fB,getElem?_setIfInBounds_ne->oP,size_setIfInBounds->Hv
open Bool renaming and_eq_true->aV,or_eq_true->fG
open Classical renaming choose->AX,choose_spec->Hr
open Go.Act renaming put->aE,eval->Ar
open Go.Exit renaming inBlock->dX
open Go.Extern.MathBitsCarry renaming m64->xT
open Go.IntKind renaming wrap_u64->aP
open Go.Oper renaming upon->jR,wp->lR
open Go.Region renaming wanted->aL,ready->bQ,binds->eL,noSelect->s8,noSelect_spec->Ap
open Go.Sem renaming run_pure->aI
open Go.World renaming size_alloc->aW,cell?_setCell_other->Hq,frozen?_setCell->Md
open List renaming length_take->aZ,getElem?_eq_getElem->bC,mem_cons_of_mem->bE,length_cons->bW,getElem?_cons_zero->bX,mem_cons_self->bZ,mem_cons->cA,all_eq_true->cE,map_cons->cH,eq_nil_of_length_eq_zero->cQ,ext_getElem->eE,mem_map->fV,getElem?_eq_some_iff->hH,getElem?_take->jN,mem_range->lK,mem_append->l6,mem_append_left->qH,range->sH,mem_append_right->xR,pairwise_cons->Bb,getElem?_cons_succ->KL
open Nat renaming le_refl->aF,blt->aQ,eq_of_beq_eq_true->bL,lt_of_le_of_lt->bR,add_right_comm->cR,zero_add->cW,add_assoc->dI,add_zero->fJ,beq->g7,ne_of_lt->oW,pow_mul->wP,and_two_pow_sub_one_eq_mod->DY
open Option.some renaming injEq->bH,inj->eW
namespace Go.Proofs.YtfkchihlchlfdaaDoor
open Go.RowKit Go.IntWalk
section
variable {ops : Array Oper} {C0 : World -> Prop} {Q : Act -> Prop} {a : Act} {o : Oper} {rest : List Oper}
theorem Pd {f : FuncId} {xs : Array Operand} {ats : Array TypeId} {args : Array Value} {v : Value} (hg : aL o (yielded ops a.tmps) = true)
  (hf : Own f) (hc : ∀ w,C0 w -> Calls Tryd.prog f args w (λe w'=>e = .returned v /\ Below w.heap.size w w'))
  (ho : o.op = .call { callee:=.value (.func f),args:=xs,argTypes:=ats }) (hx : xs.toList.map a.eval = args.toList) (hk : wpB Tryd.prog ops C0 Q rest (a.put o.dst v)) : wpB Tryd.prog ops C0 Q (o :: rest) a :=
 KE (f:=f) (args:=args) hg hc (λw=>by rw [jT hf ho,oI hx]) hk
theorem V2 {l : List UInt8} (g : Nat) (hl : l.length = 32) (x : Operand) (hg : aL o (yielded ops a.tmps) = true) (ho : o.op = .load 24 x) (hx : a.eval x = .pointer (some ⟨g,0,none⟩))
  (hc : ∀ w,C0 w -> Blk w g 24 (By l).toArray) (hk : wpB Tryd.prog ops C0 Q rest (a.put o.dst (.agg (By l).toArray))) : wpB Tryd.prog ops C0 Q (o :: rest) a :=
 y9 hg 24 x ho g 0 hx (By l) _ (λw h=>(hc w h).range) Tryd.underlying24 rfl (fC (By l).toArray (iY hl)) hk
end
section
variable {ops : Array Oper} {C0 : World -> Prop} {Q : Act -> Prop} {a : Act} {o : Oper} {rest : List Oper}
theorem Rv {f : FuncId} {xs : Array Operand} {ats : Array TypeId} {args : Array Value} (V : Value -> Prop) (hg : aL o (yielded ops a.tmps) = true)
  (hf : Own f) (hc : ∀ w,C0 w -> Calls Tryd.prog f args w (λe w'=>∃ v,e = .returned v /\ V v /\ Below w.heap.size w w'))
  (ho : o.op = .call { callee:=.value (.func f),args:=xs,argTypes:=ats }) (hx : xs.toList.map a.eval = args.toList) (hk : ∀ v,V v -> wpB Tryd.prog ops C0 Q rest (a.put o.dst v)) : wpB Tryd.prog ops C0 Q (o :: rest) a :=
 Ph (f:=f) (args:=args) V hg (by rw [ho]; rfl) hc (λw=>by rw [jT hf ho,oI hx]) hk
end
def look : List (Nat × Value) -> Nat -> Option Value
  | [],_=>none
  | (k,v) :: r,j=>match g7 k j with
    | true=>some v
    | false=>look r j
theorem fL (k j : Nat) (v : Value) (r : List (Nat × Value)) : look ((k,v) :: r) j = if k = j then some v else look r j:=by
 show (match g7 k j with | true=>some v | false=>look r j) = _
 by_cases h : k = j
 ·subst h
  rw [if_pos rfl,Nat.beq_refl]
 ·rw [if_neg h]
  cases e : g7 k j with
  | true=>exact absurd (bL e) h
  | false=>rfl
def ev (E : List (Nat × Value)) : Operand -> Option Value
  | .tmp t=>look E t
  | .const v=>some v
  | .global g=>some (.pointer (some ⟨g,0,none⟩))
  | .func f=>some (.func (.func f) #[] #[])
def Sub : List (Nat × Value) -> List (Nat × Value) -> Prop
  | [],_=>True
  | p :: r,E=>look E p.1 = some p.2 /\ Sub r E
structure Fr (N : Nat) (E : List (Nat × Value)) (a : Act) : Prop where
  size : a.tmps.size = N
  defers : a.defers = []
  get : ∀ k v,look E k = some v -> a.eval (.tmp k) = v
section
variable {N : Nat} {E E' : List (Nat × Value)} {a : Act}
theorem Fr.eval (h : Fr N E a) {x : Operand} {v : Value} (hx : ev E x = some v) : a.eval x = v:=by
 cases x with
 | tmp t=>exact h.get t v hx
 | const u=>exact eW hx
 | global g=>exact eW hx
 | func f=>exact eW hx
theorem Fr.put (h : Fr N E a) {k : Nat} (hk : aQ k N = true) (v : Value) : Fr N ((k,v) :: E) (a.put (some k) v):=by
 have hk : k < N:=by simpa using hk
 refine ⟨by simp [aE,h.size],h.defers,λj u hj=>?_⟩;rw [fL] at hj
 have hs : k < a.tmps.size:=by rw [h.size]; exact hk
 by_cases e : k = j
 ·subst e
  rw [if_pos rfl] at hj
  cases hj
  simp [aE,Ar,hs]
 ·rw [if_neg e] at hj
  have h1:=h.get j u hj;simp only [aE,Ar,cI] at h1 ⊢;rw [oP (by omega)];exact h1
theorem Fr.sub (h : Fr N E a) (hs : Sub E' E) : Fr N E' a:=by
 refine ⟨h.size,h.defers,?_⟩
 induction E' with
 | nil=>intro k v hk; cases hk
 | cons p r ih =>
  intro k v hk
  obtain ⟨j,u⟩:=p;rw [fL] at hk
  by_cases e : j = k
  ·subst e
   rw [if_pos rfl] at hk
   cases hk
   exact h.get _ _ hs.1
  ·rw [if_neg e] at hk
   exact ih hs.2 k v hk
theorem Fr.start {args : Array Value} {n : Nat} (h : args.size + n = N) (E : List (Nat × Value)) (hE : ∀ k v,look E k = some v -> args[k]? = some v) :
  Fr N E { tmps:=args ++ bD n undef,defers:=[] }:=by
 refine ⟨by simp [h],rfl,λk v hk=>?_⟩;have h1:=hE k v hk;have h2:=(cZ.1 h1).1;simp only [Ar,cI];rw [Array.getElem?_append_left h2,h1]
 rfl
end
def cF (P : Program) (c : Code) (Q : Exit -> Act -> World -> Prop) (N : Nat) (E : List (Nat × Value)) (w : World) : Prop:=∀ a,Fr N E a -> c.wp P Q a w
def bF (P : Program) (ops : Array Oper) (C0 : World -> Prop) (Q : Act -> Prop) (l : List Oper) (N : Nat) (E : List (Nat × Value)) : Prop:=∀ a,Fr N E a -> wpB P ops C0 Q l a
def lF (P : Program) (ops : Array Oper) (Q : Exit -> Act -> World -> Prop) (l : List Oper) (N : Nat) (E : List (Nat × Value)) (w : World) : Prop:=∀ a,Fr N E a -> wpList P ops Q l a w
def kF (K : Act -> World -> Prop) (N : Nat) (E : List (Nat × Value)) (w : World) : Prop:=∀ a,Fr N E a -> K a w
section
variable {P : Program} {Q : Exit -> Act -> World -> Prop} {N : Nat} {E E' : List (Nat × Value)} {w : World}
theorem dT {K : Act -> World -> Prop} (hs : Sub E' E) (h : kF K N E' w) : kF K N E w:=λa ha=>h a (ha.sub hs)
theorem aM {x y : Code} (h : ∀ K : Act -> World -> Prop,(∀ E' w',cF P y Q N E' w' -> kF K N E' w') -> cF P x (Exit.then K Q) N E w) : cF P (.seq x y) Q N E w:=λa ha =>
 wp_seq_k λK hK=>h K (λ_ _ h' a' ha'=>hK _ _ (h' a' ha')) a ha
theorem cB {c : Operand} {x y : Code} (t : Bool) (hc : ev E c = some (.bool t)) (h : cF P (if t then x else y) Q N E w) : cF P (.cond c x y) Q N E w:=λa ha=>wp_cond (ha.eval hc) (h a ha)
theorem dK {id : Nat} {c : Code} (h : cF P c (dX id Q) N E w) : cF P (.block id c) Q N E w:=λa ha=>wp_block (h a ha)
theorem eZ (h : kF (Q .normal) N E w) : cF P .skip Q N E w:=λa ha=>wp_skip (h a ha)
theorem kC {id : Nat} (h : kF (Q (.exit id)) N E w) : cF P (.exit id) Q N E w:=λa ha=>wp_exit (h a ha)
theorem gI (h : kF (Q .ret) N E w) : cF P .ret Q N E w:=λa ha=>wp_ret (h a ha)
theorem nQ {id : Nat} (h : kF (Q .normal) N E w) : kF (dX id Q (.exit id)) N E w:=λa ha=>by
 simp only [dX,if_true];exact h a ha
theorem least {σ : Type} (m : σ -> Nat) (p : σ -> Prop) : (∃ s,p s) -> ∃ s,p s /\ ∀ s',p s' -> m s <= m s':=by
 rintro ⟨s,hs⟩
 have key : ∀ n s,m s <= n -> p s -> ∃ s,p s /\ ∀ s',p s' -> m s <= m s':=by
  intro n
  induction n with
  | zero=>exact λs hn hs=>⟨s,hs,λs' _=>by omega⟩
  | succ n ih =>
   intro s hn hs
   by_cases h : ∃ s',p s' /\ m s' < m s
   ·obtain ⟨s',h1,h2⟩:=h
    exact ih s' (by omega) h1
   ·exact ⟨s,hs,λs' h1=>by
     by_cases h2 : m s' < m s
     ·exact absurd ⟨s',h1,h2⟩ h
     ·omega⟩
 exact key (m s) s (aF _) hs
open Classical in
theorem kB {σ : Type} {c : Code} (m : σ -> Nat) (F : σ -> List (Nat × Value)) (R : σ -> World -> Prop)
  (round : ∀ s w,R s w -> cF P c (Exit.then (λa' w'=>∃ s',R s' w' /\ Fr N (F s') a' /\ m s' < m s) Q) N (F s) w) (s0 : σ) (h0 : R s0 w) : cF P (.loop c) Q N (F s0) w:=λa ha=>by
 let T : Act -> World -> σ -> Prop:=λa w s=>R s w /\ Fr N (F s) a
 let μ : Act -> World -> Nat:=λa w=>if h : ∃ s,T a w s then m (AX (least m (T a w) h)) else 0
 have hμ : ∀ a w (h : ∃ s,T a w s),∃ s,T a w s /\ (∀ s',T a w s' -> m s <= m s') /\ μ a w = m s:=λa w h=>by
  refine ⟨AX (least m (T a w) h),(Hr (least m (T a w) h)).1,(Hr (least m (T a w) h)).2,?_⟩
  show (if h : ∃ s,T a w s then m (AX (least m (T a w) h)) else 0) = _
  rw [dif_pos h]
 refine wp_loop (λa w=>∃ s,T a w s) μ ⟨s0,h0,ha⟩ λa w hI=>?_;obtain ⟨s,hs,_,e⟩:=hμ a w hI;refine wp_mono (round s w hs.1 a hs.2) λx a' w' hx=>?_
 cases x with
 | normal =>
  obtain ⟨s',h1,h2,h3⟩:=hx;have hI' : ∃ s,T a' w' s:=⟨s',h1,h2⟩;obtain ⟨s2,hs2,hm2,e2⟩:=hμ a' w' hI';refine ⟨hI',?_⟩;rw [e,e2];exact bR (hm2 s' ⟨h1,h2⟩) h3
 | exit _=>exact hx
 | goto _=>exact hx
 | ret=>exact hx
 | panic _=>exact hx
 | outgrown=>exact hx
theorem gD {σ : Type} {m : σ -> Nat} {F : σ -> List (Nat × Value)} {R : σ -> World -> Prop} {s : σ} (s' : σ) (hs : Sub (F s') E) (hR : R s' w) (hm : m s' < m s) :
  kF (λa' w'=>∃ s',R s' w' /\ Fr N (F s') a' /\ m s' < m s) N E w:=λ_ ha=>⟨s',hR,ha.sub hs,hm⟩
end
section
variable {P : Program} {Q : Exit -> Act -> World -> Prop} {N : Nat} {E : List (Nat × Value)} {w : World} {id : Nat} {l : List Oper}
theorem c_q (hm : P.follows .mixedOrders = true) (hB : nE l.toArray l.length 0 0 = true) (hQ : ∀ c a d v w,Q (.panic c) (a.put d v) w -> Q (.panic c) a w)
  (h : bF P l.toArray (Up w) (λa'=>∀ w',Up w w' -> Q .normal a' w') l N E) : cF P (.region id l.toArray true) Q N E w:=λa ha=>yG hm hB hQ (h a ha)
theorem dB (h : bF P l.toArray (Up w) (λa'=>∀ w',Up w w' -> Q .normal a' w') l N E) : cF P (.region id l.toArray false) Q N E w:=λa ha=>Em (h a ha)
theorem c_t (n : Nat) (hn : n <= l.length) (hm : P.follows .mixedOrders = true) (hB : nE l.toArray n 0 (l.drop n).length = true) (hQ : ∀ c a d v w,Q (.panic c) (a.put d v) w -> Q (.panic c) a w)
  (h : bF P l.toArray (Up w) (λa'=>∀ w',Up w w' -> wpList P l.toArray Q (l.drop n) a' w') (l.take n) N E) : cF P (.region id l.toArray true) Q N E w:=λa ha =>
 yF n (Up w) hn hm hB (λ_ _ h k=>h.step k) (Up.drew w) hQ (h a ha)
theorem k8 (n : Nat) (h : bF P l.toArray (Up w) (λa'=>∀ w',Up w w' -> wpList P l.toArray Q (l.drop n) a' w') (l.take n) N E) : cF P (.region id l.toArray false) Q N E w:=λa ha=>Df n (h a ha)
theorem eQ (h : lF P l.toArray Q l N E w) : cF P (.region id l.toArray false) Q N E w:=λa ha=>wp_region_lit (h a ha)
end
section
variable {P : Program} {ops : Array Oper} {C0 : World -> Prop} {Q : Act -> Prop} {N : Nat} {E : List (Nat × Value)} {o : Oper} {rest : List Oper} {k : Nat}
theorem dM (v : Value) (hg : o.guard = none) (hd : o.dst = some k) (hk : aQ k N = true) (h : ∀ a,Fr N E a -> ∀ w,C0 w -> (execOp a.eval o).run P w = .ok (.value v) w) (hn : bF P ops C0 Q rest N ((k,v) :: E)) :
  bF P ops C0 Q (o :: rest) N E:=λa ha=>k5 (by simp [aL,hg]) (h a ha) (by rw [hd]; exact hn _ (ha.put hk v))
theorem aK {x : Operand} (v : Value) (hg : o.guard = none) (hd : o.dst = some k) (hk : aQ k N = true) (ho : o.op = .move x) (hx : ev E x = some v) (hn : bF P ops C0 Q rest N ((k,v) :: E)) : bF P ops C0 Q (o :: rest) N E :=
 dM v hg hd hk (λa ha w _=>by
  have h1:=ha.eval hx
  unfold execOp
  simp only [ho,h1,aI]) hn
theorem bU {x : Operand} (v : Value) (hg : o.guard = none) (hd : o.dst = some k) (hk : aQ k N = true) (ho : o.op = .assign x) (hx : ev E x = some v) (hn : bF P ops C0 Q rest N ((k,v) :: E)) : bF P ops C0 Q (o :: rest) N E :=
 dM v hg hd hk (λa ha w _=>by
  have h1:=ha.eval hx
  unfold execOp
  simp only [ho,h1,aI]) hn
end
theorem bI {P : Program} {ops : Array Oper} {Q : Exit -> Act -> World -> Prop} {N : Nat} {E : List (Nat × Value)} {w : World} (h : ∀ w',Up w w' -> kF (Q .normal) N E w') :
  bF P ops (Up w) (λa'=>∀ w',Up w w' -> Q .normal a' w') [] N E:=λa ha=>cL λw' hw'=>h w' hw' a ha
section
variable {ops : Array Oper} {C0 : World -> Prop} {Q : Act -> Prop} {N : Nat} {E : List (Nat × Value)} {o : Oper} {rest : List Oper} {k : Nat}
theorem dG {f : FuncId} {xs : Array Operand} {ats : Array TypeId} (args : Array Value) (v : Value) (hg : o.guard = none) (hd : o.dst = some k) (hk : aQ k N = true)
  (hf : Own f) (hc : ∀ w,C0 w -> Calls Tryd.prog f args w (λe w'=>e = .returned v /\ Below w.heap.size w w'))
  (ho : o.op = .call { callee:=.value (.func f),args:=xs,argTypes:=ats }) (hx : xs.toList.map (ev E) = args.toList.map some) (hn : bF Tryd.prog ops C0 Q rest N ((k,v) :: E)) : bF Tryd.prog ops C0 Q (o :: rest) N E:=λa ha=>by
 refine Pd (v:=v) (args:=args) (by simp [aL,hg]) hf hc ho ?_ (by rw [hd]; exact hn _ (ha.put hk v))
 have key : ∀ (l : List Operand) (m : List Value),l.map (ev E) = m.map some -> l.map a.eval = m:=by
  intro l
  induction l with
  | nil=>intro m h; cases m with
   | nil=>rfl
   | cons=>cases h
  | cons y l ih=>intro m h; cases m with
   | nil=>cases h
   | cons u m =>
    simp only [cH,List.cons.injEq] at h ⊢;exact ⟨ha.eval h.1,ih m h.2⟩
 exact key _ _ hx
theorem gW {x y : Operand} (m n r : Int) (hg : o.guard = none) (hd : o.dst = some k) (hk : aQ k N = true) (ho : o.op = .binOp .add 3 x y 3) (hx : ev E x = some (.int .i64 m)) (hy : ev E y = some (.int .i64 n))
  (hr : IntKind.i64.wrap (m + n) = r) (hn : bF Tryd.prog ops C0 Q rest N ((k,.int .i64 r) :: E)) : bF Tryd.prog ops C0 Q (o :: rest) N E :=
 dM _ hg hd hk (λa ha w _=>by
  have h1:=ha.eval hx;have h2:=ha.eval hy
  unfold execOp
  simp only [ho,h1,h2]
  go_simp) hn
theorem oS {x y : Operand} (m n r : Int) (hg : o.guard = none) (hd : o.dst = some k) (hk : aQ k N = true) (ho : o.op = .binOp .sub 3 x y 3) (hx : ev E x = some (.int .i64 m)) (hy : ev E y = some (.int .i64 n))
  (hr : IntKind.i64.wrap (m - n) = r) (hn : bF Tryd.prog ops C0 Q rest N ((k,.int .i64 r) :: E)) : bF Tryd.prog ops C0 Q (o :: rest) N E :=
 dM _ hg hd hk (λa ha w _=>by
  have h1:=ha.eval hx;have h2:=ha.eval hy
  unfold execOp
  simp only [ho,h1,h2]
  go_simp) hn
theorem Ae {x y : Operand} (m n r : Int) (hg : o.guard = none) (hd : o.dst = some k) (hk : aQ k N = true) (ho : o.op = .binOp .mul 3 x y 3) (hx : ev E x = some (.int .i64 m)) (hy : ev E y = some (.int .i64 n))
  (hr : IntKind.i64.wrap (m * n) = r) (hn : bF Tryd.prog ops C0 Q rest N ((k,.int .i64 r) :: E)) : bF Tryd.prog ops C0 Q (o :: rest) N E :=
 dM _ hg hd hk (λa ha w _=>by
  have h1:=ha.eval hx;have h2:=ha.eval hy
  unfold execOp
  simp only [ho,h1,h2]
  go_simp) hn
theorem fN {x y : Operand} {t : TypeId} (m n : Int) (q : Bool) (hg : o.guard = none) (hd : o.dst = some k) (hk : aQ k N = true) (ho : o.op = .binOp .lss 3 x y t) (hx : ev E x = some (.int .i64 m)) (hy : ev E y = some (.int .i64 n))
  (hr : decide (m < n) = q) (hn : bF Tryd.prog ops C0 Q rest N ((k,.bool q) :: E)) : bF Tryd.prog ops C0 Q (o :: rest) N E :=
 dM _ hg hd hk (λa ha w _=>by
  have h1:=ha.eval hx;have h2:=ha.eval hy;subst hr
  unfold execOp
  simp only [ho,h1,h2]
  go_simp) hn
theorem oT {x y : Operand} {t : TypeId} (m n r : Int) (hg : o.guard = none) (hd : o.dst = some k) (hk : aQ k N = true) (ho : o.op = .binOp .add 49 x y t) (hx : ev E x = some (.int .u64 m)) (hy : ev E y = some (.int .u64 n))
  (hr : IntKind.u64.wrap (m + n) = r) (hn : bF Tryd.prog ops C0 Q rest N ((k,.int .u64 r) :: E)) : bF Tryd.prog ops C0 Q (o :: rest) N E :=
 dM _ hg hd hk (λa ha w _=>by
  have h1:=ha.eval hx;have h2:=ha.eval hy
  unfold execOp
  simp only [ho,h1,h2]
  go_simp) hn
theorem OH {x y : Operand} {t : TypeId} (m n r : Int) (hg : o.guard = none) (hd : o.dst = some k) (hk : aQ k N = true) (ho : o.op = .binOp .mul 49 x y t) (hx : ev E x = some (.int .u64 m)) (hy : ev E y = some (.int .u64 n))
  (hr : IntKind.u64.wrap (m * n) = r) (hn : bF Tryd.prog ops C0 Q rest N ((k,.int .u64 r) :: E)) : bF Tryd.prog ops C0 Q (o :: rest) N E :=
 dM _ hg hd hk (λa ha w _=>by
  have h1:=ha.eval hx;have h2:=ha.eval hy
  unfold execOp
  simp only [ho,h1,h2]
  go_simp) hn
theorem Cp {x y : Operand} {t : TypeId} (m n r : Int) (hg : o.guard = none) (hd : o.dst = some k) (hk : aQ k N = true) (ho : o.op = .binOp .and 49 x y t) (hx : ev E x = some (.int .u64 m)) (hy : ev E y = some (.int .u64 n))
  (hr : bits .and .u64 m n = r) (hn : bF Tryd.prog ops C0 Q rest N ((k,.int .u64 r) :: E)) : bF Tryd.prog ops C0 Q (o :: rest) N E :=
 dM _ hg hd hk (λa ha w _=>by
  have h1:=ha.eval hx;have h2:=ha.eval hy
  unfold execOp
  simp only [ho,h1,h2]
  go_simp) hn
theorem OE {x y : Operand} {t : TypeId} (m n r : Int) (hg : o.guard = none) (hd : o.dst = some k) (hk : aQ k N = true) (ho : o.op = .binOp .or 49 x y t) (hx : ev E x = some (.int .u64 m)) (hy : ev E y = some (.int .u64 n))
  (hr : bits .or .u64 m n = r) (hn : bF Tryd.prog ops C0 Q rest N ((k,.int .u64 r) :: E)) : bF Tryd.prog ops C0 Q (o :: rest) N E :=
 dM _ hg hd hk (λa ha w _=>by
  have h1:=ha.eval hx;have h2:=ha.eval hy
  unfold execOp
  simp only [ho,h1,h2]
  go_simp) hn
theorem TG {x : Operand} {t : TypeId} (m r : Int) (hg : o.guard = none) (hd : o.dst = some k) (hk : aQ k N = true) (ho : o.op = .unOp .xor t x) (hx : ev E x = some (.int .u64 m))
  (hr : bits .xor .u64 (if IntKind.u64.signed = true then -1 else IntKind.u64.max) m = r) (hn : bF Tryd.prog ops C0 Q rest N ((k,.int .u64 r) :: E)) : bF Tryd.prog ops C0 Q (o :: rest) N E :=
 dM _ hg hd hk (λa ha w _=>by
  have h1:=ha.eval hx;subst hr
  unfold execOp
  simp only [ho,h1]
  go_simp) hn
theorem cX {x : Operand} {t : TypeId} (p : Addr) (v : Value) (ht : t = 49 \/ t = 40 \/ t = 5 \/ t = 3) (hg : o.guard = none) (hd : o.dst = some k) (hk : aQ k N = true) (ho : o.op = .load t x) (hx : ev E x = some (.pointer (some p)))
  (hc : ∀ w,C0 w -> w.cell? p = some v) (hn : bF Tryd.prog ops C0 Q rest N ((k,v) :: E)) : bF Tryd.prog ops C0 Q (o :: rest) N E :=
 dM _ hg hd hk (λa ha w hw=>by
  have h1:=ha.eval hx;have h2:=hc w hw
  unfold execOp
  simp only [ho,h1]
  rcases ht with rfl | rfl | rfl | rfl <;> go_simp) hn
end
inductive DX (ops : Array Oper) : Nat -> Nat -> Prop
  | edge {j i : Nat} {o : Oper} (hj : ops[j]? = some o) (h : kT .any o i = true) : DX ops j i
  | via {j m i : Nat} {o : Oper} (hj : ops[j]? = some o) (h : kT .any o m = true) (hm : DX ops m i) : DX ops j i
theorem qW {o : Oper} {i : Nat} (h : kT .any o i = true) : ∃ e ∈ o.after,eL .any e = true /\ e.on = i:=by
 unfold kT at h
 obtain ⟨e,he,hb⟩:=fB.1 h;simp only [aV,beq_iff_eq] at hb;exact ⟨e,he,hb.1,hb.2⟩
theorem jA.Mu {ops : Array Oper} {listed : Array Bool} (hc : jA .any ops listed) {j i : Nat} (h : DX ops j i) : ∀ o,ops[j]? = some o -> (∀ e ∈ o.after,eL .any e = true -> listed.getD e.on false = true) -> listed.getD i false = true:=by
 induction h with
 | edge hj h =>
  intro o ho hl
  obtain rfl:=eW (hj.symm.trans ho);obtain ⟨e,he,hb,rfl⟩:=qW h;exact hl e he hb
 | @via j m i o' hj h hm ih =>
  intro o ho hl
  obtain rfl:=eW (hj.symm.trans ho);obtain ⟨e,he,hb,rfl⟩:=qW h;have h1:=hl e he hb
  obtain ⟨om,hom⟩ : ∃ om,ops[e.on]? = some om:=by cases hm with
   | edge hj _=>exact ⟨_,hj⟩
   | via hj _ _=>exact ⟨_,hj⟩
  exact ih om hom (hc _ om hom h1)
def Dy (ms : List Nat) : List Edge -> Nat
  | []=>0
  | e :: l=>if eL .any e then (2 ^ e.on ||| ms.getD e.on 0) ||| Dy ms l else Dy ms l
def wE : List Oper -> List Nat -> List Nat
  | [],ms=>ms
  | o :: l,ms=>wE l (ms ++ [Dy ms o.after.toList])
theorem xG {ms : List Nat} {i : Nat} : ∀ {l : List Edge},(Dy ms l).testBit i = true -> ∃ e ∈ l,eL .any e = true /\ (e.on = i \/ ∃ b,ms[e.on]? = some b /\ b.testBit i = true)
 | [],h=>by simp [Dy] at h
 | e :: l,h=>by
  unfold Dy at h
  split at h
  ·rename_i hb
   rw [Nat.testBit_or,Nat.testBit_or] at h;simp only [fG] at h
   rcases h with (h | h) | h
   ·refine ⟨e,by simp,hb,.inl ?_⟩
    rw [Nat.testBit_two_pow] at h
    simpa using h
   ·refine ⟨e,by simp,hb,.inr ?_⟩
    rw [List.getD_eq_getElem?_getD] at h
    cases hm : ms[e.on]? with
    | none=>rw [hm] at h; simp at h
    | some b=>rw [hm] at h; exact ⟨b,rfl,h⟩
   ·obtain ⟨e',he,h'⟩:=xG h
    exact ⟨e',bE _ he,h'⟩
  ·obtain ⟨e',he,h'⟩:=xG h
   exact ⟨e',bE _ he,h'⟩
def OkM (ops : Array Oper) (ms : List Nat) : Prop:=∀ j b i : Nat,ms[j]? = some b -> b.testBit i = true -> DX ops j i
theorem Gt {ops : Array Oper} : ∀ (l : List Oper) (ms : List Nat),(∀ j,j < l.length -> l[j]? = ops[ms.length + j]?) -> OkM ops ms -> OkM ops (wE l ms)
 | [],_,_,h=>h
 | o :: l,ms,hl,h=>by
  unfold wE
  refine Gt l _ (λj hj=>?_) ?_
  ·have:=hl (j + 1) (by simpa using hj)
   simpa [dI,Nat.add_comm 1 j] using this
  ·intro j b i hj hb
   rw [List.getElem?_append] at hj
   split at hj
   ·exact h j b i hj hb
   ·rename_i hlt
    have h0 : j - ms.length = 0:=by
     by_cases e : j - ms.length = 0
     ·exact e
     ·exfalso
      obtain ⟨k,hk⟩ : ∃ k,j - ms.length = k + 1:=⟨j - ms.length - 1,by omega⟩;rw [hk] at hj
      simp at hj
    obtain rfl : j = ms.length:=by omega
    rw [h0] at hj;simp only [bX,bH] at hj;subst hj
    have ho : ops[ms.length]? = some o:=by simpa using (hl 0 (by simp)).symm
    obtain ⟨e,he,hbd,h5⟩:=xG hb
    have he' : e ∈ o.after:=by simpa using he
    have hed : kT .any o e.on = true:=by
     unfold kT
     exact fB.2 ⟨e,he',by simp [hbd]⟩
    rcases h5 with rfl | ⟨b,hb1,hb2⟩
    ·exact .edge ho hed
    ·exact .via ho hed (h _ b i hb1 hb2)
def yN (ops : Array Oper) (o : Oper) (k : Nat) : List Oper -> List Nat -> Bool
  | [],_=>true
  | _ :: _,[]=>false
  | x :: l,m :: ms=>(m.testBit k || (o.apart ops x && (oR x.op || !sT o.op))) && yN ops o k l ms
def AL (ops : Array Oper) : List Oper -> List Nat -> Nat -> Bool
  | [],_,_=>true
  | _ :: _,[],_=>false
  | o :: l,_ :: ms,k=>o.after.all (λe=>!Region.binds .any e || decide (e.on < k)) && yN ops o k l ms && AL ops l ms (k + 1)
def At (ops : Array Oper) (n m : Nat) : Bool :=
  s8 ops && AL ops (ops.toList.take n) (wE ops.toList []) 0 && (match (wE ops.toList [])[n]? with | none=>true | some b=>(sH n).all b.testBit) &&
    decide (ops.size = m + n) && kA .any ops m n (marks n 0 (bD ops.size false))
theorem Dt {ops : Array Oper} {o : Oper} {k : Nat} : ∀ {l : List Oper} {ms : List Nat},yN ops o k l ms = true -> ∀ (j : Nat) (x : Oper),l[j]? = some x -> ∃ m,ms[j]? = some m /\ (m.testBit k = true \/ (o.apart ops x = true /\ (oR x.op = true \/ sT o.op = false)))
 | [],_,_,j,x,hx=>by simp at hx
 | _ :: _,[],h,_,_,_=>by cases h
 | y :: l,m :: ms,h,0,x,hx=>by
  simp only [bX,bH] at hx;subst hx;simp only [yN,aV,fG,Bool.not_eq_true'] at h;exact ⟨m,rfl,h.1⟩
 | y :: l,m :: ms,h,j + 1,x,hx=>by
  simp only [yN,aV] at h;obtain ⟨m',h1,h2⟩:=Dt h.2 j x (by simpa using hx);exact ⟨m',by simpa using h1,h2⟩
theorem Ka {ops : Array Oper} : ∀ {l : List Oper} {ms : List Nat} {k : Nat},AL ops l ms k = true -> ∀ (i j : Nat) (x y : Oper),i < j -> l[i]? = some x -> l[j]? = some y -> ∃ m,ms[j]? = some m /\ (m.testBit (k + i) = true \/ (x.apart ops y = true /\ (oR y.op = true \/ sT x.op = false)))
 | [],_,_,_,i,_,x,_,_,hx,_=>by simp at hx
 | _ :: _,[],_,h,_,_,_,_,_,_,_=>by cases h
 | o :: l,m :: ms,k,h,0,0,x,y,hij,_,_=>absurd hij (by omega)
 | o :: l,m :: ms,k,h,0,j + 1,x,y,_,hx,hy=>by
  simp only [AL,aV] at h;simp only [bX,bH] at hx;subst hx;obtain ⟨m',h1,h2⟩:=Dt h.1.2 j y (by simpa using hy);exact ⟨m',by simpa using h1,h2⟩
 | o :: l,m :: ms,k,h,i + 1,0,x,y,hij,_,_=>absurd hij (by omega)
 | o :: l,m :: ms,k,h,i + 1,j + 1,x,y,hij,hx,hy=>by
  simp only [AL,aV] at h;obtain ⟨m',h1,h2⟩:=Ka h.2 i j x y (by omega) (by simpa using hx) (by simpa using hy);exact ⟨m',by simpa using h1,by rwa [show k + (i + 1) = k + 1 + i by omega]⟩
theorem Ce {ops : Array Oper} : ∀ {l : List Oper} {ms : List Nat} {k : Nat},AL ops l ms k = true -> ∀ (i : Nat) (x : Oper),l[i]? = some x -> ∀ e ∈ x.after,eL .any e = true -> e.on < k + i
 | [],_,_,_,i,x,hx=>by simp at hx
 | _ :: _,[],_,h,_,_,_=>by cases h
 | o :: l,m :: ms,k,h,0,x,hx=>λe he hb=>by
  simp only [AL,aV] at h;simp only [bX,bH] at hx;subst hx;have h5:=Array.all_eq_true'.1 h.1.1 e he
  simpa [hb] using h5
 | o :: l,m :: ms,k,h,i + 1,x,hx=>λe he hb=>by
  simp only [AL,aV] at h;have:=Ce h.2 i x (by simpa using hx) e he hb
  omega
structure Pq (ops : Array Oper) (n : Nat) (l : List (Nat × Oper)) (listed : Array Bool) : Prop where
  size : listed.size = ops.size
  mem : ∀ x ∈ l,ops[x.1]? = some x.2 /\ x.1 < n /\ listed.getD x.1 true = false
  out : ∀ j o,j < n -> ops[j]? = some o -> listed.getD j true = false -> (j,o) ∈ l
  tail : ∀ j,n <= j -> j < ops.size -> listed.getD j true = false
  sort : l.Pairwise λx y=>x.1 < y.1
  closed : jA .any ops listed
theorem getD_in {listed : Array Bool} {j : Nat} (h : j < listed.size) : listed.getD j true = listed.getD j false:=by
 simp only [cI];rw [dF h]
 rfl
theorem Pq.step {ops : Array Oper} {n i : Nat} {o : Oper} {l1 l2 : List (Nat × Oper)} {listed : Array Bool} (h : Pq ops n (l1 ++ (i,o) :: l2) listed) (hr : i ∈ bQ .any ops listed) : Pq ops n (l1 ++ l2) (listed.setIfInBounds i true):=by
 have hs:=h.sort;rw [List.pairwise_append,Bb] at hs;have hm:=h.mem (i,o) (by simp)
 have hil : i < listed.size:=by rw [h.size]; exact (cZ.1 hm.1).1
 refine ⟨by rw [Hv,h.size],λx hx=>?_,λj o' hj ho hl=>?_,λj hj hjs=>?_,?_,h.closed.set hr⟩
 ·have hne : i ≠ x.1:=by
   rcases l6.1 hx with h1 | h1
   ·have:=hs.2.2 x h1 (i,o) (by simp)
    dsimp only at this
    omega
   ·have:=hs.2.1.1 x h1
    dsimp only at this
    omega
  obtain ⟨h1,h2,h3⟩:=h.mem x (by
   rcases l6.1 hx with h1 | h1
   ·exact qH _ h1
   ·exact xR _ (bE _ h1))
  exact ⟨h1,h2,by rw [getD_set_ne true hne]; exact h3⟩
 ·by_cases e : i = j
  ·subst e
   simp [hil] at hl
  ·rw [getD_set_ne true e] at hl
   have h1:=h.out j o' hj ho hl
   rcases l6.1 h1 with h2 | h2
   ·exact qH _ h2
   ·rcases cA.1 h2 with h3 | h3
    ·injection h3 with h4 h5
     exact absurd h4.symm e
    ·exact xR _ h3
 ·rw [getD_set_ne true (by have:=hm.2.1; dsimp only at this; omega)]
  exact h.tail j hj hjs
 ·exact h.sort.sublist (List.Sublist.append (List.Sublist.refl _) (List.sublist_cons_self _ _))
def A7 (P : Program) (ops : Array Oper) (Q : Exit -> Act -> World -> Prop) (C0 : World -> Prop) (T : List Oper) (F : Facts) (a : Act) : Prop:=∀ w,C0 w -> (∀ k,F k w) -> wpList P ops Q T a w
theorem L1 {P : Program} {ops : Array Oper} {Q : Exit -> Act -> World -> Prop} {C0 : World -> Prop} {T : List Oper} : ∀ (F F' : Facts) (a : Act),(∀ k w,F' k w -> F k w) -> A7 P ops Q C0 T F a -> A7 P ops Q C0 T F' a :=
 λ_ _ _ h hh w hw hF=>hh w hw λk=>h k w (hF k)
section
variable {P : Program} {Rel : World -> World -> Prop} {ops : Array Oper} {Q : Exit -> Act -> World -> Prop} {C0 : World -> Prop}
theorem Qc (hcl : ∀ w w',C0 w -> Rel w w' -> C0 w') {n : Nat} {T : List Oper} (hB : At ops n T.length = true) (hT : ∀ j,j < T.length -> T[j]? = ops[n + j]?) :
  ∀ (N : Nat) (l : List (Nat × Oper)) (listed : Array Bool) (F : Facts) (a : Act) (w : World),l.length = N -> Pq ops n l listed -> uR Rel C0 F w -> Unl l F ->
   wpG P Rel ops C0 (A7 P ops Q C0 T) l F a -> wpAny P .any ops Q (T.length + N) listed a w:=by
 simp only [At,aV,decide_eq_true_eq] at hB;obtain ⟨⟨⟨⟨hsel,hh⟩,hsk⟩,hsz⟩,hf⟩:=hB;have hM : OkM ops (wE ops.toList []):=Gt ops.toList [] (λj _=>by simp) (λj b i hj=>by simp at hj)
 have htk : ∀ (j : Nat) (o : Oper),j < n -> ops[j]? = some o -> (ops.toList.take n)[j]? = some o:=λj o hj ho=>by
  rw [jN,if_pos hj]
  simpa using ho
 have hI : Inv ops n (marks n 0 (bD ops.size false)):=by
  have:=Inv.marks (listed:=#[]) n (Inv.start (ops:=ops))
  rwa [cW] at this
 intro N
 induction N with
 | zero =>
  intro l listed F a w hl hP hG hU h
  obtain rfl:=cQ hl
  have e : listed = marks n 0 (bD ops.size false):=by
   have hms : ∀ (k m : Nat) (x : Array Bool),(marks k m x).size = x.size:=by
    intro k
    induction k with
    | zero=>intro m x; rfl
    | succ k ih=>intro m x; rw [marks,ih,Hv]
   refine Array.ext (by rw [hms,hP.size,Array.size_replicate]) λj h1 h2=>?_
   have hj : j < ops.size:=by rw [<-hP.size]; exact h1
   have h3:=hI j hj;rw [dF h2] at h3
   injection h3 with h3
   rw [h3]
   have h4 : listed.getD j true = listed[j]:=by
    simp only [cI];rw [dF h1]
    rfl
   by_cases hjn : j < n
   ·rw [decide_eq_true hjn]
    cases hv : listed[j] with
    | true=>rfl
    | false =>
     have h5:=hP.out j ops[j] hjn (dF hj) (h4.trans hv)
     simp at h5
   ·rw [decide_eq_false hjn,<-h4]
    exact hP.tail j (by omega) hj
  exact jX T n listed a w hT (by rw [e]; exact hf) (h w hG.cls hG.all)
 | succ N ih =>
  intro l listed F a w hl hP hG hU h
  obtain ⟨x0,l0,rfl⟩ : ∃ x l',l = x :: l':=by cases l with
   | nil=>simp at hl
   | cons x l=>exact ⟨x,l,rfl⟩
  have hm0:=hP.mem x0 (by simp);have hs0:=Bb.1 hP.sort
  have hx0 : x0.1 ∈ bQ .any ops listed:=by
   refine mem_ready.2 ⟨hm0.2.2,x0.2,hm0.1,λe he hb=>?_⟩;have hlow:=Ce hh x0.1 x0.2 (htk _ _ hm0.2.1 hm0.1) e he hb;rw [cW] at hlow;have hes : e.on < ops.size:=Nat.lt_trans hlow (cZ.1 hm0.1).1
   cases hv : listed.getD e.on false with
   | true=>rfl
   | false =>
    rw [<-getD_in (by rw [hP.size]; exact hes)] at hv;have h5:=hP.out e.on ops[e.on] (by omega) (dF hes) hv
    rcases cA.1 h5 with h6 | h6
    ·rw [<-h6] at hlow
     exact absurd hlow (by simp)
    ·have:=hs0.1 _ h6
     dsimp only at this
     omega
  refine ⟨λh0=>(by rw [h0] at hx0; cases hx0),λi hi=>?_⟩;obtain ⟨hiu,o,hio,hall⟩:=mem_ready.1 hi;have his:=(cZ.1 hio).1
  have hin : i < n:=by
   by_cases hin : i < n
   ·exact hin
   ·exfalso
    have hr : i ∈ bQ .any ops (marks n 0 (bD ops.size false)):=mem_ready.2 ⟨hI.out his (by omega) true,o,hio,λe he hb=>by
     have h5:=hall e he hb
     have hes : e.on < ops.size:=by
      rcases Nat.lt_or_ge e.on listed.size with h6 | h6
      ·rw [<-hP.size]; exact h6
      ·simp [Array.getElem?_eq_none h6] at h5
     by_cases hen : e.on < n
     ·exact hI.in_ hes hen false
     ·have h6:=hP.tail e.on (by omega) hes
      rw [getD_in (by rw [hP.size]; exact hes),h5] at h6
      cases h6⟩
    have hw : DX ops i x0.1:=by
     cases hTl : T.length with
     | zero =>
      rw [hTl] at hf;simp only [kA,List.isEmpty_iff] at hf;rw [hf] at hr
      cases hr
     | succ m =>
      rw [hTl] at hf;simp only [kA,aV,decide_eq_true_eq] at hf;rw [hf.1,List.mem_singleton] at hr;subst hr
      cases hms : (wE ops.toList [])[i]? with
      | none =>
       exfalso
       have hlen : ∀ (l : List Oper) (ms : List Nat),(wE l ms).length = l.length + ms.length:=by
        intro l
        induction l with
        | nil=>intro ms; simp [wE]
        | cons o l ih=>intro ms; rw [wE,ih]; simp; omega
       rw [List.getElem?_eq_none_iff,hlen] at hms
       simp at hms
       omega
      | some b =>
       rw [hms] at hsk;simp only [cE,lK] at hsk;exact hM i b x0.1 hms (hsk x0.1 hm0.2.1)
    have h7:=hP.closed.Mu hw o hio hall;have h8:=nR hx0;rw [h7] at h8
    cases h8
  have hil : (i,o) ∈ x0 :: l0:=hP.out i o hin hio hiu;generalize x0 :: l0 = l at *;clear hm0 hs0 hx0;obtain ⟨l1,l2,rfl⟩:=List.append_of_mem hil;have hs:=hP.sort;have hs':=hs;rw [List.pairwise_append,Bb] at hs';have hnd : ((l1 ++ (i,o) :: l2).map (·.1)).Nodup:=List.Pairwise.map _ (λ_ _ h=>oW h) hs
  have hp : ∀ x ∈ l1,Pr ops x (i,o):=λx hx=>by
   have hlt:=hs'.2.2 x hx (i,o) (by simp)
   dsimp only at hlt
   have hm:=hP.mem x (qH _ hx);have hxu:=hm.2.2
   have hxs : x.1 < listed.size:=by rw [hP.size]; exact (cZ.1 hm.1).1
   rw [getD_in hxs] at hxu;obtain ⟨m,h1,h2⟩:=Ka hh x.1 i x.2 o hlt (htk _ _ hm.2.1 hm.1) (htk _ _ hin hio);rw [cW] at h2
   have h3 : x.2.apart ops o = true /\ (oR o.op = true \/ sT x.2.op = false):=by
    rcases h2 with h2 | h2
    ·have h7:=hP.closed.Mu (hM i m x.1 h1 h2) o hio hall
     rw [h7] at hxu
     cases hxu
    ·exact h2
   refine ⟨oW hlt,h3.1,λe he hb hon=>?_,λe he hb hon=>?_,h3.2,λcs b=>Ap hsel x.1 x.2 cs b hm.1,λcs b=>Ap hsel i o cs b hio⟩
   ·have h7:=hall e he hb
    rw [hon,hxu] at h7
    cases h7
   ·have h7:=Ce hh x.1 x.2 (htk _ _ hm.2.1 hm.1) e he hb
    dsimp only at hon
    omega
  have h9:=Oo hcl L1 (i,o) l2 l1 F a w hp hnd hG hU h;have hP':=hP.step hi
  have hU' : Unl (l1 ++ l2) F:=λx hx=>hU x (by
   rcases l6.1 hx with h1 | h1
   ·exact qH _ h1
   ·exact xR _ (bE _ h1))
  have hi' : i ∉ (l1 ++ l2).map (·.1):=λhmem=>by
   obtain ⟨x,hx,hxi⟩:=fV.1 hmem
   rcases l6.1 hx with h1 | h1
   ·have:=hs'.2.2 x h1 (i,o) (by simp)
    dsimp only at this hxi
    omega
   ·have:=hs'.2.1.1 x h1
    dsimp only at this hxi
    omega
  have hlen : (l1 ++ l2).length = N:=by
   simp only [List.length_append,bW] at hl ⊢
   omega
  unfold wpOp
  simp only [hio]
  unfold wpG at h9
  dsimp only at h9
  split
  ·rename_i hw
   rw [if_pos hw] at h9;obtain ⟨V,hpv,_,hy,hn⟩:=h9;refine .inl ?_;have h3:=hy w hG.cls (λe _ _=>hG.all e.on)
   have fin : ∀ u w',Rel w w' -> V u w' -> wpAny P .any ops Q (T.length + N) (listed.setIfInBounds i true) (a.put o.dst u) w':=λu w' hb hV=>by
    have hC:=hcl _ _ hG.cls hb;have hF : ∀ k,F k w':=λk=>hG.pers k _ _ (hG.all k) hb;exact ih (l1 ++ l2) _ _ _ w' hlen hP' (hG.up (hpv u) hC hF hV) (hU'.up hi') (hn u w' hC hF hV)
   unfold lR
   generalize (execOp a.eval o).run P w = r at *
   cases r with
   | ok n w' =>
    cases n <;> simp only [oX] at h3 <;> simp only [jR]
    case value u=>exact fin u w' h3.1 h3.2
    case skip=>exact fin _ w' h3.1 h3.2
    case enter f args =>
     obtain ⟨e1,hc⟩:=h3;rw [e1]
     exact hc.mono λe w'' ⟨v,he,hb,hV⟩=>by subst he; exact fin v w'' hb hV
   | halt x w'=>simp only [oX] at h3
  ·rename_i hw
   rw [if_neg hw] at h9;exact ih (l1 ++ l2) _ _ _ w hlen hP' (hG.up (λ_ _ _ _=>trivial) hG.cls hG.all trivial) (hU'.up hi') h9
theorem BF (hcl : ∀ w w',C0 w -> Rel w w' -> C0 w') {T : List Oper} : ∀ (l : List (Nat × Oper)) (F : Facts) (a : Act) (w : World),uR Rel C0 F w -> wpG P Rel ops C0 (A7 P ops Q C0 T) l F a -> wpList P ops Q (l.map (·.2) ++ T) a w
 | [],F,a,w,hG,h=>h w hG.cls hG.all
 | x :: l,F,a,w,hG,h=>by
  rw [cH,List.cons_append]
  unfold wpList
  unfold wpG at h
  split
  ·rename_i hw
   rw [if_pos hw] at h;obtain ⟨V,hpv,_,hy,hn⟩:=h;refine .inl ?_;have h3:=hy w hG.cls (λe _ _=>hG.all e.on)
   have fin : ∀ u w',Rel w w' -> V u w' -> wpList P ops Q (l.map (·.2) ++ T) (a.put x.2.dst u) w':=λu w' hb hV=>by
    have hC:=hcl _ _ hG.cls hb;have hF : ∀ k,F k w':=λk=>hG.pers k _ _ (hG.all k) hb;exact BF hcl l _ _ w' (hG.up (hpv u) hC hF hV) (hn u w' hC hF hV)
   unfold lR
   generalize (execOp a.eval x.2).run P w = r at *
   cases r with
   | ok n w' =>
    cases n <;> simp only [oX] at h3 <;> simp only [jR]
    case value u=>exact fin u w' h3.1 h3.2
    case skip=>exact fin _ w' h3.1 h3.2
    case enter f args =>
     obtain ⟨e1,hc⟩:=h3;rw [e1]
     exact hc.mono λe w'' ⟨v,he,hb,hV⟩=>by subst he; exact fin v w'' hb hV
   | halt x w'=>simp only [oX] at h3
  ·rename_i hw
   rw [if_neg hw] at h;exact BF hcl l _ _ w (hG.up (λ_ _ _ _=>trivial) hG.cls hG.all trivial) h
end
def idx : Nat -> List Oper -> List (Nat × Oper)
  | _,[]=>[]
  | k,o :: l=>(k,o) :: idx (k + 1) l
theorem J8 : ∀ (k : Nat) (l : List Oper),(idx k l).map (·.2) = l
 | _,[]=>rfl
 | k,o :: l=>by rw [idx,cH,J8]
theorem J9 : ∀ (k : Nat) (l : List Oper),(idx k l).length = l.length
 | _,[]=>rfl
 | k,o :: l=>by rw [idx,bW,J9,bW]
theorem EJ : ∀ {k : Nat} {l : List Oper} {x : Nat × Oper},x ∈ idx k l -> k <= x.1 /\ l[x.1 - k]? = some x.2
 | _,[],_,h=>by simp [idx] at h
 | k,o :: l,x,h=>by
  rcases cA.1 h with rfl | h
  ·exact ⟨aF _,by simp⟩
  ·obtain ⟨h1,h2⟩:=EJ h
   refine ⟨by omega,?_⟩;rw [show x.1 - k = x.1 - (k + 1) + 1 by omega]
   simpa using h2
theorem JZ : ∀ {k : Nat} {l : List Oper} {j : Nat} {o : Oper},l[j]? = some o -> (k + j,o) ∈ idx k l
 | _,[],_,_,h=>by simp at h
 | k,x :: l,0,o,h=>by
  simp only [bX,bH] at h;subst h;exact bZ
 | k,x :: l,j + 1,o,h=>by
  have h1:=JZ (k:=k + 1) (l:=l) (j:=j) (o:=o) (by simpa using h);rw [show k + (j + 1) = k + 1 + j by omega];exact bE _ h1
theorem GL : ∀ (k : Nat) (l : List Oper),(idx k l).Pairwise λx y=>x.1 < y.1
 | _,[]=>List.Pairwise.nil
 | k,o :: l=>List.Pairwise.cons (λx hx=>by have:=(EJ hx).1; dsimp only; omega) (GL (k + 1) l)
abbrev Told:=List (Nat × (World -> Prop))
def DB : Told -> Nat -> Option (World -> Prop)
  | [],_=>none
  | (k,p) :: r,j=>match g7 k j with
    | true=>some p
    | false=>DB r j
def rW (i : Nat) (Fa : Told) : Bool:=Fa.all λx=>!Nat.beq x.1 i
def E6 (Fa : Told) (F : Facts) : Prop:=∀ x ∈ Fa,∀ w,F x.1 w -> x.2 w
theorem vK : ∀ {Fa : Told} {j : Nat} {p : World -> Prop},DB Fa j = some p -> (j,p) ∈ Fa
 | [],_,_,h=>by cases h
 | (k,q) :: r,j,p,h=>by
  unfold DB at h
  split at h
  ·rename_i e
   obtain rfl:=bL e
   cases h
   exact bZ
  ·exact bE _ (vK h)
theorem E6.up {Fa : Told} {F : Facts} {i : Nat} {p : World -> Prop} (h : E6 Fa F) (hf : rW i Fa = true) : E6 Fa (upF F i p):=λx hx w hw=>by
 have h1:=cE.1 hf x hx
 have e : x.1 ≠ i:=by
  rintro rfl
  simp at h1
 rw [iW e] at hw;exact h x hx w hw
theorem E6.more {Fa : Told} {F : Facts} {i : Nat} {p : World -> Prop} (h : E6 Fa F) (hf : rW i Fa = true) : E6 ((i,p) :: Fa) (upF F i p):=λx hx w hw=>by
 rcases cA.1 hx with rfl | hx
 ·rwa [iQ] at hw
 ·exact h.up hf x hx w hw
def gF (P : Program) (Rel : World -> World -> Prop) (ops : Array Oper) (C0 : World -> Prop) (Q : Facts -> Act -> Prop) (l : List (Nat × Oper)) (N : Nat) (E : List (Nat × Value)) (Fa : Told) : Prop :=
  ∀ a F,Fr N E a -> E6 Fa F -> wpG P Rel ops C0 Q l F a
def Uses (o : Oper) (Fa : Told) (w : World) : Prop:=∀ j p,DB Fa j = some p -> kT .any o j = true -> p w
section
variable {P : Program} {Rel : World -> World -> Prop} {C0 : World -> Prop} {Q : Exit -> Act -> World -> Prop} {N : Nat} {E : List (Nat × Value)} {w : World} {id : Nat} {l : List Oper}
theorem Vt (n : Nat) (hcl : ∀ w w',C0 w -> Rel w w' -> C0 w') (h0 : C0 w.drew) (hn : n <= l.length) (hm : P.follows .mixedOrders = true) (hB : At l.toArray n (l.drop n).length = true)
  (h : gF P Rel l.toArray C0 (A7 P l.toArray Q C0 (l.drop n)) (idx 0 (l.take n)) N E []) : cF P (.region id l.toArray true) Q N E w:=λa ha=>by
 refine wp_region_any hm ?_
 have hL : (l.take n).length = n:=by rw [aZ]; omega
 have hG : uR Rel C0 (λ_ _=>True) w.drew:=⟨λ_ _ _ _ _=>trivial,h0,λ_=>trivial⟩
 have hP : Pq l.toArray n (idx 0 (l.take n)) (bD l.toArray.size false):=by
  refine ⟨by simp,λx hx=>?_,λj o hj ho _=>?_,λj _ hj=>by
   have hj' : j < l.length:=by simpa using hj
   simp [hj'],GL _ _,jA.none _⟩
  ·obtain ⟨_,h2⟩:=EJ hx
   rw [Nat.sub_zero,jN] at h2
   split at h2
   ·rename_i hlt
    have h3 : x.1 < l.length:=(hH.1 h2).1;exact ⟨by simpa using h2,hlt,by simp [h3]⟩
   ·cases h2
  ·have h1:=JZ (k:=0) (l:=l.take n) (j:=j) (o:=o) (by rw [jN,if_pos hj]; simpa using ho)
   rwa [cW] at h1
 have h2:=Qc (Q:=Q) hcl hB (λj _=>by simp) n (idx 0 (l.take n)) _ _ a w.drew (by rw [J9,hL]) hP hG (λ_ _ _=>trivial) (h a _ ha (λx hx=>by cases hx))
 have e : (l.drop n).length + n = l.toArray.size:=by simp; omega
 rw [e] at h2;exact h2
theorem Vs (n : Nat) (hcl : ∀ w w',C0 w -> Rel w w' -> C0 w') (h0 : C0 w) (h : gF P Rel l.toArray C0 (A7 P l.toArray Q C0 (l.drop n)) (idx 0 (l.take n)) N E []) : cF P (.region id l.toArray false) Q N E w:=λa ha=>by
 refine wp_region_lit ?_;have hG : uR Rel C0 (λ_ _=>True) w:=⟨λ_ _ _ _ _=>trivial,h0,λ_=>trivial⟩;have h2:=BF (Q:=Q) hcl (idx 0 (l.take n)) _ a w hG (h a _ ha (λx hx=>by cases hx));rw [J8,List.take_append_drop] at h2;exact h2
end
section
variable {P : Program} {Q : Exit -> Act -> World -> Prop} {N : Nat} {E : List (Nat × Value)} {w : World} {id : Nat} {l : List Oper}
theorem c_g (n : Nat) (hn : n <= l.length) (hm : P.follows .mixedOrders = true) (hB : At l.toArray n (l.drop n).length = true)
  (h : gF P Bel l.toArray (Up w) (A7 P l.toArray Q (Up w) (l.drop n)) (idx 0 (l.take n)) N E []) : cF P (.region id l.toArray true) Q N E w:=Vt (Rel:=Bel) (C0:=Up w) n (λ_ _ h k=>Up.step h k) (Up.drew w) hn hm hB h
theorem xP (n : Nat) (h : gF P Bel l.toArray (Up w) (A7 P l.toArray Q (Up w) (l.drop n)) (idx 0 (l.take n)) N E []) : cF P (.region id l.toArray false) Q N E w:=Vs (Rel:=Bel) (C0:=Up w) n (λ_ _ h k=>Up.step h k) (Up.refl w) h
end
section
variable {P : Program} {Rel : World -> World -> Prop} {ops : Array Oper} {C0 : World -> Prop} {Q : Facts -> Act -> Prop} {N : Nat} {E : List (Nat × Value)} {Fa : Told} {o : Oper} {rest : List (Nat × Oper)} {i k : Nat}
theorem Kf (V : Value -> World -> Prop) (hg : o.guard = none) (hd : o.dst = some k) (hk : aQ k N = true) (hf : rW i Fa = true) (hm : sT o.op = true) (hp : ∀ v,Ho Rel (V v))
  (h : ∀ a,Fr N E a -> ∀ w,C0 w -> Uses o Fa w -> oX P Rel w V ((execOp a.eval o).run P w)) (hn : ∀ v w,C0 w -> V v w -> gF P Rel ops C0 Q rest N ((k,v) :: E) ((i,V v) :: Fa)) : gF P Rel ops C0 Q ((i,o) :: rest) N E Fa:=λa F ha hF=>by
 unfold wpG
 rw [if_pos (by simp [aL,hg])];refine ⟨V,hp,.inr hm,λw hw he=>h a ha w hw λj p hj hed=>?_,λv w hw _ hV=>hn v w hw hV _ _ (by dsimp only; rw [hd]; exact ha.put hk v) (hF.more hf)⟩;obtain ⟨e,h1,h2,rfl⟩:=qW hed;exact hF _ (vK hj) w (he e h1 h2)
theorem cU [hR : KH Rel] (hf : rW i Fa = true) (h : bF P ops (λw=>C0 w /\ Uses o Fa w) (λa'=>∀ F,E6 Fa F -> wpG P Rel ops C0 Q rest F a') [o] N E) : gF P Rel ops C0 Q ((i,o) :: rest) N E Fa:=λa F ha hF=>by
 have h1:=h a ha
 unfold wpB at h1
 unfold wpG
 split
 ·rename_i hw
  rw [if_pos hw] at h1
  have huse : ∀ w,(∀ e ∈ o.after,eL .any e = true -> F e.on w) -> Uses o Fa w:=λw he j p hj hed=>by
   obtain ⟨e,h1,h2,rfl⟩:=qW hed;exact hF _ (vK hj) w (he e h1 h2)
  have hup : ∀ (V : Value -> Prop) (w : World) (r : Result Next),oY P w V r -> oX P Rel w (λu _=>V u) r:=λV w r hr=>by
   cases r with
   | ok n w' =>
    cases n <;> simp only [oY] at hr <;> simp only [oX]
    case value u=>obtain ⟨rfl,h⟩:=hr; exact ⟨hR.below _ _ (Below.refl _ _),h⟩
    case skip=>obtain ⟨rfl,h⟩:=hr; exact ⟨hR.below _ _ (Below.refl _ _),h⟩
    case enter f args =>
     obtain ⟨rfl,h⟩:=hr;exact ⟨rfl,h.mono λe w'' ⟨v,h1,h2,h3⟩=>⟨v,h1,hR.below _ _ h3,h2⟩⟩
   | halt x w'=>simp only [oY] at hr
  rcases h1 with ⟨v,h2,h3⟩ | ⟨hp,V,h2,h3⟩
  ·exact ⟨λu _=>u = v,λ_ _ _ h _=>h,.inl ⟨v,λ_ _ h=>h⟩,λw hw he=>hup (· = v) _ _ (h2 w ⟨hw,huse w he⟩),λu w _ _ hu=>by
    rw [hu]
    exact h3 _ (hF.up hf)⟩
  ·refine ⟨λu _=>V u,λ_ _ _ h _=>h,.inr ?_,λw hw he=>hup V _ _ (h2 w ⟨hw,huse w he⟩),λu w _ _ hu=>h3 u hu _ (hF.up hf)⟩
   unfold sT
   split <;> first | rfl | exact hp
 ·rename_i hw
  rw [if_neg hw] at h1;exact h1 _ (hF.up hf)
theorem cV (h : gF P Rel ops C0 Q rest N E Fa) : bF P ops (λw=>C0 w /\ Uses o Fa w) (λa'=>∀ F,E6 Fa F -> wpG P Rel ops C0 Q rest F a') [] N E:=λa ha=>cL λF hF=>h a F ha hF
theorem jC {Q : Exit -> Act -> World -> Prop} {T : List Oper} (h : ∀ w,C0 w -> (∀ j p,DB Fa j = some p -> p w) -> lF P ops Q T N E w) : gF P Rel ops C0 (A7 P ops Q C0 T) [] N E Fa:=λa _ ha hF w hw hFw =>
 h w hw (λj _ hj=>hF _ (vK hj) w (hFw j)) a ha
end
def Us (l : List Nat) : List Value:=l.map λx : Nat=>.int .u64 (x : Int)
theorem cY (l : List Nat) : (Us l).length = l.length:=by simp [Us]
theorem cJ (l : List Nat) : ∀ u ∈ Us l,u.oneCell' = true:=by
 intro u hu
 obtain ⟨x,_,rfl⟩:=fV.1 hu
 rfl
theorem iE {l : List Nat} {j : Nat} (h : j < l.length) : (Us l).toArray[j]? = some (.int .u64 (l[j]! : Nat)):=by
 simp [Us,h]
theorem uP (l : List Nat) (k x : Nat) : (Us l).toArray.setIfInBounds k (.int .u64 (x : Int)) = (Us (l.set k x)).toArray:=by
 simp [Us,List.map_set]
theorem Dx (a : Nat) (ha : a < 18446744073709551616) : bits .and .u64 (a : Int) 2251799813685247 = ((a % 2251799813685248 : Nat) : Int):=by
 have h:=u64_and_nat a 2251799813685247 ha (by omega);have e : a &&& 2251799813685247 = a % 2251799813685248:=DY a 51;rw [e] at h;exact h
theorem orW (i x y : Nat) (hx : x % 2 ^ i = 0) (hy : y < 2 ^ i) (h1 : x < 18446744073709551616) (h2 : y < 18446744073709551616) : bits .or .u64 (x : Int) (y : Int) = ((x + y : Nat) : Int):=by
 rw [u64_or_nat x y h1 h2,nat_join i x y hx hy]
theorem ED (a : Nat) (ha : a < 18446744073709551616) : bits .and .u64 (a : Int) 4294967295 = ((a % 4294967296 : Nat) : Int):=by
 have h:=u64_and_nat a 4294967295 ha (by omega);have e : a &&& 4294967295 = a % 4294967296:=DY a 32;rw [e] at h;exact h
theorem OR (a : Nat) : (a : Int) / 4294967296 = ((a / 4294967296 : Nat) : Int):=by omega
theorem Vf (a : Nat) : (a : Int) / 2251799813685248 = ((a / 2251799813685248 : Nat) : Int):=by omega
theorem VO (a b : Nat) : (a : Int) * (b : Int) = ((a * b : Nat) : Int):=(Int.natCast_mul a b).symm
theorem V3 (a b : Nat) : (a : Int) + (b : Int) = ((a + b : Nat) : Int):=(Int.natCast_add a b).symm
theorem rJ (a : Nat) (ha : a < 18446744073709551616) : IntKind.u64.wrap (a : Int) = (a : Int):=by rw [aP]; omega
theorem Ui (a : Nat) : IntKind.u64.wrap (a : Int) = ((a % 18446744073709551616 : Nat) : Int):=by rw [aP]; omega
def FA : Array Value -> Sem Value:=λargs=>do
  let (x,y,b) <-Extern.MathBitsCarry.three "Sub64" args
  pure (Extern.MathBitsCarry.pair ((x + xT - y - b) % xT) (if x < y + b then 1 else 0))
theorem P5 {P : Program} (x y b : Nat) (hb : b <= 1) (w : World) :
  (FA #[.int .u64 x,.int .u64 y,.int .u64 b]).run P w =
   .ok (.tuple #[.int .u64 (((x + 18446744073709551616 - y - b) % 18446744073709551616 : Nat) : Int),.int .u64 ((if x < y + b then 1 else 0 : Nat) : Int)]) w:=by
 have : b = 0 \/ b = 1:=by omega
 rcases this with rfl | rfl <;> rfl
def fb (l : List UInt8) (n : Nat) : List UInt8:=(sH 32).map λm=>if m < n then l[m]! else 0
theorem IX (l : List UInt8) (n : Nat) : (fb l n).length = 32:=by simp [fb]
theorem ER (l : List UInt8) : fb l 0 = List.replicate 32 0:=by
 apply eE (by simp [fb])
 intro i h1 h2
 rw [List.getElem_replicate]
 simp [fb]
theorem IY {l : List UInt8} (h : l.length = 32) : fb l 32 = l:=by
 apply eE (by simp [fb,h])
 intro i h1 h2
 have h3 : i < 32:=by simpa [fb] using h1
 simp [fb,h3,h2]
theorem IW (l : List UInt8) {n : Nat} : (fb l n).set n l[n]! = fb l (n + 1):=by
 apply eE (by simp [fb])
 intro j h1 h2
 rw [List.getElem_set];simp only [fb,List.getElem_map,List.getElem_range]
 by_cases hjk : n = j
 ·subst hjk
  simp
 ·rw [if_neg hjk]
  by_cases hlt : j < n
  ·rw [if_pos hlt,if_pos (by omega)]
  ·rw [if_neg hlt,if_neg (by omega)]
def wd (L k : Nat) : Nat:=L / 18446744073709551616 ^ k % 18446744073709551616
theorem Js (L k j : Nat) (hj : j < 8) : wd L k / 2 ^ (8 * j) % 256 = L / 256 ^ (8 * k + j) % 256:=by
 have e1 : (256 : Nat) ^ (8 * k + j) = 18446744073709551616 ^ k * 256 ^ j:=by
  rw [Nat.pow_add,wP]
 have e2 : (2 : Nat) ^ (8 * j) = 256 ^ j:=by rw [wP]
 rw [e1,e2,<-Nat.div_div_eq_div_mul]
 unfold wd
 generalize L / 18446744073709551616 ^ k = z
 have h8 : j = 0 \/ j = 1 \/ j = 2 \/ j = 3 \/ j = 4 \/ j = 5 \/ j = 6 \/ j = 7:=by omega
 rcases h8 with rfl | rfl | rfl | rfl | rfl | rfl | rfl | rfl <;> simp only [Nat.reducePow] <;> omega
structure VL (w : World) (g : Nat) (l : List Value) : Prop where
  lt : g < w.heap.size
  cell : ∀ j v,l[j]? = some v -> w.cell? ⟨g,j,none⟩ = some v
  free : ∀ j,j < l.length -> w.frozen? ⟨g,j,none⟩ = false
section
variable {w w' : World} {g B : Nat} {l : List Value}
theorem VL.below (h : VL w g l) (hb : Below B w w') (hg : g < B) : VL w' g l :=
 ⟨Nat.lt_of_lt_of_le h.lt hb.size,λj v hj=>(hb.cell (p:=⟨g,j,none⟩) hg).trans (h.cell j v hj),λj hj=>(hb.frozen (p:=⟨g,j,none⟩) hg).trans (h.free j hj)⟩
theorem VL.up (h : VL w g l) (hb : Up w w') : VL w' g l:=h.below hb h.lt
theorem VL.set (h : VL w g l) (k : Nat) (x : Value) : VL (w.setCell ⟨g,k,none⟩ x) g (l.set k x):=by
 refine ⟨by simpa [World.setCell] using h.lt,λj v hj=>?_,λj hj=>?_⟩
 ·rw [List.getElem?_set] at hj
  by_cases e : k = j
  ·subst e
   rw [if_pos rfl] at hj
   split at hj
   ·rename_i hk
    cases hj
    exact World.cell?_setCell_same _ _ _ (h.cell k l[k] (bC hk))
   ·cases hj
  ·rw [if_neg e] at hj
   rw [Hq _ _ _ _ (by intro he; injection he with _ he _; omega),h.cell j v hj]
 ·rw [List.length_set] at hj
  rw [Md];exact h.free j hj
theorem VL.far (h : VL w g l) {p : Addr} (hp : g ≠ p.block) (u : Value) : VL (w.setCell p u) g l :=
 ⟨by simpa [World.setCell] using h.lt,λj v hj=>by rw [Hq _ _ _ _ (λe=>hp (by rw [e]))]; exact h.cell j v hj,λj hj=>by rw [Md]; exact h.free j hj⟩
end
theorem Ub {l : List Nat} {j : Nat} (h : j < l.length) : (Us l)[j]? = some (.int .u64 (l[j]! : Nat)):=by
 simp [Us,h]
theorem Ji (l : List Nat) (k x : Nat) : (Us l).set k (.int .u64 (x : Int)) = Us (l.set k x):=by
 simp [Us,List.map_set]
theorem PD {l : List UInt8} {j : Nat} (h : j < l.length) : (By l)[j]? = some (.int .u8 ((l[j]!).toNat : Int)):=by
 have h1:=fU h
 simpa using h1
theorem VL.byte {w : World} {g : Nat} {l : List UInt8} (h : VL w g (By l)) {j : Nat} (hj : j < l.length) : w.cell? ⟨g,j,none⟩ = some (.int .u8 ((l[j]!).toNat : Int)):=h.cell j _ (PD hj)
theorem VL.word {w : World} {g : Nat} {l : List Nat} (h : VL w g (Us l)) {j : Nat} (hj : j < l.length) : w.cell? ⟨g,j,none⟩ = some (.int .u64 (l[j]! : Nat)):=h.cell j _ (Ub hj)
section
variable {ops : Array Oper} {Q : Exit -> Act -> World -> Prop} {N : Nat} {E : List (Nat × Value)} {w : World}
theorem mA {os : Oper} {px x : Operand} {t : TypeId} {K : IntKind} (p : Addr) (v : Int) (old : Value) (ht : (t = 49 /\ K = .u64) \/ (t = 5 /\ K = .u8)) (hg : os.guard = none) (hd : os.dst = none) (ho : os.op = .store t px x) (hp : ev E px = some (.pointer (some p))) (hx : ev E x = some (.int K v))
  (hc : w.cell? p = some old) (hf : w.frozen? p = false) (hlt : p.block < w.heap.size) (h : ∀ w',Up w w' -> kF (Q .normal) N E (w'.setCell p (.int K v))) :
  bF Tryd.prog ops (Up w) (λa'=>∀ w',Up w w' -> wpList Tryd.prog ops Q [os] a' w') [] N E:=λa ha=>cL λw' hw'=>by
 have h1:=ha.eval hp;have h2:=ha.eval hx;have h3 : w'.cell? p = some old:=(hw'.cell hlt).trans hc;have h4 : w'.frozen? p = false:=(hw'.frozen hlt).trans hf;have h5:=h w' hw' a ha
 unfold wpList
 rw [if_pos (by simp [aL,hg])];refine .inl ?_
 unfold lR execOp
 simp only [ho,h1,h2]
 have key : (Instr.storeAt t (.pointer (some p)) (.int K v)).run Tryd.prog w' = .ok () (w'.setCell p (.int K v)):=by
  rcases ht with ⟨rfl,rfl⟩ | ⟨rfl,rfl⟩ <;> go_simp
 simp only [Sem.run_bind,key,Result.andThen_ok,aI,jR,hd];exact h5
end
section
variable {ops : Array Oper} {C0 : World -> Prop} {Q : Act -> Prop} {N : Nat} {E : List (Nat × Value)} {o : Oper} {rest : List Oper} {k : Nat}
theorem Oz {x y : Operand} {t : TypeId} (m n r : Int) (hg : o.guard = none) (hd : o.dst = some k) (hk : aQ k N = true) (ho : o.op = .binOp .sub 40 x y t) (hx : ev E x = some (.int .u64 m)) (hy : ev E y = some (.int .u64 n))
  (hr : IntKind.u64.wrap (m - n) = r) (hn : bF Tryd.prog ops C0 Q rest N ((k,.int .u64 r) :: E)) : bF Tryd.prog ops C0 Q (o :: rest) N E :=
 dM _ hg hd hk (λa ha w _=>by
  have h1:=ha.eval hx;have h2:=ha.eval hy
  unfold execOp
  simp only [ho,h1,h2]
  go_simp) hn
theorem IZ {x y : Operand} {t : TypeId} (m : Int) (n : Nat) (r : Int) (h64 : n <= 64) (hg : o.guard = none) (hd : o.dst = some k) (hk : aQ k N = true) (ho : o.op = .binOp .shr 49 x y t) (hx : ev E x = some (.int .u64 m)) (hy : ev E y = some (.int .u64 (n : Int)))
  (hr : m / 2 ^ n = r) (hn : bF Tryd.prog ops C0 Q rest N ((k,.int .u64 r) :: E)) : bF Tryd.prog ops C0 Q (o :: rest) N E :=
 dM _ hg hd hk (λa ha w _=>by
  have h1:=ha.eval hx;have h2:=ha.eval hy
  have h3 : (n : Int) <= 64:=by omega
  unfold execOp
  simp only [ho,h1,h2]
  go_simp) hn
end
theorem VL.new (w : World) (l : List Value) (t : TypeId) : VL (w.alloc (.cells l.toArray t)) w.heap.size l:=by
 have hb:=Blk.new w t l.toArray;exact ⟨by rw [aW]; omega,λj v hj=>by rw [hb.cell j]; simpa using hj,λj _=>hb.free j⟩
section
variable {ops : Array Oper} {C0 : World -> Prop} {Q : Act -> Prop} {N : Nat} {E : List (Nat × Value)} {o : Oper} {rest : List Oper} {k : Nat}
theorem Q4 {x : Operand} (m r : Int) (hg : o.guard = none) (hd : o.dst = some k) (hk : aQ k N = true) (ho : o.op = .convert 5 49 x) (hx : ev E x = some (.int .u8 m))
  (hr : IntKind.u64.wrap m = r) (hn : bF Tryd.prog ops C0 Q rest N ((k,.int .u64 r) :: E)) : bF Tryd.prog ops C0 Q (o :: rest) N E :=
 dM _ hg hd hk (λa ha w _=>by
  have h1:=ha.eval hx
  unfold execOp
  simp only [ho,h1]
  go_simp) hn
theorem Ko {x : Operand} (m r : Int) (hg : o.guard = none) (hd : o.dst = some k) (hk : aQ k N = true) (ho : o.op = .convert 49 5 x) (hx : ev E x = some (.int .u64 m))
  (hr : IntKind.u8.wrap m = r) (hn : bF Tryd.prog ops C0 Q rest N ((k,.int .u8 r) :: E)) : bF Tryd.prog ops C0 Q (o :: rest) N E :=
 dM _ hg hd hk (λa ha w _=>by
  have h1:=ha.eval hx
  unfold execOp
  simp only [ho,h1]
  go_simp) hn
theorem Q5 {x : Operand} (m r : Int) (hg : o.guard = none) (hd : o.dst = some k) (hk : aQ k N = true) (ho : o.op = .convert 3 40 x) (hx : ev E x = some (.int .i64 m))
  (hr : IntKind.u64.wrap m = r) (hn : bF Tryd.prog ops C0 Q rest N ((k,.int .u64 r) :: E)) : bF Tryd.prog ops C0 Q (o :: rest) N E :=
 dM _ hg hd hk (λa ha w _=>by
  have h1:=ha.eval hx
  unfold execOp
  simp only [ho,h1]
  go_simp) hn
theorem Q3 {x : Operand} (m r : Int) (hg : o.guard = none) (hd : o.dst = some k) (hk : aQ k N = true) (ho : o.op = .convert 3 49 x) (hx : ev E x = some (.int .i64 m))
  (hr : IntKind.u64.wrap m = r) (hn : bF Tryd.prog ops C0 Q rest N ((k,.int .u64 r) :: E)) : bF Tryd.prog ops C0 Q (o :: rest) N E :=
 dM _ hg hd hk (λa ha w _=>by
  have h1:=ha.eval hx
  unfold execOp
  simp only [ho,h1]
  go_simp) hn
theorem Af {x y : Operand} {t : TypeId} (m n : Int) (q : Bool) (hg : o.guard = none) (hd : o.dst = some k) (hk : aQ k N = true) (ho : o.op = .binOp .geq 3 x y t) (hx : ev E x = some (.int .i64 m)) (hy : ev E y = some (.int .i64 n))
  (hr : decide (n <= m) = q) (hn : bF Tryd.prog ops C0 Q rest N ((k,.bool q) :: E)) : bF Tryd.prog ops C0 Q (o :: rest) N E :=
 dM _ hg hd hk (λa ha w _=>by
  have h1:=ha.eval hx;have h2:=ha.eval hy;subst hr
  unfold execOp
  simp only [ho,h1,h2]
  go_simp) hn
theorem OG {x y : Operand} {t : TypeId} (m n : Int) (q : Bool) (hg : o.guard = none) (hd : o.dst = some k) (hk : aQ k N = true) (ho : o.op = .binOp .neq 3 x y t) (hx : ev E x = some (.int .i64 m)) (hy : ev E y = some (.int .i64 n))
  (hr : decide (m ≠ n) = q) (hn : bF Tryd.prog ops C0 Q rest N ((k,.bool q) :: E)) : bF Tryd.prog ops C0 Q (o :: rest) N E :=
 dM _ hg hd hk (λa ha w _=>by
  have h1:=ha.eval hx;have h2:=ha.eval hy;subst hr
  unfold execOp
  simp only [ho,h1,h2]
  by_cases e : m = n <;> go_simp) hn
theorem OD {x y : Operand} {t : TypeId} (m n r : Int) (hz : n ≠ 0) (hg : o.guard = none) (hd : o.dst = some k) (hk : aQ k N = true) (ho : o.op = .binOp .rem 3 x y t) (hx : ev E x = some (.int .i64 m)) (hy : ev E y = some (.int .i64 n))
  (hr : m.tmod n = r) (hn : bF Tryd.prog ops C0 Q rest N ((k,.int .i64 r) :: E)) : bF Tryd.prog ops C0 Q (o :: rest) N E :=
 dM _ hg hd hk (λa ha w _=>by
  have h1:=ha.eval hx;have h2:=ha.eval hy;subst hr
  unfold execOp
  simp only [ho,h1,h2]
  go_simp) hn
theorem Tz {x y : Operand} {t : TypeId} (m n r : Int) (hz : n ≠ 0) (hg : o.guard = none) (hd : o.dst = some k) (hk : aQ k N = true) (ho : o.op = .binOp .rem 49 x y t) (hx : ev E x = some (.int .u64 m)) (hy : ev E y = some (.int .u64 n))
  (hr : m.tmod n = r) (hn : bF Tryd.prog ops C0 Q rest N ((k,.int .u64 r) :: E)) : bF Tryd.prog ops C0 Q (o :: rest) N E :=
 dM _ hg hd hk (λa ha w _=>by
  have h1:=ha.eval hx;have h2:=ha.eval hy;subst hr
  unfold execOp
  simp only [ho,h1,h2]
  go_simp) hn
theorem TB {x y : Operand} {t : TypeId} (m n r : Int) (hz : n ≠ 0) (hg : o.guard = none) (hd : o.dst = some k) (hk : aQ k N = true) (ho : o.op = .binOp .quo 49 x y t) (hx : ev E x = some (.int .u64 m)) (hy : ev E y = some (.int .u64 n))
  (hr : IntKind.u64.wrap (m.tdiv n) = r) (hn : bF Tryd.prog ops C0 Q rest N ((k,.int .u64 r) :: E)) : bF Tryd.prog ops C0 Q (o :: rest) N E :=
 dM _ hg hd hk (λa ha w _=>by
  have h1:=ha.eval hx;have h2:=ha.eval hy;subst hr
  unfold execOp
  simp only [ho,h1,h2]
  go_simp) hn
end
section
variable {ops : Array Oper}
def MJ (f : Nat) (md : Region.Mode) (ops : Array Oper) (N : Nat) : Bool:=match ops[N]? with
  | none=>true
  | some o=>(sH N).all λi=>kT md o i || iJ md ops (min f ops.size) N i
def tailD (f : Nat) (ops : Array Oper) (n k m : Nat) : Bool :=
  s8 ops && Cf .any ops n ops.toList 0 && chainB .any ops.toList 0 none && decide (ops.size = m + k + n) && MJ f .any ops (k + n) &&
    kA .any ops m (k + n) (marks k n (marks n 0 (bD ops.size false)))
theorem Fx (f : Nat) {n k m : Nat} (h : tailD f ops n k m = true) : nE ops n k m = true:=by
 simp only [tailD,aV,decide_eq_true_eq] at h;obtain ⟨⟨⟨⟨⟨h1,h2⟩,h3⟩,h4⟩,h5⟩,h6⟩:=h
 have hr : ∀ j ∈ bQ .any ops (marks k n (marks n 0 (bD ops.size false))),j = k + n:=by
  intro j hj
  cases m with
  | zero =>
   simp only [kA,List.isEmpty_iff] at h6;rw [h6] at hj
   cases hj
  | succ m =>
   simp only [kA,aV,decide_eq_true_eq] at h6;rw [h6.1] at hj
   simpa using hj
 simp only [nE,aV,decide_eq_true_eq];refine ⟨⟨⟨⟨h1,yT h3 n ops.toList 0 _ Inv.start rfl h2⟩,h4⟩,?_⟩,h6⟩
 unfold D4
 rw [cE]
 intro j hj
 have hjk:=hr j hj;subst hjk;obtain ⟨_,o,ho,_⟩:=mem_ready.1 hj
 unfold MJ at h5
 rw [ho] at h5;simp only [cE,lK] at h5 ⊢
 intro i hi
 have hz : 0 < ops.size:=bR (Nat.zero_le _) (cZ.1 ho).1;obtain ⟨g,hg⟩ : ∃ g,ops.size = g + 1:=⟨ops.size - 1,by omega⟩;have h7:=h5 i hi;simp only [fG] at h7
 rcases h7 with h7 | h7
 ·rw [hg]
  exact tN ho h7
 ·exact mE (Nat.min_le_right _ _) h7
end
theorem uJ {P : Program} {ops : Array Oper} {Q : Exit -> Act -> World -> Prop} {T : List Oper} {N : Nat} {E : List (Nat × Value)} {w : World} (h : ∀ w',Up w w' -> lF P ops Q T N E w') :
  bF P ops (Up w) (λa'=>∀ w',Up w w' -> wpList P ops Q T a' w') [] N E:=λa ha=>cL λw' hw'=>h w' hw' a ha
section
variable {P : Program} {ops : Array Oper} {Q : Exit -> Act -> World -> Prop} {N : Nat} {E : List (Nat × Value)} {w : World} {o : Oper} {rest : List Oper} {k : Nat}
theorem bG (h : kF (Q .normal) N E w) : lF P ops Q [] N E w:=λa ha=>dP (h a ha)
theorem nH {w' : World} (v : Value) (hg : o.guard = none) (hd : o.dst = some k) (hk : aQ k N = true) (h : ∀ a,Fr N E a -> (execOp a.eval o).run P w = .ok (.value v) w') (hn : lF P ops Q rest N ((k,v) :: E) w') : lF P ops Q (o :: rest) N E w:=λa ha=>by
 have h1:=h a ha;have h2:=hn _ (ha.put hk v)
 unfold wpList
 rw [if_pos (by simp [aL,hg])];refine .inl ?_
 unfold lR
 rw [h1];simp only [jR,hd];exact h2
theorem nP {x : Operand} (v : Value) (hg : o.guard = none) (hd : o.dst = some k) (hk : aQ k N = true) (ho : o.op = .move x) (hx : ev E x = some v) (hn : lF P ops Q rest N ((k,v) :: E) w) : lF P ops Q (o :: rest) N E w :=
 nH v hg hd hk (λa ha=>by
  have h1:=ha.eval hx
  unfold execOp
  simp only [ho,h1,aI]) hn
theorem cP {x : Operand} (v : Value) (hg : o.guard = none) (hd : o.dst = some k) (hk : aQ k N = true) (ho : o.op = .assign x) (hx : ev E x = some v) (hn : lF P ops Q rest N ((k,v) :: E) w) : lF P ops Q (o :: rest) N E w :=
 nH v hg hd hk (λa ha=>by
  have h1:=ha.eval hx
  unfold execOp
  simp only [ho,h1,aI]) hn
end
theorem iT {f : FuncId} {args : Array Value} {v : Value} {w : World} (h : Calls Tryd.prog f args w λe w'=>e = .returned v /\ w' = w) : Calls Tryd.prog f args w λe w'=>e = .returned v /\ Below w.heap.size w w' :=
 h.mono λ_ _ ⟨h1,h2⟩=>⟨h1,by rw [h2]; exact Below.refl _ _⟩
structure NV where
  t : Nat
  ty : TypeId
  zs : Array Value
section
variable {P : Program} {N : Nat}
def NK (P : Program) (N : Nat) (o : Oper) (v : NV) : Prop:=o.guard = none /\ o.dst = some v.t /\ aQ v.t N = true /\ o.op = .alloc v.ty /\ (P.info? v.ty).bind (λi=>i.zero.map (·.cells)) = some v.zs
def NL (P : Program) (N : Nat) : List Oper -> List NV -> Prop
  | _,[]=>True
  | [],_ :: _=>False
  | o :: l,v :: vs=>NK P N o v /\ NL P N l vs
theorem Gp : ∀ {l : List Oper} {vs : List NV},NL P N l vs -> ∀ (j : Nat) (v : NV),vs[j]? = some v -> ∃ o : Oper,l[j]? = some o /\ NK P N o v
 | _,[],_,j,v,hv=>by simp at hv
 | [],_ :: _,h,_,_,_=>h.elim
 | o :: l,v0 :: vs,h,0,v,hv=>by
  simp only [bX,bH] at hv;subst hv;exact ⟨o,rfl,h.1⟩
 | o :: l,v0 :: vs,h,j + 1,v,hv=>by
  simp only [KL] at hv;obtain ⟨o',h1,h2⟩:=Gp h.2 j v hv;exact ⟨o',by simpa using h1,h2⟩
end
def lO : List NV -> Nat -> (Nat -> Nat) -> List (Nat × Value) -> List (Nat × Value)
  | [],_,_,E=>E
  | v :: vs,j,gs,E=>(v.t,.pointer (some ⟨gs j,0,none⟩)) :: lO vs (j + 1) gs E
def far (E : List (Nat × Value)) : List NV -> Prop
  | []=>True
  | v :: vs=>look E v.t = none /\ far E vs
theorem GV {E : List (Nat × Value)} {k : Nat} {x : Value} : ∀ {vs : List NV},(∀ v ∈ vs,k ≠ v.t) -> far E vs -> far ((k,x) :: E) vs
 | [],_,_=>trivial
 | v :: vs,h,hE=>⟨by rw [fL,if_neg (h v (by simp))]; exact hE.1,GV (λu hu=>h u (by simp [hu])) hE.2⟩
theorem ES {E : List (Nat × Value)} : ∀ {vs : List NV},far E vs -> ∀ (j : Nat) (v : NV),vs[j]? = some v -> look E v.t = none
 | [],_,j,v,hv=>by simp at hv
 | v0 :: vs,h,0,v,hv=>by
  simp only [bX,bH] at hv;subst hv;exact h.1
 | v0 :: vs,h,j + 1,v,hv=>ES h.2 j v (by simpa using hv)
section
variable {N : Nat} {E : List (Nat × Value)} {a : Act}
theorem Fr.Im (h : Fr N E a) {k : Nat} (hk : look E k = none) (v : Value) : Fr N E (a.put (some k) v):=by
 refine ⟨by simp [aE,h.size],h.defers,λj u hj=>?_⟩
 have e : k ≠ j:=by
  rintro rfl
  rw [hk] at hj
  cases hj
 have h1:=h.get j u hj;simp only [aE,Ar,cI] at h1 ⊢;rw [oP (by omega)];exact h1
theorem Fr.more (h : Fr N E a) {k : Nat} {v : Value} (hv : a.eval (.tmp k) = v) : Fr N ((k,v) :: E) a:=by
 refine ⟨h.size,h.defers,λj u hj=>?_⟩;rw [fL] at hj
 by_cases e : k = j
 ·subst e
  rw [if_pos rfl] at hj
  cases hj
  exact hv
 ·rw [if_neg e] at hj
  exact h.get j u hj
theorem Fr.tail {k : Nat} {v : Value} (h : Fr N ((k,v) :: E) a) (hk : look E k = none) : Fr N E a:=by
 refine ⟨h.size,h.defers,λj u hj=>h.get j u ?_⟩;rw [fL,if_neg]
 ·exact hj
 ·rintro rfl
  rw [hk] at hj
  cases hj
theorem wG (h : Fr N E a) {k : Nat} (hk : aQ k N = true) (v : Value) : (a.put (some k) v).eval (.tmp k) = v:=(h.put hk v).get k v (by rw [fL,if_pos rfl])
theorem G1 {k j : Nat} (hk : k ≠ j) (v : Value) : (a.put (some k) v).eval (.tmp j) = a.eval (.tmp j):=by
 simp only [aE,Ar,cI];rw [oP (by omega)]
theorem Fr.lO (h : Fr N E a) (gs : Nat -> Nat) : ∀ (vs : List NV) (j0 : Nat),(∀ (j : Nat) (v : NV),vs[j]? = some v -> a.eval (.tmp v.t) = .pointer (some ⟨gs (j0 + j),0,none⟩)) -> Fr N (lO vs j0 gs E) a
 | [],_,_=>h
 | v :: vs,j0,hv=>by
  refine Fr.more (Fr.lO h gs vs (j0 + 1) λj u hu=>?_) (hv 0 v rfl);have:=hv (j + 1) u (by simpa using hu)
  rwa [<-dI,cR] at this
end
def NO (ops : Array Oper) (n : Nat) (lend : Array Bool) : Nat -> List Nat -> Array Bool -> Bool
  | 0,_,listed=>decide (listed = lend)
  | f + 1,rem,listed=>decide (bQ .any ops listed = rem.map (n + ·)) && rem.all λj=>NO ops n lend f (rem.erase j) (listed.setIfInBounds (n + j) true)
def jY : List NV -> Bool
  | []=>true
  | v :: vs=>(vs.all λu=>!(v.t == u.t)) && jY vs
theorem wW : ∀ {vs : List NV},jY vs = true -> ∀ (i j : Nat) (vi vj : NV),i < j -> vs[i]? = some vi -> vs[j]? = some vj -> vi.t ≠ vj.t
 | [],_,i,j,vi,vj,_,hi,_=>by simp at hi
 | v :: vs,h,0,j + 1,vi,vj,_,hi,hj=>by
  simp only [jY,aV,cE] at h;simp only [bX,bH,KL] at hi hj;subst hi;have:=h.1 vj (List.mem_of_getElem? hj)
  simpa using this
 | v :: vs,h,i + 1,j + 1,vi,vj,hij,hi,hj=>by
  simp only [jY,aV] at h;exact wW h.2 i j vi vj (by omega) (by simpa using hi) (by simpa using hj)
theorem Bu {vs : List NV} (h : jY vs = true) {i j : Nat} {vi vj : NV} (hij : i ≠ j) (hi : vs[i]? = some vi) (hj : vs[j]? = some vj) : vi.t ≠ vj.t:=by
 rcases Nat.lt_or_gt_of_ne hij with h1 | h1
 ·exact wW h i j vi vj h1 hi hj
 ·exact (wW h j i vj vi h1 hj hi).symm
section
variable {P : Program} {Q : Exit -> Act -> World -> Prop} {N : Nat} {E : List (Nat × Value)} {w : World}
def S7 (P : Program) (ops : Array Oper) (Q : Exit -> Act -> World -> Prop) (w : World) (vs : List NV) (T : List Oper) (N : Nat) (E : List (Nat × Value)) : Prop :=
  ∀ gs w',(∀ j,j < vs.length -> w.heap.size <= gs j) -> (∀ i j,i < vs.length -> j < vs.length -> i ≠ j -> gs i ≠ gs j) -> Up w w' -> (∀ (j : Nat) (v : NV),vs[j]? = some v -> Blk w' (gs j) v.ty v.zs) -> lF P ops Q T N (lO vs 0 gs E) w'
def Ex (P : Program) (ops : Array Oper) (Q : Exit -> Act -> World -> Prop) (w : World) (vs : List NV) (T : List Oper) (N : Nat) (a' : Act) : Prop :=
  ∃ E',Fr N E' a' /\ far E' vs /\ S7 P ops Q w vs T N E'
theorem Gq {ops : Array Oper} {n m M : Nat} {lend : Array Bool} (vs : List NV) (hap : jY vs = true) (hnv : ∀ j v,vs[j]? = some v -> ∃ o,ops[n + j]? = some o /\ NK P N o v) (hE : far E vs)
  (fin : ∀ gs w0 a,Up w w0 -> Fr N (lO vs 0 gs E) a -> (∀ j,j < vs.length -> w.heap.size <= gs j) -> (∀ i j,i < vs.length -> j < vs.length -> i ≠ j -> gs i ≠ gs j) -> (∀ (j : Nat) (v : NV),vs[j]? = some v -> Blk w0 (gs j) v.ty v.zs) ->
   lB P .any ops (Up w) Q M m 0 w0 lend a) :
  ∀ (f : Nat) (rem : List Nat) (listed : Array Bool) (w0 : World) (a : Act) (gs : Nat -> Nat),NO ops n lend f rem listed = true -> rem.Nodup -> f = rem.length -> (∀ j ∈ rem,j < vs.length) -> Up w w0 -> Fr N E a ->
   (∀ (j : Nat) (v : NV),j ∉ rem -> vs[j]? = some v -> w.heap.size <= gs j /\ Blk w0 (gs j) v.ty v.zs /\ a.eval (.tmp v.t) = .pointer (some ⟨gs j,0,none⟩)) ->
   (∀ i j,i < vs.length -> j < vs.length -> i ∉ rem -> j ∉ rem -> i ≠ j -> gs i ≠ gs j) -> lB P .any ops (Up w) Q M m f w0 listed a
 | 0,rem,listed,w0,a,gs,hc,_,hf,_,hU,hF,hd,hg=>by
  obtain rfl : rem = []:=cQ hf.symm;simp only [NO,decide_eq_true_eq] at hc;subst hc;refine fin gs w0 a hU (hF.lO gs vs 0 λj v hv=>?_) (λj hj=>?_) (λi j hi hj hij=>hg i j hi hj (by simp) (by simp) hij) (λj v hv=>(hd j v (by simp) hv).2.1)
  ·rw [cW]
   exact (hd j v (by simp) hv).2.2
  ·exact (hd j vs[j] (by simp) (bC hj)).1
 | f + 1,rem,listed,w0,a,gs,hc,hnd,hf,hlt,hU,hF,hd,hg=>by
  simp only [NO,aV,decide_eq_true_eq,cE] at hc;obtain ⟨hr,hc⟩:=hc;refine ⟨?_,λi hi=>?_⟩
  ·rw [hr]
   cases rem with
   | nil=>cases hf
   | cons j rem=>exact List.cons_ne_nil _ _
  ·rw [hr] at hi
   obtain ⟨j,hj,rfl⟩:=fV.1 hi;have hjl:=hlt j hj;have hv : vs[j]? = some vs[j]:=bC hjl;generalize vs[j] = v at hv;obtain ⟨o,ho,hgd,hds,hb,hop,hz⟩:=hnv j v hv;refine wV (base:=w.heap.size) ho hgd (c9 hop hz) (λ_ _ h k=>h.step k) (λ_ h=>h.size) hU λw1 hw1 hC1 hp=>?_;rw [hds];have hfar:=ES hE j v hv;have hal:=(Below.refl w1.heap.size w1).alloc (aF _) (.cells v.zs v.ty)
   have hem : ∀ i,i ∉ rem.erase j -> i = j \/ i ∉ rem:=λi hi=>by
    by_cases e : i = j
    ·exact .inl e
    ·exact .inr λhm=>hi ((List.mem_erase_of_ne e).2 hm)
   refine Gq vs hap hnv hE fin f (rem.erase j) _ _ _ (λi=>if i = j then w1.heap.size else gs i) (hc j hj) (hnd.erase j) (by rw [List.length_erase_of_mem hj]; omega) (λi hi=>hlt i (List.mem_of_mem_erase hi)) (hC1.step hal) (hF.Im hfar _) ?_ ?_
   ·intro i u hi hu
    by_cases e : i = j
    ·subst e
     obtain rfl : u = v:=eW (hu.symm.trans hv);rw [if_pos rfl];exact ⟨hp,Blk.new w1 _ _,wG hF hb _⟩
    ·rw [if_neg e]
     obtain ⟨h1,h2,h3⟩:=hd i u ((hem i hi).resolve_left e) hu;exact ⟨h1,(h2.later hw1).later hal,by rw [G1 (Bu hap (Ne.symm e) hv hu)]; exact h3⟩
   ·intro i k hi hk hir hkr hik
    have hlt1 : ∀ i,i < vs.length -> i ∉ rem -> gs i < w1.heap.size:=λi hi hir=>((hd i vs[i] hir (bC hi)).2.1.later hw1).lt
    by_cases e : i = j
    ·rw [if_pos e,if_neg (λh=>hik (e.trans h.symm))]
     have:=hlt1 k hk ((hem k hkr).resolve_left (λh=>hik (e.trans h.symm)))
     omega
    ·rw [if_neg e]
     by_cases e2 : k = j
     ·rw [if_pos e2]
      have:=hlt1 i hi ((hem i hir).resolve_left e)
      omega
     ·rw [if_neg e2]
      exact hg i k hi hk ((hem i hir).resolve_left e) ((hem k hkr).resolve_left e2) hik
theorem AQ {id : Nat} {l : List Oper} (n : Nat) (vs : List NV) (hn : n + vs.length <= l.length) (hap : jY vs = true) (hnv : NL P N (l.drop n) vs) (hm : P.follows .mixedOrders = true)
  (hB : nE l.toArray n vs.length (l.drop (n + vs.length)).length = true)
  (hC : NO l.toArray n (marks vs.length n (marks n 0 (bD l.toArray.size false))) vs.length (sH vs.length) (marks n 0 (bD l.toArray.size false)) = true)
  (hQ : ∀ c a d v w,Q (.panic c) (a.put d v) w -> Q (.panic c) a w)
  (h : bF P l.toArray (Up w) (Ex P l.toArray Q w vs (l.drop (n + vs.length)) N) (l.take n) N E) : cF P (.region id l.toArray true) Q N E w:=λa ha=>by
 simp only [nE,aV,decide_eq_true_eq] at hB;obtain ⟨⟨⟨⟨hs,hh⟩,hz⟩,hsk⟩,hf⟩:=hB
 have hL : (l.take n).length = n:=by rw [aZ]; omega
 refine wp_region_any hm ?_
 have hT : ∀ j,j < (l.drop (n + vs.length)).length -> (l.drop (n + vs.length))[j]? = l.toArray[vs.length + n + j]?:=λj _=>by
  simp only [List.getElem?_drop,List.getElem?_toArray]
  congr 1
  omega
 have hG : lB P .any l.toArray (Up w) Q (vs.length + n) (l.drop (n + vs.length)).length (vs.length + (l.take n).length) w.drew (bD l.toArray.size false) a:=by
  refine oH (λ_ _ h k=>h.step k) hs hQ vs.length w.drew (Up.drew w) (l.take n) 0 _ a (jA.none _) (by omega) (λj hj=>?_) (by rw [hL]; exact hh) ?_
  ·rw [hL] at hj
   simp [hj]
  rw [hL];refine kE (λa' h'=>?_) _ a (h a ha);obtain ⟨E',hF,hE,hk⟩:=h';refine Gq (E:=E') (w:=w) vs hap (λj v hv=>?_) hE (λgs w0 a hU hF hb hd hB=>⟨λj hj i hi=>?_,λw' hw'=>?_⟩) vs.length (sH vs.length) _ w.drew a' (λ_=>0) hC List.nodup_range (by simp) (λj hj=>by simpa using hj) (Up.drew w) hF ?_ ?_
  ·obtain ⟨o,h1,h2⟩:=Gp hnv j v hv
   exact ⟨o,by simpa using h1,h2⟩
  ·have h1:=cE.1 hsk j hj
   exact cE.1 h1 i (lK.2 hi)
  ·exact jX _ (vs.length + n) _ _ w' hT hf (hk gs w' hb hd (hU.step hw') (λj v hv=>(hB j v hv).later hw') a hF)
  ·intro j v hj hv
   exact absurd (lK.2 (hH.1 hv).1) hj
  ·intro i j hi hj h1
   exact absurd (lK.2 hi) h1
 have h2:=pN (vs.length + (l.take n).length) _ a w.drew hG;rw [hL] at h2
 have e : l.toArray.size = (l.drop (n + vs.length)).length + (vs.length + n):=by rw [hz,dI]
 rw [<-e] at h2;exact h2
theorem N6 {ops : Array Oper} {T : List Oper} : ∀ (vs : List NV) (l : List Oper) (j0 : Nat) (gs : Nat -> Nat) (w : World) (E : List (Nat × Value)),NL P N l vs -> l.drop vs.length = T ->
  (∀ (gs' : Nat -> Nat) (w' : World),(∀ j,j < j0 -> gs' j = gs j) -> (∀ j,j < vs.length -> w.heap.size <= gs' (j0 + j)) -> (∀ i j,i < vs.length -> j < vs.length -> i ≠ j -> gs' (j0 + i) ≠ gs' (j0 + j)) -> Up w w' -> (∀ (j : Nat) (v : NV),vs[j]? = some v -> Blk w' (gs' (j0 + j)) v.ty v.zs) ->
   ∀ a,Fr N E a -> (∀ (j : Nat) (v : NV),vs[j]? = some v -> a.eval (.tmp v.t) = .pointer (some ⟨gs' (j0 + j),0,none⟩)) -> wpList P ops Q T a w') ->
  far E vs -> jY vs = true -> ∀ a,Fr N E a -> wpList P ops Q l a w
 | [],l,j0,gs,w,E,_,hT,h,_,_,a,ha=>by
  obtain rfl : l = T:=by simpa using hT
  exact h gs w (λ_ _=>rfl) (λ_ h=>absurd h (by simp)) (λ_ _ h=>absurd h (by simp)) (Up.refl w) (λ_ _ h=>by simp at h) a ha (λ_ _ h=>by simp at h)
 | _ :: _,[],_,_,_,_,hnv,_,_,_,_,_,_=>hnv.elim
 | v :: vs,o :: l,j0,gs,w,E,hnv,hT,h,hE,hap,a,ha=>by
  obtain ⟨⟨hgd,hds,hb,hop,hz⟩,hnv⟩:=hnv
  have hap' : jY vs = true:=by
   simp only [jY,aV] at hap;exact hap.2
  refine dN hgd hop hz ?_;rw [hds];have hF:=ha.Im hE.1 (.pointer (some ⟨w.heap.size,0,none⟩));have hal:=(Below.refl w.heap.size w).alloc (aF _) (.cells v.zs v.ty);refine N6 (T:=T) vs l (j0 + 1) (λj=>if j = j0 then w.heap.size else gs j) _ ((v.t,.pointer (some ⟨w.heap.size,0,none⟩)) :: E) hnv (by simpa using hT) (λgs' w' hg hge hd hU hB a' ha' hp=>?_) ?_ hap' _ (ha.put hb _)
  ·have hsz : (w.alloc (.cells v.zs v.ty)).heap.size = w.heap.size + 1:=aW _ _
   rw [hsz] at hge
   have e0 : gs' j0 = w.heap.size:=by rw [hg j0 (by omega),if_pos rfl]
   refine h gs' w' (λj hj=>by rw [hg j (by omega),if_neg (by omega)]) (λj hj=>?_) (λi j hi hj hij=>?_) ((Up.refl w).alloc _ |>.step hU) (λj u hu=>?_) a' (ha'.tail hE.1) (λj u hu=>?_)
   ·cases j with
    | zero=>rw [fJ,e0]; exact aF _
    | succ j =>
     have:=hge j (by simpa using hj);rw [cR] at this;rw [<-dI]
     omega
   ·have hge' : ∀ j,j < vs.length -> w.heap.size + 1 <= gs' (j0 + (j + 1)):=λj hj=>by
     have:=hge j hj;rw [cR,dI] at this;exact this
    cases i with
    | zero =>
     cases j with
     | zero=>exact absurd rfl hij
     | succ j =>
      have:=hge' j (by simpa using hj)
      have e1 : gs' (j0 + 0) = w.heap.size:=by rw [fJ,e0]
      rw [e1]
      omega
    | succ i =>
     cases j with
     | zero =>
      have:=hge' i (by simpa using hi)
      have e1 : gs' (j0 + 0) = w.heap.size:=by rw [fJ,e0]
      rw [e1]
      omega
     | succ j =>
      have:=hd i j (by simpa using hi) (by simpa using hj) (by omega)
      rwa [cR,cR j0 1 j] at this
   ·cases j with
    | zero =>
     simp only [bX,bH] at hu;subst hu;rw [fJ,e0];exact (Blk.new w _ _).later hU
    | succ j =>
     have:=hB j u (by simpa using hu)
     rwa [cR] at this
   ·cases j with
    | zero =>
     simp only [bX,bH] at hu;subst hu;rw [fJ,e0];exact ha'.get _ _ (by rw [fL,if_pos rfl])
    | succ j =>
     have:=hp j u (by simpa using hu)
     rwa [cR] at this
  ·refine GV (λu hu=>?_) hE.2
   simp only [jY,aV,cE] at hap;have:=hap.1 u hu
   simpa using this
theorem sY {id : Nat} {l : List Oper} (n : Nat) (vs : List NV) (hap : jY vs = true) (hnv : NL P N (l.drop n) vs)
  (h : bF P l.toArray (Up w) (Ex P l.toArray Q w vs (l.drop (n + vs.length)) N) (l.take n) N E) : cF P (.region id l.toArray false) Q N E w:=λa ha=>by
 refine Df n (kE (λa' h' w' hw'=>?_) _ _ (h a ha));obtain ⟨E',hF,hE,hk⟩:=h';refine N6 vs (l.drop n) 0 (λ_=>0) w' E' hnv (by rw [List.drop_drop]) (λgs w2 _ hge hd hU hB a2 ha2 hp=>?_) hE hap a' hF;simp only [cW] at hge hd hB hp;exact hk gs w2 (λj hj=>Nat.le_trans hw'.size (hge j hj)) hd (hw'.step hU) hB a2 (ha2.lO gs vs 0 (by simpa using hp))
def Sw : List NV -> List Operand -> List Oper -> List Oper -> Prop
  | [],[],T,T'=>T = T'
  | v :: vs,x :: xs,o :: T,T'=>(o.guard = none /\ o.dst = none /\ o.op = .store v.ty (.tmp v.t) x) /\ Sw vs xs T T'
  | _,_,_,_=>False
def Fp (P : Program) (E : List (Nat × Value)) : List NV -> List Operand -> List (Array Value) -> Prop
  | [],[],[]=>True
  | v :: vs,x :: xs,c :: cs=>(ev E x = some (.agg c) /\ v.zs.size = c.size /\ (P.info? v.ty).map (·.size) = some c.size /\ ∀ u ∈ c.toList,u.oneCell' = true) /\ Fp P E vs xs cs
  | _,_,_=>False
def Rr (w : World) : List NV -> List (Array Value) -> Nat -> (Nat -> Nat) -> Prop
  | v :: vs,c :: cs,j,gs=>Blk w (gs j) v.ty c /\ Rr w vs cs (j + 1) gs
  | _,_,_,_=>True
theorem GG {ops : Array Oper} {T' : List Oper} {W : World} {gs : Nat -> Nat} : ∀ (vs : List NV) (xs : List Operand) (cs : List (Array Value)) (T : List Oper) (j0 : Nat) (w : World),Sw vs xs T T' -> Fp P E vs xs cs ->
  (∀ (j : Nat) (v : NV),vs[j]? = some v -> look E v.t = some (.pointer (some ⟨gs (j0 + j),0,none⟩))) -> (∀ j,j < vs.length -> W.heap.size <= gs (j0 + j)) -> (∀ i j,i < vs.length -> j < vs.length -> i ≠ j -> gs (j0 + i) ≠ gs (j0 + j)) -> Up W w -> (∀ (j : Nat) (v : NV),vs[j]? = some v -> Blk w (gs (j0 + j)) v.ty v.zs) ->
  (∀ w',Up W w' -> (∀ g t c,(∀ j,j < vs.length -> gs (j0 + j) ≠ g) -> Blk w g t c -> Blk w' g t c) -> Rr w' vs cs j0 gs -> lF P ops Q T' N E w') -> lF P ops Q T N E w
 | [],xs,cs,T,j0,w,hst,hv,_,_,_,hU,_,h=>by
  cases xs with
  | cons=>exact hst.elim
  | nil =>
   obtain rfl : T = T':=hst;exact h w hU (λ_ _ _ _ h=>h) (by unfold Rr; trivial)
 | v :: vs,xs,cs,T,j0,w,hst,hv,hl,hge,hd,hU,hB,h=>by
  cases xs with
  | nil=>exact hst.elim
  | cons x xs =>
   cases T with
   | nil=>exact hst.elim
   | cons o T =>
    cases cs with
    | nil=>exact hv.elim
    | cons c cs =>
     obtain ⟨⟨hgd,hds,hop⟩,hst⟩:=hst;obtain ⟨⟨hx,hz,hi,ho⟩,hv⟩:=hv
     intro a ha
     have h0:=hB 0 v rfl
     have hd0 : ∀ j,j < vs.length -> gs (j0 + 1 + j) ≠ gs j0:=λj hj=>by
      have:=hd (j + 1) 0 (by simpa using hj) (by simp) (by omega)
      rwa [<-dI,cR,fJ] at this
     rw [fJ] at h0;refine wpList_store_row hgd v.ty (.tmp v.t) x hop (gs j0) (ha.get _ _ (hl 0 v rfl)) c (ha.eval hx) v.ty v.zs h0 hi hz ho ?_;rw [hds];refine GG (gs:=gs) (W:=W) vs xs cs T (j0 + 1) (w.setRow (gs j0) c) hst hv (λj u hu=>?_) (λj hj=>?_) (λi j hi hj hij=>?_) (cM hU (hge 0 (by simp)) _) (λj u hu=>?_) (λw' hU' hK hb=>?_) a ha
     ·have:=hl (j + 1) u (by simpa using hu)
      rwa [<-dI,cR] at this
     ·have:=hge (j + 1) (by simpa using hj)
      rwa [<-dI,cR] at this
     ·have:=hd (i + 1) (j + 1) (by simpa using hi) (by simpa using hj) (by omega)
      rwa [<-dI,<-dI,cR,cR j0 j 1] at this
     ·have:=hB (j + 1) u (by simpa using hu)
      rw [<-dI,cR] at this;exact this.aR (hd0 j (hH.1 hu).1) _
     ·refine h w' hU' (λg t c' hg hb'=>hK g t c' (λj hj=>?_) (hb'.aR (Ne.symm (by have:=hg 0 (by simp); rwa [fJ] at this)) _)) ⟨hK _ _ _ hd0 (h0.row _),hb⟩
      have:=hg (j + 1) (by simpa using hj)
      rwa [<-dI,cR] at this
theorem Dz {gs : Nat -> Nat} {E : List (Nat × Value)} {k : Nat} : ∀ (vs : List NV) (j0 : Nat),(∀ v ∈ vs,v.t ≠ k) -> look (lO vs j0 gs E) k = look E k
 | [],_,_=>rfl
 | v :: vs,j0,h=>by
  rw [lO,fL,if_neg (h v (by simp))];exact Dz vs (j0 + 1) λu hu=>h u (by simp [hu])
theorem Gy {gs : Nat -> Nat} {E : List (Nat × Value)} : ∀ (vs : List NV) (j0 : Nat),jY vs = true -> ∀ (j : Nat) (v : NV),vs[j]? = some v -> look (lO vs j0 gs E) v.t = some (.pointer (some ⟨gs (j0 + j),0,none⟩))
 | [],_,_,_,_,hv=>by simp at hv
 | v0 :: vs,j0,hap,0,v,hv=>by
  simp only [bX,bH] at hv;subst hv;rw [lO,fL,if_pos rfl,fJ]
 | v0 :: vs,j0,hap,j + 1,v,hv=>by
  have hne : v0.t ≠ v.t:=Bu hap (i:=0) (j:=j + 1) (by omega) rfl hv;simp only [jY,aV] at hap;rw [lO,fL,if_neg hne,Gy vs (j0 + 1) hap.2 j v (by simpa using hv),<-dI,cR]
theorem TN {gs : Nat -> Nat} {E : List (Nat × Value)} {vs : List NV} (hE : far E vs) {x : Operand} {v : Value} (hx : ev E x = some v) : ev (lO vs 0 gs E) x = some v:=by
 cases x with
 | tmp t =>
  show look (lO vs 0 gs E) t = some v
  rw [Dz vs 0 λu hu=>?_]
  ·exact hx
  ·rintro rfl
   obtain ⟨j,hj⟩:=List.getElem?_of_mem hu;have h1:=ES hE j u hj;have h2 : look E u.t = some v:=hx;rw [h1] at h2
   cases h2
 | const u=>exact hx
 | global g=>exact hx
 | func f=>exact hx
theorem C8 {gs : Nat -> Nat} {E : List (Nat × Value)} {ws : List NV} (hE : far E ws) : ∀ (vs : List NV) (xs : List Operand) (cs : List (Array Value)),Fp P E vs xs cs -> Fp P (lO ws 0 gs E) vs xs cs
 | [],[],[],_=>trivial
 | _ :: vs,_ :: xs,_ :: cs,h=>⟨⟨TN hE h.1.1,h.1.2⟩,C8 hE vs xs cs h.2⟩
 | [],[],_ :: _,h=>h.elim
 | [],_ :: _,_,h=>h.elim
 | _ :: _,[],_,h=>h.elim
 | _ :: _,_ :: _,[],h=>h.elim
theorem oL {ops : Array Oper} {vs : List NV} {T T' : List Oper} (xs : List Operand) (cs : List (Array Value)) (hE : far E vs) (hap : jY vs = true) (hst : Sw vs xs T T') (hv : Fp P E vs xs cs)
  (h : ∀ gs w',(∀ j,j < vs.length -> w.heap.size <= gs j) -> (∀ i j,i < vs.length -> j < vs.length -> i ≠ j -> gs i ≠ gs j) -> Up w w' -> Rr w' vs cs 0 gs -> lF P ops Q T' N (lO vs 0 gs E) w') :
  bF P ops (Up w) (Ex P ops Q w vs T N) [] N E:=λa ha=>cL ⟨E,ha,hE,λgs w' hge hd hU hB=>by
 refine GG (W:=w) (gs:=gs) vs xs cs T 0 w' hst (C8 hE _ _ _ hv) (λj v hv=>Gy vs 0 hap j v hv) (by simpa using hge) (by simpa using hd) hU (by simpa using hB) λw2 hU2 _ hb=>?_
 exact h gs w2 hge hd hU2 hb⟩
end
end Go.Proofs.YtfkchihlchlfdaaDoor
