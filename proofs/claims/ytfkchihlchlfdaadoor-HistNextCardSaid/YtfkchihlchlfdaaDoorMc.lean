import Derived.Test.YtfkchihlchlfdaaDoorMb
import Derived.Maps.AppendAt
import Derived.Deep.OwnRows
import Derived.Test.YtfkchihlchlfdaaDoorMa
import Derived.Great.BuildSlice
import Derived.Lib.SlBytesConst
open Array renaming getD_eq_getD_getElem?->cI,getElem?_eq_getElem->dF,length_toList->dS,toList_append->nD,toList_map->sJ
open Go.Act renaming eval->Ar
open Go.Addr renaming add_mid->k9
open Go.Instr renaming indexAt->mL,buildSlice->mX
open Go.Oper renaming upon->jR,wp->lR
open Go.Region renaming wanted->aL
open Go.Result renaming andThen_ok->aG
open Go.Sem renaming run_pure->aI,run_bind->aJ
open Go.World renaming setRow->dU
open Iff renaming rfl->Fg
open List renaming replicate->aD,length_append->aO,append_assoc->aU,length_take->aZ,size_toArray->bA,mem_cons_of_mem->bE,take_of_length_le->bT,length_cons->bW,getElem?_cons_zero->bX,mem_cons_self->bZ,mem_cons->cA,append_nil->cD,map_cons->cH,eq_nil_of_length_eq_zero->cQ,map_toArray->eD,map_nil->gK,length_drop->iG,getElem?_take->jN,drop_zero->qI,length_nil->qJ,cons_append->Jm
open List.cons renaming injEq->pC
open Nat renaming le_refl->aF,blt->aQ,lt_of_lt_of_le->bB,eq_of_beq_eq_true->bL,min_eq_left->cO,zero_add->cW,zero_le->dC,beq->g7,le_trans->jL,le_of_ble_eq_true->CH
open Option.some renaming injEq->bH
open Prod.mk renaming injEq->CF
namespace Go.Proofs.YtfkchihlchlfdaaDoor
open Go.RowKit Go.IntWalk
section
variable {N : Nat} {E : List (Nat × Value)} {a : Act}
theorem Fr.G0 (ha : Fr N E a) : ∀ (l : List Operand) (m : List Value),l.map (ev E) = m.map some -> l.map a.eval = m
 | [],[],_=>rfl
 | [],_ :: _,h=>by cases h
 | _ :: _,[],h=>by cases h
 | y :: l,u :: m,h=>by
  simp only [cH,pC] at h ⊢;exact ⟨ha.eval h.1,Fr.G0 ha l m h.2⟩
theorem Fr.parts (ha : Fr N E a) : ∀ (l : List (Nat × Operand)) (m : List (Nat × Value)),l.map (λp=>(p.1,ev E p.2)) = m.map (λp=>(p.1,some p.2)) -> (l.map λ(i,x)=>(i,a.eval x)) = m
 | [],[],_=>rfl
 | [],_ :: _,h=>by cases h
 | _ :: _,[],h=>by cases h
 | y :: l,u :: m,h=>by
  simp only [cH,pC,CF] at h ⊢;refine ⟨?_,Fr.parts ha l m h.2⟩;rw [ha.eval h.1.2,h.1.1]
end
section
variable {P : Program} {ops : Array Oper} {C0 : World -> Prop} {Q : Act -> Prop} {N : Nat} {E : List (Nat × Value)} {o : Oper} {rest : List Oper} {k : Nat}
theorem fT {s : TypeId} {x : Operand} {f : Nat} (b off off' : Nat) (hg : o.guard = none) (hd : o.dst = some k) (hk : aQ k N = true) (ho : o.op = .fieldAddr s x f) (hx : ev E x = some (.pointer (some ⟨b,off,none⟩)))
  (hr : ∀ w,(Instr.fieldAt s (.pointer (some ⟨b,off,none⟩)) f).run P w = .ok (.pointer (some ⟨b,off',none⟩)) w) (hn : bF P ops C0 Q rest N ((k,.pointer (some ⟨b,off',none⟩)) :: E)) : bF P ops C0 Q (o :: rest) N E :=
 dM _ hg hd hk (λa ha w _=>by
  have h1:=ha.eval hx
  unfold execOp
  simp only [ho,h1,aJ,hr,aG,aI]) hn
theorem tF {t : TypeId} {x y : Operand} (p : Value) (i : Int) (q : Addr) (hg : o.guard = none) (hd : o.dst = some k) (hk : aQ k N = true) (ho : o.op = .indexAddr t x y) (hx : ev E x = some p) (hy : ev E y = some (.int .i64 i))
  (hr : ∀ w,(mL t p (.int .i64 i)).run P w = .ok (.pointer (some q)) w) (hn : bF P ops C0 Q rest N ((k,.pointer (some q)) :: E)) : bF P ops C0 Q (o :: rest) N E :=
 dM _ hg hd hk (λa ha w _=>by
  have h1:=ha.eval hx;have h2:=ha.eval hy
  unfold execOp
  simp only [ho,h1,h2,aJ,hr,aG,aI]) hn
theorem AO {ty : TypeId} {x : Operand} (b off : Nat) (cs : List Value) (d : TypeDesc) (hg : o.guard = none) (hd : o.dst = some k) (hk : aQ k N = true) (ho : o.op = .load ty x) (hx : ev E x = some (.pointer (some ⟨b,off,none⟩)))
  (hc : ∀ w,C0 w -> w.rangeAt b off cs) (hu : P.underlying ty = some d) (hr : d.isRow = true) (hi : (P.info? ty).map (·.size) = some cs.length)
  (hn : bF P ops C0 Q rest N ((k,.agg cs.toArray) :: E)) : bF P ops C0 Q (o :: rest) N E :=
 dM _ hg hd hk (λa ha w hw=>by
  have h1:=ha.eval hx
  unfold execOp
  simp only [ho,h1,Instr.loadAt,Instr.sureAddr,aJ,aI,aG,run_loadVar_mid w b off ty cs d (hc w hw) hu hr hi]) hn
theorem gO {t : TypeId} {parts : Array (Nat × Operand)} (vs : List (Nat × Value)) (cells : Array Value) (hg : o.guard = none) (hd : o.dst = some k) (hk : aQ k N = true) (ho : o.op = .build t parts)
  (hv : parts.toList.map (λp=>(p.1,ev E p.2)) = vs.map (λp=>(p.1,some p.2))) (hb : P.built t vs = some cells) (hn : bF P ops C0 Q rest N ((k,.agg cells) :: E)) : bF P ops C0 Q (o :: rest) N E :=
 dM _ hg hd hk (λa ha w _=>by
  have h1:=ha.parts _ _ hv
  unfold execOp
  simp only [ho,aJ,run_build w t _ cells (by rw [sJ,h1]; exact hb),aG,aI]) hn
theorem dQ {x : Operand} {i : Nat} {vs : Array Value} (v : Value) (hg : o.guard = none) (hd : o.dst = some k) (hk : aQ k N = true) (ho : o.op = .extract x i) (hx : ev E x = some (.tuple vs)) (hv : vs[i]? = some v)
  (hn : bF P ops C0 Q rest N ((k,v) :: E)) : bF P ops C0 Q (o :: rest) N E :=
 dM _ hg hd hk (λa ha w _=>by
  have h1:=ha.eval hx
  unfold execOp
  simp only [ho,h1]
  go_simp) hn
theorem LZ {t t' : TypeId} {x y : Operand} {q : Bool} (xs ys : Array Value) (hg : o.guard = none) (hd : o.dst = some k) (hk : aQ k N = true) (ho : o.op = .binOp .eql t x y t') (hx : ev E x = some (.agg xs)) (hy : ev E y = some (.agg ys))
  (ht : P.eqGuardType P.depth t = false) (he : ∀ w,(Op.equalIn 10000 t (.agg xs) (.agg ys)).run P w = .ok q w) (hn : bF P ops C0 Q rest N ((k,.bool q) :: E)) : bF P ops C0 Q (o :: rest) N E :=
 dM _ hg hd hk (λa ha w _=>by
  have h1:=ha.eval hx;have h2:=ha.eval hy
  unfold execOp
  simp only [ho,h1,h2,aJ,run_eqGuard_agg (hm:=ht),aG,binOp,Op.equal,Op.maxDepth,he,aI]) hn
end
section
variable {ops : Array Oper} {C0 : World -> Prop} {Q : Act -> Prop} {N : Nat} {E : List (Nat × Value)} {o : Oper} {rest : List Oper} {k : Nat}
theorem sW {f : FuncId} {xs : Array Operand} {ats : Array TypeId} (args : Array Value) (V : Value -> Prop) (hg : o.guard = none) (hd : o.dst = some k) (hk : aQ k N = true)
  (hf : Own f) (hc : ∀ w,C0 w -> Calls Tryd.prog f args w (λe w'=>∃ v,e = .returned v /\ V v /\ Below w.heap.size w w'))
  (ho : o.op = .call { callee:=.value (.func f),args:=xs,argTypes:=ats }) (hx : xs.toList.map (ev E) = args.toList.map some) (hn : ∀ v,V v -> bF Tryd.prog ops C0 Q rest N ((k,v) :: E)) : bF Tryd.prog ops C0 Q (o :: rest) N E:=λa ha=>by
 refine Rv (f:=f) (args:=args) V (by simp [aL,hg]) hf hc ho (ha.G0 _ _ hx) λv hv=>?_;rw [hd];exact hn v hv _ (ha.put hk v)
end
section
variable {P : Program} {ops : Array Oper} {Q : Exit -> Act -> World -> Prop} {N : Nat} {E : List (Nat × Value)} {w : World} {o : Oper} {rest : List Oper} {k : Nat}
theorem UX {ty : TypeId} {x : Operand} (cs : Array Value) (hg : o.guard = none) (hd : o.dst = some k) (hk : aQ k N = true) (ho : o.op = .box ty x) (hx : ev E x = some (.agg cs))
  (hn : lF P ops Q rest N ((k,.pointer (some ⟨w.heap.size,0,none⟩)) :: E) (w.alloc (.cells cs ty))) : lF P ops Q (o :: rest) N E w :=
 nH _ hg hd hk (λa ha=>by
  have h1:=ha.eval hx
  unfold execOp
  simp only [ho,h1,aJ,Aw,aG,aI]) hn
theorem QN {ty : TypeId} {zs : Array Value} (hg : o.guard = none) (hd : o.dst = some k) (hk : aQ k N = true) (ho : o.op = .alloc ty) (hz : (P.info? ty).bind (λi=>i.zero.map (·.cells)) = some zs)
  (hn : lF P ops Q rest N ((k,.pointer (some ⟨w.heap.size,0,none⟩)) :: E) (w.alloc (.cells zs ty))) : lF P ops Q (o :: rest) N E w :=
 nH _ hg hd hk (λ_ _=>c9 ho hz _ w) hn
theorem gB {ty : TypeId} {x : Operand} (cs : Array Value) (hg : o.guard = none) (hd : o.dst = some k) (hk : aQ k N = true) (ho : o.op = .box ty x) (hx : ev E x = some (.agg cs))
  (hn : ∀ W g,Up w W -> g = w.heap.size -> Blk W g ty cs -> lF P ops Q rest N ((k,.pointer (some ⟨g,0,none⟩)) :: E) W) : lF P ops Q (o :: rest) N E w :=
 UX cs hg hd hk ho hx (hn _ _ ((Up.refl w).alloc _) rfl (Blk.new w _ _))
theorem cT {ty : TypeId} (zs : Array Value) (hg : o.guard = none) (hd : o.dst = some k) (hk : aQ k N = true) (ho : o.op = .alloc ty) (hz : (P.info? ty).bind (λi=>i.zero.map (·.cells)) = some zs)
  (hn : ∀ W g,Up w W -> g = w.heap.size -> Blk W g ty zs -> lF P ops Q rest N ((k,.pointer (some ⟨g,0,none⟩)) :: E) W) : lF P ops Q (o :: rest) N E w :=
 QN hg hd hk ho hz (hn _ _ ((Up.refl w).alloc _) rfl (Blk.new w _ _))
theorem mH {ty t : TypeId} {p x : Operand} (g : Nat) (old cells : Array Value) (hg : o.guard = none) (hd : o.dst = none) (ho : o.op = .store ty p x) (hp : ev E p = some (.pointer (some ⟨g,0,none⟩))) (hx : ev E x = some (.agg cells))
  (hb : Blk w g t old) (hi : (P.info? ty).map (·.size) = some cells.size) (hz : old.size = cells.size) (h1 : ∀ v ∈ cells.toList,v.oneCell' = true) (hn : lF P ops Q rest N E (w.setRow g cells)) : lF P ops Q (o :: rest) N E w:=λa ha=>by
 refine wpList_store_row hg ty p x ho g (ha.eval hp) cells (ha.eval hx) t old hb hi hz h1 ?_;rw [hd];exact hn a ha
theorem UW {ty : TypeId} {p x : Operand} (g off : Nat) (cells : Array Value) (hg : o.guard = none) (hd : o.dst = none) (ho : o.op = .store ty p x) (hp : ev E p = some (.pointer (some ⟨g,off,none⟩))) (hx : ev E x = some (.agg cells))
  (ht : w.there g off cells.size) (hi : (P.info? ty).map (·.size) = some cells.size) (h1 : cells.all (·.oneCell') = true) (hn : lF P ops Q rest N E (w.setCells g off cells.toList)) : lF P ops Q (o :: rest) N E w:=λa ha=>by
 refine wpList_store_mid hg ty p x ho g off cells (ha.eval hp) (ha.eval hx) ht hi h1 ?_;rw [hd];exact hn a ha
end
theorem OJ {ops : Array Oper} {C0 : World -> Prop} {Q : Act -> Prop} {N : Nat} {E : List (Nat × Value)} {o : Oper} {rest : List Oper} {k : Nat} {x y : Operand} {t : TypeId} (m n : Int) (q : Bool) (hg : o.guard = none) (hd : o.dst = some k) (hk : aQ k N = true) (ho : o.op = .binOp .eql 3 x y t) (hx : ev E x = some (.int .i64 m)) (hy : ev E y = some (.int .i64 n))
  (hr : decide (m = n) = q) (hn : bF Tryd.prog ops C0 Q rest N ((k,.bool q) :: E)) : bF Tryd.prog ops C0 Q (o :: rest) N E :=
 dM _ hg hd hk (λa ha w _=>by
  have h1:=ha.eval hx;have h2:=ha.eval hy;subst hr
  unfold execOp
  simp only [ho,h1,h2]
  by_cases e : m = n <;> go_simp) hn
theorem CW (a b : Nat) (h : a + b < 9223372036854775808) : IntKind.i64.wrap ((a : Int) + (b : Int)) = ((a + b : Nat) : Int):=by rw [i64_left,wrap64_in _ (by omega)]; omega
theorem Um (a b : Nat) (h : b <= a) (h2 : a < 9223372036854775808) : IntKind.i64.wrap ((a : Int) - (b : Int)) = ((a - b : Nat) : Int):=by rw [i64_left,wrap64_in _ (by omega)]; omega
structure uQ (w w' : World) (g : Nat) : Prop where
  size : w'.heap.size = w.heap.size
  blk : ∀ g' t c,g' ≠ g -> Blk w g' t c -> Blk w' g' t c
  cell : ∀ p : Addr,p.block ≠ g -> w'.cell? p = w.cell? p
  up : ∀ w0,w0.heap.size <= g -> Up w0 w -> Up w0 w'
theorem uQ.set {w w' : World} {g : Nat} (h : uQ w w' g) (k : Nat) (u : Value) : uQ w (w'.setCell ⟨g,k,none⟩ u) g where
 size:=by rw [<-h.size]; simp [World.setCell]
 blk:=λg' t c hg hb=>(h.blk g' t c hg hb).far hg u
 cell:=λp hp=>by rw [World.cell?_setCell_other _ _ _ _ (λe=>hp (by rw [<-e])),h.cell p hp]
 up:=λw0 hg hU=>(h.up w0 hg hU).setCell hg u
theorem uQ.refl (w : World) (g : Nat) : uQ w w g:=⟨rfl,λ_ _ _ _ h=>h,λ_ _=>rfl,λ_ _ h=>h⟩
theorem yB {w0 : World} {g t : Nat} : ∀ (U A V Z : List Value) (w : World),Blk w g t (A ++ (V ++ Z)).toArray -> V.length = U.length -> uQ w0 w g -> Blk (w.setCells g A.length U) g t (A ++ (U ++ Z)).toArray /\ uQ w0 (w.setCells g A.length U) g
 | [],A,V,Z,w,hb,hl,ho=>by
  obtain rfl : V = []:=cQ hl;exact ⟨hb,ho⟩
 | u :: U,A,[],Z,w,hb,hl,ho=>by simp at hl
 | u :: U,A,v :: V,Z,w,hb,hl,ho=>by
  have h1:=hb.set A.length u
  have e : (A ++ (v :: V ++ Z)).toArray.setIfInBounds A.length u = (A ++ [u] ++ (V ++ Z)).toArray:=by simp
  rw [e] at h1;have h2:=yB U (A ++ [u]) V Z _ h1 (by simpa using hl) (ho.set A.length u);simp only [aO,bW,qJ,cW,aU,Jm,List.nil_append] at h2
  simpa [World.setCells] using h2
theorem KT {w : World} {g t : Nat} {A V Z : List Value} (h : Blk w g t (A ++ (V ++ Z)).toArray) : w.there g A.length V.length:=λj hj=>by
 refine ⟨?_,h.free _⟩;rw [h.cell];simp only [List.getElem?_toArray];rw [List.getElem?_append_right (by omega),Nat.add_sub_cancel_left,List.getElem?_append_left hj,List.getElem?_eq_getElem hj]
 rfl
section
variable {P : Program} {ops : Array Oper} {Q : Exit -> Act -> World -> Prop} {N : Nat} {E : List (Nat × Value)} {w : World} {o : Oper} {rest : List Oper} {k : Nat}
theorem N7 {ty t : TypeId} {p x : Operand} (g off : Nat) (A V Z U : List Value) (hg : o.guard = none) (hd : o.dst = none) (ho : o.op = .store ty p x) (hp : ev E p = some (.pointer (some ⟨g,off,none⟩))) (hx : ev E x = some (.agg U.toArray))
  (hb : Blk w g t (A ++ (V ++ Z)).toArray) (hoff : off = A.length) (hl : V.length = U.length) (hi : (P.info? ty).map (·.size) = some U.length) (h1 : ∀ v ∈ U,v.oneCell' = true)
  (hn : ∀ W',uQ w W' g -> Blk W' g t (A ++ (U ++ Z)).toArray -> lF P ops Q rest N E W') : lF P ops Q (o :: rest) N E w:=by
 subst hoff;have h2:=yB U A V Z w hb hl (uQ.refl w g);exact UW g A.length U.toArray hg hd ho hp hx (by have:=KT hb; rw [hl] at this; simpa using this) (by simpa using hi) (all_oneCell_toArray h1) (by simpa using hn _ h2.2 h2.1)
end
theorem lG {K : Act -> World -> Prop} {Q : Exit -> Act -> World -> Prop} {N : Nat} {E : List (Nat × Value)} {w : World} (h : kF (Q .ret) N E w) : kF (Exit.then K Q .ret) N E w:=h
theorem iC {P : Program} {ops : Array Oper} {Q : Exit -> Act -> World -> Prop} {N : Nat} {E : List (Nat × Value)} {w : World} {o : Oper} {rest : List Oper} {ty t : TypeId} {p x : Operand} (g : Nat) (old cells : Array Value) (hg : o.guard = none) (hd : o.dst = none) (ho : o.op = .store ty p x) (hp : ev E p = some (.pointer (some ⟨g,0,none⟩))) (hx : ev E x = some (.agg cells))
  (hb : Blk w g t old) (hi : (P.info? ty).map (·.size) = some cells.size) (hz : old.size = cells.size) (h1 : ∀ v ∈ cells.toList,v.oneCell' = true) (hn : ∀ w',Up w w' -> Blk (w'.setRow g cells) g t cells -> lF P ops Q rest N E (w'.setRow g cells)) :
  bF P ops (Up w) (λa'=>∀ w',Up w w' -> wpList P ops Q (o :: rest) a' w') [] N E :=
 uJ λw' hw'=>mH g old cells hg hd ho hp hx (hw'.blk hb) hi hz h1 (hn w' hw' ((hw'.blk hb).row _))
def GS (w : World) (base e : Nat) (A : Option Addr) (c : Nat) (xs : List Value) : Prop:=w.ownsRow base e 1 (.slice A xs.length c) xs.length xs
section
variable {w w' : World} {base e c : Nat} {A : Option Addr} {xs : List Value}
theorem GS.nil (w : World) (base e : Nat) : GS w base e none 0 []:=⟨rfl,.inl ⟨rfl,rfl⟩⟩
theorem GS.cut (h : GS w base e A c xs) : (A = none /\ c = 0 /\ xs = []) \/ ∃ g,A = some ⟨g,0,none⟩ /\ base <= g /\ VL w g xs:=by
 rcases h.2 with ⟨h1,h2⟩ | ⟨g,cap,cur,hv,hb,hg,hn,hc,hcs,htk⟩
 ·injection h1 with h3 h4 h5
  exact .inl ⟨h3,h5,cQ h2⟩
 ·injection hv with h3 h4 h5
  have hB : Blk w g e cur:=hg;refine .inr ⟨g,h3,hb,hB.lt,λj v hj=>?_,λj _=>hB.free j⟩;rw [hB.cell j];rw [<-htk,jN] at hj
  split at hj
  ·simpa using hj
  ·cases hj
theorem GS.lt (h : GS w base e A c xs) : ∀ k,A.map (·.block) = some k -> base <= k /\ k < w.heap.size:=λk hk=>by
 rcases h.cut with ⟨h1,_,_⟩ | ⟨g,h1,h2,h3⟩
 ·rw [h1] at hk
  cases hk
 ·rw [h1] at hk
  cases hk
  exact ⟨h2,h3.lt⟩
theorem GS.kH (h : GS w base e A c xs) (hk : ∀ k,A.map (·.block) = some k -> w'.heap[k]? = w.heap[k]?) : GS w' base e A c xs:=by
 refine ⟨h.1,?_⟩
 rcases h.2 with h1 | ⟨g,cap,cur,hv,hb,hg,hr⟩
 ·exact .inl h1
 ·injection hv with h3 h4 h5
  refine .inr ⟨g,cap,cur,by rw [h3,h5],hb,?_,hr⟩;rw [hk g (by rw [h3]; rfl)];exact hg
theorem GS.below {B : Nat} (h : GS w base e A c xs) (hb : Below B w w') (hB : w.heap.size <= B) : GS w' base e A c xs:=h.kH λk hk=>hb.block k (bB (h.lt k hk).2 hB)
theorem GS.up (h : GS w base e A c xs) (hb : Up w w') : GS w' base e A c xs:=h.below hb (aF _)
theorem GS.far (h : GS w base e A c xs) {p : Addr} (hp : A.map (·.block) ≠ some p.block) (u : Value) : GS (w.setCell p u) base e A c xs:=h.kH λk hk=>heap_setCell_other w p k u (λhe=>hp (by rw [hk,he]))
theorem GS.IM {W0 : World} (h : GS w base e A c xs) (hbe : Below base W0 w) (hg : w.grownBy w' (A.map (·.block))) (hz : base <= w.heap.size) : Below base W0 w':=hbe.grown hg hz λk hk=>(h.lt k hk).1
end
theorem IB (z : Value) (n : Nat) : madeCells #[z] n = (aD n z).toArray:=by
 apply Array.ext (by simp [madeCells])
 intro i h1 h2
 simp [madeCells,Nat.mod_one]
section
variable {ops : Array Oper} {Q : Exit -> Act -> World -> Prop} {N : Nat} {E : List (Nat × Value)} {w : World} {o : Oper} {rest : List Oper} {k : Nat}
theorem ID {l c : Operand} {t e : TypeId} {K : IntKind} {z : Value} {bytes : Nat} (n : Nat) (hg : o.guard = none) (hd : o.dst = some k) (hk : aQ k N = true) (ho : o.op = .makeSlice t l c) (hl : ev E l = some (.int K (n : Int))) (hc : ev E c = some (.int K (n : Int)))
  (ht : Tryd.prog.underlying t = some (.slice e)) (hi : (Tryd.prog.info? e).map (λi=>(i.zero,i.size,i.bytes)) = some (some z,1,bytes)) (hz1 : z.cells = #[z]) (hbytes : bytes * n <= 281474976710656) (h63 : n <= 9223372036854775807)
  (hn : lF Tryd.prog ops Q rest N ((k,.slice (some ⟨w.heap.size,0,none⟩) n n) :: E) (w.alloc (.cells (aD n z).toArray e))) : lF Tryd.prog ops Q (o :: rest) N E w:=by
 obtain ⟨i,hi0,hz0,hs,hb⟩:=info_parts hi;refine nH _ hg hd hk (λa ha=>?_) hn;have h1:=ha.eval hl;have h2:=ha.eval hc;have hr:=run_make_row (P:=Tryd.prog) t e i z ht hi0 hz0 hs hz1 K K n (by rw [hb]; exact hbytes) h63 w;rw [IB] at hr
 unfold execOp
 simp only [ho,h1,h2,aJ,hr,aG,aI]
theorem B9 {s x : Operand} {t e : TypeId} {z : Value} {base bytes c m d : Nat} {A : Option Addr} {xs news : List Value} {ad : Addr} (hg : o.guard = none) (hd : o.dst = some k) (hk : aQ k N = true) (ho : o.op = .call { callee:=.builtin .append,args:=#[s,x],argTypes:=#[t,t] })
  (hs : ev E s = some (.slice A xs.length c)) (hx : ev E x = some (.slice (some ad) m d)) (ht : Tryd.prog.underlying t = some (.slice e)) (hi : (Tryd.prog.info? e).map (λi=>(i.zero,i.size,i.bytes)) = some (some z,1,bytes)) (hz1 : z.cells.size = 1)
  (hown : GS w base e A c xs) (hm : news.length = m) (hnews : ∀ j u,news[j]? = some u -> w.cell? (ad.add j) = some u) (h1 : ∀ u ∈ news,u.oneCell' = true) (hbytes : (xs.length + m) * bytes <= 140737488355328) (h63 : xs.length + m <= maxLen) (hbase : base <= w.heap.size)
  (hn : ∀ A' c' w',GS w' base e A' c' (xs ++ news) -> w.grownBy w' (A.map (·.block)) -> (A'.map (·.block) = A.map (·.block) \/ A'.map (·.block) = some w.heap.size) -> lF Tryd.prog ops Q rest N ((k,.slice A' (xs ++ news).length c') :: E) w') :
  lF Tryd.prog ops Q (o :: rest) N E w:=by
 obtain ⟨i,hi0,hz0,hs0,hb⟩:=info_parts hi
 have hob : ∀ (B : Option Addr) (n m : Nat),(Value.slice B n m).ownBlock = B.map (·.block):=λB n m=>by cases B <;> rfl
 obtain ⟨v',w',hr,ho',hgr,_,hat⟩:=run_append_own_at (P:=Tryd.prog) w base t o.type e i z 1 bytes ht hi0 hz0 hs0 hb hz1 (by omega) _ xs.length xs hown ad m d news (by rw [hm,Nat.mul_one]) hnews h1 h63 hbytes hbase
 have hlen : (xs ++ news).length = xs.length + m:=by rw [aO,hm]
 rw [<-hlen] at ho'
 obtain ⟨A',c',rfl⟩ : ∃ A' c',v' = .slice A' (xs ++ news).length c':=by
  rcases ho'.2 with ⟨h0,hn⟩ | ⟨g,cap,cur,hv,_⟩
  ·exact ⟨none,0,by rw [h0,hn]⟩
  ·exact ⟨_,_,hv⟩
 rw [hob] at hgr hat;rw [hob] at hat;refine nH _ hg hd hk (λa ha=>?_) (hn A' c' w' ho' hgr hat);have h2:=ha.eval hs;have h3:=ha.eval hx
 unfold execOp
 simp only [ho,resolve,invoke,builtin,aJ,aI,aG,eD,cH,gK,h2,h3,hr]
end
theorem z9 : (Tryd.prog.info? 49).map (λi=>(i.zero,i.size,i.bytes)) = some (some (.int .u64 0),1,8):=by kernel_rfl
theorem lQ : (Tryd.prog.info? 5).map (λi=>(i.zero,i.size,i.bytes)) = some (some (.int .u8 0),1,1):=by kernel_rfl
theorem GS.new (w : World) (base e : Nat) (h : base <= w.heap.size) : GS (w.alloc (.cells #[] e)) base e (some ⟨w.heap.size,0,none⟩) 0 [] :=
 ⟨rfl,.inr ⟨w.heap.size,0,#[],rfl,h,Blk.new w _ _,aF _,dC _,rfl,rfl⟩⟩
def cop (z : List UInt8) (off : Nat) (l : List UInt8) : List UInt8:=z.take off ++ (l ++ z.drop (off + l.length))
theorem EZ {z l : List UInt8} {off : Nat} (h : off + l.length <= z.length) : (cop z off l).length = z.length:=by
 simp [cop]
 omega
def Rg (Q : Exit -> Act -> World -> Prop) (w : World) (d s : Operand) (dst : Option Tmp) (a' : Act) : Prop :=
  ∃ (g off n c g2 c2 : Nat) (t t2 : TypeId) (z l : List UInt8),a'.eval d = .slice (some ⟨g,off,none⟩) n c /\ a'.eval s = .slice (some ⟨g2,0,none⟩) l.length c2 /\ Blk w g t (By z).toArray /\ Blk w g2 t2 (By l).toArray /\ l.length <= n /\ off + l.length <= z.length /\
    ∀ w',Up w w' -> Q .normal (a'.put dst (goInt l.length)) (w'.setRow g (By (cop z off l)).toArray)
theorem Bf : (Tryd.prog.info? 5).map (·.size) = some 1:=by kernel_rfl
theorem M5 {Q : Exit -> Act -> World -> Prop} {id : Nat} {a : Act} {w : World} {l : List Oper} {o : Oper} (n : Nat) (d s : Operand) (hos : l.drop n = [o]) (ho : o.op = .call { callee:=.builtin .copy,args:=#[d,s],argTypes:=#[37,37] }) (hg : o.guard = none)
  (hB : nE l.toArray n 0 1 = true) (hQ : ∀ c a d v w,Q (.panic c) (a.put d v) w -> Q (.panic c) a w) (hm : Tryd.prog.follows .mixedOrders = true)
  (h : wpB Tryd.prog l.toArray (Up w) (Rg Q w d s o.dst) (l.take n) a) : (Code.region id l.toArray true).wp Tryd.prog Q a w:=by
 have hn : n <= l.length:=by
  have h1:=congrArg List.length hos;simp only [iG,bW,qJ] at h1
  omega
 refine yF n (Up w) hn hm (by rw [hos]; exact hB) (λ_ _ h k=>h.step k) (Up.drew w) hQ ?_;rw [hos];refine kE (λa' h' w' hw'=>?_) _ _ h;obtain ⟨g,off,n,c,g2,c2,t,t2,z,l,hd,hs,hz,hl,h1,h2,hk⟩:=h';have hb:=hw'.blk hz;have hb2:=hw'.blk hl;refine wpList_copy_own hg d s 37 37 ho 5 Tryd.underlying37 Bf g off n c ⟨g2,0,none⟩ l.length c2 hd hs (By z).toArray t hb (By l) (by rw [b6]; exact (cO h1).symm) ?_ (by rw [b6,bA,b6]; exact h2) (lJ l) ?_
 ·intro j v hv
  have hj : (Addr.mk g2 0 none).add j = ⟨g2,j,none⟩:=by
   unfold Addr.add
   by_cases h0 : j = 0
   ·subst h0; rfl
   ·simp [h0]
  rw [hj,hb2.cell j]
  simpa using hv
 ·have e : (By z).toArray.toList.take off ++ (By l ++ (By z).toArray.toList.drop (off + (By l).length)) = By (cop z off l):=by
   simp [cop,By]
  rw [e,b6];exact hk w' hw'
theorem oG {ops : Array Oper} {rest : List Oper} {o : Oper} {a : Act} {w : World} {Q : Exit -> Act -> World -> Prop} (d s : Operand) (hgd : o.guard = none) (ho : o.op = .call { callee:=.builtin .copy,args:=#[d,s],argTypes:=#[37,37] })
  (g off n c : Nat) (hd : a.eval d = .slice (some ⟨g,off,none⟩) n c) (P : Option Addr) (l : List UInt8) (c2 : Nat) (hs : a.eval s = .slice P l.length c2) (z : List UInt8) (t : Nat) (hz : Blk w g t (By z).toArray) (lo hi : Nat) (hl : BV w lo hi P l) (hn : off + n = z.length)
  (z' : List UInt8) (hz' : Go.RowKit.Hid (cop z off (l.take n) = z')) (m : Nat) (hm : Go.RowKit.Hid (min l.length n = m)) (h : wpList Tryd.prog ops Q rest (a.put o.dst (.int .i64 (m : Int))) (w.setRow g (By z').toArray)) : wpList Tryd.prog ops Q (o :: rest) a w:=by
 have e0:=hz'.out;have e1:=hm.out;subst e0;subst e1
 by_cases h0 : min l.length n = 0
 ·have ht : l.take n = []:=by
   rw [List.take_eq_nil_iff]
   rcases Nat.min_eq_zero_iff.1 h0 with h1 | h1
   ·exact .inr (cQ h1)
   ·exact .inl h1
  have e : cop z off (l.take n) = z:=by
   rw [ht]
   simp [cop]
  have e2 : w.setRow g (By z).toArray = w:=setRow_self w g _ t (0,0) hz;rw [e,e2,h0] at h;exact wpList_copy_nothing hgd d s 37 37 ho 5 Tryd.underlying37 Bf _ _ n c l.length c2 hd hs h0 h
 ·have hlp : 0 < l.length:=by omega
  obtain ⟨ad,rfl,_,_,hc⟩:=hl hlp
  have hlt : (By (l.take n)).length = Nat.min l.length n:=by
   rw [b6,aZ];exact Nat.min_comm _ _
  refine wpList_copy_own hgd d s 37 37 ho 5 Tryd.underlying37 Bf g off n c ad l.length c2 hd hs (By z).toArray t hz (By (l.take n)) hlt ?_ (by rw [hlt,bA,b6,<-hn]; exact Nat.add_le_add_left (Nat.min_le_right _ _) _) (lJ _) ?_
  ·intro j v hv
   obtain ⟨x,hx,rfl⟩:=PE hv;refine hc j x ?_;rw [jN] at hx
   split at hx
   ·exact hx
   ·cases hx
  ·have e : (By z).toArray.toList.take off ++ (By (l.take n) ++ (By z).toArray.toList.drop (off + (By (l.take n)).length)) = By (cop z off (l.take n)):=by
    simp [cop,By]
   rw [e,hlt];exact h
def z64 : List UInt8:=aD 64 0
theorem Jn : z64.length = 64:=List.length_replicate
def SB (w : World) (v : Value) (l : List UInt8) : Prop:=∃ A c,v = .slice A l.length c /\ SL w 0 w.heap.size A l c
def PT (w : World) (A : Option Addr) (ls : List (List UInt8)) : Prop:=oM w w.heap.size A ls
theorem SB.later {w w' : World} {v : Value} {l : List UInt8} (h : SB w v l) (hb : Below w.heap.size w w') : SB w' v l:=by
 obtain ⟨A,c,e,h1⟩:=h;exact ⟨A,c,e,(h1.below hb (aF _)).more (aF _) hb.size⟩
theorem PT.later {w w' : World} {A : Option Addr} {ls : List (List UInt8)} (h : PT w A ls) (hb : Below w.heap.size w w') : PT w' A ls:=λhl=>by
 obtain ⟨ad,e,h1,h2⟩:=h.below hb (aF _) hl;refine ⟨ad,e,bB h1 hb.size,λi l hi=>?_⟩;obtain ⟨A',c,h3,h4⟩:=h2 i l hi;exact ⟨A',c,h3,h4.more (aF _) hb.size⟩
theorem SB.nil (w : World) : SB w (.slice none 0 0) []:=⟨none,0,rfl,SL.nil _ _ _⟩
theorem SB.arr {w : World} {g t off n c : Nat} {z l : List UInt8} (h : Blk w g t (By z).toArray) (hl : (z.drop off).take n = l) (hn : l.length = n) (hc : n <= c) (hc2 : c <= 9223372036854775807) : SB w (.slice (some ⟨g,off,none⟩) n c) l:=by
 refine ⟨some ⟨g,off,none⟩,c,by rw [hn],by rw [hn]; exact hc,hc2,λh=>(by cases h),λ_=>⟨_,rfl,dC _,h.lt,λj x hx=>?_⟩⟩;rw [<-hl,jN] at hx
 split at hx
 ·rw [List.getElem?_drop] at hx
  rw [k9,h.cell]
  simp [By,hx]
 ·cases hx
theorem SB.all {w : World} {g t n : Nat} {l : List UInt8} (h : Blk w g t (By l).toArray) (hn : l.length = n) (hc2 : n <= 9223372036854775807) : SB w (.slice (some ⟨g,0,none⟩) n n) l :=
 SB.arr h (by rw [qI,bT (by omega)]) hn (aF _) hc2
theorem GS.sb {w : World} {base c : Nat} {A : Option Addr} {l : List UInt8} (h : GS w base 5 A c (By l)) : SB w (.slice A l.length c) l:=by
 have h2:=h.2;rw [b6] at h2
 rcases h2 with ⟨h1,h3⟩ | ⟨g,cap,cur,hv,_,hg,hn,hc,_,htk⟩
 ·injection h1 with h4 h5 h6
  have:=cQ h3;subst h4 h6 this;exact SB.nil w
 ·injection hv with h4 h5 h6
  subst h4 h6;refine ⟨_,c,rfl,hn,by unfold maxLen at hc; omega,λh=>(by cases h),λ_=>⟨_,rfl,dC _,Blk.lt hg,λj x hx=>?_⟩⟩;have hB : Blk w g _ cur:=hg;rw [k9,hB.cell,cW]
  have h7 : (By l)[j]? = some (.int .u8 (x.toNat : Int)):=by simp [By,hx]
  rw [<-htk,jN] at h7
  split at h7
  ·simpa using h7
  ·cases h7
section
variable {ops : Array Oper} {Rel : World -> World -> Prop} [hR : KH Rel] {C0 : World -> Prop} {Q : Facts -> Act -> Prop} {N : Nat} {E : List (Nat × Value)} {Fa : Told} {o : Oper} {rest : List (Nat × Oper)} {i k : Nat}
theorem IP {f : FuncId} {xs : Array Operand} {ats : Array TypeId} (args : Array Value) (V : Value -> World -> Prop) (hg : o.guard = none) (hd : o.dst = some k) (hk : aQ k N = true) (hf : rW i Fa = true) (hp : ∀ v,Ho Rel (V v)) (hown : Own f)
  (hc : ∀ w,C0 w -> Uses o Fa w -> Calls Tryd.prog f args w (λe w'=>∃ v,e = .returned v /\ V v w' /\ Below w.heap.size w w'))
  (ho : o.op = .call { callee:=.value (.func f),args:=xs,argTypes:=ats }) (hx : xs.toList.map (ev E) = args.toList.map some)
  (hn : ∀ v w,C0 w -> V v w -> gF Tryd.prog Rel ops C0 Q rest N ((k,v) :: E) ((i,V v) :: Fa)) : gF Tryd.prog Rel ops C0 Q ((i,o) :: rest) N E Fa :=
 Kf V hg hd hk hf (by rw [ho]; rfl) hp (λa ha w hw hu=>by
  rw [jT hown ho,oI (ha.G0 _ _ hx)]
  exact ⟨rfl,(hc w hw hu).mono λe w' ⟨v,h1,h2,h3⟩=>⟨v,h1,hR.below _ _ h3,h2⟩⟩) hn
theorem yU {ty : TypeId} (zs : Array Value) (base : Nat) (hg : o.guard = none) (hd : o.dst = some k) (hk : aQ k N = true) (hf : rW i Fa = true) (ho : o.op = .alloc ty) (hz : (Tryd.prog.info? ty).bind (λi=>i.zero.map (·.cells)) = some zs)
  (hb : ∀ w,C0 w -> base <= w.heap.size) (hp : ∀ g,Ho Rel λw=>base <= g /\ Blk w g ty zs)
  (hn : ∀ g w,C0 w -> base <= g -> Blk w g ty zs -> gF Tryd.prog Rel ops C0 Q rest N ((k,.pointer (some ⟨g,0,none⟩)) :: E) ((i,λw=>base <= g /\ Blk w g ty zs) :: Fa)) : gF Tryd.prog Rel ops C0 Q ((i,o) :: rest) N E Fa :=
 Kf (λv w=>∃ g,v = .pointer (some ⟨g,0,none⟩) /\ base <= g /\ Blk w g ty zs) hg hd hk hf (by rw [ho]; rfl) (λv w w' ⟨g,e,h⟩ hr=>⟨g,e,hp g w w' h hr⟩) (λa _ w hw _=>by
  rw [c9 ho hz a w]
  exact ⟨hR.below _ _ ((Below.refl w.heap.size w).alloc (aF _) _),w.heap.size,rfl,hb w hw,Blk.new w _ _⟩) (λv w hw ⟨g,e,h1,h2⟩=>by
  subst e
  intro a F ha hF
  refine hn g w hw h1 h2 a F ha λx hx w hw=>?_
  rcases cA.1 hx with rfl | hx
  ·obtain ⟨g',e,h⟩:=hF (i,λw=>∃ g',Value.pointer (some ⟨g,0,none⟩) = .pointer (some ⟨g',0,none⟩) /\ base <= g' /\ Blk w g' ty zs) bZ w hw
   injection e with e
   injection e with e
   injection e with e
   subst e;exact h
  ·exact hF x (bE _ hx) w hw)
end
theorem sX : (Tryd.prog.info? 37).map (λi=>(i.zero,i.size,i.bytes)) = some (some (.slice none 0 0),1,24):=by kernel_rfl
theorem Ia (vs : List Value) (n : Nat) (parts : Array (Nat × Value)) (hp : parts.toList = (vs.zipIdx 0).map λx=>(x.2,x.1)) (hn : vs.length = n) (h0 : 0 < n) (h24 : n <= 16777216) (h1 : ∀ v ∈ vs,v.cells = #[v]) (w : World) :
  (mX 63 n parts).run Tryd.prog w = .ok (.slice (some ⟨w.heap.size,0,none⟩) n n) (w.alloc (.cells vs.toArray 37)):=by
 obtain ⟨ie,h2,h3,h4,_⟩:=info_parts sX;refine run_buildSlice w 63 37 n parts vs.toArray ie _ Tryd.underlying63 h2 h3 (by rw [h4]; omega) (by rw [h4]; omega) ?_;rw [hp,h4];exact Great.fill_flat _ _ h1 (by simp [hn])
def lW (w : World) : List Value -> List (List UInt8) -> Prop
  | [],[]=>True
  | v :: vs,l :: ls=>SB w v l /\ lW w vs ls
  | _,_=>False
theorem lW.len {w : World} : ∀ {vs : List Value} {ls : List (List UInt8)},lW w vs ls -> vs.length = ls.length
 | [],[],_=>rfl
 | _ :: _,_ :: _,h=>by rw [bW,bW,lW.len h.2]
 | [],_ :: _,h=>h.elim
 | _ :: _,[],h=>h.elim
theorem lW.get {w : World} : ∀ {vs : List Value} {ls : List (List UInt8)},lW w vs ls -> ∀ (i : Nat) l,ls[i]? = some l -> ∃ v,vs[i]? = some v /\ SB w v l
 | [],[],_,i,l,h=>by simp at h
 | v :: vs,l0 :: ls,h,0,l,hi=>by
  simp only [bX,bH] at hi;subst hi;exact ⟨v,rfl,h.1⟩
 | v :: vs,l0 :: ls,h,i + 1,l,hi=>by
  obtain ⟨u,h1,h2⟩:=lW.get h.2 i l (by simpa using hi);exact ⟨u,by simpa using h1,h2⟩
 | [],_ :: _,h,_,_,_=>h.elim
 | _ :: _,[],h,_,_,_=>h.elim
theorem lW.one {w : World} : ∀ {vs : List Value} {ls : List (List UInt8)},lW w vs ls -> ∀ v ∈ vs,v.cells = #[v] /\ v.oneCell' = true
 | [],_,_,v,hv=>by simp at hv
 | u :: vs,l :: ls,h,v,hv=>by
  rcases cA.1 hv with rfl | hv
  ·obtain ⟨A,c,rfl,_⟩:=h.1
   exact ⟨rfl,rfl⟩
  ·exact lW.one h.2 v hv
 | _ :: _,[],h,_,_=>h.elim
theorem lW.later {w w' : World} (hb : Below w.heap.size w w') : ∀ {vs : List Value} {ls : List (List UInt8)},lW w vs ls -> lW w' vs ls
 | [],[],_=>trivial
 | _ :: _,_ :: _,h=>⟨h.1.later hb,lW.later hb h.2⟩
 | [],_ :: _,h=>h.elim
 | _ :: _,[],h=>h.elim
structure zD (base : Nat) (vs : List Value) (ls : List (List UInt8)) (g : Nat) (w : World) : Prop where
  ge : base <= g
  blk : Blk w g 37 vs.toArray
  all : lW w vs ls
theorem zD.later {base g : Nat} {vs : List Value} {ls : List (List UInt8)} {w w' : World} (h : zD base vs ls g w) (hb : Below w.heap.size w w') : zD base vs ls g w':=⟨h.ge,h.blk.later hb,lW.later hb h.all⟩
theorem Na {w : World} {g : Nat} {vs : List Value} {ls : List (List UInt8)} {cs : Array Value} {t : Nat} (hB : Blk w g t cs) (htk : ∀ (j : Nat) (v : Value),vs[j]? = some v -> cs[j]? = some v) (h : lW w vs ls) : PT w (some ⟨g,0,none⟩) ls:=λ_=>by
 refine ⟨_,rfl,hB.lt,λi l hi=>?_⟩;obtain ⟨v,h1,A,c,rfl,h3⟩:=h.get i l hi;refine ⟨A,c,?_,h3⟩;rw [k9,hB.cell,cW];exact htk i _ h1
theorem zD.pt {base g : Nat} {vs : List Value} {ls : List (List UInt8)} {w : World} (h : zD base vs ls g w) : PT w (some ⟨g,0,none⟩) ls:=Na h.blk (λj v hj=>by simpa using hj) h.all
section
variable {ops : Array Oper} {C0 : World -> Prop} {Q : Facts -> Act -> Prop} {N : Nat} {E : List (Nat × Value)} {Fa : Told} {o : Oper} {rest : List (Nat × Oper)} {i k : Nat}
theorem uF {n : Nat} {parts : Array (Nat × Operand)} (vs : List Value) (ls : List (List UInt8)) (base : Nat) (hg : o.guard = none) (hd : o.dst = some k) (hk : aQ k N = true) (hf : rW i Fa = true) (ho : o.op = .buildSlice 63 n parts)
  (hv : parts.toList.map (λp=>(p.1,ev E p.2)) = (vs.zipIdx 0).map λx=>(x.2,some x.1)) (hn : vs.length = n) (h0 : 0 < n) (h24 : n <= 16777216) (hb : ∀ w,C0 w -> base <= w.heap.size) (h : ∀ w,C0 w -> Uses o Fa w -> lW w vs ls)
  (hk2 : ∀ g w,C0 w -> zD base vs ls g w -> gF Tryd.prog Bel ops C0 Q rest N ((k,.slice (some ⟨g,0,none⟩) n n) :: E) ((i,zD base vs ls g) :: Fa)) : gF Tryd.prog Bel ops C0 Q ((i,o) :: rest) N E Fa :=
 Kf (λv w=>∃ g,v = .slice (some ⟨g,0,none⟩) n n /\ zD base vs ls g w) hg hd hk hf (by rw [ho]; rfl) (λv w w' ⟨g,e,h⟩ hr=>⟨g,e,h.later hr⟩) (λa ha w hw hu=>by
  have hA:=h w hw hu
  have hm : ∀ (l : List (Nat × Operand)) (m : List (Value × Nat)),l.map (λp=>(p.1,ev E p.2)) = m.map (λx=>(x.2,some x.1)) -> l.map (λ(i,x)=>(i,a.eval x)) = m.map λx=>(x.2,x.1):=by
   intro l
   induction l with
   | nil=>intro m h; cases m with
    | nil=>rfl
    | cons=>cases h
   | cons p l ih=>intro m h; cases m with
    | nil=>cases h
    | cons u m =>
     simp only [cH,pC,CF] at h ⊢;exact ⟨⟨h.1.1,ha.eval h.1.2⟩,ih m h.2⟩
  have hr:=Ia vs n (parts.map λ(i,x)=>(i,a.eval x)) (by rw [sJ]; exact hm _ _ hv) hn h0 h24 (λv hv=>(hA.one v hv).1) w;have hal:=(Below.refl w.heap.size w).alloc (aF _) (.cells vs.toArray 37)
  unfold execOp
  simp only [ho,aJ,hr,aG,aI]
  exact ⟨hal,w.heap.size,rfl,hb w hw,Blk.new w _ _,lW.later hal hA⟩) (λv w hw ⟨g,e,h2⟩=>by
  subst e
  intro a F ha hF
  refine hk2 g w hw h2 a F ha λx hx w hw=>?_
  rcases cA.1 hx with rfl | hx
  ·obtain ⟨g',e,h⟩:=hF (i,λw=>∃ g',Value.slice (some ⟨g,0,none⟩) n n = .slice (some ⟨g',0,none⟩) n n /\ zD base vs ls g' w) bZ w hw
   injection e with e
   injection e with e
   injection e with e
   subst e;exact h
  ·exact hF x (bE _ hx) w hw)
end
theorem lW.app {w : World} : ∀ {vs us : List Value} {ls ms : List (List UInt8)},lW w vs ls -> lW w us ms -> lW w (vs ++ us) (ls ++ ms)
 | [],_,[],_,_,h=>h
 | _ :: _,_,_ :: _,_,h,h'=>⟨h.1,lW.app h.2 h'⟩
 | [],_,_ :: _,_,h,_=>h.elim
 | _ :: _,_,[],_,h,_=>h.elim
theorem JS {w : World} {ad : Addr} : ∀ (ls : List (List UInt8)) (o : Nat),(∀ (i : Nat) l,ls[i]? = some l -> ∃ v,w.cell? (ad.add (o + i)) = some v /\ SB w v l) -> ∃ vs,lW w vs ls /\ ∀ (j : Nat) u,vs[j]? = some u -> w.cell? (ad.add (o + j)) = some u
 | [],_,_=>⟨[],trivial,λj u h=>by simp at h⟩
 | l :: ls,o,h=>by
  obtain ⟨v,h1,h2⟩:=h 0 l rfl
  obtain ⟨vs,h3,h4⟩:=JS ls (o + 1) λi l' hi=>by
   obtain ⟨v',h5,h6⟩:=h (i + 1) l' (by simpa using hi);exact ⟨v',by rw [show o + 1 + i = o + (i + 1) by omega]; exact h5,h6⟩
  refine ⟨v :: vs,⟨h2,h3⟩,λj u hj=>?_⟩
  cases j with
  | zero =>
   simp only [bX,bH] at hj;subst hj;exact h1
  | succ j =>
   have:=h4 j u (by simpa using hj)
   rwa [show o + 1 + j = o + (j + 1) by omega] at this
theorem GS.pt {w : World} {base c : Nat} {A : Option Addr} {vs : List Value} {ls : List (List UInt8)} (h : GS w base 37 A c vs) (hA : lW w vs ls) : PT w A ls /\ ls.length <= c /\ c <= 9223372036854775807:=by
 have hlen:=hA.len
 rcases h.2 with ⟨h1,h3⟩ | ⟨g,cap,cur,hv,_,hg,hn,hc,_,htk⟩
 ·injection h1 with h4 h5 h6
  subst h6;exact ⟨λh0=>absurd h0 (by omega),by omega,by omega⟩
 ·injection hv with h4 h5 h6
  subst h4 h6;refine ⟨Na (cs:=cur) hg (λj v hj=>?_) hA,by omega,by unfold maxLen at hc; omega⟩;rw [<-htk,jN] at hj
  split at hj
  ·simpa using hj
  ·cases hj
theorem zD.gs {base n g : Nat} {vs : List Value} {ls : List (List UInt8)} {w : World} (h : zD base vs ls g w) (hn : vs.length = n) (hm : n <= 9223372036854775807) : GS w base 37 (some ⟨g,0,none⟩) n vs:=by
 refine ⟨by simp,.inr ⟨g,n,vs.toArray,rfl,h.ge,h.blk,by omega,by unfold maxLen; omega,by simp [hn],by simp⟩⟩
section
variable {ops : Array Oper} {Q : Exit -> Act -> World -> Prop} {N : Nat} {E : List (Nat × Value)} {w : World} {o : Oper} {rest : List Oper} {k : Nat}
theorem Tl {s x : Operand} {base c d : Nat} {A X : Option Addr} {vs : List Value} {ls : List (List UInt8)} (hg : o.guard = none) (hd : o.dst = some k) (hk : aQ k N = true) (ho : o.op = .call { callee:=.builtin .append,args:=#[s,x],argTypes:=#[63,63] })
  (hs : ev E s = some (.slice A vs.length c)) (hx : ev E x = some (.slice X ls.length d)) (hown : GS w base 37 A c vs) {W0 : World} (hW : Up W0 w) (hP : PT W0 X ls) (h0 : X = none -> d = 0 /\ ls = []) (hb : (vs.length + ls.length) * 24 <= 140737488355328) (hbase : base <= w.heap.size)
  (hn : ∀ A' c' w' us,lW W0 us ls -> GS w' base 37 A' c' (vs ++ us) -> w.grownBy w' (A.map (·.block)) -> lF Tryd.prog ops Q rest N ((k,.slice A' (vs ++ us).length c') :: E) w') : lF Tryd.prog ops Q (o :: rest) N E w:=by
 cases X with
 | none =>
  obtain ⟨rfl,rfl⟩:=h0 rfl;obtain ⟨i,hi0,hz,hs0,hb⟩:=info_parts sX;have hr:=run_append_owned_none (P:=Tryd.prog) w base 63 o.type 37 i 1 Tryd.underlying63 hi0 _ vs.length vs hown;have h1:=hn A c w [] trivial (by rw [cD]; exact hown) (World.grownBy.refl _ _);rw [cD] at h1;refine nH _ hg hd hk (λa ha=>?_) h1;have h2:=ha.eval hs;have h3:=ha.eval hx
  unfold execOp
  simp only [ho,resolve,invoke,builtin,aJ,aI,aG,eD,cH,gK,h2,h3,qJ,hr]
 | some ad =>
  obtain ⟨us,h1,h2⟩:=JS (w:=W0) (ad:=ad) ls 0 λi l hi=>by
   obtain ⟨ad',e,_,h3⟩:=hP (by have:=(List.getElem?_eq_some_iff.1 hi).1; omega)
   injection e with e
   subst e;obtain ⟨A',c',h4,h5⟩:=h3 i l hi;exact ⟨_,by rw [cW]; exact h4,A',c',rfl,h5⟩
  have hl:=h1.len
  refine B9 (bytes:=24) (z:=.slice none 0 0) (news:=us) (base:=base) (e:=37) (xs:=vs) (A:=A) (c:=c) (ad:=ad) (m:=ls.length) (d:=d) hg hd hk ho hs hx Tryd.underlying63 sX rfl hown hl (λj u hj=>by
   have h5:=h2 j u hj;rw [cW] at h5
   exact (hW.cell (World.block_lt_of_cell? W0 _ h5)).trans h5) (λu hu=>(h1.one u hu).2) hb (by unfold maxLen; omega) hbase ?_
  intro A' c' w' h3 h4 _
  exact hn A' c' w' us h1 h3 h4
end
section
variable {ops : Array Oper} {Q : Exit -> Act -> World -> Prop} {N : Nat} {E : List (Nat × Value)} {w : World} {o : Oper} {rest : List Oper} {k : Nat}
theorem IE {d s : Operand} (g off n c t : Nat) (z l : List UInt8) (v : Value) (hgd : o.guard = none) (hdst : o.dst = some k) (hE : look E k = none) (ho : o.op = .call { callee:=.builtin .copy,args:=#[d,s],argTypes:=#[37,37] })
  (hd : ev E d = some (.slice (some ⟨g,off,none⟩) n c)) (hs : ev E s = some v) (hz : Blk w g t (By z).toArray) (hl : SB w v l) (h0 : 0 < l.length) (h1 : l.length <= n) (h2 : off + l.length <= z.length)
  (hn : Blk (w.setRow g (By (cop z off l)).toArray) g t (By (cop z off l)).toArray -> lF Tryd.prog ops Q rest N E (w.setRow g (By (cop z off l)).toArray)) : lF Tryd.prog ops Q (o :: rest) N E w:=λa ha=>by
 obtain ⟨A,c2,rfl,hS⟩:=hl;obtain ⟨ad,rfl,_,_,hc⟩:=hS.2.2.2 h0;refine wpList_copy_own hgd d s 37 37 ho 5 Tryd.underlying37 Bf g off n c ad l.length c2 (ha.eval hd) (ha.eval hs) (By z).toArray t hz (By l) (by rw [b6]; exact (cO h1).symm) ?_ (by rw [b6,bA,b6]; exact h2) (lJ l) ?_
 ·intro j u hu
  obtain ⟨x,hx,rfl⟩:=PE hu;exact hc j x hx
 ·have e : (By z).toArray.toList.take off ++ (By l ++ (By z).toArray.toList.drop (off + (By l).length)) = By (cop z off l):=by
   simp [cop,By]
  rw [e,hdst];exact hn (hz.row _) _ (ha.Im hE _)
end
structure l5 (g : Nat) (t : TypeId) (c : Array Value) (w w' : World) : Prop where
  os : w'.os = w.os
  tape : w'.tape = w.tape
  output : w'.output = w.output
  size : w.heap.size <= w'.heap.size
  block : ∀ k,k < w.heap.size -> k ≠ g -> w'.heap[k]? = w.heap[k]?
  here : g < w.heap.size -> w'.heap[g]? = w.heap[g]? \/ Blk w' g t c
section
variable {g : Nat} {t : TypeId} {c : Array Value} {w w' w'' : World}
theorem l5.of (h : Below w.heap.size w w') : l5 g t c w w':=⟨h.os,h.tape,h.output,h.size,λk hk _=>h.block k hk,λhk=>.inl (h.block g hk)⟩
instance : KH (l5 g t c):=⟨λ_ _=>l5.of⟩
theorem l5.trans (h : l5 g t c w w') (k : l5 g t c w' w'') : l5 g t c w w'':=by
 refine ⟨k.os.trans h.os,k.tape.trans h.tape,k.output.trans h.output,jL h.size k.size,λi hi hn=>(k.block i (bB hi h.size) hn).trans (h.block i hi hn),λhg=>?_⟩
 rcases k.here (bB hg h.size) with h1 | h1
 ·rcases h.here hg with h2 | h2
  ·exact .inl (h1.trans h2)
  ·exact .inr (h1.trans h2)
 ·exact .inr h1
theorem l5.far (h : l5 g t c w w') {g' t' : Nat} {cs : Array Value} (hb : Blk w g' t' cs) (hn : g' ≠ g) : Blk w' g' t' cs:=(h.block g' hb.lt hn).trans hb
theorem l5.self (h : l5 g t c w w') (hb : Blk w g t c) : Blk w' g t c:=by
 rcases h.here hb.lt with h1 | h1
 ·exact h1.trans hb
 ·exact h1
theorem l5.up {w0 : World} (h : l5 g t c w w') (hU : Up w0 w) (hg : w0.heap.size <= g) : Up w0 w' :=
 hU.trans ⟨h.os,h.tape,h.output,h.size,λk hk=>h.block k (bB hk hU.size) (by omega)⟩
theorem l5.set {old : Array Value} (hb : Blk w g t old) : l5 g t c w (w.setRow g c):=by
 have hs : (w.setRow g c).heap.size = w.heap.size:=by simp [dU]
 exact ⟨rfl,rfl,rfl,by rw [hs]; exact aF _,λk _ hn=>setRow_other w g k c hn,λ_=>.inr (hb.row c)⟩
end
section
variable {P : Program} {ops : Array Oper} {Rel : World -> World -> Prop} {C0 : World -> Prop} {Q : Facts -> Act -> Prop} {N : Nat} {E : List (Nat × Value)} {Fa : Told} {o : Oper} {rest : List (Nat × Oper)} {i : Nat}
theorem QY {ty t : TypeId} {p x : Operand} (g : Nat) (cells : Array Value) (hg : o.guard = none) (hd : o.dst = none) (hf : rW i Fa = true) (ho : o.op = .store ty p x) (hp : ev E p = some (.pointer (some ⟨g,0,none⟩))) (hx : ev E x = some (.agg cells))
  (hi : (P.info? ty).map (·.size) = some cells.size) (h1 : ∀ v ∈ cells.toList,v.oneCell' = true) (hb : ∀ w,C0 w -> ∃ old,Blk w g t old /\ old.size = cells.size /\ Rel w (w.setRow g cells)) (hP : Ho Rel λw=>Blk w g t cells)
  (hn : gF P Rel ops C0 Q rest N E ((i,λw=>Blk w g t cells) :: Fa)) : gF P Rel ops C0 Q ((i,o) :: rest) N E Fa:=λa F ha hF=>by
 unfold wpG
 rw [if_pos (by simp [aL,hg])];refine ⟨λv w=>v = undef /\ Blk w g t cells,λv w w' h hr=>⟨h.1,hP w w' h.2 hr⟩,.inl ⟨undef,λu w h=>h.1⟩,λw hw _=>?_,λv w hw _ hV=>hn _ _ (by dsimp only; rw [hd]; exact ha) ?_⟩
 ·obtain ⟨old,h2,h3,h4⟩:=hb w hw
  have hst:=rB (P:=P) w ty g cells old t h2 hi h3 h1
  dsimp only
  unfold execOp
  simp only [ho,ha.eval hp,ha.eval hx,aJ,hst,aG,aI];exact ⟨h4,rfl,h2.row _⟩
 ·intro x hx w hw
  rcases cA.1 hx with rfl | hx
  ·have h5 : (v = undef /\ Blk w g t cells):=by
    dsimp only at hw
    rwa [iQ] at hw
   exact h5.2
  ·exact (hF.up hf) x hx w hw
end
section
variable {ops : Array Oper} {C0 : World -> Prop} {Q : Act -> Prop} {N : Nat} {E : List (Nat × Value)} {o : Oper} {rest : List Oper} {k : Nat}
theorem sV {x : Operand} (g : Nat) (hg : o.guard = none) (hd : o.dst = some k) (hk : aQ k N = true) (ho : o.op = .slice 25 x none (some (.const (.int .i64 32))) none) (hx : ev E x = some (.pointer (some ⟨g,0,none⟩)))
  (hn : bF Tryd.prog ops C0 Q rest N ((k,.slice (some ⟨g,0,none⟩) 32 64) :: E)) : bF Tryd.prog ops C0 Q (o :: rest) N E :=
 dM _ hg hd hk (λa ha w _=>by
  have h1:=ha.eval hx
  unfold execOp
  simp only [ho,h1]
  go_simp) hn
theorem xL {x : Operand} (g : Nat) (hg : o.guard = none) (hd : o.dst = some k) (hk : aQ k N = true) (ho : o.op = .slice 25 x (some (.const (.int .i64 32))) none none) (hx : ev E x = some (.pointer (some ⟨g,0,none⟩)))
  (hn : bF Tryd.prog ops C0 Q rest N ((k,.slice (some ⟨g,32,none⟩) 32 32) :: E)) : bF Tryd.prog ops C0 Q (o :: rest) N E :=
 dM _ hg hd hk (λa ha w _=>by
  have h1:=ha.eval hx
  unfold execOp
  simp only [ho,h1]
  go_simp) hn
theorem I2 {x : Operand} (p : Option Addr) (c : Nat) (hg : o.guard = none) (hd : o.dst = some k) (hk : aQ k N = true) (ho : o.op = .sliceToArrayPointer 24 x) (hx : ev E x = some (.slice p 32 c))
  (hn : bF Tryd.prog ops C0 Q rest N ((k,.pointer p) :: E)) : bF Tryd.prog ops C0 Q (o :: rest) N E :=
 dM _ hg hd hk (λa ha w _=>by
  have h1:=ha.eval hx
  unfold execOp
  simp only [ho,h1];have hu:=run_underlying (P:=Tryd.prog) Tryd.underlying24 (w:=w);simp only [Instr.arrayAt,aJ,hu,aG]
  rfl) hn
end
theorem QO (b i : Nat) (h : i < 64) (w : World) : (mL 25 (.pointer (some ⟨b,0,none⟩)) (.int .i64 (i : Int))).run Tryd.prog w = .ok (.pointer (some ⟨b,i,none⟩)) w:=by
 have h3 : (i : Int) < 64:=by omega
 have h4 : (0 : Int) <= i:=by omega
 go_simp
theorem yA {l : List UInt8} (h : l.length = 64) : (Tryd.prog.info? 25).map (·.size) = some (By l).toArray.size:=by
 rw [bA,b6,h]
 kernel_rfl
theorem Br : (Tryd.prog.info? 25).bind (λi=>i.zero.map (·.cells)) = some (By z64).toArray:=by kernel_rfl
theorem CO {P : Program} {fn : Func} {p q : Tmp} {ty ty2 : TypeId} (h : fn.results = #[.cell p ty,.cell q ty2]) (tmps : Array Value) (w : World) (g g2 : Nat) (t t2 : TypeId) (cs cs2 : Array Value) (fr fr2 : Nat × Nat) (d d2 : TypeDesc)
  (hp : tmps.getD p undef = .pointer (some ⟨g,0,none⟩)) (hq : tmps.getD q undef = .pointer (some ⟨g2,0,none⟩)) (hg : w.heap[g]? = some (.cells cs t fr)) (hg2 : w.heap[g2]? = some (.cells cs2 t2 fr2))
  (hu : P.underlying ty = some d) (hd : (match d with | .struct _ | .array _ _=>true | _=>false) = true) (hi : (P.info? ty).map (·.size) = some cs.size)
  (hu2 : P.underlying ty2 = some d2) (hd2 : (match d2 with | .struct _ | .array _ _=>true | _=>false) = true) (hi2 : (P.info? ty2).map (·.size) = some cs2.size) :
  (results fn tmps).run P w = .ok (.tuple #[.agg cs,.agg cs2]) w:=by
 have hp' : tmps[p]?.getD undef = .pointer (some ⟨g,0,none⟩):=by simpa using hp
 have hq' : tmps[q]?.getD undef = .pointer (some ⟨g2,0,none⟩):=by simpa using hq
 simp [results,h,hp',hq',asAddr,run_loadVar_row w g t ty cs fr d hg hu hd hi,run_loadVar_row w g2 t2 ty2 cs2 fr2 d2 hg2 hu2 hd2 hi2]
theorem zJ {l : List UInt8} (h : l.length = 64) : (l.take 32).length = 32:=by rw [aZ,h]; rfl
theorem I6 {l : List UInt8} (h : l.length = 64) : (l.drop 32).length = 32:=by rw [iG,h]
theorem Fw {l : List UInt8} (h : l.length = 64) : (l.drop 32).take 32 = l.drop 32:=bT (by rw [I6 h]; exact aF _)
theorem M3 {w : World} {g t : Nat} {l : List UInt8} (h : Blk w g t (By l).toArray) (hl : l.length = 64) : w.rangeAt g 32 (By (l.drop 32)):=by
 have h1:=h.part 32 32
 have e : ((By l).drop 32).take 32 = By (l.drop 32):=by
  rw [By,By,<-List.map_drop,<-List.map_take,Fw hl]
 rwa [e] at h1
theorem M2 {w : World} {g t : Nat} {l : List UInt8} (h : Blk w g t (By l).toArray) (_ : l.length = 64) : w.rangeAt g 0 (By (l.take 32)):=by
 have h1:=h.part 0 32
 have e : ((By l).drop 0).take 32 = By (l.take 32):=by
  rw [By,By,qI,<-List.map_take]
 rwa [e] at h1
section
variable {P : Program} {ops : Array Oper} {Rel : World -> World -> Prop} {C0 : World -> Prop} {Q : Facts -> Act -> Prop} {N : Nat} {E : List (Nat × Value)} {Fa : Told} {o : Oper} {rest : List (Nat × Oper)} {i k : Nat}
theorem Kg {j t : Nat} {b : Bool} (hgd : o.guard = some (j,b)) (hj : (ops[j]?).bind (·.dst) = some t) (hN : aQ t N = true) (ht : look E t = some (.bool b)) (h : gF P Rel ops C0 Q ((i,{ o with guard:=none }) :: rest) N E Fa) : gF P Rel ops C0 Q ((i,o) :: rest) N E Fa:=λa F ha hF=>by
 have h1:=h a F ha hF
 have htN : t < a.tmps.size:=by rw [ha.size]; simpa using hN
 have h2:=ha.get t _ ht
 have h3 : a.tmps[t]? = some (.bool b):=by
  simp only [Ar,cI] at h2;rw [dF htN] at h2 ⊢
  simpa using h2
 have hw : aL o (yielded ops a.tmps) = true:=by
  unfold aL
  rw [hgd]
  simp [yielded,hj,h3]
 obtain ⟨dst,op,ty,pos,af,gd⟩:=o
 unfold wpG at h1 ⊢
 rw [if_pos hw];rw [if_pos (by rfl)] at h1;exact h1
theorem Oj {j t : Nat} {b : Bool} (hgd : o.guard = some (j,b)) (hj : (ops[j]?).bind (·.dst) = some t) (hN : aQ t N = true) (ht : look E t = some (.bool (!b))) (hd : o.dst = some k) (hk : aQ k N = true) (hf : rW i Fa = true) (h : gF P Rel ops C0 Q rest N ((k,undef) :: E) Fa) : gF P Rel ops C0 Q ((i,o) :: rest) N E Fa:=λa F ha hF=>by
 have htN : t < a.tmps.size:=by rw [ha.size]; simpa using hN
 have h2:=ha.get t _ ht
 have h3 : a.tmps[t]? = some (.bool (!b)):=by
  simp only [Ar,cI] at h2;rw [dF htN] at h2 ⊢
  simpa using h2
 have hw : ¬ aL o (yielded ops a.tmps) = true:=by
  unfold aL
  rw [hgd]
  simp [yielded,hj,h3]
 unfold wpG
 rw [if_neg hw]
 dsimp only
 rw [hd];exact h _ _ (ha.put hk _) (hF.up hf)
end
section
variable {P : Program} {ops : Array Oper} {C0 : World -> Prop} {Q : Act -> Prop} {N : Nat} {E : List (Nat × Value)} {o : Oper} {rest : List Oper} {k : Nat}
theorem Q6 {c x y : Operand} (v : Value) (hg : o.guard = none) (hd : o.dst = some k) (hk : aQ k N = true) (ho : o.op = .pick c x y) (hc : ev E c = some (.bool false)) (hy : ev E y = some v) (hn : bF P ops C0 Q rest N ((k,v) :: E)) : bF P ops C0 Q (o :: rest) N E :=
 dM _ hg hd hk (λa ha w _=>by
  have h1:=ha.eval hc;have h2:=ha.eval hy
  unfold execOp
  simp only [ho,h1,h2]
  go_simp) hn
end
section
variable {ops : Array Oper} {C0 : World -> Prop} {Q : Act -> Prop} {N : Nat} {E : List (Nat × Value)} {o : Oper} {rest : List Oper} {k : Nat}
theorem U7 {x y : Operand} {t : TypeId} (g off n c i : Nat) (hi : i < n) (ht : t = 98 \/ t = 97 \/ t = 37) (hg : o.guard = none) (hd : o.dst = some k) (hk : aQ k N = true) (ho : o.op = .indexAddr t x y)
  (hx : ev E x = some (.slice (some ⟨g,off,none⟩) n c)) (hy : ev E y = some (.int .i64 (i : Int))) (hn : bF Tryd.prog ops C0 Q rest N ((k,.pointer (some ⟨g,off + i,none⟩)) :: E)) : bF Tryd.prog ops C0 Q (o :: rest) N E :=
 dM _ hg hd hk (λa ha w _=>by
  have h1:=ha.eval hx;have h2:=ha.eval hy
  have h3 : (i : Int) < (n : Int):=by omega
  have h4 : (0 : Int) <= (i : Int):=by omega
  unfold execOp
  simp only [ho,h1,h2]
  rcases ht with rfl | rfl | rfl <;> go_simp) hn
end
section
variable {ops : Array Oper} {C0 : World -> Prop} {Q : Act -> Prop} {N : Nat} {E : List (Nat × Value)} {o : Oper} {rest : List Oper} {k : Nat}
theorem dD {x y : Operand} {t : TypeId} (g n c i : Nat) (hi : i < n) (ht : t = 98 \/ t = 97 \/ t = 37) (hg : o.guard = none) (hd : o.dst = some k) (hk : aQ k N = true) (ho : o.op = .indexAddr t x y)
  (hx : ev E x = some (.slice (some ⟨g,0,none⟩) n c)) (hy : ev E y = some (.int .i64 (i : Int))) (hn : bF Tryd.prog ops C0 Q rest N ((k,.pointer (some ⟨g,i,none⟩)) :: E)) : bF Tryd.prog ops C0 Q (o :: rest) N E :=
 U7 g 0 n c i hi ht hg hd hk ho hx hy (by rw [cW]; exact hn)
end
theorem Ic (a b c d e f g h : Int) (w : World) :
  (mX 98 8 #[(0,.int .u64 a),(1,.int .u64 b),(2,.int .u64 c),(3,.int .u64 d),(4,.int .u64 e),(5,.int .u64 f),(6,.int .u64 g),(7,.int .u64 h)]).run Tryd.prog w =
   .ok (.slice (some ⟨w.heap.size,0,none⟩) 8 8) (w.alloc (.cells #[.int .u64 a,.int .u64 b,.int .u64 c,.int .u64 d,.int .u64 e,.int .u64 f,.int .u64 g,.int .u64 h] 49)):=by
 go_simp
section
variable {ops : Array Oper} {C0 : World -> Prop} {Q : Act -> Prop} {N : Nat} {E : List (Nat × Value)} {o : Oper} {rest : List Oper} {k : Nat}
theorem Co {x : Operand} {t : TypeId} (p : Option Addr) (n c : Nat) (ht : t = 98 \/ t = 37) (hg : o.guard = none) (hd : o.dst = some k) (hk : aQ k N = true) (ho : o.op = .call { callee:=.builtin .len,args:=#[x],argTypes:=#[t] }) (hx : ev E x = some (.slice p n c))
  (hn : bF Tryd.prog ops C0 Q rest N ((k,.int .i64 (n : Int)) :: E)) : bF Tryd.prog ops C0 Q (o :: rest) N E :=
 dM _ hg hd hk (λa ha w _=>by
  have h1:=ha.eval hx
  unfold execOp
  simp only [ho,resolve,invoke,builtin,aJ,aI,aG,eD,cH,gK,h1]
  rcases ht with rfl | rfl <;> go_simp) hn
end
theorem N3 {ops : Array Oper} {Q : Exit -> Act -> World -> Prop} {N : Nat} {E : List (Nat × Value)} {w : World} {o : Oper} {rest : List Oper} {k : Nat} {x0 x1 x2 x3 x4 x5 x6 x7 : Operand} (a b c d e f g h : Nat) (hg : o.guard = none) (hd : o.dst = some k) (hk : aQ k N = true)
  (ho : o.op = .buildSlice 98 8 #[(0,x0),(1,x1),(2,x2),(3,x3),(4,x4),(5,x5),(6,x6),(7,x7)]) (e0 : ev E x0 = some (.int .u64 (a : Int))) (e1 : ev E x1 = some (.int .u64 (b : Int))) (e2 : ev E x2 = some (.int .u64 (c : Int))) (e3 : ev E x3 = some (.int .u64 (d : Int)))
  (e4 : ev E x4 = some (.int .u64 (e : Int))) (e5 : ev E x5 = some (.int .u64 (f : Int))) (e6 : ev E x6 = some (.int .u64 (g : Int))) (e7 : ev E x7 = some (.int .u64 (h : Int)))
  (hn : lF Tryd.prog ops Q rest N ((k,.slice (some ⟨w.heap.size,0,none⟩) 8 8) :: E) (w.alloc (.cells (Us [a,b,c,d,e,f,g,h]).toArray 49))) : lF Tryd.prog ops Q (o :: rest) N E w :=
 nH _ hg hd hk (λac ha=>by
  have h0:=ha.eval e0;have h1:=ha.eval e1;have h2:=ha.eval e2;have h3:=ha.eval e3;have h4:=ha.eval e4;have h5:=ha.eval e5;have h6:=ha.eval e6;have h7:=ha.eval e7;have hr:=Ic (a : Int) b c d e f g h w
  unfold execOp
  simp only [ho,eD,cH,gK,h0,h1,h2,h3,h4,h5,h6,h7,aJ,hr,aG,aI]
  rfl) hn
theorem Ie (w : World) : (mX 98 0 #[]).run Tryd.prog w = .ok (.slice (some ⟨w.heap.size,0,none⟩) 0 0) (w.alloc (.cells #[] 49)):=by
 go_simp
theorem FN (w : World) : (mX 37 0 #[]).run Tryd.prog w = .ok (.slice (some ⟨w.heap.size,0,none⟩) 0 0) (w.alloc (.cells #[] 5)):=by
 go_simp
theorem FL (x : Int) (w : World) : (mX 37 1 #[(0,.int .u8 x)]).run Tryd.prog w = .ok (.slice (some ⟨w.heap.size,0,none⟩) 1 1) (w.alloc (.cells #[.int .u8 x] 5)):=by
 go_simp
section
variable {ops : Array Oper} {Q : Exit -> Act -> World -> Prop} {N : Nat} {E : List (Nat × Value)} {w : World} {o : Oper} {rest : List Oper} {k : Nat}
theorem N4 (hg : o.guard = none) (hd : o.dst = some k) (hk : aQ k N = true) (ho : o.op = .buildSlice 98 0 #[]) (hn : lF Tryd.prog ops Q rest N ((k,.slice (some ⟨w.heap.size,0,none⟩) 0 0) :: E) (w.alloc (.cells #[] 49))) : lF Tryd.prog ops Q (o :: rest) N E w :=
 nH _ hg hd hk (λa _=>by
  have hr:=Ie w
  unfold execOp
  simp only [ho,eD,gK,aJ,hr,aG,aI]) hn
theorem LJ (hg : o.guard = none) (hd : o.dst = some k) (hk : aQ k N = true) (ho : o.op = .buildSlice 37 0 #[]) (hn : lF Tryd.prog ops Q rest N ((k,.slice (some ⟨w.heap.size,0,none⟩) 0 0) :: E) (w.alloc (.cells #[] 5))) : lF Tryd.prog ops Q (o :: rest) N E w :=
 nH _ hg hd hk (λa _=>by
  have hr:=FN w
  unfold execOp
  simp only [ho,eD,gK,aJ,hr,aG,aI]) hn
theorem zY {x : Operand} (v : Int) (hg : o.guard = none) (hd : o.dst = some k) (hk : aQ k N = true) (ho : o.op = .buildSlice 37 1 #[(0,x)]) (hx : ev E x = some (.int .u8 v)) (hn : lF Tryd.prog ops Q rest N ((k,.slice (some ⟨w.heap.size,0,none⟩) 1 1) :: E) (w.alloc (.cells #[.int .u8 v] 5))) : lF Tryd.prog ops Q (o :: rest) N E w :=
 nH _ hg hd hk (λa ha=>by
  have h1:=ha.eval hx;have hr:=FL v w
  unfold execOp
  simp only [ho,eD,cH,gK,h1,aJ,hr,aG,aI]) hn
end
section
variable {P : Program} {ops : Array Oper} {Q : Exit -> Act -> World -> Prop} {N : Nat} {E : List (Nat × Value)} {w : World} {o : Oper} {rest l : List Oper} {k : Nat}
def WG (ops : Array Oper) (N : Nat) (E : List (Nat × Value)) (o : Oper) : Prop:=o.guard = none \/ ∃ j b t,o.guard = some (j,b) /\ (ops[j]?).bind (·.dst) = some t /\ aQ t N = true /\ look E t = some (.bool b)
theorem WG.wanted {a : Act} (h : WG ops N E o) (ha : Fr N E a) : aL o (yielded ops a.tmps) = true:=by
 rcases h with h | ⟨j,b,t,hgd,hj,hN,ht⟩
 ·simp [aL,h]
 ·have htN : t < a.tmps.size:=by rw [ha.size]; simpa using hN
  have h2:=ha.get t _ ht
  have h3 : a.tmps[t]? = some (.bool b):=by
   simp only [Ar,cI] at h2;rw [dF htN] at h2 ⊢
   simpa using h2
  unfold aL
  rw [hgd]
  simp [yielded,hj,h3]
theorem N2 (v : Value) (w' : World) (hw : WG ops N E o) (hd : o.dst = some k) (hk : aQ k N = true) (h : ∀ a,Fr N E a -> (execOp a.eval o).run P w = .ok (.value v) w') (hn : lF P ops Q rest N ((k,v) :: E) w') : lF P ops Q (o :: rest) N E w:=λa ha=>by
 have h1:=h a ha;have h2:=hn _ (ha.put hk v)
 unfold wpList
 rw [if_pos (hw.wanted ha)];refine .inl ?_
 unfold lR
 rw [h1];simp only [jR,hd];exact h2
end
def V4 (E : List (Nat × Value)) : Op -> Option Value
  | .move x=>ev E x
  | .assign x=>ev E x
  | .pick c x y=>match ev E c with
    | some (.bool true)=>ev E x
    | some (.bool false)=>ev E y
    | _=>none
  | .extract x i=>match ev E x with
    | some (.tuple vs)=>vs[i]?
    | _=>none
  | .unOp .not _ x=>match ev E x with
    | some (.bool true)=>some (.bool false)
    | some (.bool false)=>some (.bool true)
    | _=>none
  | .nilCheck x=>match ev E x with
    | some (.pointer (some p))=>some (.pointer (some p))
    | _=>none
  | _=>none
def Mt (ops : Array Oper) (N : Nat) (E : List (Nat × Value)) (o : Oper) : Option Bool :=
  match o.guard with
  | none=>some true
  | some (j,b)=>match (ops[j]?).bind (·.dst) with
    | some t=>match aQ t N with
      | true=>match look E t with
        | some (.bool true)=>some b
        | some (.bool false)=>some (!b)
        | _=>none
      | false=>none
    | none=>none
theorem Ms {ops : Array Oper} {N : Nat} {E : List (Nat × Value)} {a : Act} {o : Oper} {q : Bool} (ha : Fr N E a) (h : Mt ops N E o = some q) : aL o (yielded ops a.tmps) = q:=by
 unfold Mt at h
 split at h
 ·rename_i hg
  injection h with h
  subst h
  simp [aL,hg]
 ·rename_i j b hg
  split at h
  ·rename_i t hj
   split at h
   ·rename_i hN
    have htN : t < a.tmps.size:=by rw [ha.size]; simpa using hN
    have key : ∀ c,look E t = some (.bool c) -> a.tmps[t]? = some (.bool c):=λc hc=>by
     have h2:=ha.get t _ hc;simp only [Ar,cI] at h2;rw [dF htN] at h2 ⊢
     simpa using h2
    split at h
    ·rename_i hc
     injection h with h
     subst h
     unfold aL
     rw [hg]
     simp [yielded,hj,key _ hc]
    ·rename_i hc
     injection h with h
     subst h
     unfold aL
     rw [hg]
     cases b <;> simp [yielded,hj,key _ hc]
    ·cases h
   ·cases h
  ·cases h
def wL (o : Oper) : Oper:={ o with guard:=none }
section
variable {P : Program} {ops : Array Oper} {Q : Exit -> Act -> World -> Prop}
theorem o7 {T : List Oper} : ∀ (L : List Oper) (a : Act) (w : World),L.all (λo=>oR o.op) = true -> wpB P ops (· = w) (λa'=>wpList P ops Q T a' w) L a -> wpList P ops Q (L ++ T) a w
 | [],_,_,_,h=>h
 | o :: L,a,w,hs,h=>by
  rw [List.all_cons,Bool.and_eq_true] at hs
  have key : ∀ V : Value -> Prop,atB P o a w V -> (∀ v,V v -> wpList P ops Q (L ++ T) (a.put o.dst v) w) -> o.wp P a w (wpList P ops Q (L ++ T)) Q:=λV h3 hk=>by
   unfold atB at h3
   unfold lR
   have hst:=λn w'=>BA (P:=P) (ρ:=a.eval) (o:=o) (w:=w) (w':=w') (n:=n) hs.1;generalize (execOp a.eval o).run P w = r at *
   cases r with
   | ok n w' =>
    cases n <;> simp only [oY] at h3 <;> simp only [jR]
    case value u =>
     obtain ⟨e1,e2⟩:=h3;rw [e1];exact hk _ e2
    case skip =>
     obtain ⟨e1,e2⟩:=h3;rw [e1];exact hk _ e2
    case enter f args =>
     rcases hst _ _ rfl with ⟨v,hv⟩ | hv <;> cases hv
   | halt x w'=>simp only [oY] at h3
  rw [Jm]
  unfold wpList
  unfold wpB at h
  split at h
  ·rename_i hw
   rw [if_pos hw];refine .inl ?_
   rcases h with ⟨v,h3,h4⟩ | ⟨_,V,h3,h4⟩
   ·exact key (· = v) (h3 w rfl) (λu hu=>by rw [hu]; exact o7 L _ w hs.2 h4)
   ·exact key V (h3 w rfl) (λu hu=>o7 L _ w hs.2 (h4 u hu))
  ·rename_i hw
   rw [if_neg hw];exact o7 L _ w hs.2 h
variable {N : Nat} {E : List (Nat × Value)} {w : World} {l T : List Oper}
end
def pA : Code -> List Code
  | .loop c=>c :: pA c
  | .seq a b=>pA a ++ pA b
  | .block _ c=>pA c
  | .scope c=>pA c
  | .cond _ a b=>pA a ++ pA b
  | _=>[]
def Pk : Nat -> List Value -> List (Nat × Value)
  | _,[]=>[]
  | j,v :: vs=>(j,v) :: Pk (j + 1) vs
theorem DV : ∀ (vs : List Value) (j k : Nat) (v : Value),look (Pk j vs) k = some v -> j <= k /\ vs[k - j]? = some v
 | [],_,_,_,h=>by cases h
 | u :: vs,j,k,v,h=>by
  rw [Pk,fL] at h
  split at h
  ·rename_i e
   subst e
   cases h
   exact ⟨aF _,by simp⟩
  ·obtain ⟨h1,h2⟩:=DV vs (j + 1) k v h
   refine ⟨by omega,?_⟩;obtain ⟨m,rfl⟩ : ∃ m,k = j + 1 + m:=⟨k - (j + 1),by omega⟩;rw [show j + 1 + m - (j + 1) = m from by omega] at h2;rw [show j + 1 + m - j = m + 1 from by omega]
   simpa using h2
theorem e9 {P : Program} {f : FuncId} {fn : Func} {c : Code} {vs : List Value} {w : World} {R : Ending -> World -> Prop} (N : Nat) (hf : P.funcs[f]? = some fn) (hb : fn.body = some c) (hn : vs.length + (fn.ntmps - vs.length) = N)
  (h : cF P c (bodyPost P fn R) N (Pk 0 vs) w) : Calls P f vs.toArray w R:=by
 refine calls_of_wp hf hb (h _ (Fr.start (by simpa using hn) _ λk v hk=>?_));have:=(DV vs 0 k v hk).2
 simpa using this
theorem Fr.at {N : Nat} {E : List (Nat × Value)} {a : Act} (h : Fr N E a) {k : Nat} {v : Value} (hk : look E k = some v) : a.tmps.getD k undef = v:=h.get k v hk
theorem eC {P : Program} {fn : Func} {R : Ending -> World -> Prop} {N : Nat} {E : List (Nat × Value)} {w : World} {q : Tmp} {ty t : TypeId} {d : TypeDesc} (g : Nat) (cs : Array Value) (hr : fn.results = #[.cell q ty]) (hq : look E q = some (.pointer (some ⟨g,0,none⟩))) (hb : Blk w g t cs)
  (hu : P.underlying ty = some d) (hd : (match d with | .struct _ | .array _ _=>true | _=>false) = true) (hi : (P.info? ty).map (·.size) = some cs.size) (h : R (.returned (.agg cs)) w) : kF (bodyPost P fn R .ret) N E w:=λ_ ha=>bodyPost_ret (results_cell_row hr _ _ g t cs (0,0) d (ha.at hq) hb hu hd hi) ha.defers h
section
variable {ops : Array Oper} {Q : Exit -> Act -> World -> Prop} {N : Nat} {E : List (Nat × Value)} {w : World} {o : Oper} {rest : List Oper} {k : Nat}
theorem Q8 {a : Act} (ha : Fr N E a) : ∀ (l : List Operand) (m : List Value),l.map (ev E) = m.map some -> l.map a.eval = m:=by
 intro l
 induction l with
 | nil=>intro m h; cases m with
  | nil=>rfl
  | cons=>cases h
 | cons y l ih=>intro m h; cases m with
  | nil=>cases h
  | cons u m =>
   simp only [cH,pC] at h ⊢;exact ⟨ha.eval h.1,ih m h.2⟩
theorem N8 {f : FuncId} {xs : Array Operand} {ats : Array TypeId} (args : Array Value) {R : Ending -> World -> Prop} (hg : o.guard = none) (hd : o.dst = some k) (hk : aQ k N = true)
  (hf : Own f) (hc : Calls Tryd.prog f args w R) (ho : o.op = .call { callee:=.value (.func f),args:=xs,argTypes:=ats }) (hx : xs.toList.map (ev E) = args.toList.map some)
  (hn : ∀ e w',R e w' -> ∃ v,e = .returned v /\ lF Tryd.prog ops Q rest N ((k,v) :: E) w') : lF Tryd.prog ops Q (o :: rest) N E w:=λa ha=>by
 have hr:=jT (a:=a) hf ho w;rw [oI (Q8 ha _ _ hx)] at hr
 unfold wpList
 rw [if_pos (by simp [aL,hg])];refine .inl ?_
 unfold lR
 rw [hr];simp only [jR,hd]
 exact hc.mono λe w' he=>by
  obtain ⟨v,rfl,h1⟩:=hn e w' he;exact h1 _ (ha.put hk v)
end
structure Chg (D : Nat -> Prop) (w w' : World) : Prop where
  os : w'.os = w.os
  tape : w'.tape = w.tape
  output : w'.output = w.output
  size : w.heap.size <= w'.heap.size
  block : ∀ k,k < w.heap.size -> ¬ D k -> w'.heap[k]? = w.heap[k]?
section
variable {D D' : Nat -> Prop} {w w' w'' : World}
theorem Chg.refl (D : Nat -> Prop) (w : World) : Chg D w w:=⟨rfl,rfl,rfl,aF _,λ_ _ _=>rfl⟩
theorem Chg.step (h : Chg D w w') (k : Chg D' w' w'') (hd : ∀ i,i < w.heap.size -> D' i -> D i) : Chg D w w'' :=
 ⟨k.os.trans h.os,k.tape.trans h.tape,k.output.trans h.output,jL h.size k.size,λi hi hn=>(k.block i (bB hi h.size) (λh'=>hn (hd i hi h'))).trans (h.block i hi hn)⟩
theorem Chg.mono (h : Chg D w w') (hd : ∀ i,i < w.heap.size -> D i -> D' i) : Chg D' w w':=⟨h.os,h.tape,h.output,h.size,λi hi hn=>h.block i hi λh'=>hn (hd i hi h')⟩
theorem Chg.tA (h : Up w w') : Chg D w w':=⟨h.os,h.tape,h.output,h.size,λk hk _=>h.block k hk⟩
theorem Chg.up (h : Chg D w w') (hd : ∀ i,i < w.heap.size -> ¬ D i) : Up w w':=⟨h.os,h.tape,h.output,h.size,λk hk=>h.block k hk (hd k hk)⟩
theorem Chg.NH {r : Option Nat} (h : w.grownBy w' r) : Chg (λk=>r = some k) w w':=⟨h.os,h.tape,h.output,h.size,λk hk hn=>h.block k hk λe=>hn e.symm⟩
theorem Chg.row (w : World) (g : Nat) (cs : Array Value) : Chg (λk=>k = g) w (w.setRow g cs):=⟨rfl,rfl,rfl,by simp [dU],λk _ hn=>setRow_other w g k cs hn⟩
end
def Stb (D : Nat -> Prop) (p : World -> Prop) (w : World) : Prop:=∀ w',Chg D w w' -> p w'
section
variable {D D' : Nat -> Prop} {w w' : World} {p q : World -> Prop}
theorem Stb.now (h : Stb D p w) : p w:=h w (Chg.refl _ _)
theorem Stb.step (h : Stb D p w) (k : Chg D w w') : Stb D p w':=λw2 h2=>h w2 (k.step h2 λ_ _ h=>h)
theorem Stb.less (h : Stb D p w) (hd : ∀ k,k < w.heap.size -> D' k -> D k) : Stb D' p w:=λw2 h2=>h w2 (h2.mono hd)
theorem Stb.imp (h : Stb D p w) (hpq : ∀ w,p w -> q w) : Stb D q w:=λw2 h2=>hpq _ (h w2 h2)
theorem Stb.and (h : Stb D p w) (h' : Stb D q w) : Stb D (λw=>p w /\ q w) w:=λw2 h2=>⟨h w2 h2,h' w2 h2⟩
theorem Stb.F8 (h : Stb D p w) (k : Chg D w w') (hd : ∀ i,i < w.heap.size -> D' i -> D i) : Stb D' p w':=λw2 h2=>h w2 (k.step h2 hd)
end
class Pst (p : World -> Prop) : Prop where
  later : ∀ w w',p w -> Below w.heap.size w w' -> p w'
theorem Stb.Ix {p : World -> Prop} [hp : Pst p] {D : Nat -> Prop} {w : World} (h : p w) (hd : ∀ k,k < w.heap.size -> ¬ D k) : Stb D p w:=λw' hw=>hp.later w w' h (hw.up hd)
inductive SC where
  | v (x : Value)
  | b (e : Bool)
  | o (x : Value)
def SC.den : SC -> Value
  | .v x=>x
  | .b e=>.bool e
  | .o x=>x
def SC.Ok : SC -> Prop
  | .v _=>True
  | .b _=>True
  | .o x=>x.oneCell' = true /\ x.cells = #[x]
inductive Pt where
  | one (s : SC)
  | agg (n : Nat) (cs : Array Value)
def Pt.cells : Pt -> Array Value
  | .one s=>#[s.den]
  | .agg _ cs=>cs
def Pt.size : Pt -> Nat
  | .one _=>1
  | .agg n _=>n
def Pt.Ok : Pt -> Prop
  | .one s=>s.Ok /\ s.den.oneCell' = true /\ s.den.cells = #[s.den]
  | .agg n cs=>cs.size = n /\ ∀ v ∈ cs.toList,v.oneCell' = true
theorem Pt.Ok.size {p : Pt} (h : p.Ok) : p.cells.size = p.size:=by
 cases p with
 | one v=>rfl
 | agg n cs=>exact h.1
theorem Pt.Ok.one {p : Pt} (h : p.Ok) : ∀ v ∈ p.cells.toList,v.oneCell' = true:=by
 cases p with
 | one v=>intro u hu; simp [Pt.cells] at hu; subst hu; exact h.2.1
 | agg n cs=>exact h.2
def eO : List Pt -> Array Value
  | []=>#[]
  | [p]=>p.cells
  | p :: q :: r=>p.cells ++ eO (q :: r)
def mF : List Pt -> Nat
  | []=>0
  | p :: r=>p.size + mF r
def OkP (ps : List Pt) : Prop:=∀ p ∈ ps,p.Ok
theorem fW (p : Pt) (r : List Pt) : eO (p :: r) = p.cells ++ eO r:=by
 cases r with
 | nil=>simp [eO]
 | cons q r=>rfl
theorem OkP.size : ∀ {ps : List Pt},OkP ps -> (eO ps).size = mF ps
 | [],_=>rfl
 | p :: r,h=>by rw [fW,Array.size_append,OkP.size (ps:=r) (λq hq=>h q (by simp [hq])),(h p (by simp)).size]; rfl
theorem OkP.one : ∀ {ps : List Pt},OkP ps -> ∀ v ∈ (eO ps).toList,v.oneCell' = true
 | [],_,v,hv=>by simp [eO] at hv
 | p :: r,h,v,hv=>by
  rw [fW,nD,List.mem_append] at hv
  rcases hv with hv | hv
  ·exact (h p (by simp)).one v hv
  ·exact OkP.one (ps:=r) (λq hq=>h q (by simp [hq])) v hv
def atP : List Pt -> Nat -> Option Pt
  | [],_=>none
  | p :: r,off=>match g7 off 0 with
    | true=>some p
    | false=>match Nat.ble p.size off with
      | true=>atP r (off - p.size)
      | false=>none
def MS : List Pt -> Nat -> Pt -> Option (List Pt)
  | [],_,_=>none
  | p :: r,off,q=>match g7 off 0 with
    | true=>match g7 p.size q.size with
      | true=>some (q :: r)
      | false=>none
    | false=>match Nat.ble p.size off with
      | true=>(MS r (off - p.size) q).map (p :: ·)
      | false=>none
theorem Jf : ∀ {ps : List Pt} {off : Nat} {p : Pt},OkP ps -> atP ps off = some p -> p.Ok /\ ∃ A Z,(eO ps).toList = A ++ (p.cells.toList ++ Z) /\ A.length = off
 | [],_,_,_,h=>by cases h
 | q :: r,off,p,hok,h=>by
  have hq:=hok q (by simp)
  unfold atP at h
  split at h
  ·rename_i e
   injection h with h
   subst h;exact ⟨hq,[],(eO r).toList,by rw [fW]; simp,by simpa using (bL e).symm⟩
  ·split at h
   ·rename_i e
    have e:=CH e;obtain ⟨h1,A,Z,h2,h3⟩:=Jf (λx hx=>hok x (by simp [hx])) h;exact ⟨h1,q.cells.toList ++ A,Z,by rw [fW,nD,h2,aU],by rw [aO,h3,dS,hq.size]; omega⟩
   ·cases h
theorem JF : ∀ {ps ps' : List Pt} {off : Nat} {q : Pt},OkP ps -> q.Ok -> MS ps off q = some ps' -> OkP ps' /\ mF ps' = mF ps /\ ∃ A B Z,(eO ps).toList = A ++ (B ++ Z) /\ A.length = off /\ B.length = q.size /\ (eO ps').toList = A ++ (q.cells.toList ++ Z)
 | [],_,_,_,_,_,h=>by cases h
 | p :: r,ps',off,q,hok,hq,h=>by
  have hp:=hok p (by simp)
  unfold MS at h
  split at h
  ·rename_i e
   split at h
   ·rename_i e2
    injection h with h
    subst h;have e2:=bL e2;refine ⟨λx hx=>?_,by simp only [mF,e2],[],p.cells.toList,(eO r).toList,by rw [fW]; simp,by simpa using (bL e).symm,by rw [dS,hp.size,e2],by rw [fW]; simp⟩
    rcases cA.1 hx with rfl | hx
    ·exact hq
    ·exact hok x (by simp [hx])
   ·cases h
  ·split at h
   ·rename_i e
    have e:=CH e
    cases hs : MS r (off - p.size) q with
    | none=>rw [hs] at h; cases h
    | some r' =>
     rw [hs] at h;simp only [Option.map_some,bH] at h;subst h;obtain ⟨h1,h2,A,B,Z,h3,h4,h5,h6⟩:=JF (λx hx=>hok x (by simp [hx])) hq hs;refine ⟨λx hx=>?_,by simp only [mF,h2],p.cells.toList ++ A,B,Z,by rw [fW,nD,h3,aU],by rw [aO,h4,dS,hp.size]; omega,h5,by rw [fW,nD,h6,aU]⟩
     rcases cA.1 hx with rfl | hx
     ·exact hp
     ·exact h1 x hx
   ·cases h
inductive SQ where
  | c (s : SC)
  | p (ps : List Pt)
def SQ.den : SQ -> Value
  | .c s=>s.den
  | .p ps=>.agg (eO ps)
def SQ.Ok : SQ -> Prop
  | .c s=>s.Ok
  | .p ps=>OkP ps
inductive SV where
  | q (x : SQ)
  | a (j off : Nat)
  | s (j off n c : Nat)
  | t (vs : List SQ)
@[match_pattern] abbrev SV.v (x : Value) : SV:=.q (.c (.v x))
@[match_pattern] abbrev SV.b (e : Bool) : SV:=.q (.c (.b e))
@[match_pattern] abbrev SV.o (x : Value) : SV:=.q (.c (.o x))
@[match_pattern] abbrev SV.p (ps : List Pt) : SV:=.q (.p ps)
def SV.den (G : Nat -> Nat) : SV -> Value
  | .q x=>x.den
  | .a j off=>.pointer (some ⟨G j,off,none⟩)
  | .s j off n c=>.slice (some ⟨G j,off,none⟩) n c
  | .t vs=>.tuple (vs.map SQ.den).toArray
def SV.Ok : SV -> Prop
  | .q x=>x.Ok
  | .a _ _=>True
  | .s _ _ _ _=>True
  | .t vs=>∀ x ∈ vs,x.Ok
def SV.Q1 (j : Nat) : SV -> Bool
  | .a i _=>!Nat.beq i j
  | .s i _ _ _=>!Nat.beq i j
  | _=>true
abbrev SE:=List (Nat × SV)
def kU : SE -> Nat -> Option SV
  | [],_=>none
  | (k,v) :: r,j=>match g7 k j with
    | true=>some v
    | false=>kU r j
def fY (G : Nat -> Nat) : SE -> List (Nat × Value)
  | []=>[]
  | (k,v) :: r=>(k,v.den G) :: fY G r
theorem jJ (G : Nat -> Nat) : ∀ (E : SE) (j : Nat),look (fY G E) j = (kU E j).map (SV.den G)
 | [],_=>rfl
 | (k,v) :: r,j=>by
  unfold fY look kU
  cases g7 k j with
  | true=>rfl
  | false=>exact jJ G r j
def OkE (E : SE) : Prop:=∀ x ∈ E,x.2.Ok
theorem DA : ∀ {E : SE} {j : Nat} {v : SV},kU E j = some v -> (j,v) ∈ E
 | [],_,_,h=>by cases h
 | (k,u) :: r,j,v,h=>by
  unfold kU at h
  split at h
  ·rename_i e
   obtain rfl:=bL e
   cases h
   exact bZ
  ·exact bE _ (DA h)
theorem OkE.get {E : SE} (h : OkE E) {j : Nat} {v : SV} (hj : kU E j = some v) : v.Ok:=h _ (DA hj)
theorem OkE.cons {E : SE} (h : OkE E) {k : Nat} {v : SV} (hv : v.Ok) : OkE ((k,v) :: E):=λx hx=>by
 rcases cA.1 hx with rfl | hx
 ·exact hv
 ·exact h x hx
def evS (E : SE) : Operand -> Option SV
  | .tmp t=>kU E t
  | .const v=>some (.v v)
  | .global g=>some (.v (.pointer (some ⟨g,0,none⟩)))
  | .func f=>some (.v (.func (.func f) #[] #[]))
theorem eF {G : Nat -> Nat} {E : SE} {x : Operand} {v : SV} (h : evS E x = some v) : ev (fY G E) x = some (v.den G):=by
 cases x with
 | tmp t =>
  show look (fY G E) t = _
  rw [jJ];rw [show kU E t = some v from h]
  rfl
 | const u=>cases h; rfl
 | global g=>cases h; rfl
 | func f=>cases h; rfl
theorem OkE.ev {E : SE} (h : OkE E) {x : Operand} {v : SV} (hx : evS E x = some v) : v.Ok:=by
 cases x with
 | tmp t=>exact h.get hx
 | const u=>cases hx; trivial
 | global g=>cases hx; trivial
 | func f=>cases hx; trivial
def A6 (E : SE) : List Operand -> Option (List SV)
  | []=>some []
  | x :: r=>match evS E x,A6 E r with
    | some v,some vs=>some (v :: vs)
    | _,_=>none
theorem Bm {G : Nat -> Nat} {E : SE} : ∀ {xs : List Operand} {vs : List SV},A6 E xs = some vs -> xs.map (ev (fY G E)) = (vs.map (SV.den G)).map some
 | [],vs,h=>by cases h; rfl
 | x :: r,vs,h=>by
  unfold A6 at h
  split at h
  ·rename_i v us h1 h2
   injection h with h
   subst h;rw [cH,eF h1,Bm h2]
   rfl
  ·cases h
structure LV where
  j : Nat
  g : Option Nat
  t : TypeId
  ps : List Pt
def wF : List LV -> Nat -> Option (List Pt)
  | [],_=>none
  | x :: r,j=>match g7 x.j j with
    | true=>some x.ps
    | false=>wF r j
theorem mG : ∀ {L : List LV} {j : Nat} {ps : List Pt},wF L j = some ps -> ∃ x ∈ L,x.j = j /\ x.ps = ps
 | [],_,_,h=>by cases h
 | x :: r,j,ps,h=>by
  unfold wF at h
  split at h
  ·rename_i e
   injection h with h
   exact ⟨x,bZ,bL e,h⟩
  ·obtain ⟨y,h1,h2⟩:=mG h
   exact ⟨y,bE _ h1,h2⟩
def BK : List LV -> Nat -> List Pt -> List LV
  | [],_,_=>[]
  | x :: r,j,ps=>match g7 x.j j with
    | true=>{ x with ps:=ps } :: r
    | false=>x :: BK r j ps
def eH (L : List LV) : List Nat:=L.map (·.j)
theorem sO : ∀ (L : List LV) (j : Nat) (ps : List Pt),eH (BK L j ps) = eH L
 | [],_,_=>rfl
 | x :: r,j,ps=>by
  unfold BK
  split
  ·rfl
  ·exact congrArg (x.j :: ·) (sO r j ps)
def Ad (j : Nat) : List LV -> Bool
  | []=>true
  | x :: r=>!Nat.beq x.j j && Ad j r
structure Res where
  holds : World -> (Nat -> Prop) -> Prop
  kH : ∀ {w w' : World} {S : Nat -> Prop},holds w S -> (∀ k,S k -> w'.heap[k]? = w.heap[k]?) -> holds w' S
  lt : ∀ {w : World} {S : Nat -> Prop},holds w S -> ∀ k,S k -> k < w.heap.size
def gE : List Res -> World -> (Nat -> Prop) -> Prop
  | [],_,S=>∀ k,¬ S k
  | r :: R,w,S=>∃ S1 S2,r.holds w S1 /\ gE R w S2 /\ (∀ k,S k ↔ S1 k \/ S2 k) /\ ∀ k,S1 k -> ¬ S2 k
theorem gE.kH : ∀ {R : List Res} {w w' : World} {S : Nat -> Prop},gE R w S -> (∀ k,S k -> w'.heap[k]? = w.heap[k]?) -> gE R w' S
 | [],_,_,_,h,_=>h
 | r :: _,_,_,_,⟨S1,S2,h1,h2,h3,h4⟩,hk=>⟨S1,S2,r.kH h1 λk hs=>hk k ((h3 k).2 (.inl hs)),h2.kH λk hs=>hk k ((h3 k).2 (.inr hs)),h3,h4⟩
theorem gE.lt : ∀ {R : List Res} {w : World} {S : Nat -> Prop},gE R w S -> ∀ k,S k -> k < w.heap.size
 | [],_,_,h,k,hs=>absurd hs (h k)
 | r :: _,_,_,⟨_,_,h1,h2,h3,_⟩,k,hs=>((h3 k).1 hs).elim (r.lt h1 k) (h2.lt k)
theorem gE.same {R : List Res} {w : World} {S S' : Nat -> Prop} (h : gE R w S) (e : ∀ k,S k ↔ S' k) : gE R w S':=by
 have : S = S':=funext λk=>propext (e k)
 rwa [<-this]
theorem gE.app : ∀ {R R' : List Res} {w : World} {S : Nat -> Prop},gE (R ++ R') w S ↔ ∃ S1 S2,gE R w S1 /\ gE R' w S2 /\ (∀ k,S k ↔ S1 k \/ S2 k) /\ ∀ k,S1 k -> ¬ S2 k
 | [],R',w,S=>⟨λh=>⟨λ_=>False,S,λ_ h=>h,h,λk=>⟨.inr,λh=>h.elim False.elim id⟩,λ_ h=>h.elim⟩,λ⟨S1,S2,h1,h2,h3,_⟩=>by
   show gE R' w S
   exact h2.same λk=>⟨λh=>(h3 k).2 (.inr h),λh=>((h3 k).1 h).resolve_left (h1 k)⟩⟩
 | r :: R,R',w,S=>by
  constructor
  ·rintro ⟨S1,S2,h1,h2,h3,h4⟩
   obtain ⟨S3,S4,h5,h6,h7,h8⟩:=gE.app.1 h2;refine ⟨λk=>S1 k \/ S3 k,S4,⟨S1,S3,h1,h5,λk=>Fg,λk hk h=>h4 k hk ((h7 k).2 (.inl h))⟩,h6,λk=>?_,λk hk h=>?_⟩
   ·rw [h3 k,h7 k,or_assoc]
   ·rcases hk with hk | hk
    ·exact h4 k hk ((h7 k).2 (.inr h))
    ·exact h8 k hk h
  ·rintro ⟨S0,S4,⟨S1,S3,h1,h5,h9,h10⟩,h6,h3,h8⟩
   refine ⟨S1,λk=>S3 k \/ S4 k,h1,gE.app.2 ⟨S3,S4,h5,h6,λk=>Fg,λk hk=>h8 k ((h9 k).2 (.inr hk))⟩,λk=>by rw [h3 k,h9 k,or_assoc],λk hk h=>?_⟩
   rcases h with h | h
   ·exact h10 k hk h
   ·exact h8 k ((h9 k).2 (.inl hk)) h
theorem gE.perm {R R' : List Res} (h : R.Perm R') : ∀ {w : World} {S : Nat -> Prop},gE R w S -> gE R' w S:=by
 induction h with
 | nil=>exact λh=>h
 | cons r _ ih =>
  rintro w S ⟨S1,S2,h1,h2,h3⟩
  exact ⟨S1,S2,h1,ih h2,h3⟩
 | swap r r' R =>
  rintro w S ⟨S1,S2,h1,⟨S3,S4,h3,h4,h5,h6⟩,h7,h8⟩
  refine ⟨S3,λk=>S1 k \/ S4 k,h3,⟨S1,S4,h1,h4,λ_=>Fg,λk hk hk'=>h8 k hk ((h5 k).2 (.inr hk'))⟩,λk=>?_,λk hk hk'=>?_⟩
  ·rw [h7 k,h5 k,<-or_assoc,<-or_assoc,or_comm (a:=S1 k)]
  ·rcases hk' with hk' | hk'
   ·exact h8 k hk' ((h5 k).2 (.inl hk))
   ·exact h6 k hk hk'
 | trans _ _ ih1 ih2=>exact λh=>ih2 (ih1 h)
theorem gE.at : ∀ {R : List Res} {i : Nat} {r : Res} {w : World} {S : Nat -> Prop},gE R w S -> R[i]? = some r -> ∃ S1 S2,r.holds w S1 /\ (∀ k,S k ↔ S1 k \/ S2 k) /\ (∀ k,S1 k -> ¬ S2 k) /\ gE (R.eraseIdx i) w S2 /\
  ∀ (r' : Res) (w' : World) (S' : Nat -> Prop),r'.holds w' S' -> (∀ k,S2 k -> w'.heap[k]? = w.heap[k]?) -> (∀ k,S' k -> ¬ S2 k) -> gE (R.set i r') w' λk=>S' k \/ S2 k
 | [],_,_,_,_,_,h=>by simp at h
 | r0 :: R,0,r,w,S,⟨S1,S2,h1,h2,h3,h4⟩,h=>by
  simp only [bX,bH] at h;subst h;exact ⟨S1,S2,h1,h3,h4,h2,λr' w' S' hr hk hd=>⟨S',S2,hr,h2.kH hk,λ_=>Fg,hd⟩⟩
 | r0 :: R,i + 1,r,w,S,⟨S0,S',h1,h2,h3,h4⟩,h=>by
  obtain ⟨S1,S2,h5,h6,h7,h8,h9⟩:=gE.at h2 (by simpa using h);refine ⟨S1,λk=>S0 k \/ S2 k,h5,λk=>?_,λk hk hk'=>?_,⟨S0,S2,h1,h8,λ_=>Fg,λk hk hk'=>h4 k hk ((h6 k).2 (.inr hk'))⟩,λr' w' S3 hr hk hd=>?_⟩
  ·rw [h3 k,h6 k,<-or_assoc,<-or_assoc,or_comm (a:=S0 k)]
  ·rcases hk' with hk' | hk'
   ·exact h4 k hk' ((h6 k).2 (.inl hk))
   ·exact h7 k hk hk'
  ·refine ⟨S0,λk=>S3 k \/ S2 k,r0.kH h1 λk hs=>hk k (.inl hs),h9 r' w' S3 hr (λk hs=>hk k (.inr hs)) (λk hs hs'=>hd k hs (.inr hs')),λk=>?_,λk hk0 hs=>?_⟩
   ·exact or_left_comm
   ·rcases hs with hs | hs
    ·exact hd k hs (.inl hk0)
    ·exact h4 k hk0 ((h6 k).2 (.inr hs))
structure Env where
  E : SE
  L : List LV
  R : List Res
  F : World -> Prop
  M : World -> Prop
def oV (S : Nat -> Prop) (G : Nat -> Nat) (L : List LV) (k : Nat) : Prop:=S k \/ ∃ j ∈ eH L,G j = k
def Dof (X S : Nat -> Prop) (G : Nat -> Nat) (L : List LV) (k : Nat) : Prop:=X k \/ oV S G L k
structure iF where
  X : Nat -> Prop
  B : World
  D : Nat -> Prop
def Nof (b : iF) (S : Nat -> Prop) (G : Nat -> Nat) (L : List LV) (k : Nat) : Prop:=k < b.B.heap.size \/ oV S G L k
structure StW (b : iF) (G : Nat -> Nat) (S : Nat -> Prop) (L : List LV) (R : List Res) (F M : World -> Prop) (w : World) : Prop where
  var : ∀ x ∈ L,Blk w (G x.j) x.t (eO x.ps) /\ OkP x.ps /\ ∀ g,x.g = some g -> G x.j = g
  apart : (eH L).Pairwise λi j=>G i ≠ G j
  res : gE R w S
  sep : ∀ j ∈ eH L,¬ S (G j)
  fact : Stb (Dof b.X S G L) F w
  fresh : Stb (Nof b S G L) M w
  chg : Chg b.D b.B w
  mine : ∀ k,oV S G L k -> k < b.B.heap.size -> b.D k
  old : ∀ k,b.X k -> k < b.B.heap.size /\ ¬ b.D k
structure StA (b : iF) (N : Nat) (e : Env) (G : Nat -> Nat) (S : Nat -> Prop) (a : Act) (w : World) : Prop where
  fr : Fr N (fY G e.E) a
  ok : OkE e.E
  st : StW b G S e.L e.R e.F e.M w
def St (b : iF) (N : Nat) (e : Env) (a : Act) (w : World) : Prop:=∃ G S,StA b N e G S a w
section
variable {b : iF} {G : Nat -> Nat} {S : Nat -> Prop} {L : List LV} {R : List Res} {F M : World -> Prop} {w w' : World}
theorem Dof.nof (h : ∀ k,b.X k -> k < b.B.heap.size /\ ¬ b.D k) {k : Nat} (hk : Dof b.X S G L k) : Nof b S G L k:=hk.imp (λhx=>(h k hx).1) id
theorem StW.lt (h : StW b G S L R F M w) : ∀ k,oV S G L k -> k < w.heap.size:=λk hk=>by
 rcases hk with hk | ⟨j,hj,rfl⟩
 ·exact h.res.lt k hk
 ·obtain ⟨x,hx,rfl⟩:=List.mem_map.1 hj
  exact (h.var x hx).1.lt
theorem StW.later (h : StW b G S L R F M w) (k : Below w.heap.size w w') : StW b G S L R F M w' :=
 ⟨λx hx=>⟨(h.var x hx).1.later k,(h.var x hx).2⟩,h.apart,h.res.kH λi hi=>k.block i (h.res.lt i hi),h.sep,h.fact.step (Chg.tA k),h.fresh.step (Chg.tA k),h.chg.step (D':=λ_=>False) (Chg.tA k) (λ_ _ h=>h.elim),h.mine,h.old⟩
theorem StW.all (h : StW b G S L R F M w) : Stb (Dof b.X S G L) (λw=>F w /\ M w) w:=h.fact.and (h.fresh.less λ_ _ hk=>hk.nof h.old)
theorem StW.imp (h : StW b G S L R F M w) {F' M' : World -> Prop} (hF : ∀ w,F w -> M w -> F' w) (hM : ∀ w,M w -> M' w) : StW b G S L R F' M' w:={ h with fact:=h.all.imp λw hw=>hF w hw.1 hw.2,fresh:=h.fresh.imp hM }
theorem StW.and (h : StW b G S L R F M w) {p : World -> Prop} (hp : Stb (Dof b.X S G L) p w) : StW b G S L R (λw=>p w /\ F w) M w:={ h with fact:=hp.and h.fact }
theorem StW.andM (h : StW b G S L R F M w) {p : World -> Prop} (hp : Stb (Nof b S G L) p w) : StW b G S L R F (λw=>p w /\ M w) w:={ h with fresh:=hp.and h.fresh }
end
end Go.Proofs.YtfkchihlchlfdaaDoor
