/-
  SEVERAL TEXTS IN ONE: FrP, FrM, Copy, RegI, RegJ, FrW, FrA, RegK, Auto, FrC, Vs.
-/
import Derived.Test.YthkbejheedffjaaMb
import Derived.Maps.AppendAt
import Derived.Deep.OwnRows
import Derived.Test.YthkbejheedffjaaMa
import Derived.Great.BuildSlice
import Derived.Lib.SlBytesConst
/-
  STEPS OVER FRAMES BY WHAT IS KNOWN OF THEM: fields, rows, calls that hand back one of a set, structs put together, new cells.
-/
namespace Go.Proofs.Ythkbejheedffjaa
open Go.RowKit Go.IntWalk

section
variable {N : Nat} {E : List (Nat × Value)} {a : Act}
theorem Fr.evals (ha : Fr N E a) : ∀ (l : List Operand) (m : List Value), l.map (ev E) = m.map some → l.map a.eval = m
  | [], [], _ => rfl
  | [], _ :: _, h => by cases h
  | _ :: _, [], h => by cases h
  | y :: l, u :: m, h => by
    simp only [List.map_cons, List.cons.injEq] at h ⊢
    exact ⟨ha.eval h.1, Fr.evals ha l m h.2⟩
theorem Fr.parts (ha : Fr N E a) : ∀ (l : List (Nat × Operand)) (m : List (Nat × Value)), l.map (fun p => (p.1, ev E p.2)) = m.map (fun p => (p.1, some p.2)) → (l.map fun (i, x) => (i, a.eval x)) = m
  | [], [], _ => rfl
  | [], _ :: _, h => by cases h
  | _ :: _, [], h => by cases h
  | y :: l, u :: m, h => by
    simp only [List.map_cons, List.cons.injEq, Prod.mk.injEq] at h ⊢
    refine ⟨?_, Fr.parts ha l m h.2⟩
    rw [ha.eval h.1.2, h.1.1]
end

section
variable {P : Program} {ops : Array Oper} {C0 : World → Prop} {Q : Act → Prop} {N : Nat} {E : List (Nat × Value)} {o : Oper} {rest : List Oper} {k : Nat}
/-- The address of a field. -/
theorem f_fld {s : TypeId} {x : Operand} {f : Nat} (b off off' : Nat) (hg : o.guard = none) (hd : o.dst = some k) (hk : Nat.blt k N = true) (ho : o.op = .fieldAddr s x f) (hx : ev E x = some (.pointer (some ⟨b, off, none⟩)))
    (hr : ∀ w, (Instr.fieldAt s (.pointer (some ⟨b, off, none⟩)) f).run P w = .ok (.pointer (some ⟨b, off', none⟩)) w) (hn : bF P ops C0 Q rest N ((k, .pointer (some ⟨b, off', none⟩)) :: E)) : bF P ops C0 Q (o :: rest) N E :=
  f_val _ hg hd hk (fun a ha w _ => by
    have h1 := ha.eval hx
    unfold execOp
    simp only [ho, h1, Sem.run_bind, hr, Result.andThen_ok, Sem.run_pure]) hn
/-- The address of a part of an array or a slice. -/
theorem f_ix {t : TypeId} {x y : Operand} (p : Value) (i : Int) (q : Addr) (hg : o.guard = none) (hd : o.dst = some k) (hk : Nat.blt k N = true) (ho : o.op = .indexAddr t x y) (hx : ev E x = some p) (hy : ev E y = some (.int .i64 i))
    (hr : ∀ w, (Instr.indexAt t p (.int .i64 i)).run P w = .ok (.pointer (some q)) w) (hn : bF P ops C0 Q rest N ((k, .pointer (some q)) :: E)) : bF P ops C0 Q (o :: rest) N E :=
  f_val _ hg hd hk (fun a ha w _ => by
    have h1 := ha.eval hx
    have h2 := ha.eval hy
    unfold execOp
    simp only [ho, h1, h2, Sem.run_bind, hr, Result.andThen_ok, Sem.run_pure]) hn
/-- A row (or a struct) is read. -/
theorem f_row {ty : TypeId} {x : Operand} (b off : Nat) (cs : List Value) (d : TypeDesc) (hg : o.guard = none) (hd : o.dst = some k) (hk : Nat.blt k N = true) (ho : o.op = .load ty x) (hx : ev E x = some (.pointer (some ⟨b, off, none⟩)))
    (hc : ∀ w, C0 w → w.rangeAt b off cs) (hu : P.underlying ty = some d) (hr : d.isRow = true) (hi : (P.info? ty).map (·.size) = some cs.length)
    (hn : bF P ops C0 Q rest N ((k, .agg cs.toArray) :: E)) : bF P ops C0 Q (o :: rest) N E :=
  f_val _ hg hd hk (fun a ha w hw => by
    have h1 := ha.eval hx
    unfold execOp
    simp only [ho, h1, Instr.loadAt, Instr.sureAddr, Sem.run_bind, Sem.run_pure, Result.andThen_ok, run_loadVar_mid w b off ty cs d (hc w hw) hu hr hi]) hn
theorem f_build {t : TypeId} {parts : Array (Nat × Operand)} (vs : List (Nat × Value)) (cells : Array Value) (hg : o.guard = none) (hd : o.dst = some k) (hk : Nat.blt k N = true) (ho : o.op = .build t parts)
    (hv : parts.toList.map (fun p => (p.1, ev E p.2)) = vs.map (fun p => (p.1, some p.2))) (hb : P.built t vs = some cells) (hn : bF P ops C0 Q rest N ((k, .agg cells) :: E)) : bF P ops C0 Q (o :: rest) N E :=
  f_val _ hg hd hk (fun a ha w _ => by
    have h1 := ha.parts _ _ hv
    unfold execOp
    simp only [ho, Sem.run_bind, run_build w t _ cells (by rw [Array.toList_map, h1]; exact hb), Result.andThen_ok, Sem.run_pure]) hn
theorem f_extract {x : Operand} {i : Nat} {vs : Array Value} (v : Value) (hg : o.guard = none) (hd : o.dst = some k) (hk : Nat.blt k N = true) (ho : o.op = .extract x i) (hx : ev E x = some (.tuple vs)) (hv : vs[i]? = some v)
    (hn : bF P ops C0 Q rest N ((k, v) :: E)) : bF P ops C0 Q (o :: rest) N E :=
  f_val _ hg hd hk (fun a ha w _ => by
    have h1 := ha.eval hx
    unfold execOp
    simp only [ho, h1]
    go_simp) hn
/-- Two rows, by '=='. -/
theorem f_eq {t t' : TypeId} {x y : Operand} {q : Bool} (xs ys : Array Value) (hg : o.guard = none) (hd : o.dst = some k) (hk : Nat.blt k N = true) (ho : o.op = .binOp .eql t x y t') (hx : ev E x = some (.agg xs)) (hy : ev E y = some (.agg ys))
    (ht : P.eqGuardType P.depth t = false) (he : ∀ w, (Op.equalIn 10000 t (.agg xs) (.agg ys)).run P w = .ok q w) (hn : bF P ops C0 Q rest N ((k, .bool q) :: E)) : bF P ops C0 Q (o :: rest) N E :=
  f_val _ hg hd hk (fun a ha w _ => by
    have h1 := ha.eval hx
    have h2 := ha.eval hy
    unfold execOp
    simp only [ho, h1, h2, Sem.run_bind, run_eqGuard_agg (hm := ht), Result.andThen_ok, binOp, Op.equal, Op.maxDepth, he, Sem.run_pure]) hn
end

section
variable {ops : Array Oper} {C0 : World → Prop} {Q : Act → Prop} {N : Nat} {E : List (Nat × Value)} {o : Oper} {rest : List Oper} {k : Nat}
/-- A call that hands back one of a set. -/
theorem f_callV {f : FuncId} {xs : Array Operand} {ats : Array TypeId} (args : Array Value) (V : Value → Prop) (hg : o.guard = none) (hd : o.dst = some k) (hk : Nat.blt k N = true)
    (hf : Own f) (hc : ∀ w, C0 w → Calls Try.prog f args w (fun e w' => ∃ v, e = .returned v ∧ V v ∧ Below w.heap.size w w'))
    (ho : o.op = .call { callee := .value (.func f), args := xs, argTypes := ats }) (hx : xs.toList.map (ev E) = args.toList.map some) (hn : ∀ v, V v → bF Try.prog ops C0 Q rest N ((k, v) :: E)) : bF Try.prog ops C0 Q (o :: rest) N E := fun a ha => by
  refine b_callV (f := f) (args := args) V (by simp [Region.wanted, hg]) hf hc ho (ha.evals _ _ hx) fun v hv => ?_
  rw [hd]
  exact hn v hv _ (ha.put hk v)
end

section
variable {P : Program} {ops : Array Oper} {Q : Exit → Act → World → Prop} {N : Nat} {E : List (Nat × Value)} {w : World} {o : Oper} {rest : List Oper} {k : Nat}
theorem l_box {ty : TypeId} {x : Operand} (cs : Array Value) (hg : o.guard = none) (hd : o.dst = some k) (hk : Nat.blt k N = true) (ho : o.op = .box ty x) (hx : ev E x = some (.agg cs))
    (hn : lF P ops Q rest N ((k, .pointer (some ⟨w.heap.size, 0, none⟩)) :: E) (w.alloc (.cells cs ty))) : lF P ops Q (o :: rest) N E w :=
  l_val _ hg hd hk (fun a ha => by
    have h1 := ha.eval hx
    unfold execOp
    simp only [ho, h1, Sem.run_bind, run_box_agg, Result.andThen_ok, Sem.run_pure]) hn
theorem l_alloc {ty : TypeId} {zs : Array Value} (hg : o.guard = none) (hd : o.dst = some k) (hk : Nat.blt k N = true) (ho : o.op = .alloc ty) (hz : (P.info? ty).bind (fun i => i.zero.map (·.cells)) = some zs)
    (hn : lF P ops Q rest N ((k, .pointer (some ⟨w.heap.size, 0, none⟩)) :: E) (w.alloc (.cells zs ty))) : lF P ops Q (o :: rest) N E w :=
  l_val _ hg hd hk (fun _ _ => exec_alloc ho hz _ w) hn
/-- The same, the world and the address by what is known of them. -/
theorem l_boxA {ty : TypeId} {x : Operand} (cs : Array Value) (hg : o.guard = none) (hd : o.dst = some k) (hk : Nat.blt k N = true) (ho : o.op = .box ty x) (hx : ev E x = some (.agg cs))
    (hn : ∀ W g, Up w W → g = w.heap.size → Blk W g ty cs → lF P ops Q rest N ((k, .pointer (some ⟨g, 0, none⟩)) :: E) W) : lF P ops Q (o :: rest) N E w :=
  l_box cs hg hd hk ho hx (hn _ _ ((Up.refl w).alloc _) rfl (Blk.new w _ _))
theorem l_allocA {ty : TypeId} (zs : Array Value) (hg : o.guard = none) (hd : o.dst = some k) (hk : Nat.blt k N = true) (ho : o.op = .alloc ty) (hz : (P.info? ty).bind (fun i => i.zero.map (·.cells)) = some zs)
    (hn : ∀ W g, Up w W → g = w.heap.size → Blk W g ty zs → lF P ops Q rest N ((k, .pointer (some ⟨g, 0, none⟩)) :: E) W) : lF P ops Q (o :: rest) N E w :=
  l_alloc hg hd hk ho hz (hn _ _ ((Up.refl w).alloc _) rfl (Blk.new w _ _))
/-- The whole of a variable is written. -/
theorem l_set {ty t : TypeId} {p x : Operand} (g : Nat) (old cells : Array Value) (hg : o.guard = none) (hd : o.dst = none) (ho : o.op = .store ty p x) (hp : ev E p = some (.pointer (some ⟨g, 0, none⟩))) (hx : ev E x = some (.agg cells))
    (hb : Blk w g t old) (hi : (P.info? ty).map (·.size) = some cells.size) (hz : old.size = cells.size) (h1 : ∀ v ∈ cells.toList, v.oneCell' = true) (hn : lF P ops Q rest N E (w.setRow g cells)) : lF P ops Q (o :: rest) N E w := fun a ha => by
  refine wpList_store_row hg ty p x ho g (ha.eval hp) cells (ha.eval hx) t old hb hi hz h1 ?_
  rw [hd]
  exact hn a ha
/-- Cells from the middle of a variable on are written. -/
theorem l_mid {ty : TypeId} {p x : Operand} (g off : Nat) (cells : Array Value) (hg : o.guard = none) (hd : o.dst = none) (ho : o.op = .store ty p x) (hp : ev E p = some (.pointer (some ⟨g, off, none⟩))) (hx : ev E x = some (.agg cells))
    (ht : w.there g off cells.size) (hi : (P.info? ty).map (·.size) = some cells.size) (h1 : cells.all (·.oneCell') = true) (hn : lF P ops Q rest N E (w.setCells g off cells.toList)) : lF P ops Q (o :: rest) N E w := fun a ha => by
  refine wpList_store_mid hg ty p x ho g off cells (ha.eval hp) (ha.eval hx) ht hi h1 ?_
  rw [hd]
  exact hn a ha
end
theorem f_eqlI {ops : Array Oper} {C0 : World → Prop} {Q : Act → Prop} {N : Nat} {E : List (Nat × Value)} {o : Oper} {rest : List Oper} {k : Nat} {x y : Operand} {t : TypeId} (m n : Int) (q : Bool) (hg : o.guard = none) (hd : o.dst = some k) (hk : Nat.blt k N = true) (ho : o.op = .binOp .eql 3 x y t) (hx : ev E x = some (.int .i64 m)) (hy : ev E y = some (.int .i64 n))
    (hr : decide (m = n) = q) (hn : bF Try.prog ops C0 Q rest N ((k, .bool q) :: E)) : bF Try.prog ops C0 Q (o :: rest) N E :=
  f_val _ hg hd hk (fun a ha w _ => by
    have h1 := ha.eval hx
    have h2 := ha.eval hy
    subst hr
    unfold execOp
    simp only [ho, h1, h2]
    by_cases e : m = n <;> go_simp) hn
theorem addI (a b : Nat) (h : a + b < 9223372036854775808) : IntKind.i64.wrap ((a : Int) + (b : Int)) = ((a + b : Nat) : Int) := by rw [i64_left, wrap64_in _ (by omega)]; omega
theorem subI (a b : Nat) (h : b ≤ a) (h2 : a < 9223372036854775808) : IntKind.i64.wrap ((a : Int) - (b : Int)) = ((a - b : Nat) : Int) := by rw [i64_left, wrap64_in _ (by omega)]; omega
/-- The world where cells of block g alone have turned. -/
structure OnlyG (w w' : World) (g : Nat) : Prop where
  size : w'.heap.size = w.heap.size
  blk : ∀ g' t c, g' ≠ g → Blk w g' t c → Blk w' g' t c
  cell : ∀ p : Addr, p.block ≠ g → w'.cell? p = w.cell? p
  up : ∀ w0, w0.heap.size ≤ g → Up w0 w → Up w0 w'
theorem OnlyG.set {w w' : World} {g : Nat} (h : OnlyG w w' g) (k : Nat) (u : Value) : OnlyG w (w'.setCell ⟨g, k, none⟩ u) g where
  size := by rw [← h.size]; simp [World.setCell]
  blk := fun g' t c hg hb => (h.blk g' t c hg hb).far hg u
  cell := fun p hp => by rw [World.cell?_setCell_other _ _ _ _ (fun e => hp (by rw [← e])), h.cell p hp]
  up := fun w0 hg hU => (h.up w0 hg hU).setCell hg u
theorem OnlyG.refl (w : World) (g : Nat) : OnlyG w w g := ⟨rfl, fun _ _ _ _ h => h, fun _ _ => rfl, fun _ _ h => h⟩
theorem setCells_blk {w0 : World} {g t : Nat} : ∀ (U A V Z : List Value) (w : World), Blk w g t (A ++ (V ++ Z)).toArray → V.length = U.length → OnlyG w0 w g → Blk (w.setCells g A.length U) g t (A ++ (U ++ Z)).toArray ∧ OnlyG w0 (w.setCells g A.length U) g
  | [], A, V, Z, w, hb, hl, ho => by
    obtain rfl : V = [] := List.eq_nil_of_length_eq_zero hl
    exact ⟨hb, ho⟩
  | u :: U, A, [], Z, w, hb, hl, ho => by simp at hl
  | u :: U, A, v :: V, Z, w, hb, hl, ho => by
    have h1 := hb.set A.length u
    have e : (A ++ (v :: V ++ Z)).toArray.setIfInBounds A.length u = (A ++ [u] ++ (V ++ Z)).toArray := by simp
    rw [e] at h1
    have h2 := setCells_blk U (A ++ [u]) V Z _ h1 (by simpa using hl) (ho.set A.length u)
    simp only [List.length_append, List.length_cons, List.length_nil, Nat.zero_add, List.append_assoc, List.cons_append, List.nil_append] at h2
    simpa [World.setCells] using h2
theorem there_mid {w : World} {g t : Nat} {A V Z : List Value} (h : Blk w g t (A ++ (V ++ Z)).toArray) : w.there g A.length V.length := fun j hj => by
  refine ⟨?_, h.free _⟩
  rw [h.cell]
  simp only [List.getElem?_toArray]
  rw [List.getElem?_append_right (by omega), Nat.add_sub_cancel_left, List.getElem?_append_left hj, List.getElem?_eq_getElem hj]
  rfl
section
variable {P : Program} {ops : Array Oper} {Q : Exit → Act → World → Prop} {N : Nat} {E : List (Nat × Value)} {w : World} {o : Oper} {rest : List Oper} {k : Nat}
/-- A part of a variable is written. -/
theorem l_midA {ty t : TypeId} {p x : Operand} (g off : Nat) (A V Z U : List Value) (hg : o.guard = none) (hd : o.dst = none) (ho : o.op = .store ty p x) (hp : ev E p = some (.pointer (some ⟨g, off, none⟩))) (hx : ev E x = some (.agg U.toArray))
    (hb : Blk w g t (A ++ (V ++ Z)).toArray) (hoff : off = A.length) (hl : V.length = U.length) (hi : (P.info? ty).map (·.size) = some U.length) (h1 : ∀ v ∈ U, v.oneCell' = true)
    (hn : ∀ W', OnlyG w W' g → Blk W' g t (A ++ (U ++ Z)).toArray → lF P ops Q rest N E W') : lF P ops Q (o :: rest) N E w := by
  subst hoff
  have h2 := setCells_blk U A V Z w hb hl (OnlyG.refl w g)
  exact l_mid g A.length U.toArray hg hd ho hp hx (by have := there_mid hb; rw [hl] at this; simpa using this) (by simpa using hi) (all_oneCell_toArray h1) (by simpa using hn _ h2.2 h2.1)
end
theorem k_then_ret {K : Act → World → Prop} {Q : Exit → Act → World → Prop} {N : Nat} {E : List (Nat × Value)} {w : World} (h : kF (Q .ret) N E w) : kF (Exit.then K Q .ret) N E w := h
/-- 'x = ..', 'return ..' behind the reads and calls. -/
theorem f_set {P : Program} {ops : Array Oper} {Q : Exit → Act → World → Prop} {N : Nat} {E : List (Nat × Value)} {w : World} {o : Oper} {rest : List Oper} {ty t : TypeId} {p x : Operand} (g : Nat) (old cells : Array Value) (hg : o.guard = none) (hd : o.dst = none) (ho : o.op = .store ty p x) (hp : ev E p = some (.pointer (some ⟨g, 0, none⟩))) (hx : ev E x = some (.agg cells))
    (hb : Blk w g t old) (hi : (P.info? ty).map (·.size) = some cells.size) (hz : old.size = cells.size) (h1 : ∀ v ∈ cells.toList, v.oneCell' = true) (hn : ∀ w', Up w w' → Blk (w'.setRow g cells) g t cells → lF P ops Q rest N E (w'.setRow g cells)) :
    bF P ops (Up w) (fun a' => ∀ w', Up w w' → wpList P ops Q (o :: rest) a' w') [] N E :=
  f_tail fun w' hw' => l_set g old cells hg hd ho hp hx (hw'.blk hb) hi hz h1 (hn w' hw' ((hw'.blk hb).row _))
/-- Behind the set of a variable of one's own. -/
theorem up_set {w0 w w' : World} {g t : Nat} {cs : Array Value} (h : Up w0 w) (hw : Up w w') (hg : w0.heap.size ≤ g) (c : Array Value) (_ : Blk w g t cs) : Up w0 (w'.setRow g c) := up_row (h.step hw) hg c
end Go.Proofs.Ythkbejheedffjaa
/-
  MAKE AND APPEND OVER FRAMES BY WHAT IS KNOWN OF THEM.
-/
namespace Go.Proofs.Ythkbejheedffjaa
open Go.RowKit Go.IntWalk

/-- The slice value '.slice A xs.length c' is the call's own, and holds xs. -/
def GS (w : World) (base e : Nat) (A : Option Addr) (c : Nat) (xs : List Value) : Prop := w.ownsRow base e 1 (.slice A xs.length c) xs.length xs
section
variable {w w' : World} {base e c : Nat} {A : Option Addr} {xs : List Value}
theorem GS.nil (w : World) (base e : Nat) : GS w base e none 0 [] := ⟨rfl, .inl ⟨rfl, rfl⟩⟩
theorem GS.cut (h : GS w base e A c xs) : (A = none ∧ c = 0 ∧ xs = []) ∨ ∃ g, A = some ⟨g, 0, none⟩ ∧ base ≤ g ∧ VL w g xs := by
  rcases h.2 with ⟨h1, h2⟩ | ⟨g, cap, cur, hv, hb, hg, hn, hc, hcs, htk⟩
  · injection h1 with h3 h4 h5
    exact .inl ⟨h3, h5, List.eq_nil_of_length_eq_zero h2⟩
  · injection hv with h3 h4 h5
    have hB : Blk w g e cur := hg
    refine .inr ⟨g, h3, hb, hB.lt, fun j v hj => ?_, fun j _ => hB.free j⟩
    rw [hB.cell j]
    rw [← htk, List.getElem?_take] at hj
    split at hj
    · simpa using hj
    · cases hj
theorem GS.lt (h : GS w base e A c xs) : ∀ k, A.map (·.block) = some k → base ≤ k ∧ k < w.heap.size := fun k hk => by
  rcases h.cut with ⟨h1, _, _⟩ | ⟨g, h1, h2, h3⟩
  · rw [h1] at hk
    cases hk
  · rw [h1] at hk
    cases hk
    exact ⟨h2, h3.lt⟩
theorem GS.keep (h : GS w base e A c xs) (hk : ∀ k, A.map (·.block) = some k → w'.heap[k]? = w.heap[k]?) : GS w' base e A c xs := by
  refine ⟨h.1, ?_⟩
  rcases h.2 with h1 | ⟨g, cap, cur, hv, hb, hg, hr⟩
  · exact .inl h1
  · injection hv with h3 h4 h5
    refine .inr ⟨g, cap, cur, by rw [h3, h5], hb, ?_, hr⟩
    rw [hk g (by rw [h3]; rfl)]
    exact hg
theorem GS.below {B : Nat} (h : GS w base e A c xs) (hb : Below B w w') (hB : w.heap.size ≤ B) : GS w' base e A c xs := h.keep fun k hk => hb.block k (Nat.lt_of_lt_of_le (h.lt k hk).2 hB)
theorem GS.up (h : GS w base e A c xs) (hb : Up w w') : GS w' base e A c xs := h.below hb (Nat.le_refl _)
theorem GS.far (h : GS w base e A c xs) {p : Addr} (hp : A.map (·.block) ≠ some p.block) (u : Value) : GS (w.setCell p u) base e A c xs := h.keep fun k hk => heap_setCell_other w p k u (fun he => hp (by rw [hk, he]))
/-- What an append leaves, seen from the call's first world. -/
theorem GS.grew {W0 : World} (h : GS w base e A c xs) (hbe : Below base W0 w) (hg : w.grownBy w' (A.map (·.block))) (hz : base ≤ w.heap.size) : Below base W0 w' := hbe.grown hg hz fun k hk => (h.lt k hk).1
end

/-- A new block of n zeros. -/
theorem made_zeros (z : Value) (n : Nat) : madeCells #[z] n = (List.replicate n z).toArray := by
  apply Array.ext (by simp [madeCells])
  intro i h1 h2
  simp [madeCells, Nat.mod_one]

section
variable {ops : Array Oper} {Q : Exit → Act → World → Prop} {N : Nat} {E : List (Nat × Value)} {w : World} {o : Oper} {rest : List Oper} {k : Nat}
/-- **make([]T, n)**. -/
theorem l_make {l c : Operand} {t e : TypeId} {K : IntKind} {z : Value} {bytes : Nat} (n : Nat) (hg : o.guard = none) (hd : o.dst = some k) (hk : Nat.blt k N = true) (ho : o.op = .makeSlice t l c) (hl : ev E l = some (.int K (n : Int))) (hc : ev E c = some (.int K (n : Int)))
    (ht : Try.prog.underlying t = some (.slice e)) (hi : (Try.prog.info? e).map (fun i => (i.zero, i.size, i.bytes)) = some (some z, 1, bytes)) (hz1 : z.cells = #[z]) (hbytes : bytes * n ≤ 281474976710656) (h63 : n ≤ 9223372036854775807)
    (hn : lF Try.prog ops Q rest N ((k, .slice (some ⟨w.heap.size, 0, none⟩) n n) :: E) (w.alloc (.cells (List.replicate n z).toArray e))) : lF Try.prog ops Q (o :: rest) N E w := by
  obtain ⟨i, hi0, hz0, hs, hb⟩ := info_parts hi
  refine l_val _ hg hd hk (fun a ha => ?_) hn
  have h1 := ha.eval hl
  have h2 := ha.eval hc
  have hr := run_make_row (P := Try.prog) t e i z ht hi0 hz0 hs hz1 K K n (by rw [hb]; exact hbytes) h63 w
  rw [made_zeros] at hr
  unfold execOp
  simp only [ho, h1, h2, Sem.run_bind, hr, Result.andThen_ok, Sem.run_pure]
/-- **append(s, x...)**, s the call's own. -/
theorem l_app {s x : Operand} {t e : TypeId} {z : Value} {base bytes c m d : Nat} {A : Option Addr} {xs news : List Value} {ad : Addr} (hg : o.guard = none) (hd : o.dst = some k) (hk : Nat.blt k N = true) (ho : o.op = .call { callee := .builtin .append, args := #[s, x], argTypes := #[t, t] })
    (hs : ev E s = some (.slice A xs.length c)) (hx : ev E x = some (.slice (some ad) m d)) (ht : Try.prog.underlying t = some (.slice e)) (hi : (Try.prog.info? e).map (fun i => (i.zero, i.size, i.bytes)) = some (some z, 1, bytes)) (hz1 : z.cells.size = 1)
    (hown : GS w base e A c xs) (hm : news.length = m) (hnews : ∀ j u, news[j]? = some u → w.cell? (ad.add j) = some u) (h1 : ∀ u ∈ news, u.oneCell' = true) (hbytes : (xs.length + m) * bytes ≤ 140737488355328) (h63 : xs.length + m ≤ maxLen) (hbase : base ≤ w.heap.size)
    (hn : ∀ A' c' w', GS w' base e A' c' (xs ++ news) → w.grownBy w' (A.map (·.block)) → (A'.map (·.block) = A.map (·.block) ∨ A'.map (·.block) = some w.heap.size) → lF Try.prog ops Q rest N ((k, .slice A' (xs ++ news).length c') :: E) w') :
    lF Try.prog ops Q (o :: rest) N E w := by
  obtain ⟨i, hi0, hz0, hs0, hb⟩ := info_parts hi
  have hob : ∀ (B : Option Addr) (n m : Nat), (Value.slice B n m).ownBlock = B.map (·.block) := fun B n m => by cases B <;> rfl
  obtain ⟨v', w', hr, ho', hgr, _, hat⟩ := run_append_own_at (P := Try.prog) w base t o.type e i z 1 bytes ht hi0 hz0 hs0 hb hz1 (by omega) _ xs.length xs hown ad m d news (by rw [hm, Nat.mul_one]) hnews h1 h63 hbytes hbase
  have hlen : (xs ++ news).length = xs.length + m := by rw [List.length_append, hm]
  rw [← hlen] at ho'
  obtain ⟨A', c', rfl⟩ : ∃ A' c', v' = .slice A' (xs ++ news).length c' := by
    rcases ho'.2 with ⟨h0, hn⟩ | ⟨g, cap, cur, hv, _⟩
    · exact ⟨none, 0, by rw [h0, hn]⟩
    · exact ⟨_, _, hv⟩
  rw [hob] at hgr hat
  rw [hob] at hat
  refine l_val _ hg hd hk (fun a ha => ?_) (hn A' c' w' ho' hgr hat)
  have h2 := ha.eval hs
  have h3 := ha.eval hx
  unfold execOp
  simp only [ho, resolve, invoke, builtin, Sem.run_bind, Sem.run_pure, Result.andThen_ok, List.map_toArray, List.map_cons, List.map_nil, h2, h3, hr]
end

theorem info_byte : (Try.prog.info? 5).map (fun i => (i.zero, i.size, i.bytes)) = some (some (.int .u8 0), 1, 1) := by kernel_rfl
theorem GS.new (w : World) (base e : Nat) (h : base ≤ w.heap.size) : GS (w.alloc (.cells #[] e)) base e (some ⟨w.heap.size, 0, none⟩) 0 [] :=
  ⟨rfl, .inr ⟨w.heap.size, 0, #[], rfl, h, Blk.new w _ _, Nat.le_refl _, Nat.zero_le _, rfl, rfl⟩⟩
end Go.Proofs.Ythkbejheedffjaa
/-
  REGIONS: 'copy(a[..], b[..])', where the order of the two slices is drawn.
-/
namespace Go.Proofs.Ythkbejheedffjaa
open Go.RowKit Go.IntWalk

/-- l laid over z from place off on. -/
def cop (z : List UInt8) (off : Nat) (l : List UInt8) : List UInt8 := z.take off ++ (l ++ z.drop (off + l.length))
theorem cop_len {z l : List UInt8} {off : Nat} (h : off + l.length ≤ z.length) : (cop z off l).length = z.length := by
  simp [cop]
  omega

/-- What is asked behind the two slices. -/
def copyEnd (Q : Exit → Act → World → Prop) (w : World) (d s : Operand) (dst : Option Tmp) (a' : Act) : Prop :=
  ∃ (g off n c g2 c2 : Nat) (t t2 : TypeId) (z l : List UInt8), a'.eval d = .slice (some ⟨g, off, none⟩) n c ∧ a'.eval s = .slice (some ⟨g2, 0, none⟩) l.length c2 ∧ Blk w g t (By z).toArray ∧ Blk w g2 t2 (By l).toArray ∧ l.length ≤ n ∧ off + l.length ≤ z.length ∧
    ∀ w', Up w w' → Q .normal (a'.put dst (goInt l.length)) (w'.setRow g (By (cop z off l)).toArray)
theorem size_u8 : (Try.prog.info? 5).map (·.size) = some 1 := by kernel_rfl
theorem reg_copy {Q : Exit → Act → World → Prop} {id : Nat} {a : Act} {w : World} {l : List Oper} {o : Oper} (n : Nat) (d s : Operand) (hos : l.drop n = [o]) (ho : o.op = .call { callee := .builtin .copy, args := #[d, s], argTypes := #[32, 32] }) (hg : o.guard = none)
    (hB : tailB l.toArray n 0 1 = true) (hQ : ∀ c a d v w, Q (.panic c) (a.put d v) w → Q (.panic c) a w) (hm : Try.prog.follows .mixedOrders = true)
    (h : wpB Try.prog l.toArray (Up w) (copyEnd Q w d s o.dst) (l.take n) a) : (Code.region id l.toArray true).wp Try.prog Q a w := by
  have hn : n ≤ l.length := by
    have h1 := congrArg List.length hos
    simp only [List.length_drop, List.length_cons, List.length_nil] at h1
    omega
  refine region_B n (Up w) hn hm (by rw [hos]; exact hB) (fun _ _ h k => h.step k) (Up.drew w) hQ ?_
  rw [hos]
  refine wpB_mono (fun a' h' w' hw' => ?_) _ _ h
  obtain ⟨g, off, n, c, g2, c2, t, t2, z, l, hd, hs, hz, hl, h1, h2, hk⟩ := h'
  have hb := hw'.blk hz
  have hb2 := hw'.blk hl
  refine wpList_copy_own hg d s 32 32 ho 5 Try.underlying32 size_u8 g off n c ⟨g2, 0, none⟩ l.length c2 hd hs (By z).toArray t hb (By l) (by rw [By_len]; exact (Nat.min_eq_left h1).symm) ?_ (by rw [By_len, List.size_toArray, By_len]; exact h2) (By_one l) ?_
  · intro j v hv
    have hj : (Addr.mk g2 0 none).add j = ⟨g2, j, none⟩ := by
      unfold Addr.add
      by_cases h0 : j = 0
      · subst h0; rfl
      · simp [h0]
    rw [hj, hb2.cell j]
    simpa using hv
  · have e : (By z).toArray.toList.take off ++ (By l ++ (By z).toArray.toList.drop (off + (By l).length)) = By (cop z off l) := by
      simp [cop, By]
    rw [e, By_len]
    exact hk w' hw'

/-- 'copy(a[..], b)', in the text's order. -/
theorem wpl_copy {ops : Array Oper} {rest : List Oper} {o : Oper} {a : Act} {w : World} {Q : Exit → Act → World → Prop} (d s : Operand) (hgd : o.guard = none) (ho : o.op = .call { callee := .builtin .copy, args := #[d, s], argTypes := #[32, 32] })
    (g off n c : Nat) (hd : a.eval d = .slice (some ⟨g, off, none⟩) n c) (P : Option Addr) (l : List UInt8) (c2 : Nat) (hs : a.eval s = .slice P l.length c2) (z : List UInt8) (t : Nat) (hz : Blk w g t (By z).toArray) (lo hi : Nat) (hl : BV w lo hi P l) (hn : off + n = z.length)
    (z' : List UInt8) (hz' : Go.RowKit.Hid (cop z off (l.take n) = z')) (m : Nat) (hm : Go.RowKit.Hid (min l.length n = m)) (h : wpList Try.prog ops Q rest (a.put o.dst (.int .i64 (m : Int))) (w.setRow g (By z').toArray)) : wpList Try.prog ops Q (o :: rest) a w := by
  have e0 := hz'.out
  have e1 := hm.out
  subst e0
  subst e1
  by_cases h0 : min l.length n = 0
  · have ht : l.take n = [] := by
      rw [List.take_eq_nil_iff]
      rcases Nat.min_eq_zero_iff.1 h0 with h1 | h1
      · exact .inr (List.eq_nil_of_length_eq_zero h1)
      · exact .inl h1
    have e : cop z off (l.take n) = z := by
      rw [ht]
      simp [cop]
    have e2 : w.setRow g (By z).toArray = w := setRow_self w g _ t (0, 0) hz
    rw [e, e2, h0] at h
    exact wpList_copy_nothing hgd d s 32 32 ho 5 Try.underlying32 size_u8 _ _ n c l.length c2 hd hs h0 h
  · have hlp : 0 < l.length := by omega
    obtain ⟨ad, rfl, _, _, hc⟩ := hl hlp
    have hlt : (By (l.take n)).length = Nat.min l.length n := by
      rw [By_len, List.length_take]
      exact Nat.min_comm _ _
    refine wpList_copy_own hgd d s 32 32 ho 5 Try.underlying32 size_u8 g off n c ad l.length c2 hd hs (By z).toArray t hz (By (l.take n)) hlt ?_ (by rw [hlt, List.size_toArray, By_len, ← hn]; exact Nat.add_le_add_left (Nat.min_le_right _ _) _) (By_one _) ?_
    · intro j v hv
      obtain ⟨x, hx, rfl⟩ := By_at hv
      refine hc j x ?_
      rw [List.getElem?_take] at hx
      split at hx
      · exact hx
      · cases hx
    · have e : (By z).toArray.toList.take off ++ (By (l.take n) ++ (By z).toArray.toList.drop (off + (By (l.take n)).length)) = By (cop z off (l.take n)) := by
        simp [cop, By]
      rw [e, hlt]
      exact h
end Go.Proofs.Ythkbejheedffjaa
/-
  STEPS THAT MAKE MEMORY, over frames by what is known of them: slices of slices, calls whose answers lie in new memory, new variables; copies into a variable from any bytes.
-/
namespace Go.Proofs.Ythkbejheedffjaa
open Go.RowKit Go.IntWalk

def z64 : List UInt8 := List.replicate 64 0
theorem z64_len : z64.length = 64 := List.length_replicate
/-! ### Bytes that are read -/
/-- The value v is a slice that reads the bytes l. -/
def SB (w : World) (v : Value) (l : List UInt8) : Prop := ∃ A c, v = .slice A l.length c ∧ SL w 0 w.heap.size A l c
/-- The slice of slices at A reads the lists ls. -/
def PT (w : World) (A : Option Addr) (ls : List (List UInt8)) : Prop := Parts w w.heap.size A ls
theorem SB.later {w w' : World} {v : Value} {l : List UInt8} (h : SB w v l) (hb : Below w.heap.size w w') : SB w' v l := by
  obtain ⟨A, c, e, h1⟩ := h
  exact ⟨A, c, e, (h1.below hb (Nat.le_refl _)).more (Nat.le_refl _) hb.size⟩
theorem PT.later {w w' : World} {A : Option Addr} {ls : List (List UInt8)} (h : PT w A ls) (hb : Below w.heap.size w w') : PT w' A ls := fun hl => by
  obtain ⟨ad, e, h1, h2⟩ := h.below hb (Nat.le_refl _) hl
  refine ⟨ad, e, Nat.lt_of_lt_of_le h1 hb.size, fun i l hi => ?_⟩
  obtain ⟨A', c, h3, h4⟩ := h2 i l hi
  exact ⟨A', c, h3, h4.more (Nat.le_refl _) hb.size⟩
theorem SB.nil (w : World) : SB w (.slice none 0 0) [] := ⟨none, 0, rfl, SL.nil _ _ _⟩
/-- A slice of a variable's row of bytes. -/
theorem SB.arr {w : World} {g t off n c : Nat} {z l : List UInt8} (h : Blk w g t (By z).toArray) (hl : (z.drop off).take n = l) (hn : l.length = n) (hc : n ≤ c) (hc2 : c ≤ 9223372036854775807) : SB w (.slice (some ⟨g, off, none⟩) n c) l := by
  refine ⟨some ⟨g, off, none⟩, c, by rw [hn], by rw [hn]; exact hc, hc2, fun h => (by cases h), fun _ => ⟨_, rfl, Nat.zero_le _, h.lt, fun j x hx => ?_⟩⟩
  rw [← hl, List.getElem?_take] at hx
  split at hx
  · rw [List.getElem?_drop] at hx
    rw [Addr.add_mid, h.cell]
    simp [By, hx]
  · cases hx
/-- The whole of a variable's row of bytes. -/
theorem SB.all {w : World} {g t n : Nat} {l : List UInt8} (h : Blk w g t (By l).toArray) (hn : l.length = n) (hc2 : n ≤ 9223372036854775807) : SB w (.slice (some ⟨g, 0, none⟩) n n) l :=
  SB.arr h (by rw [List.drop_zero, List.take_of_length_le (by omega)]) hn (Nat.le_refl _) hc2
theorem GS.sb {w : World} {base c : Nat} {A : Option Addr} {l : List UInt8} (h : GS w base 5 A c (By l)) : SB w (.slice A l.length c) l := by
  have h2 := h.2
  rw [By_len] at h2
  rcases h2 with ⟨h1, h3⟩ | ⟨g, cap, cur, hv, _, hg, hn, hc, _, htk⟩
  · injection h1 with h4 h5 h6
    have := List.eq_nil_of_length_eq_zero h3
    subst h4 h6 this
    exact SB.nil w
  · injection hv with h4 h5 h6
    subst h4 h6
    refine ⟨_, c, rfl, hn, by unfold maxLen at hc; omega, fun h => (by cases h), fun _ => ⟨_, rfl, Nat.zero_le _, Blk.lt hg, fun j x hx => ?_⟩⟩
    have hB : Blk w g _ cur := hg
    rw [Addr.add_mid, hB.cell, Nat.zero_add]
    have h7 : (By l)[j]? = some (.int .u8 (x.toNat : Int)) := by simp [By, hx]
    rw [← htk, List.getElem?_take] at h7
    split at h7
    · simpa using h7
    · cases h7
/-- A part of such a slice. -/
theorem SL.part {w : World} {lo hi c : Nat} {A : Option Addr} {l : List UInt8} (h : SL w lo hi A l c) {k n : Nat} (hk : k ≤ l.length) : SL w lo hi (if c = k then A else A.map (·.add k)) ((l.drop k).take n) (c - k) := (h.cut hk).take n
theorem SB.len {w : World} {v : Value} {l : List UInt8} (h : SB w v l) : ∃ A c, v = .slice A l.length c := by
  obtain ⟨A, c, e, _⟩ := h
  exact ⟨A, c, e⟩

/-! ### Steps -/
section
variable {ops : Array Oper} {Rel : World → World → Prop} [hR : RelOk Rel] {C0 : World → Prop} {Q : Facts → Act → Prop} {N : Nat} {E : List (Nat × Value)} {Fa : Told} {o : Oper} {rest : List (Nat × Oper)} {i k : Nat}
/-- A call whose answer is described in the world behind it. -/
theorem g_call {f : FuncId} {xs : Array Operand} {ats : Array TypeId} (args : Array Value) (V : Value → World → Prop) (hg : o.guard = none) (hd : o.dst = some k) (hk : Nat.blt k N = true) (hf : farP i Fa = true) (hp : ∀ v, Pers Rel (V v)) (hown : Own f)
    (hc : ∀ w, C0 w → Uses o Fa w → Calls Try.prog f args w (fun e w' => ∃ v, e = .returned v ∧ V v w' ∧ Below w.heap.size w w'))
    (ho : o.op = .call { callee := .value (.func f), args := xs, argTypes := ats }) (hx : xs.toList.map (ev E) = args.toList.map some)
    (hn : ∀ v w, C0 w → V v w → gF Try.prog Rel ops C0 Q rest N ((k, v) :: E) ((i, V v) :: Fa)) : gF Try.prog Rel ops C0 Q ((i, o) :: rest) N E Fa :=
  g_mem V hg hd hk hf (by rw [ho]; rfl) hp (fun a ha w hw hu => by
    rw [run_call_fn hown ho, map_eval (ha.evals _ _ hx)]
    exact ⟨rfl, (hc w hw hu).mono fun e w' ⟨v, h1, h2, h3⟩ => ⟨v, h1, hR.below _ _ h3, h2⟩⟩) hn
/-- A new variable. -/
theorem g_alloc {ty : TypeId} (zs : Array Value) (base : Nat) (hg : o.guard = none) (hd : o.dst = some k) (hk : Nat.blt k N = true) (hf : farP i Fa = true) (ho : o.op = .alloc ty) (hz : (Try.prog.info? ty).bind (fun i => i.zero.map (·.cells)) = some zs)
    (hb : ∀ w, C0 w → base ≤ w.heap.size) (hp : ∀ g, Pers Rel fun w => base ≤ g ∧ Blk w g ty zs)
    (hn : ∀ g w, C0 w → base ≤ g → Blk w g ty zs → gF Try.prog Rel ops C0 Q rest N ((k, .pointer (some ⟨g, 0, none⟩)) :: E) ((i, fun w => base ≤ g ∧ Blk w g ty zs) :: Fa)) : gF Try.prog Rel ops C0 Q ((i, o) :: rest) N E Fa :=
  g_mem (fun v w => ∃ g, v = .pointer (some ⟨g, 0, none⟩) ∧ base ≤ g ∧ Blk w g ty zs) hg hd hk hf (by rw [ho]; rfl) (fun v w w' ⟨g, e, h⟩ hr => ⟨g, e, hp g w w' h hr⟩) (fun a _ w hw _ => by
    rw [exec_alloc ho hz a w]
    exact ⟨hR.below _ _ ((Below.refl w.heap.size w).alloc (Nat.le_refl _) _), w.heap.size, rfl, hb w hw, Blk.new w _ _⟩) (fun v w hw ⟨g, e, h1, h2⟩ => by
    subst e
    intro a F ha hF
    refine hn g w hw h1 h2 a F ha fun x hx w hw => ?_
    rcases List.mem_cons.1 hx with rfl | hx
    · obtain ⟨g', e, h⟩ := hF (i, fun w => ∃ g', Value.pointer (some ⟨g, 0, none⟩) = .pointer (some ⟨g', 0, none⟩) ∧ base ≤ g' ∧ Blk w g' ty zs) List.mem_cons_self w hw
      injection e with e
      injection e with e
      injection e with e
      subst e
      exact h
    · exact hF x (List.mem_cons_of_mem _ hx) w hw)
end

theorem cells_slices : (Try.prog.info? 32).map (fun i => (i.zero, i.size, i.bytes)) = some (some (.slice none 0 0), 1, 24) := by kernel_rfl
theorem run_slices (vs : List Value) (n : Nat) (parts : Array (Nat × Value)) (hp : parts.toList = (vs.zipIdx 0).map fun x => (x.2, x.1)) (hn : vs.length = n) (h0 : 0 < n) (h24 : n ≤ 16777216) (h1 : ∀ v ∈ vs, v.cells = #[v]) (w : World) :
    (Instr.buildSlice 38 n parts).run Try.prog w = .ok (.slice (some ⟨w.heap.size, 0, none⟩) n n) (w.alloc (.cells vs.toArray 32)) := by
  obtain ⟨ie, h2, h3, h4, _⟩ := info_parts cells_slices
  refine run_buildSlice w 38 32 n parts vs.toArray ie _ Try.underlying38 h2 h3 (by rw [h4]; omega) (by rw [h4]; omega) ?_
  rw [hp, h4]
  exact Great.fill_flat _ _ h1 (by simp [hn])
/-- Each value reads its bytes. -/
def All2 (w : World) : List Value → List (List UInt8) → Prop
  | [], [] => True
  | v :: vs, l :: ls => SB w v l ∧ All2 w vs ls
  | _, _ => False
theorem All2.len {w : World} : ∀ {vs : List Value} {ls : List (List UInt8)}, All2 w vs ls → vs.length = ls.length
  | [], [], _ => rfl
  | _ :: _, _ :: _, h => by rw [List.length_cons, List.length_cons, All2.len h.2]
  | [], _ :: _, h => h.elim
  | _ :: _, [], h => h.elim
theorem All2.get {w : World} : ∀ {vs : List Value} {ls : List (List UInt8)}, All2 w vs ls → ∀ (i : Nat) l, ls[i]? = some l → ∃ v, vs[i]? = some v ∧ SB w v l
  | [], [], _, i, l, h => by simp at h
  | v :: vs, l0 :: ls, h, 0, l, hi => by
    simp only [List.getElem?_cons_zero, Option.some.injEq] at hi
    subst hi
    exact ⟨v, rfl, h.1⟩
  | v :: vs, l0 :: ls, h, i + 1, l, hi => by
    obtain ⟨u, h1, h2⟩ := All2.get h.2 i l (by simpa using hi)
    exact ⟨u, by simpa using h1, h2⟩
  | [], _ :: _, h, _, _, _ => h.elim
  | _ :: _, [], h, _, _, _ => h.elim
theorem All2.one {w : World} : ∀ {vs : List Value} {ls : List (List UInt8)}, All2 w vs ls → ∀ v ∈ vs, v.cells = #[v] ∧ v.oneCell' = true
  | [], _, _, v, hv => by simp at hv
  | u :: vs, l :: ls, h, v, hv => by
    rcases List.mem_cons.1 hv with rfl | hv
    · obtain ⟨A, c, rfl, _⟩ := h.1
      exact ⟨rfl, rfl⟩
    · exact All2.one h.2 v hv
  | _ :: _, [], h, _, _ => h.elim
theorem All2.later {w w' : World} (hb : Below w.heap.size w w') : ∀ {vs : List Value} {ls : List (List UInt8)}, All2 w vs ls → All2 w' vs ls
  | [], [], _ => trivial
  | _ :: _, _ :: _, h => ⟨h.1.later hb, All2.later hb h.2⟩
  | [], _ :: _, h => h.elim
  | _ :: _, [], h => h.elim
/-- A slice of slices of bytes, new: the values vs, which read the lists ls. -/
structure NewS (base : Nat) (vs : List Value) (ls : List (List UInt8)) (g : Nat) (w : World) : Prop where
  ge : base ≤ g
  blk : Blk w g 32 vs.toArray
  all : All2 w vs ls
theorem NewS.later {base g : Nat} {vs : List Value} {ls : List (List UInt8)} {w w' : World} (h : NewS base vs ls g w) (hb : Below w.heap.size w w') : NewS base vs ls g w' := ⟨h.ge, h.blk.later hb, All2.later hb h.all⟩
theorem pt_of {w : World} {g : Nat} {vs : List Value} {ls : List (List UInt8)} {cs : Array Value} {t : Nat} (hB : Blk w g t cs) (htk : ∀ (j : Nat) (v : Value), vs[j]? = some v → cs[j]? = some v) (h : All2 w vs ls) : PT w (some ⟨g, 0, none⟩) ls := fun _ => by
  refine ⟨_, rfl, hB.lt, fun i l hi => ?_⟩
  obtain ⟨v, h1, A, c, rfl, h3⟩ := h.get i l hi
  refine ⟨A, c, ?_, h3⟩
  rw [Addr.add_mid, hB.cell, Nat.zero_add]
  exact htk i _ h1
theorem NewS.pt {base g : Nat} {vs : List Value} {ls : List (List UInt8)} {w : World} (h : NewS base vs ls g w) : PT w (some ⟨g, 0, none⟩) ls := pt_of h.blk (fun j v hj => by simpa using hj) h.all
section
variable {ops : Array Oper} {C0 : World → Prop} {Q : Facts → Act → Prop} {N : Nat} {E : List (Nat × Value)} {Fa : Told} {o : Oper} {rest : List (Nat × Oper)} {i k : Nat}
theorem g_slices {n : Nat} {parts : Array (Nat × Operand)} (vs : List Value) (ls : List (List UInt8)) (base : Nat) (hg : o.guard = none) (hd : o.dst = some k) (hk : Nat.blt k N = true) (hf : farP i Fa = true) (ho : o.op = .buildSlice 38 n parts)
    (hv : parts.toList.map (fun p => (p.1, ev E p.2)) = (vs.zipIdx 0).map fun x => (x.2, some x.1)) (hn : vs.length = n) (h0 : 0 < n) (h24 : n ≤ 16777216) (hb : ∀ w, C0 w → base ≤ w.heap.size) (h : ∀ w, C0 w → Uses o Fa w → All2 w vs ls)
    (hk2 : ∀ g w, C0 w → NewS base vs ls g w → gF Try.prog Bel ops C0 Q rest N ((k, .slice (some ⟨g, 0, none⟩) n n) :: E) ((i, NewS base vs ls g) :: Fa)) : gF Try.prog Bel ops C0 Q ((i, o) :: rest) N E Fa :=
  g_mem (fun v w => ∃ g, v = .slice (some ⟨g, 0, none⟩) n n ∧ NewS base vs ls g w) hg hd hk hf (by rw [ho]; rfl) (fun v w w' ⟨g, e, h⟩ hr => ⟨g, e, h.later hr⟩) (fun a ha w hw hu => by
    have hA := h w hw hu
    have hm : ∀ (l : List (Nat × Operand)) (m : List (Value × Nat)), l.map (fun p => (p.1, ev E p.2)) = m.map (fun x => (x.2, some x.1)) → l.map (fun (i, x) => (i, a.eval x)) = m.map fun x => (x.2, x.1) := by
      intro l
      induction l with
      | nil => intro m h; cases m with
        | nil => rfl
        | cons => cases h
      | cons p l ih => intro m h; cases m with
        | nil => cases h
        | cons u m =>
          simp only [List.map_cons, List.cons.injEq, Prod.mk.injEq] at h ⊢
          exact ⟨⟨h.1.1, ha.eval h.1.2⟩, ih m h.2⟩
    have hr := run_slices vs n (parts.map fun (i, x) => (i, a.eval x)) (by rw [Array.toList_map]; exact hm _ _ hv) hn h0 h24 (fun v hv => (hA.one v hv).1) w
    have hal := (Below.refl w.heap.size w).alloc (Nat.le_refl _) (.cells vs.toArray 32)
    unfold execOp
    simp only [ho, Sem.run_bind, hr, Result.andThen_ok, Sem.run_pure]
    exact ⟨hal, w.heap.size, rfl, hb w hw, Blk.new w _ _, All2.later hal hA⟩) (fun v w hw ⟨g, e, h2⟩ => by
    subst e
    intro a F ha hF
    refine hk2 g w hw h2 a F ha fun x hx w hw => ?_
    rcases List.mem_cons.1 hx with rfl | hx
    · obtain ⟨g', e, h⟩ := hF (i, fun w => ∃ g', Value.slice (some ⟨g, 0, none⟩) n n = .slice (some ⟨g', 0, none⟩) n n ∧ NewS base vs ls g' w) List.mem_cons_self w hw
      injection e with e
      injection e with e
      injection e with e
      subst e
      exact h
    · exact hF x (List.mem_cons_of_mem _ hx) w hw)
end

/-! ### Appends of slices -/
theorem All2.app {w : World} : ∀ {vs us : List Value} {ls ms : List (List UInt8)}, All2 w vs ls → All2 w us ms → All2 w (vs ++ us) (ls ++ ms)
  | [], _, [], _, _, h => h
  | _ :: _, _, _ :: _, _, h, h' => ⟨h.1, All2.app h.2 h'⟩
  | [], _, _ :: _, _, h, _ => h.elim
  | _ :: _, _, [], _, h, _ => h.elim
theorem pt_vals {w : World} {ad : Addr} : ∀ (ls : List (List UInt8)) (o : Nat), (∀ (i : Nat) l, ls[i]? = some l → ∃ v, w.cell? (ad.add (o + i)) = some v ∧ SB w v l) → ∃ vs, All2 w vs ls ∧ ∀ (j : Nat) u, vs[j]? = some u → w.cell? (ad.add (o + j)) = some u
  | [], _, _ => ⟨[], trivial, fun j u h => by simp at h⟩
  | l :: ls, o, h => by
    obtain ⟨v, h1, h2⟩ := h 0 l rfl
    obtain ⟨vs, h3, h4⟩ := pt_vals ls (o + 1) fun i l' hi => by
      obtain ⟨v', h5, h6⟩ := h (i + 1) l' (by simpa using hi)
      exact ⟨v', by rw [show o + 1 + i = o + (i + 1) by omega]; exact h5, h6⟩
    refine ⟨v :: vs, ⟨h2, h3⟩, fun j u hj => ?_⟩
    cases j with
    | zero =>
      simp only [List.getElem?_cons_zero, Option.some.injEq] at hj
      subst hj
      exact h1
    | succ j =>
      have := h4 j u (by simpa using hj)
      rwa [show o + 1 + j = o + (j + 1) by omega] at this
theorem GS.pt {w : World} {base c : Nat} {A : Option Addr} {vs : List Value} {ls : List (List UInt8)} (h : GS w base 32 A c vs) (hA : All2 w vs ls) : PT w A ls ∧ ls.length ≤ c ∧ c ≤ 9223372036854775807 := by
  have hlen := hA.len
  rcases h.2 with ⟨h1, h3⟩ | ⟨g, cap, cur, hv, _, hg, hn, hc, _, htk⟩
  · injection h1 with h4 h5 h6
    subst h6
    exact ⟨fun h0 => absurd h0 (by omega), by omega, by omega⟩
  · injection hv with h4 h5 h6
    subst h4 h6
    refine ⟨pt_of (cs := cur) hg (fun j v hj => ?_) hA, by omega, by unfold maxLen at hc; omega⟩
    rw [← htk, List.getElem?_take] at hj
    split at hj
    · simpa using hj
    · cases hj
theorem NewS.gs {base n g : Nat} {vs : List Value} {ls : List (List UInt8)} {w : World} (h : NewS base vs ls g w) (hn : vs.length = n) (hm : n ≤ 9223372036854775807) : GS w base 32 (some ⟨g, 0, none⟩) n vs := by
  refine ⟨by simp, .inr ⟨g, n, vs.toArray, rfl, h.ge, h.blk, by omega, by unfold maxLen; omega, by simp [hn], by simp⟩⟩
section
variable {ops : Array Oper} {Q : Exit → Act → World → Prop} {N : Nat} {E : List (Nat × Value)} {w : World} {o : Oper} {rest : List Oper} {k : Nat}
/-- **append(s, parts...)** of slices of bytes, s the call's own. -/
theorem l_appS {s x : Operand} {base c d : Nat} {A X : Option Addr} {vs : List Value} {ls : List (List UInt8)} (hg : o.guard = none) (hd : o.dst = some k) (hk : Nat.blt k N = true) (ho : o.op = .call { callee := .builtin .append, args := #[s, x], argTypes := #[38, 38] })
    (hs : ev E s = some (.slice A vs.length c)) (hx : ev E x = some (.slice X ls.length d)) (hown : GS w base 32 A c vs) {W0 : World} (hW : Up W0 w) (hP : PT W0 X ls) (h0 : X = none → d = 0 ∧ ls = []) (hb : (vs.length + ls.length) * 24 ≤ 140737488355328) (hbase : base ≤ w.heap.size)
    (hn : ∀ A' c' w' us, All2 W0 us ls → GS w' base 32 A' c' (vs ++ us) → w.grownBy w' (A.map (·.block)) → lF Try.prog ops Q rest N ((k, .slice A' (vs ++ us).length c') :: E) w') : lF Try.prog ops Q (o :: rest) N E w := by
  cases X with
  | none =>
    obtain ⟨rfl, rfl⟩ := h0 rfl
    obtain ⟨i, hi0, hz, hs0, hb⟩ := info_parts cells_slices
    have hr := run_append_owned_none (P := Try.prog) w base 38 o.type 32 i 1 Try.underlying38 hi0 _ vs.length vs hown
    have h1 := hn A c w [] trivial (by rw [List.append_nil]; exact hown) (World.grownBy.refl _ _)
    rw [List.append_nil] at h1
    refine l_val _ hg hd hk (fun a ha => ?_) h1
    have h2 := ha.eval hs
    have h3 := ha.eval hx
    unfold execOp
    simp only [ho, resolve, invoke, builtin, Sem.run_bind, Sem.run_pure, Result.andThen_ok, List.map_toArray, List.map_cons, List.map_nil, h2, h3, List.length_nil, hr]
  | some ad =>
    obtain ⟨us, h1, h2⟩ := pt_vals (w := W0) (ad := ad) ls 0 fun i l hi => by
      obtain ⟨ad', e, _, h3⟩ := hP (by have := (List.getElem?_eq_some_iff.1 hi).1; omega)
      injection e with e
      subst e
      obtain ⟨A', c', h4, h5⟩ := h3 i l hi
      exact ⟨_, by rw [Nat.zero_add]; exact h4, A', c', rfl, h5⟩
    have hl := h1.len
    refine l_app (bytes := 24) (z := .slice none 0 0) (news := us) (base := base) (e := 32) (xs := vs) (A := A) (c := c) (ad := ad) (m := ls.length) (d := d) hg hd hk ho hs hx Try.underlying38 cells_slices rfl hown hl (fun j u hj => by
      have h5 := h2 j u hj
      rw [Nat.zero_add] at h5
      exact (hW.cell (World.block_lt_of_cell? W0 _ h5)).trans h5) (fun u hu => (h1.one u hu).2) hb (by unfold maxLen; omega) hbase ?_
    intro A' c' w' h3 h4 _
    exact hn A' c' w' us h1 h3 h4
end

/-! ### Copies -/
section
variable {ops : Array Oper} {Q : Exit → Act → World → Prop} {N : Nat} {E : List (Nat × Value)} {w : World} {o : Oper} {rest : List Oper} {k : Nat}
/-- **copy(x[off:..], s)** into a variable, all of s. -/
theorem l_copy {d s : Operand} (g off n c t : Nat) (z l : List UInt8) (v : Value) (hgd : o.guard = none) (hdst : o.dst = some k) (hE : look E k = none) (ho : o.op = .call { callee := .builtin .copy, args := #[d, s], argTypes := #[32, 32] })
    (hd : ev E d = some (.slice (some ⟨g, off, none⟩) n c)) (hs : ev E s = some v) (hz : Blk w g t (By z).toArray) (hl : SB w v l) (h0 : 0 < l.length) (h1 : l.length ≤ n) (h2 : off + l.length ≤ z.length)
    (hn : Blk (w.setRow g (By (cop z off l)).toArray) g t (By (cop z off l)).toArray → lF Try.prog ops Q rest N E (w.setRow g (By (cop z off l)).toArray)) : lF Try.prog ops Q (o :: rest) N E w := fun a ha => by
  obtain ⟨A, c2, rfl, hS⟩ := hl
  obtain ⟨ad, rfl, _, _, hc⟩ := hS.2.2.2 h0
  refine wpList_copy_own hgd d s 32 32 ho 5 Try.underlying32 size_u8 g off n c ad l.length c2 (ha.eval hd) (ha.eval hs) (By z).toArray t hz (By l) (by rw [By_len]; exact (Nat.min_eq_left h1).symm) ?_ (by rw [By_len, List.size_toArray, By_len]; exact h2) (By_one l) ?_
  · intro j u hu
    obtain ⟨x, hx, rfl⟩ := By_at hu
    exact hc j x hx
  · have e : (By z).toArray.toList.take off ++ (By l ++ (By z).toArray.toList.drop (off + (By l).length)) = By (cop z off l) := by
      simp [cop, By]
    rw [e, hdst]
    exact hn (hz.row _) _ (ha.putFar hE _)
end
end Go.Proofs.Ythkbejheedffjaa
/-
  REGIONS WITH A STORE AHEAD OF READS: a variable may go over to a value that is known; slices of arrays, arrays of slices; results in two variables.
-/
namespace Go.Proofs.Ythkbejheedffjaa
open Go.RowKit Go.IntWalk

/-- Nothing but new memory; and the variable g may go over to the cells c. -/
structure KeepG (g : Nat) (t : TypeId) (c : Array Value) (w w' : World) : Prop where
  os : w'.os = w.os
  tape : w'.tape = w.tape
  output : w'.output = w.output
  size : w.heap.size ≤ w'.heap.size
  block : ∀ k, k < w.heap.size → k ≠ g → w'.heap[k]? = w.heap[k]?
  here : g < w.heap.size → w'.heap[g]? = w.heap[g]? ∨ Blk w' g t c
section
variable {g : Nat} {t : TypeId} {c : Array Value} {w w' w'' : World}
theorem KeepG.of (h : Below w.heap.size w w') : KeepG g t c w w' := ⟨h.os, h.tape, h.output, h.size, fun k hk _ => h.block k hk, fun hk => .inl (h.block g hk)⟩
instance : RelOk (KeepG g t c) := ⟨fun _ _ => KeepG.of⟩
theorem KeepG.trans (h : KeepG g t c w w') (k : KeepG g t c w' w'') : KeepG g t c w w'' := by
  refine ⟨k.os.trans h.os, k.tape.trans h.tape, k.output.trans h.output, Nat.le_trans h.size k.size, fun i hi hn => (k.block i (Nat.lt_of_lt_of_le hi h.size) hn).trans (h.block i hi hn), fun hg => ?_⟩
  rcases k.here (Nat.lt_of_lt_of_le hg h.size) with h1 | h1
  · rcases h.here hg with h2 | h2
    · exact .inl (h1.trans h2)
    · exact .inr (h1.trans h2)
  · exact .inr h1
theorem KeepG.far (h : KeepG g t c w w') {g' t' : Nat} {cs : Array Value} (hb : Blk w g' t' cs) (hn : g' ≠ g) : Blk w' g' t' cs := (h.block g' hb.lt hn).trans hb
theorem KeepG.self (h : KeepG g t c w w') (hb : Blk w g t c) : Blk w' g t c := by
  rcases h.here hb.lt with h1 | h1
  · exact h1.trans hb
  · exact h1
theorem KeepG.up {w0 : World} (h : KeepG g t c w w') (hU : Up w0 w) (hg : w0.heap.size ≤ g) : Up w0 w' :=
  hU.trans ⟨h.os, h.tape, h.output, h.size, fun k hk => h.block k (Nat.lt_of_lt_of_le hk hU.size) (by omega)⟩
theorem KeepG.set {old : Array Value} (hb : Blk w g t old) : KeepG g t c w (w.setRow g c) := by
  have hs : (w.setRow g c).heap.size = w.heap.size := by simp [World.setRow]
  exact ⟨rfl, rfl, rfl, by rw [hs]; exact Nat.le_refl _, fun k _ hn => setRow_other w g k c hn, fun _ => .inr (hb.row c)⟩
end
section
variable {P : Program} {ops : Array Oper} {Rel : World → World → Prop} {C0 : World → Prop} {Q : Facts → Act → Prop} {N : Nat} {E : List (Nat × Value)} {Fa : Told} {o : Oper} {rest : List (Nat × Oper)} {i : Nat}
/-- The whole of a variable is written. -/
theorem g_store {ty t : TypeId} {p x : Operand} (g : Nat) (cells : Array Value) (hg : o.guard = none) (hd : o.dst = none) (hf : farP i Fa = true) (ho : o.op = .store ty p x) (hp : ev E p = some (.pointer (some ⟨g, 0, none⟩))) (hx : ev E x = some (.agg cells))
    (hi : (P.info? ty).map (·.size) = some cells.size) (h1 : ∀ v ∈ cells.toList, v.oneCell' = true) (hb : ∀ w, C0 w → ∃ old, Blk w g t old ∧ old.size = cells.size ∧ Rel w (w.setRow g cells)) (hP : Pers Rel fun w => Blk w g t cells)
    (hn : gF P Rel ops C0 Q rest N E ((i, fun w => Blk w g t cells) :: Fa)) : gF P Rel ops C0 Q ((i, o) :: rest) N E Fa := fun a F ha hF => by
  unfold wpG
  rw [if_pos (by simp [Region.wanted, hg])]
  refine ⟨fun v w => v = undef ∧ Blk w g t cells, fun v w w' h hr => ⟨h.1, hP w w' h.2 hr⟩, .inl ⟨undef, fun u w h => h.1⟩, fun w hw _ => ?_, fun v w hw _ hV => hn _ _ (by dsimp only; rw [hd]; exact ha) ?_⟩
  · obtain ⟨old, h2, h3, h4⟩ := hb w hw
    have hst := run_store_row (P := P) w ty g cells old t h2 hi h3 h1
    dsimp only
    unfold execOp
    simp only [ho, ha.eval hp, ha.eval hx, Sem.run_bind, hst, Result.andThen_ok, Sem.run_pure]
    exact ⟨h4, rfl, h2.row _⟩
  · intro x hx w hw
    rcases List.mem_cons.1 hx with rfl | hx
    · have h5 : (v = undef ∧ Blk w g t cells) := by
        dsimp only at hw
        rwa [upF_same] at hw
      exact h5.2
    · exact (hF.up hf) x hx w hw
end

/-! ### Slices of arrays, arrays of slices -/
section
variable {ops : Array Oper} {C0 : World → Prop} {Q : Act → Prop} {N : Nat} {E : List (Nat × Value)} {o : Oper} {rest : List Oper} {k : Nat}
end
/-- 'return x, y' of two variables. -/
theorem results_cells {P : Program} {fn : Func} {p q : Tmp} {ty ty2 : TypeId} (h : fn.results = #[.cell p ty, .cell q ty2]) (tmps : Array Value) (w : World) (g g2 : Nat) (t t2 : TypeId) (cs cs2 : Array Value) (fr fr2 : Nat × Nat) (d d2 : TypeDesc)
    (hp : tmps.getD p undef = .pointer (some ⟨g, 0, none⟩)) (hq : tmps.getD q undef = .pointer (some ⟨g2, 0, none⟩)) (hg : w.heap[g]? = some (.cells cs t fr)) (hg2 : w.heap[g2]? = some (.cells cs2 t2 fr2))
    (hu : P.underlying ty = some d) (hd : (match d with | .struct _ | .array _ _ => true | _ => false) = true) (hi : (P.info? ty).map (·.size) = some cs.size)
    (hu2 : P.underlying ty2 = some d2) (hd2 : (match d2 with | .struct _ | .array _ _ => true | _ => false) = true) (hi2 : (P.info? ty2).map (·.size) = some cs2.size) :
    (results fn tmps).run P w = .ok (.tuple #[.agg cs, .agg cs2]) w := by
  have hp' : tmps[p]?.getD undef = .pointer (some ⟨g, 0, none⟩) := by simpa using hp
  have hq' : tmps[q]?.getD undef = .pointer (some ⟨g2, 0, none⟩) := by simpa using hq
  simp [results, h, hp', hq', asAddr, run_loadVar_row w g t ty cs fr d hg hu hd hi, run_loadVar_row w g2 t2 ty2 cs2 fr2 d2 hg2 hu2 hd2 hi2]

theorem blk_ne {w : World} {g g' t t' : Nat} {c c' : Array Value} (h : Blk w g t c) (h' : Blk w g' t' c') (ht : t ≠ t') : g ≠ g' := by
  rintro rfl
  unfold Blk at h h'
  rw [h] at h'
  injection h' with h'
  injection h' with _ h'
  exact ht h'
theorem take32 {l : List UInt8} (h : l.length = 64) : (l.take 32).length = 32 := by rw [List.length_take, h]; rfl
theorem drop32 {l : List UInt8} (h : l.length = 64) : (l.drop 32).length = 32 := by rw [List.length_drop, h]
theorem take_drop32 {l : List UInt8} (h : l.length = 64) : (l.drop 32).take 32 = l.drop 32 := List.take_of_length_le (by rw [drop32 h]; exact Nat.le_refl _)
theorem rng_drop {w : World} {g t : Nat} {l : List UInt8} (h : Blk w g t (By l).toArray) (hl : l.length = 64) : w.rangeAt g 32 (By (l.drop 32)) := by
  have h1 := h.part 32 32
  have e : ((By l).drop 32).take 32 = By (l.drop 32) := by
    rw [By, By, ← List.map_drop, ← List.map_take, take_drop32 hl]
  rwa [e] at h1
theorem rng_take {w : World} {g t : Nat} {l : List UInt8} (h : Blk w g t (By l).toArray) (_ : l.length = 64) : w.rangeAt g 0 (By (l.take 32)) := by
  have h1 := h.part 0 32
  have e : ((By l).drop 0).take 32 = By (l.take 32) := by
    rw [By, By, List.drop_zero, ← List.map_take]
  rwa [e] at h1
section
variable {P : Program} {ops : Array Oper} {Rel : World → World → Prop} {C0 : World → Prop} {Q : Facts → Act → Prop} {N : Nat} {E : List (Nat × Value)} {Fa : Told} {o : Oper} {rest : List (Nat × Oper)} {i k : Nat}
/-- An operation that is wanted, as its guard says. -/
theorem g_guard {j t : Nat} {b : Bool} (hgd : o.guard = some (j, b)) (hj : (ops[j]?).bind (·.dst) = some t) (hN : Nat.blt t N = true) (ht : look E t = some (.bool b)) (h : gF P Rel ops C0 Q ((i, { o with guard := none }) :: rest) N E Fa) : gF P Rel ops C0 Q ((i, o) :: rest) N E Fa := fun a F ha hF => by
  have h1 := h a F ha hF
  have htN : t < a.tmps.size := by rw [ha.size]; simpa using hN
  have h2 := ha.get t _ ht
  have h3 : a.tmps[t]? = some (.bool b) := by
    simp only [Act.eval, Array.getD_eq_getD_getElem?] at h2
    rw [Array.getElem?_eq_getElem htN] at h2 ⊢
    simpa using h2
  have hw : Region.wanted o (yielded ops a.tmps) = true := by
    unfold Region.wanted
    rw [hgd]
    simp [yielded, hj, h3]
  obtain ⟨dst, op, ty, pos, af, gd⟩ := o
  unfold wpG at h1 ⊢
  rw [if_pos hw]
  rw [if_pos (by rfl)] at h1
  exact h1
/-- An operation that is not wanted. -/
theorem g_skip {j t : Nat} {b : Bool} (hgd : o.guard = some (j, b)) (hj : (ops[j]?).bind (·.dst) = some t) (hN : Nat.blt t N = true) (ht : look E t = some (.bool (!b))) (hd : o.dst = some k) (hk : Nat.blt k N = true) (hf : farP i Fa = true) (h : gF P Rel ops C0 Q rest N ((k, undef) :: E) Fa) : gF P Rel ops C0 Q ((i, o) :: rest) N E Fa := fun a F ha hF => by
  have htN : t < a.tmps.size := by rw [ha.size]; simpa using hN
  have h2 := ha.get t _ ht
  have h3 : a.tmps[t]? = some (.bool (!b)) := by
    simp only [Act.eval, Array.getD_eq_getD_getElem?] at h2
    rw [Array.getElem?_eq_getElem htN] at h2 ⊢
    simpa using h2
  have hw : ¬ Region.wanted o (yielded ops a.tmps) = true := by
    unfold Region.wanted
    rw [hgd]
    simp [yielded, hj, h3]
  unfold wpG
  rw [if_neg hw]
  dsimp only
  rw [hd]
  exact h _ _ (ha.put hk _) (hF.up hf)
end
section
variable {P : Program} {Rel : World → World → Prop} [hR : RelOk Rel] {ops : Array Oper} {C0 : World → Prop} {Q : Facts → Act → Prop} {N : Nat} {E : List (Nat × Value)} {Fa : Told} {o : Oper} {rest : List (Nat × Oper)} {i : Nat}
/-- An operation of the usual kind that hands a fact on. -/
theorem g_opP (p : World → Prop) (hpp : Pers Rel p) (hf : farP i Fa = true) (hp : ∀ w, C0 w → Uses o Fa w → p w) (h : bF P ops (fun w => C0 w ∧ Uses o Fa w) (fun a' => ∀ F, Tell ((i, p) :: Fa) F → wpG P Rel ops C0 Q rest F a') [o] N E) (hg : o.guard = none) : gF P Rel ops C0 Q ((i, o) :: rest) N E Fa := fun a F ha hF => by
  have h1 := h a ha
  have hw : Region.wanted o (yielded ops a.tmps) = true := by simp [Region.wanted, hg]
  unfold wpB at h1
  unfold wpG
  rw [if_pos hw] at h1
  rw [if_pos hw]
  have huse : ∀ w, (∀ e ∈ o.after, Region.binds .any e = true → F e.on w) → Uses o Fa w := fun w he j p hj hed => by
    obtain ⟨e, h1, h2, rfl⟩ := edgeTo_spec hed
    exact hF _ (lookP_mem hj) w (he e h1 h2)
  have hup : ∀ (V : Value → Prop) (w : World) (r : Result Next), p w → uponB P w V r → uponG P Rel w (fun u w => V u ∧ p w) r := fun V w r hpw hr => by
    cases r with
    | ok n w' =>
      cases n <;> simp only [uponB] at hr <;> simp only [uponG]
      case value u => obtain ⟨rfl, h⟩ := hr; exact ⟨hR.below _ _ (Below.refl _ _), h, hpw⟩
      case skip => obtain ⟨rfl, h⟩ := hr; exact ⟨hR.below _ _ (Below.refl _ _), h, hpw⟩
      case enter f args =>
        obtain ⟨rfl, h⟩ := hr
        exact ⟨rfl, h.mono fun e w'' ⟨v, h1, h2, h3⟩ => ⟨v, h1, hR.below _ _ h3, h2, hpp _ _ hpw (hR.below _ _ h3)⟩⟩
    | halt x w' => simp only [uponB] at hr
  have hmore : ∀ V : Value → Prop, ∀ u, Tell ((i, p) :: Fa) (upF F i fun w => V u ∧ p w) := fun V u x hx w hw => by
    rcases List.mem_cons.1 hx with rfl | hx
    · rw [upF_same] at hw
      exact hw.2
    · exact (hF.up hf) x hx w hw
  rcases h1 with ⟨v, h2, h3⟩ | ⟨hpl, V, h2, h3⟩
  · exact ⟨fun u w => u = v ∧ p w, fun _ _ _ h hr => ⟨h.1, hpp _ _ h.2 hr⟩, .inl ⟨v, fun _ _ h => h.1⟩, fun w hw he => hup (· = v) _ _ (hp w hw (huse w he)) (h2 w ⟨hw, huse w he⟩), fun u w _ _ hu => by
      rw [hu.1]
      exact h3 _ (hmore (· = v) v)⟩
  · refine ⟨fun u w => V u ∧ p w, fun _ _ _ h hr => ⟨h.1, hpp _ _ h.2 hr⟩, .inr ?_, fun w hw he => hup V _ _ (hp w hw (huse w he)) (h2 w ⟨hw, huse w he⟩), fun u w _ _ hu => h3 u hu.1 _ (hmore V u)⟩
    unfold multiG
    split <;> first | rfl | exact hpl
omit hR in
theorem g_goP {o : Oper} (h : gF P Rel ops C0 Q rest N E Fa) {Fb : Told} : bF P ops (fun w => C0 w ∧ Uses o Fb w) (fun a' => ∀ F, Tell Fa F → wpG P Rel ops C0 Q rest F a') [] N E := fun a ha => wpB_nil fun F hF => h a F ha hF
end
section
variable {P : Program} {ops : Array Oper} {C0 : World → Prop} {Q : Act → Prop} {N : Nat} {E : List (Nat × Value)} {o : Oper} {rest : List Oper} {k : Nat}
/-- A choice whose condition is false. -/
theorem f_pickF {c x y : Operand} (v : Value) (hg : o.guard = none) (hd : o.dst = some k) (hk : Nat.blt k N = true) (ho : o.op = .pick c x y) (hc : ev E c = some (.bool false)) (hy : ev E y = some v) (hn : bF P ops C0 Q rest N ((k, v) :: E)) : bF P ops C0 Q (o :: rest) N E :=
  f_val _ hg hd hk (fun a ha w _ => by
    have h1 := ha.eval hc
    have h2 := ha.eval hy
    unfold execOp
    simp only [ho, h1, h2]
    go_simp) hn
end
end Go.Proofs.Ythkbejheedffjaa
/-
  SLICES OF WORDS OVER FRAMES BY WHAT IS KNOWN OF THEM.
-/
namespace Go.Proofs.Ythkbejheedffjaa
open Go.RowKit Go.IntWalk

section
variable {ops : Array Oper} {C0 : World → Prop} {Q : Act → Prop} {N : Nat} {E : List (Nat × Value)} {o : Oper} {rest : List Oper} {k : Nat}
end
section
variable {ops : Array Oper} {C0 : World → Prop} {Q : Act → Prop} {N : Nat} {E : List (Nat × Value)} {o : Oper} {rest : List Oper} {k : Nat}
end
section
variable {ops : Array Oper} {C0 : World → Prop} {Q : Act → Prop} {N : Nat} {E : List (Nat × Value)} {o : Oper} {rest : List Oper} {k : Nat}
end
end Go.Proofs.Ythkbejheedffjaa
/-
  SLICES OF WORDS AND BYTES, NEW ONES, OVER FRAMES BY WHAT IS KNOWN OF THEM.
-/
namespace Go.Proofs.Ythkbejheedffjaa
open Go.RowKit Go.IntWalk

theorem run_slice0B (w : World) : (Instr.buildSlice 32 0 #[]).run Try.prog w = .ok (.slice (some ⟨w.heap.size, 0, none⟩) 0 0) (w.alloc (.cells #[] 5)) := by
  go_simp
theorem run_slice1B (x : Int) (w : World) : (Instr.buildSlice 32 1 #[(0, .int .u8 x)]).run Try.prog w = .ok (.slice (some ⟨w.heap.size, 0, none⟩) 1 1) (w.alloc (.cells #[.int .u8 x] 5)) := by
  go_simp
section
variable {ops : Array Oper} {Q : Exit → Act → World → Prop} {N : Nat} {E : List (Nat × Value)} {w : World} {o : Oper} {rest : List Oper} {k : Nat}
theorem l_slice0B (hg : o.guard = none) (hd : o.dst = some k) (hk : Nat.blt k N = true) (ho : o.op = .buildSlice 32 0 #[]) (hn : lF Try.prog ops Q rest N ((k, .slice (some ⟨w.heap.size, 0, none⟩) 0 0) :: E) (w.alloc (.cells #[] 5))) : lF Try.prog ops Q (o :: rest) N E w :=
  l_val _ hg hd hk (fun a _ => by
    have hr := run_slice0B w
    unfold execOp
    simp only [ho, List.map_toArray, List.map_nil, Sem.run_bind, hr, Result.andThen_ok, Sem.run_pure]) hn
theorem l_slice1B {x : Operand} (v : Int) (hg : o.guard = none) (hd : o.dst = some k) (hk : Nat.blt k N = true) (ho : o.op = .buildSlice 32 1 #[(0, x)]) (hx : ev E x = some (.int .u8 v)) (hn : lF Try.prog ops Q rest N ((k, .slice (some ⟨w.heap.size, 0, none⟩) 1 1) :: E) (w.alloc (.cells #[.int .u8 v] 5))) : lF Try.prog ops Q (o :: rest) N E w :=
  l_val _ hg hd hk (fun a ha => by
    have h1 := ha.eval hx
    have hr := run_slice1B v w
    unfold execOp
    simp only [ho, List.map_toArray, List.map_cons, List.map_nil, h1, Sem.run_bind, hr, Result.andThen_ok, Sem.run_pure]) hn
end
end Go.Proofs.Ythkbejheedffjaa
/-
  REGIONS WHOSE ORDER IS FORCED, operation by operation; steps: slices of bytes, new ones and parts; lengths; '==' of signatures.
-/
namespace Go.Proofs.Ythkbejheedffjaa
open Go.RowKit Go.IntWalk

section
variable {ops : Array Oper} {C0 : World → Prop} {Q : Act → Prop} {N : Nat} {E : List (Nat × Value)} {o : Oper} {rest : List Oper} {k : Nat}
theorem f_xorB {x y : Operand} {t : TypeId} (m n r : Int) (hg : o.guard = none) (hd : o.dst = some k) (hk : Nat.blt k N = true) (ho : o.op = .binOp .xor 5 x y t) (hx : ev E x = some (.int .u8 m)) (hy : ev E y = some (.int .u8 n))
    (hr : bits .xor .u8 m n = r) (hn : bF Try.prog ops C0 Q rest N ((k, .int .u8 r) :: E)) : bF Try.prog ops C0 Q (o :: rest) N E :=
  f_val _ hg hd hk (fun a ha w _ => by
    have h1 := ha.eval hx
    have h2 := ha.eval hy
    unfold execOp
    simp only [ho, h1, h2]
    go_simp) hn
theorem f_minI {x y : Operand} (p q : Nat) (hg : o.guard = none) (hd : o.dst = some k) (hk : Nat.blt k N = true) (ho : o.op = .call { callee := .builtin .min, args := #[x, y], argTypes := #[3, 3] }) (hx : ev E x = some (.int .i64 (p : Int))) (hy : ev E y = some (.int .i64 (q : Int)))
    (hn : bF Try.prog ops C0 Q rest N ((k, .int .i64 ((min p q : Nat) : Int)) :: E)) : bF Try.prog ops C0 Q (o :: rest) N E :=
  f_val _ hg hd hk (fun a ha w _ => by
    have h1 := ha.eval hx
    have h2 := ha.eval hy
    unfold execOp
    simp only [ho]
    generalize a.eval = ρ at *
    go_simp
    split <;> omega) hn
/-- s[:n]. -/
theorem f_cutHi {x y : Operand} (A : Option Addr) (n c j : Nat) (hj : j ≤ c) (hA : A = none → c = 0) (hg : o.guard = none) (hd : o.dst = some k) (hk : Nat.blt k N = true) (ho : o.op = .slice 32 x none (some y) none) (hx : ev E x = some (.slice A n c)) (hy : ev E y = some (.int .i64 (j : Int)))
    (hn : bF Try.prog ops C0 Q rest N ((k, .slice A j c) :: E)) : bF Try.prog ops C0 Q (o :: rest) N E :=
  f_val _ hg hd hk (fun a ha w _ => by
    have h1 := ha.eval hx
    have h2 := ha.eval hy
    have h3 : (j : Int) ≤ (c : Int) := by omega
    have h4 : (0 : Int) ≤ (j : Int) := by omega
    unfold execOp
    simp only [ho]
    generalize a.eval = ρ at *
    simp only [Option.map, h1, h2]
    cases A with
    | none =>
      have := hA rfl
      obtain rfl : c = 0 := this
      obtain rfl : j = 0 := by omega
      go_simp
    | some ad => go_simp) hn
/-- s[n:]. -/
theorem f_cutLo {x y : Operand} (A : Option Addr) (n c j : Nat) (hj : j ≤ n) (hc : n ≤ c) (hA : A = none → c = 0) (hg : o.guard = none) (hd : o.dst = some k) (hk : Nat.blt k N = true) (ho : o.op = .slice 32 x (some y) none none) (hx : ev E x = some (.slice A n c)) (hy : ev E y = some (.int .i64 (j : Int)))
    (hn : bF Try.prog ops C0 Q rest N ((k, .slice (if c = j then A else A.map (·.add j)) (n - j) (c - j)) :: E)) : bF Try.prog ops C0 Q (o :: rest) N E :=
  f_val _ hg hd hk (fun a ha w _ => by
    have h1 := ha.eval hx
    have h2 := ha.eval hy
    have h3 : (j : Int) ≤ (n : Int) := by omega
    have h4 : (0 : Int) ≤ (j : Int) := by omega
    have h5 : (n : Int) ≤ (c : Int) := by omega
    unfold execOp
    simp only [ho]
    generalize a.eval = ρ at *
    simp only [Option.map, h1, h2]
    cases A with
    | none =>
      have := hA rfl
      obtain rfl : c = 0 := this
      obtain rfl : n = 0 := by omega
      obtain rfl : j = 0 := by omega
      go_simp
    | some ad => go_simp) hn
theorem f_uint {x : Operand} (m r : Int) (hg : o.guard = none) (hd : o.dst = some k) (hk : Nat.blt k N = true) (ho : o.op = .convert 3 35 x) (hx : ev E x = some (.int .i64 m)) (hr : IntKind.u64.wrap m = r)
    (hn : bF Try.prog ops C0 Q rest N ((k, .int .u64 r) :: E)) : bF Try.prog ops C0 Q (o :: rest) N E :=
  f_val _ hg hd hk (fun a ha w _ => by
    have h1 := ha.eval hx
    subst hr
    unfold execOp
    simp only [ho, h1]
    go_simp) hn
theorem f_remW {x y : Operand} {t : TypeId} (m n r : Int) (hz : n ≠ 0) (hg : o.guard = none) (hd : o.dst = some k) (hk : Nat.blt k N = true) (ho : o.op = .binOp .rem 35 x y t) (hx : ev E x = some (.int .u64 m)) (hy : ev E y = some (.int .u64 n))
    (hr : m.tmod n = r) (hn : bF Try.prog ops C0 Q rest N ((k, .int .u64 r) :: E)) : bF Try.prog ops C0 Q (o :: rest) N E :=
  f_val _ hg hd hk (fun a ha w _ => by
    have h1 := ha.eval hx
    have h2 := ha.eval hy
    subst hr
    unfold execOp
    simp only [ho, h1, h2]
    go_simp) hn
end

/-! ### Regions whose order is forced -/
section
variable {P : Program} {ops : Array Oper} {Q : Exit → Act → World → Prop} {N : Nat} {E : List (Nat × Value)} {w : World} {o : Oper} {rest l : List Oper} {k : Nat}
/-- The next m operations are of the usual kind. -/
theorem l_ops (m : Nat) (h : bF P ops (Up w) (fun a' => ∀ w', Up w w' → wpList P ops Q (l.drop m) a' w') (l.take m) N E) : lF P ops Q l N E w := fun a ha => by
  have h1 := wpList_of_B (Q := Q) (T := l.drop m) (l.take m) a w w (Up.refl w) (h a ha)
  rwa [List.take_append_drop] at h1
/-- The operation is wanted. -/
def WG (ops : Array Oper) (N : Nat) (E : List (Nat × Value)) (o : Oper) : Prop := o.guard = none ∨ ∃ j b t, o.guard = some (j, b) ∧ (ops[j]?).bind (·.dst) = some t ∧ Nat.blt t N = true ∧ look E t = some (.bool b)
theorem WG.wanted {a : Act} (h : WG ops N E o) (ha : Fr N E a) : Region.wanted o (yielded ops a.tmps) = true := by
  rcases h with h | ⟨j, b, t, hgd, hj, hN, ht⟩
  · simp [Region.wanted, h]
  · have htN : t < a.tmps.size := by rw [ha.size]; simpa using hN
    have h2 := ha.get t _ ht
    have h3 : a.tmps[t]? = some (.bool b) := by
      simp only [Act.eval, Array.getD_eq_getD_getElem?] at h2
      rw [Array.getElem?_eq_getElem htN] at h2 ⊢
      simpa using h2
    unfold Region.wanted
    rw [hgd]
    simp [yielded, hj, h3]
theorem l_guard (hw : WG ops N E o) (h : lF P ops Q ({ o with guard := none } :: rest) N E w) : lF P ops Q (o :: rest) N E w := fun a ha => by
  have h1 := h a ha
  obtain ⟨dst, op, ty, pos, af, gd⟩ := o
  unfold wpList at h1 ⊢
  rw [if_pos (hw.wanted ha)]
  rw [if_pos (by rfl)] at h1
  exact h1
theorem l_valW (v : Value) (w' : World) (hw : WG ops N E o) (hd : o.dst = some k) (hk : Nat.blt k N = true) (h : ∀ a, Fr N E a → (execOp a.eval o).run P w = .ok (.value v) w') (hn : lF P ops Q rest N ((k, v) :: E) w') : lF P ops Q (o :: rest) N E w := fun a ha => by
  have h1 := h a ha
  have h2 := hn _ (ha.put hk v)
  unfold wpList
  rw [if_pos (hw.wanted ha)]
  refine .inl ?_
  unfold Oper.wp
  rw [h1]
  simp only [Oper.upon, hd]
  exact h2
end
section
variable {ops : Array Oper} {Q : Exit → Act → World → Prop} {N : Nat} {E : List (Nat × Value)} {w : World} {o o2 : Oper} {rest : List Oper} {k k2 : Nat}
/-- []byte("x"). -/
theorem l_lit1 {x : Operand} (y : UInt8) (hw : WG ops N E o) (hd : o.dst = some k) (hk : Nat.blt k N = true) (ho : o.op = .buildSlice 32 1 #[(0, x)]) (hx : ev E x = some (.int .u8 (y.toNat : Int)))
    (hw2 : ∀ v, WG ops N ((k, v) :: E) o2) (hd2 : o2.dst = some k2) (hk2 : Nat.blt k2 N = true) (ho2 : o2.op = .convert 32 32 (.tmp k))
    (hn : ∀ W g, Up w W → SB W (.slice (some ⟨g, 0, none⟩) 1 1) [y] → lF Try.prog ops Q rest N ((k2, .slice (some ⟨g, 0, none⟩) 1 1) :: (k, .slice (some ⟨g, 0, none⟩) 1 1) :: E) W) : lF Try.prog ops Q (o :: o2 :: rest) N E w := by
  refine l_valW (.slice (some ⟨w.heap.size, 0, none⟩) 1 1) (w.alloc (.cells (By [y]).toArray 5)) hw hd hk (fun a ha => ?_) ?_
  · have h1 := ha.eval hx
    have hr := run_slice1B (y.toNat : Int) w
    unfold execOp
    simp only [ho, List.map_toArray, List.map_cons, List.map_nil, h1, Sem.run_bind, hr, Result.andThen_ok, Sem.run_pure]
    rfl
  · refine l_valW (.slice (some ⟨w.heap.size, 0, none⟩) 1 1) (w.alloc (.cells (By [y]).toArray 5 (1, 2))) (hw2 _) hd2 hk2 (fun a ha => ?_) (hn _ w.heap.size ((Up.refl w).alloc _) ?_)
    · have h1 : a.eval (.tmp k) = .slice (some ⟨w.heap.size, 0, none⟩) 1 1 := ha.get k _ (by rw [look_cons, if_pos rfl])
      have hr := Lib.run_convert_bytes_const (P := Try.prog) w 32 5 (By [y]).toArray 1 1 Try.underlying32 Try.underlying5
      unfold execOp
      simp only [ho2, h1, Sem.run_bind, hr, Result.andThen_ok, Sem.run_pure]
      rfl
    · have hc : (w.alloc (.cells (By [y]).toArray 5 (1, 2))).heap[w.heap.size]? = some (.cells (By [y]).toArray 5 (1, 2)) := heap_alloc_new w _
      have hsz : (w.alloc (.cells (By [y]).toArray 5 (1, 2))).heap.size = w.heap.size + 1 := World.size_alloc _ _
      refine ⟨some ⟨w.heap.size, 0, none⟩, 1, rfl, Nat.le_refl _, by decide, fun h => (by cases h), fun _ => ⟨_, rfl, Nat.zero_le _, by rw [hsz]; exact Nat.lt_succ_self _, fun j u hu => ?_⟩⟩
      cases j with
      | zero =>
        simp only [List.getElem?_cons_zero, Option.some.injEq] at hu
        subst hu
        rw [Addr.add_mid, cell_of_row _ _ _ _ _ _ hc]
        rfl
      | succ j => simp at hu
/-- A slice of slices of bytes. -/
theorem l_slices {n : Nat} {parts : Array (Nat × Operand)} (vs : List Value) (ls : List (List UInt8)) (hw : WG ops N E o) (hd : o.dst = some k) (hk : Nat.blt k N = true) (ho : o.op = .buildSlice 38 n parts)
    (hv : parts.toList.map (fun p => (p.1, ev E p.2)) = (vs.zipIdx 0).map fun x => (x.2, some x.1)) (hn : vs.length = n) (h0 : 0 < n) (h24 : n ≤ 16777216) (hA : All2 w vs ls)
    (hk2 : ∀ W g, Up w W → PT W (some ⟨g, 0, none⟩) ls → lF Try.prog ops Q rest N ((k, .slice (some ⟨g, 0, none⟩) n n) :: E) W) : lF Try.prog ops Q (o :: rest) N E w := by
  have hal := (Below.refl w.heap.size w).alloc (Nat.le_refl _) (.cells vs.toArray 32)
  have hN : NewS w.heap.size vs ls w.heap.size (w.alloc (.cells vs.toArray 32)) := ⟨Nat.le_refl _, Blk.new w _ _, All2.later hal hA⟩
  refine l_valW (.slice (some ⟨w.heap.size, 0, none⟩) n n) (w.alloc (.cells vs.toArray 32)) hw hd hk (fun a ha => ?_) (hk2 _ w.heap.size hal hN.pt)
  have hm : ∀ (l : List (Nat × Operand)) (m : List (Value × Nat)), l.map (fun p => (p.1, ev E p.2)) = m.map (fun x => (x.2, some x.1)) → l.map (fun (i, x) => (i, a.eval x)) = m.map fun x => (x.2, x.1) := by
    intro l
    induction l with
    | nil => intro m h; cases m with
      | nil => rfl
      | cons => cases h
    | cons p l ih => intro m h; cases m with
      | nil => cases h
      | cons u m =>
        simp only [List.map_cons, List.cons.injEq, Prod.mk.injEq] at h ⊢
        exact ⟨⟨h.1.1, ha.eval h.1.2⟩, ih m h.2⟩
  have hr := run_slices vs n (parts.map fun (i, x) => (i, a.eval x)) (by rw [Array.toList_map]; exact hm _ _ hv) hn h0 h24 (fun v hv => (hA.one v hv).1) w
  unfold execOp
  simp only [ho, Sem.run_bind, hr, Result.andThen_ok, Sem.run_pure]
end
theorem xor1 (m : Nat) (h : m < 256) : bits .xor .u8 (m : Int) 1 = ((if m % 2 = 0 then m + 1 else m - 1 : Nat) : Int) := by
  have key : ∀ m : Nat, m < 256 → bits .xor .u8 (m : Int) 1 = ((if m % 2 = 0 then m + 1 else m - 1 : Nat) : Int) := by decide +kernel
  exact key m h
end Go.Proofs.Ythkbejheedffjaa
/-
  STEPS THAT HANG ON THE FRAME ALONE, ALL AT ONCE: moves, choices, parts of tuples, 'not', guards; reckoned by a function, so one line takes as many as there are.
-/
namespace Go.Proofs.Ythkbejheedffjaa
open Go.RowKit Go.IntWalk

/-- What an operation hands back, where that hangs on the frame alone. -/
def stepV (E : List (Nat × Value)) : Op → Option Value
  | .move x => ev E x
  | .assign x => ev E x
  | .pick c x y => match ev E c with
    | some (.bool true) => ev E x
    | some (.bool false) => ev E y
    | _ => none
  | .extract x i => match ev E x with
    | some (.tuple vs) => vs[i]?
    | _ => none
  | .unOp .not _ x => match ev E x with
    | some (.bool true) => some (.bool false)
    | some (.bool false) => some (.bool true)
    | _ => none
  | .nilCheck x => match ev E x with
    | some (.pointer (some p)) => some (.pointer (some p))
    | _ => none
  | _ => none
theorem stepV_ok {P : Program} {N : Nat} {E : List (Nat × Value)} {a : Act} {o : Oper} {v : Value} (ha : Fr N E a) (h : stepV E o.op = some v) (w : World) : (execOp a.eval o).run P w = .ok (.value v) w := by
  obtain ⟨dst, op, ty, pos, af, gd⟩ := o
  dsimp only at h
  cases op
  case unOp k t x =>
    cases k
    case not =>
      simp only [stepV] at h
      split at h
      · rename_i hc
        have h1 := ha.eval hc
        injection h with h
        subst h
        unfold execOp
        simp only [h1]
        go_simp
      · rename_i hc
        have h1 := ha.eval hc
        injection h with h
        subst h
        unfold execOp
        simp only [h1]
        go_simp
      · cases h
    all_goals cases h
  all_goals simp only [stepV] at h
  all_goals first
    | (cases h; done)
    | (have h1 := ha.eval h
       unfold execOp
       simp only [h1, Sem.run_pure]; done)
    | skip
  case pick c x y =>
    split at h
    · rename_i hc
      have h1 := ha.eval hc
      have h2 := ha.eval h
      unfold execOp
      simp only [h1, h2]
      go_simp
    · rename_i hc
      have h1 := ha.eval hc
      have h2 := ha.eval h
      unfold execOp
      simp only [h1, h2]
      go_simp
    · cases h
  case extract x i =>
    split at h
    · rename_i hc
      have h1 := ha.eval hc
      unfold execOp
      simp only [h1]
      go_simp
    · cases h
  case nilCheck x =>
    split at h
    · rename_i hc
      have h1 := ha.eval hc
      injection h with h
      subst h
      unfold execOp
      simp only [h1]
      go_simp
    · cases h
/-- Is the operation wanted, as far as the frame tells? -/
def wantG (ops : Array Oper) (N : Nat) (E : List (Nat × Value)) (o : Oper) : Option Bool :=
  match o.guard with
  | none => some true
  | some (j, b) => match (ops[j]?).bind (·.dst) with
    | some t => match Nat.blt t N with
      | true => match look E t with
        | some (.bool true) => some b
        | some (.bool false) => some (!b)
        | _ => none
      | false => none
    | none => none
theorem wantG_ok {ops : Array Oper} {N : Nat} {E : List (Nat × Value)} {a : Act} {o : Oper} {q : Bool} (ha : Fr N E a) (h : wantG ops N E o = some q) : Region.wanted o (yielded ops a.tmps) = q := by
  unfold wantG at h
  split at h
  · rename_i hg
    injection h with h
    subst h
    simp [Region.wanted, hg]
  · rename_i j b hg
    split at h
    · rename_i t hj
      split at h
      · rename_i hN
        have htN : t < a.tmps.size := by rw [ha.size]; simpa using hN
        have key : ∀ c, look E t = some (.bool c) → a.tmps[t]? = some (.bool c) := fun c hc => by
          have h2 := ha.get t _ hc
          simp only [Act.eval, Array.getD_eq_getD_getElem?] at h2
          rw [Array.getElem?_eq_getElem htN] at h2 ⊢
          simpa using h2
        split at h
        · rename_i hc
          injection h with h
          subst h
          unfold Region.wanted
          rw [hg]
          simp [yielded, hj, key _ hc]
        · rename_i hc
          injection h with h
          subst h
          unfold Region.wanted
          rw [hg]
          cases b <;> simp [yielded, hj, key _ hc]
        · cases h
      · cases h
    · cases h
/-- The operation without its guard. -/
def bareO (o : Oper) : Oper := { o with guard := none }
/-- What is left behind the operations that hang on the frame alone. -/
def autoB (ops : Array Oper) (N : Nat) : List Oper → List (Nat × Value) → List Oper × List (Nat × Value)
  | [], E => ([], E)
  | o :: l, E => match wantG ops N E o with
    | none => (o :: l, E)
    | some false => match o.dst with
      | some k => match Nat.blt k N with
        | true => autoB ops N l ((k, undef) :: E)
        | false => (o :: l, E)
      | none => (o :: l, E)
    | some true => match o.dst with
      | some k => match Nat.blt k N with
        | true => match stepV E o.op with
          | some v => autoB ops N l ((k, v) :: E)
          | none => (bareO o :: l, E)
        | false => (o :: l, E)
      | none => (bareO o :: l, E)
section
variable {P : Program} {ops : Array Oper} {C0 : World → Prop} {N : Nat}
theorem autoB_ok {Q : Act → Prop} : ∀ {l : List Oper} {E : List (Nat × Value)}, bF P ops C0 Q (autoB ops N l E).1 N (autoB ops N l E).2 → bF P ops C0 Q l N E
  | [], _, h => h
  | o :: l, E, h => by
    unfold autoB at h
    cases hw : wantG ops N E o with
    | none => rw [hw] at h; exact h
    | some q =>
      rw [hw] at h
      cases q with
      | false =>
        dsimp only at h
        cases hd : o.dst with
        | none => rw [hd] at h; exact h
        | some k =>
          rw [hd] at h
          dsimp only at h
          cases hk : Nat.blt k N with
          | false => rw [hk] at h; exact h
          | true =>
            rw [hk] at h
            intro a ha
            have h1 := autoB_ok h _ (ha.put hk undef)
            unfold wpB
            rw [wantG_ok ha hw, if_neg (by decide), hd]
            exact h1
      | true =>
        dsimp only at h
        have hgd : ∀ a, Fr N E a → wpB P ops C0 Q (bareO o :: l) a → wpB P ops C0 Q (o :: l) a := fun a ha h1 => by
          obtain ⟨dst, op, ty, pos, af, gd⟩ := o
          unfold wpB at h1 ⊢
          rw [if_pos (wantG_ok ha hw)]
          rw [if_pos (by rfl)] at h1
          exact h1
        cases hd : o.dst with
        | none => rw [hd] at h; exact fun a ha => hgd a ha (h a ha)
        | some k =>
          rw [hd] at h
          dsimp only at h
          cases hk : Nat.blt k N with
          | false => rw [hk] at h; exact h
          | true =>
            rw [hk] at h
            dsimp only at h
            cases hv : stepV E o.op with
            | none => rw [hv] at h; exact fun a ha => hgd a ha (h a ha)
            | some v =>
              rw [hv] at h
              exact fun a ha => b_val (wantG_ok ha hw) (fun w _ => stepV_ok ha hv w) (by rw [hd]; exact autoB_ok h _ (ha.put hk v))
theorem f_auto {Q : Act → Prop} {l l' : List Oper} {E E' : List (Nat × Value)} (h : autoB ops N l E = (l', E')) (hn : bF P ops C0 Q l' N E') : bF P ops C0 Q l N E := autoB_ok (by rw [h]; exact hn)
theorem autoL_ok {Q : Exit → Act → World → Prop} {w : World} : ∀ {l : List Oper} {E : List (Nat × Value)}, lF P ops Q (autoB ops N l E).1 N (autoB ops N l E).2 w → lF P ops Q l N E w
  | [], _, h => h
  | o :: l, E, h => by
    unfold autoB at h
    cases hw : wantG ops N E o with
    | none => rw [hw] at h; exact h
    | some q =>
      rw [hw] at h
      cases q with
      | false =>
        dsimp only at h
        cases hd : o.dst with
        | none => rw [hd] at h; exact h
        | some k =>
          rw [hd] at h
          dsimp only at h
          cases hk : Nat.blt k N with
          | false => rw [hk] at h; exact h
          | true =>
            rw [hk] at h
            intro a ha
            have h1 := autoL_ok h _ (ha.put hk undef)
            unfold wpList
            rw [wantG_ok ha hw, if_neg (by decide), hd]
            exact h1
      | true =>
        dsimp only at h
        have hgd : ∀ a, Fr N E a → wpList P ops Q (bareO o :: l) a w → wpList P ops Q (o :: l) a w := fun a ha h1 => by
          obtain ⟨dst, op, ty, pos, af, gd⟩ := o
          unfold wpList at h1 ⊢
          rw [if_pos (wantG_ok ha hw)]
          rw [if_pos (by rfl)] at h1
          exact h1
        cases hd : o.dst with
        | none => rw [hd] at h; exact fun a ha => hgd a ha (h a ha)
        | some k =>
          rw [hd] at h
          dsimp only at h
          cases hk : Nat.blt k N with
          | false => rw [hk] at h; exact h
          | true =>
            rw [hk] at h
            dsimp only at h
            cases hv : stepV E o.op with
            | none => rw [hv] at h; exact fun a ha => hgd a ha (h a ha)
            | some v =>
              rw [hv] at h
              intro a ha
              have h1 := autoL_ok h _ (ha.put hk v)
              unfold wpList
              rw [if_pos (wantG_ok ha hw)]
              refine .inl ?_
              unfold Oper.wp
              rw [stepV_ok ha hv w]
              simp only [Oper.upon, hd]
              exact h1
theorem l_auto {Q : Exit → Act → World → Prop} {w : World} {l l' : List Oper} {E E' : List (Nat × Value)} (h : autoB ops N l E = (l', E')) (hn : lF P ops Q l' N E' w) : lF P ops Q l N E w := autoL_ok (by rw [h]; exact hn)
end
/-- The same in a region's walk by facts. -/
def autoG (ops : Array Oper) (N : Nat) (Fa : Told) : List (Nat × Oper) → List (Nat × Value) → List (Nat × Oper) × List (Nat × Value)
  | [], E => ([], E)
  | (i, o) :: l, E => match farP i Fa with
    | false => ((i, o) :: l, E)
    | true => match wantG ops N E o with
      | none => ((i, o) :: l, E)
      | some false => match o.dst with
        | some k => match Nat.blt k N with
          | true => autoG ops N Fa l ((k, undef) :: E)
          | false => ((i, o) :: l, E)
        | none => ((i, o) :: l, E)
      | some true => match o.dst with
        | some k => match Nat.blt k N with
          | true => match stepV E o.op with
            | some v => autoG ops N Fa l ((k, v) :: E)
            | none => ((i, bareO o) :: l, E)
          | false => ((i, o) :: l, E)
        | none => ((i, bareO o) :: l, E)
section
variable {P : Program} {Rel : World → World → Prop} [hR : RelOk Rel] {ops : Array Oper} {C0 : World → Prop} {Q : Facts → Act → Prop} {N : Nat} {Fa : Told}
theorem autoG_ok : ∀ {l : List (Nat × Oper)} {E : List (Nat × Value)}, gF P Rel ops C0 Q (autoG ops N Fa l E).1 N (autoG ops N Fa l E).2 Fa → gF P Rel ops C0 Q l N E Fa
  | [], _, h => h
  | (i, o) :: l, E, h => by
    unfold autoG at h
    cases hf : farP i Fa with
    | false => rw [hf] at h; exact h
    | true =>
    rw [hf] at h
    dsimp only at h
    cases hw : wantG ops N E o with
    | none => rw [hw] at h; exact h
    | some q =>
      rw [hw] at h
      cases q with
      | false =>
        dsimp only at h
        cases hd : o.dst with
        | none => rw [hd] at h; exact h
        | some k =>
          rw [hd] at h
          dsimp only at h
          cases hk : Nat.blt k N with
          | false => rw [hk] at h; exact h
          | true =>
            rw [hk] at h
            intro a F ha hF
            unfold wpG
            rw [wantG_ok ha hw, if_neg (by decide)]
            dsimp only
            rw [hd]
            exact autoG_ok h _ _ (ha.put hk undef) (hF.up hf)
      | true =>
        dsimp only at h
        have hgd : gF P Rel ops C0 Q ((i, bareO o) :: l) N E Fa → gF P Rel ops C0 Q ((i, o) :: l) N E Fa := fun h1 a F ha hF => by
          have h1 := h1 a F ha hF
          obtain ⟨dst, op, ty, pos, af, gd⟩ := o
          unfold wpG at h1 ⊢
          rw [if_pos (wantG_ok ha hw)]
          rw [if_pos (by rfl)] at h1
          exact h1
        cases hd : o.dst with
        | none => rw [hd] at h; exact hgd h
        | some k =>
          rw [hd] at h
          dsimp only at h
          cases hk : Nat.blt k N with
          | false => rw [hk] at h; exact h
          | true =>
            rw [hk] at h
            dsimp only at h
            cases hv : stepV E o.op with
            | none => rw [hv] at h; exact hgd h
            | some v =>
              rw [hv] at h
              exact g_op hf fun a ha => b_val (wantG_ok ha hw) (fun w _ => stepV_ok ha hv w) (by rw [hd]; exact g_go (o := o) (autoG_ok h) _ (ha.put hk v))
theorem g_auto {l l' : List (Nat × Oper)} {E E' : List (Nat × Value)} (h : autoG ops N Fa l E = (l', E')) (hn : gF P Rel ops C0 Q l' N E' Fa) : gF P Rel ops C0 Q l N E Fa := autoG_ok (by rw [h]; exact hn)
end
section
variable {P : Program} {ops : Array Oper} {Q : Exit → Act → World → Prop}
theorem wpList_of_Bs {T : List Oper} : ∀ (L : List Oper) (a : Act) (w : World), L.all (fun o => stillG o.op) = true → wpB P ops (· = w) (fun a' => wpList P ops Q T a' w) L a → wpList P ops Q (L ++ T) a w
  | [], _, _, _, h => h
  | o :: L, a, w, hs, h => by
    rw [List.all_cons, Bool.and_eq_true] at hs
    have key : ∀ V : Value → Prop, atB P o a w V → (∀ v, V v → wpList P ops Q (L ++ T) (a.put o.dst v) w) → o.wp P a w (wpList P ops Q (L ++ T)) Q := fun V h3 hk => by
      unfold atB at h3
      unfold Oper.wp
      have hst := fun n w' => still_ok (P := P) (ρ := a.eval) (o := o) (w := w) (w' := w') (n := n) hs.1
      generalize (execOp a.eval o).run P w = r at *
      cases r with
      | ok n w' =>
        cases n <;> simp only [uponB] at h3 <;> simp only [Oper.upon]
        case value u =>
          obtain ⟨e1, e2⟩ := h3
          rw [e1]
          exact hk _ e2
        case skip =>
          obtain ⟨e1, e2⟩ := h3
          rw [e1]
          exact hk _ e2
        case enter f args =>
          rcases hst _ _ rfl with ⟨v, hv⟩ | hv <;> cases hv
      | halt x w' => simp only [uponB] at h3
    rw [List.cons_append]
    unfold wpList
    unfold wpB at h
    split at h
    · rename_i hw
      rw [if_pos hw]
      refine .inl ?_
      rcases h with ⟨v, h3, h4⟩ | ⟨_, V, h3, h4⟩
      · exact key (· = v) (h3 w rfl) (fun u hu => by rw [hu]; exact wpList_of_Bs L _ w hs.2 h4)
      · exact key V (h3 w rfl) (fun u hu => wpList_of_Bs L _ w hs.2 (h4 u hu))
    · rename_i hw
      rw [if_neg hw]
      exact wpList_of_Bs L _ w hs.2 h
variable {N : Nat} {E : List (Nat × Value)} {w : World} {l T : List Oper}
/-- The next m operations change nothing: their facts are told of this world alone. -/
theorem l_still (m : Nat) (hp : (l.take m).all (fun o => stillG o.op) = true) (h : bF P ops (· = w) (fun a' => wpList P ops Q (l.drop m) a' w) (l.take m) N E) : lF P ops Q l N E w := fun a ha => by
  have h1 := wpList_of_Bs (Q := Q) (T := l.drop m) (l.take m) a w hp (h a ha)
  rwa [List.take_append_drop] at h1
theorem f_still (h : lF P ops Q T N E w) : bF P ops (· = w) (fun a' => wpList P ops Q T a' w) [] N E := fun a ha => wpB_nil (h a ha)
end
section
variable {P : Program} {Q : Exit → Act → World → Prop} {N : Nat} {E : List (Nat × Value)} {w : World} {c : Operand} {x y : Code}
theorem c_yes (hc : ev E c = some (.bool true)) (h : cF P x Q N E w) : cF P (.cond c x y) Q N E w := c_cond true hc (by rwa [if_pos rfl])
theorem c_no (hc : ev E c = some (.bool false)) (h : cF P y Q N E w) : cF P (.cond c x y) Q N E w := c_cond false hc (by rwa [if_neg (by decide)])
/-- 'if' whose way is not taken. -/
theorem c_pass (hc : ev E c = some (.bool false)) (h : kF (Q .normal) N E w) : cF P (.cond c x .skip) Q N E w := c_no hc (c_skip h)
end
end Go.Proofs.Ythkbejheedffjaa
/-
  LOOPS OF A CODE; BEGIN AND END OF A CALL, over frames by what is known of them.
-/
namespace Go.Proofs.Ythkbejheedffjaa
open Go.RowKit Go.IntWalk

/-- The loops of a code, in the order of the text. -/
def loopsOf : Code → List Code
  | .loop c => c :: loopsOf c
  | .seq a b => loopsOf a ++ loopsOf b
  | .block _ c => loopsOf c
  | .scope c => loopsOf c
  | .cond _ a b => loopsOf a ++ loopsOf b
  | _ => []
/-! ### Begin and end of a call -/
def argE : Nat → List Value → List (Nat × Value)
  | _, [] => []
  | j, v :: vs => (j, v) :: argE (j + 1) vs
theorem argE_look : ∀ (vs : List Value) (j k : Nat) (v : Value), look (argE j vs) k = some v → j ≤ k ∧ vs[k - j]? = some v
  | [], _, _, _, h => by cases h
  | u :: vs, j, k, v, h => by
    rw [argE, look_cons] at h
    split at h
    · rename_i e
      subst e
      cases h
      exact ⟨Nat.le_refl _, by simp⟩
    · obtain ⟨h1, h2⟩ := argE_look vs (j + 1) k v h
      refine ⟨by omega, ?_⟩
      obtain ⟨m, rfl⟩ : ∃ m, k = j + 1 + m := ⟨k - (j + 1), by omega⟩
      rw [show j + 1 + m - (j + 1) = m from by omega] at h2
      rw [show j + 1 + m - j = m + 1 from by omega]
      simpa using h2
theorem calls_F {P : Program} {f : FuncId} {fn : Func} {c : Code} {vs : List Value} {w : World} {R : Ending → World → Prop} (N : Nat) (hf : P.funcs[f]? = some fn) (hb : fn.body = some c) (hn : vs.length + (fn.ntmps - vs.length) = N)
    (h : cF P c (bodyPost P fn R) N (argE 0 vs) w) : Calls P f vs.toArray w R := by
  refine calls_of_wp hf hb (h _ (Fr.start (by simpa using hn) _ fun k v hk => ?_))
  have := (argE_look vs 0 k v hk).2
  simpa using this
theorem Fr.at {N : Nat} {E : List (Nat × Value)} {a : Act} (h : Fr N E a) {k : Nat} {v : Value} (hk : look E k = some v) : a.tmps.getD k undef = v := h.get k v hk
/-- 'return' of what lies in a variable. -/
theorem k_ret_row {P : Program} {fn : Func} {R : Ending → World → Prop} {N : Nat} {E : List (Nat × Value)} {w : World} {q : Tmp} {ty t : TypeId} {d : TypeDesc} (g : Nat) (cs : Array Value) (hr : fn.results = #[.cell q ty]) (hq : look E q = some (.pointer (some ⟨g, 0, none⟩))) (hb : Blk w g t cs)
    (hu : P.underlying ty = some d) (hd : (match d with | .struct _ | .array _ _ => true | _ => false) = true) (hi : (P.info? ty).map (·.size) = some cs.size) (h : R (.returned (.agg cs)) w) : kF (bodyPost P fn R .ret) N E w := fun _ ha => bodyPost_ret (results_cell_row hr _ _ g t cs (0, 0) d (ha.at hq) hb hu hd hi) ha.defers h
section
variable {ops : Array Oper} {Q : Exit → Act → World → Prop} {N : Nat} {E : List (Nat × Value)} {w : World} {o : Oper} {rest : List Oper} {k : Nat}
theorem ev_args {a : Act} (ha : Fr N E a) : ∀ (l : List Operand) (m : List Value), l.map (ev E) = m.map some → l.map a.eval = m := by
  intro l
  induction l with
  | nil => intro m h; cases m with
    | nil => rfl
    | cons => cases h
  | cons y l ih => intro m h; cases m with
    | nil => cases h
    | cons u m =>
      simp only [List.map_cons, List.cons.injEq] at h ⊢
      exact ⟨ha.eval h.1, ih m h.2⟩
/-- A call, the order forced: whatever its contract says. -/
theorem l_call {f : FuncId} {xs : Array Operand} {ats : Array TypeId} (args : Array Value) {R : Ending → World → Prop} (hg : o.guard = none) (hd : o.dst = some k) (hk : Nat.blt k N = true)
    (hf : Own f) (hc : Calls Try.prog f args w R) (ho : o.op = .call { callee := .value (.func f), args := xs, argTypes := ats }) (hx : xs.toList.map (ev E) = args.toList.map some)
    (hn : ∀ e w', R e w' → ∃ v, e = .returned v ∧ lF Try.prog ops Q rest N ((k, v) :: E) w') : lF Try.prog ops Q (o :: rest) N E w := fun a ha => by
  have hr := run_call_fn (a := a) hf ho w
  rw [map_eval (ev_args ha _ _ hx)] at hr
  unfold wpList
  rw [if_pos (by simp [Region.wanted, hg])]
  refine .inl ?_
  unfold Oper.wp
  rw [hr]
  simp only [Oper.upon, hd]
  exact hc.mono fun e w' he => by
    obtain ⟨v, rfl, h1⟩ := hn e w' he
    exact h1 _ (ha.put hk v)
end
end Go.Proofs.Ythkbejheedffjaa
/-
  STATES: frames whose slots hold values, addresses of variables, structs by their parts; variables by what lies in them; memory that is owned; facts that stay whatever becomes of what is owned.
-/
namespace Go.Proofs.Ythkbejheedffjaa
open Go.RowKit Go.IntWalk

/-! ### How worlds go on -/
/-- New blocks came; of the elder ones those of D alone may have changed. -/
structure Chg (D : Nat → Prop) (w w' : World) : Prop where
  os : w'.os = w.os
  tape : w'.tape = w.tape
  output : w'.output = w.output
  size : w.heap.size ≤ w'.heap.size
  block : ∀ k, k < w.heap.size → ¬ D k → w'.heap[k]? = w.heap[k]?
section
variable {D D' : Nat → Prop} {w w' w'' : World}
theorem Chg.refl (D : Nat → Prop) (w : World) : Chg D w w := ⟨rfl, rfl, rfl, Nat.le_refl _, fun _ _ _ => rfl⟩
theorem Chg.step (h : Chg D w w') (k : Chg D' w' w'') (hd : ∀ i, i < w.heap.size → D' i → D i) : Chg D w w'' :=
  ⟨k.os.trans h.os, k.tape.trans h.tape, k.output.trans h.output, Nat.le_trans h.size k.size, fun i hi hn => (k.block i (Nat.lt_of_lt_of_le hi h.size) (fun h' => hn (hd i hi h'))).trans (h.block i hi hn)⟩
theorem Chg.mono (h : Chg D w w') (hd : ∀ i, i < w.heap.size → D i → D' i) : Chg D' w w' := ⟨h.os, h.tape, h.output, h.size, fun i hi hn => h.block i hi fun h' => hn (hd i hi h')⟩
theorem Chg.of_up (h : Up w w') : Chg D w w' := ⟨h.os, h.tape, h.output, h.size, fun k hk _ => h.block k hk⟩
theorem Chg.up (h : Chg D w w') (hd : ∀ i, i < w.heap.size → ¬ D i) : Up w w' := ⟨h.os, h.tape, h.output, h.size, fun k hk => h.block k hk (hd k hk)⟩
theorem Chg.of_grown {r : Option Nat} (h : w.grownBy w' r) : Chg (fun k => r = some k) w w' := ⟨h.os, h.tape, h.output, h.size, fun k hk hn => h.block k hk fun e => hn e.symm⟩
theorem Chg.drew (h : Chg D w w') : Chg D w w'.drew := ⟨h.os, h.tape, h.output, h.size, h.block⟩
theorem Chg.set (w : World) (p : Addr) (u : Value) : Chg (fun k => k = p.block) w (w.setCell p u) := ⟨rfl, rfl, rfl, by simp [World.setCell], fun k _ hn => Below.heap_setCell w p u k hn⟩
theorem Chg.row (w : World) (g : Nat) (cs : Array Value) : Chg (fun k => k = g) w (w.setRow g cs) := ⟨rfl, rfl, rfl, by simp [World.setRow], fun k _ hn => setRow_other w g k cs hn⟩
end
/-- p holds, and goes on to hold whatever becomes of D. -/
def Stb (D : Nat → Prop) (p : World → Prop) (w : World) : Prop := ∀ w', Chg D w w' → p w'
section
variable {D D' : Nat → Prop} {w w' : World} {p q : World → Prop}
theorem Stb.now (h : Stb D p w) : p w := h w (Chg.refl _ _)
theorem Stb.step (h : Stb D p w) (k : Chg D w w') : Stb D p w' := fun w2 h2 => h w2 (k.step h2 fun _ _ h => h)
theorem Stb.less (h : Stb D p w) (hd : ∀ k, k < w.heap.size → D' k → D k) : Stb D' p w := fun w2 h2 => h w2 (h2.mono hd)
theorem Stb.imp (h : Stb D p w) (hpq : ∀ w, p w → q w) : Stb D q w := fun w2 h2 => hpq _ (h w2 h2)
theorem Stb.and (h : Stb D p w) (h' : Stb D q w) : Stb D (fun w => p w ∧ q w) w := fun w2 h2 => ⟨h w2 h2, h' w2 h2⟩
/-- Behind changes of D', of which D has what was there. -/
theorem Stb.past (h : Stb D p w) (k : Chg D w w') (hd : ∀ i, i < w.heap.size → D' i → D i) : Stb D' p w' := fun w2 h2 => h w2 (k.step h2 hd)
end
/-- Facts that new memory alone does not touch. -/
class Pst (p : World → Prop) : Prop where
  later : ∀ w w', p w → Below w.heap.size w w' → p w'
theorem Stb.of_pst {p : World → Prop} [hp : Pst p] {D : Nat → Prop} {w : World} (h : p w) (hd : ∀ k, k < w.heap.size → ¬ D k) : Stb D p w := fun w' hw => hp.later w w' h (hw.up hd)

/-! ### Parts, values -/
/-- A value of one cell: one that is seen, a bool that isn't, one that isn't seen. -/
inductive SC where
  | v (x : Value)
  | b (e : Bool)
  | o (x : Value)
def SC.den : SC → Value
  | .v x => x
  | .b e => .bool e
  | .o x => x
def SC.Ok : SC → Prop
  | .v _ => True
  | .b _ => True
  | .o x => x.oneCell' = true ∧ x.cells = #[x]
/-- A part of a struct: a cell, or n cells. -/
inductive Pt where
  | one (s : SC)
  | agg (n : Nat) (cs : Array Value)
def Pt.cells : Pt → Array Value
  | .one s => #[s.den]
  | .agg _ cs => cs
def Pt.size : Pt → Nat
  | .one _ => 1
  | .agg n _ => n
def Pt.Ok : Pt → Prop
  | .one s => s.Ok ∧ s.den.oneCell' = true ∧ s.den.cells = #[s.den]
  | .agg n cs => cs.size = n ∧ ∀ v ∈ cs.toList, v.oneCell' = true
theorem Pt.Ok.size {p : Pt} (h : p.Ok) : p.cells.size = p.size := by
  cases p with
  | one v => rfl
  | agg n cs => exact h.1
theorem Pt.Ok.one {p : Pt} (h : p.Ok) : ∀ v ∈ p.cells.toList, v.oneCell' = true := by
  cases p with
  | one v => intro u hu; simp [Pt.cells] at hu; subst hu; exact h.2.1
  | agg n cs => exact h.2
def catP : List Pt → Array Value
  | [] => #[]
  | [p] => p.cells
  | p :: q :: r => p.cells ++ catP (q :: r)
def sizeP : List Pt → Nat
  | [] => 0
  | p :: r => p.size + sizeP r
def OkP (ps : List Pt) : Prop := ∀ p ∈ ps, p.Ok
theorem catP_cons (p : Pt) (r : List Pt) : catP (p :: r) = p.cells ++ catP r := by
  cases r with
  | nil => simp [catP]
  | cons q r => rfl
theorem OkP.size : ∀ {ps : List Pt}, OkP ps → (catP ps).size = sizeP ps
  | [], _ => rfl
  | p :: r, h => by rw [catP_cons, Array.size_append, OkP.size (ps := r) (fun q hq => h q (by simp [hq])), (h p (by simp)).size]; rfl
theorem OkP.one : ∀ {ps : List Pt}, OkP ps → ∀ v ∈ (catP ps).toList, v.oneCell' = true
  | [], _, v, hv => by simp [catP] at hv
  | p :: r, h, v, hv => by
    rw [catP_cons, Array.toList_append, List.mem_append] at hv
    rcases hv with hv | hv
    · exact (h p (by simp)).one v hv
    · exact OkP.one (ps := r) (fun q hq => h q (by simp [hq])) v hv
/-- The part that begins at a cell. -/
def atP : List Pt → Nat → Option Pt
  | [], _ => none
  | p :: r, off => match Nat.beq off 0 with
    | true => some p
    | false => match Nat.ble p.size off with
      | true => atP r (off - p.size)
      | false => none
/-- The parts, with another one at a cell. -/
def setP : List Pt → Nat → Pt → Option (List Pt)
  | [], _, _ => none
  | p :: r, off, q => match Nat.beq off 0 with
    | true => match Nat.beq p.size q.size with
      | true => some (q :: r)
      | false => none
    | false => match Nat.ble p.size off with
      | true => (setP r (off - p.size) q).map (p :: ·)
      | false => none
theorem atP_ok : ∀ {ps : List Pt} {off : Nat} {p : Pt}, OkP ps → atP ps off = some p → p.Ok ∧ ∃ A Z, (catP ps).toList = A ++ (p.cells.toList ++ Z) ∧ A.length = off
  | [], _, _, _, h => by cases h
  | q :: r, off, p, hok, h => by
    have hq := hok q (by simp)
    unfold atP at h
    split at h
    · rename_i e
      injection h with h
      subst h
      exact ⟨hq, [], (catP r).toList, by rw [catP_cons]; simp, by simpa using (Nat.eq_of_beq_eq_true e).symm⟩
    · split at h
      · rename_i e
        have e := Nat.le_of_ble_eq_true e
        obtain ⟨h1, A, Z, h2, h3⟩ := atP_ok (fun x hx => hok x (by simp [hx])) h
        exact ⟨h1, q.cells.toList ++ A, Z, by rw [catP_cons, Array.toList_append, h2, List.append_assoc], by rw [List.length_append, h3, Array.length_toList, hq.size]; omega⟩
      · cases h
theorem setP_ok : ∀ {ps ps' : List Pt} {off : Nat} {q : Pt}, OkP ps → q.Ok → setP ps off q = some ps' → OkP ps' ∧ sizeP ps' = sizeP ps ∧ ∃ A B Z, (catP ps).toList = A ++ (B ++ Z) ∧ A.length = off ∧ B.length = q.size ∧ (catP ps').toList = A ++ (q.cells.toList ++ Z)
  | [], _, _, _, _, _, h => by cases h
  | p :: r, ps', off, q, hok, hq, h => by
    have hp := hok p (by simp)
    unfold setP at h
    split at h
    · rename_i e
      split at h
      · rename_i e2
        injection h with h
        subst h
        have e2 := Nat.eq_of_beq_eq_true e2
        refine ⟨fun x hx => ?_, by simp only [sizeP, e2], [], p.cells.toList, (catP r).toList, by rw [catP_cons]; simp, by simpa using (Nat.eq_of_beq_eq_true e).symm, by rw [Array.length_toList, hp.size, e2], by rw [catP_cons]; simp⟩
        rcases List.mem_cons.1 hx with rfl | hx
        · exact hq
        · exact hok x (by simp [hx])
      · cases h
    · split at h
      · rename_i e
        have e := Nat.le_of_ble_eq_true e
        cases hs : setP r (off - p.size) q with
        | none => rw [hs] at h; cases h
        | some r' =>
          rw [hs] at h
          simp only [Option.map_some, Option.some.injEq] at h
          subst h
          obtain ⟨h1, h2, A, B, Z, h3, h4, h5, h6⟩ := setP_ok (fun x hx => hok x (by simp [hx])) hq hs
          refine ⟨fun x hx => ?_, by simp only [sizeP, h2], p.cells.toList ++ A, B, Z, by rw [catP_cons, Array.toList_append, h3, List.append_assoc], by rw [List.length_append, h4, Array.length_toList, hp.size]; omega, h5, by rw [catP_cons, Array.toList_append, h6, List.append_assoc]⟩
          rcases List.mem_cons.1 hx with rfl | hx
          · exact hp
          · exact h1 x hx
      · cases h

/-- A value that hangs on no variable. -/
inductive SQ where
  | c (s : SC)
  | p (ps : List Pt)
def SQ.den : SQ → Value
  | .c s => s.den
  | .p ps => .agg (catP ps)
def SQ.Ok : SQ → Prop
  | .c s => s.Ok
  | .p ps => OkP ps
/-- What a slot holds: a value; a cell's address in variable j; a slice of variable j; a tuple. -/
inductive SV where
  | q (x : SQ)
  | a (j off : Nat)
  | s (j off n c : Nat)
  | t (vs : List SQ)
@[match_pattern] abbrev SV.v (x : Value) : SV := .q (.c (.v x))
@[match_pattern] abbrev SV.b (e : Bool) : SV := .q (.c (.b e))
@[match_pattern] abbrev SV.o (x : Value) : SV := .q (.c (.o x))
@[match_pattern] abbrev SV.p (ps : List Pt) : SV := .q (.p ps)
def SV.den (G : Nat → Nat) : SV → Value
  | .q x => x.den
  | .a j off => .pointer (some ⟨G j, off, none⟩)
  | .s j off n c => .slice (some ⟨G j, off, none⟩) n c
  | .t vs => .tuple (vs.map SQ.den).toArray
def SV.Ok : SV → Prop
  | .q x => x.Ok
  | .a _ _ => True
  | .s _ _ _ _ => True
  | .t vs => ∀ x ∈ vs, x.Ok
/-- It names no variable j. -/
def SV.farB (j : Nat) : SV → Bool
  | .a i _ => !Nat.beq i j
  | .s i _ _ _ => !Nat.beq i j
  | _ => true
abbrev SE := List (Nat × SV)
def lookS : SE → Nat → Option SV
  | [], _ => none
  | (k, v) :: r, j => match Nat.beq k j with
    | true => some v
    | false => lookS r j
def denE (G : Nat → Nat) : SE → List (Nat × Value)
  | [] => []
  | (k, v) :: r => (k, v.den G) :: denE G r
theorem look_den (G : Nat → Nat) : ∀ (E : SE) (j : Nat), look (denE G E) j = (lookS E j).map (SV.den G)
  | [], _ => rfl
  | (k, v) :: r, j => by
    unfold denE look lookS
    cases Nat.beq k j with
    | true => rfl
    | false => exact look_den G r j
def OkE (E : SE) : Prop := ∀ x ∈ E, x.2.Ok
theorem lookS_mem : ∀ {E : SE} {j : Nat} {v : SV}, lookS E j = some v → (j, v) ∈ E
  | [], _, _, h => by cases h
  | (k, u) :: r, j, v, h => by
    unfold lookS at h
    split at h
    · rename_i e
      obtain rfl := Nat.eq_of_beq_eq_true e
      cases h
      exact List.mem_cons_self
    · exact List.mem_cons_of_mem _ (lookS_mem h)
theorem OkE.get {E : SE} (h : OkE E) {j : Nat} {v : SV} (hj : lookS E j = some v) : v.Ok := h _ (lookS_mem hj)
theorem OkE.cons {E : SE} (h : OkE E) {k : Nat} {v : SV} (hv : v.Ok) : OkE ((k, v) :: E) := fun x hx => by
  rcases List.mem_cons.1 hx with rfl | hx
  · exact hv
  · exact h x hx
def evS (E : SE) : Operand → Option SV
  | .tmp t => lookS E t
  | .const v => some (.v v)
  | .global g => some (.v (.pointer (some ⟨g, 0, none⟩)))
  | .func f => some (.v (.func (.func f) #[] #[]))
theorem evS_ok {G : Nat → Nat} {E : SE} {x : Operand} {v : SV} (h : evS E x = some v) : ev (denE G E) x = some (v.den G) := by
  cases x with
  | tmp t =>
    show look (denE G E) t = _
    rw [look_den]
    rw [show lookS E t = some v from h]
    rfl
  | const u => cases h; rfl
  | global g => cases h; rfl
  | func f => cases h; rfl
theorem OkE.ev {E : SE} (h : OkE E) {x : Operand} {v : SV} (hx : evS E x = some v) : v.Ok := by
  cases x with
  | tmp t => exact h.get hx
  | const u => cases hx; trivial
  | global g => cases hx; trivial
  | func f => cases hx; trivial
/-- The values of operands. -/
def evSs (E : SE) : List Operand → Option (List SV)
  | [] => some []
  | x :: r => match evS E x, evSs E r with
    | some v, some vs => some (v :: vs)
    | _, _ => none
theorem evSs_ok {G : Nat → Nat} {E : SE} : ∀ {xs : List Operand} {vs : List SV}, evSs E xs = some vs → xs.map (ev (denE G E)) = (vs.map (SV.den G)).map some
  | [], vs, h => by cases h; rfl
  | x :: r, vs, h => by
    unfold evSs at h
    split at h
    · rename_i v us h1 h2
      injection h with h
      subst h
      rw [List.map_cons, evS_ok h1, evSs_ok h2]
      rfl
    · cases h

/-! ### Variables -/
/-- A variable: its name (a slot's number), where it lies if that is known, its type, its parts. -/
structure LV where
  j : Nat
  g : Option Nat
  t : TypeId
  ps : List Pt
def lookL : List LV → Nat → Option (List Pt)
  | [], _ => none
  | x :: r, j => match Nat.beq x.j j with
    | true => some x.ps
    | false => lookL r j
theorem lookL_mem : ∀ {L : List LV} {j : Nat} {ps : List Pt}, lookL L j = some ps → ∃ x ∈ L, x.j = j ∧ x.ps = ps
  | [], _, _, h => by cases h
  | x :: r, j, ps, h => by
    unfold lookL at h
    split at h
    · rename_i e
      injection h with h
      exact ⟨x, List.mem_cons_self, Nat.eq_of_beq_eq_true e, h⟩
    · obtain ⟨y, h1, h2⟩ := lookL_mem h
      exact ⟨y, List.mem_cons_of_mem _ h1, h2⟩
def putL : List LV → Nat → List Pt → List LV
  | [], _, _ => []
  | x :: r, j, ps => match Nat.beq x.j j with
    | true => { x with ps := ps } :: r
    | false => x :: putL r j ps
/-- The variables' names. -/
def namesL (L : List LV) : List Nat := L.map (·.j)
theorem putL_names : ∀ (L : List LV) (j : Nat) (ps : List Pt), namesL (putL L j ps) = namesL L
  | [], _, _ => rfl
  | x :: r, j, ps => by
    unfold putL
    split
    · rfl
    · exact congrArg (x.j :: ·) (putL_names r j ps)
/-- No variable is called j. -/
def farL (j : Nat) : List LV → Bool
  | [] => true
  | x :: r => !Nat.beq x.j j && farL j r

/-! ### Owned memory -/
/-- Memory that is owned: what is known of it, and which blocks that hangs on. -/
structure Res where
  holds : World → (Nat → Prop) → Prop
  keep : ∀ {w w' : World} {S : Nat → Prop}, holds w S → (∀ k, S k → w'.heap[k]? = w.heap[k]?) → holds w' S
  lt : ∀ {w : World} {S : Nat → Prop}, holds w S → ∀ k, S k → k < w.heap.size
def starL : List Res → World → (Nat → Prop) → Prop
  | [], _, S => ∀ k, ¬ S k
  | r :: R, w, S => ∃ S1 S2, r.holds w S1 ∧ starL R w S2 ∧ (∀ k, S k ↔ S1 k ∨ S2 k) ∧ ∀ k, S1 k → ¬ S2 k
theorem starL.keep : ∀ {R : List Res} {w w' : World} {S : Nat → Prop}, starL R w S → (∀ k, S k → w'.heap[k]? = w.heap[k]?) → starL R w' S
  | [], _, _, _, h, _ => h
  | r :: _, _, _, _, ⟨S1, S2, h1, h2, h3, h4⟩, hk => ⟨S1, S2, r.keep h1 fun k hs => hk k ((h3 k).2 (.inl hs)), h2.keep fun k hs => hk k ((h3 k).2 (.inr hs)), h3, h4⟩
theorem starL.lt : ∀ {R : List Res} {w : World} {S : Nat → Prop}, starL R w S → ∀ k, S k → k < w.heap.size
  | [], _, _, h, k, hs => absurd hs (h k)
  | r :: _, _, _, ⟨_, _, h1, h2, h3, _⟩, k, hs => ((h3 k).1 hs).elim (r.lt h1 k) (h2.lt k)
theorem starL.same {R : List Res} {w : World} {S S' : Nat → Prop} (h : starL R w S) (e : ∀ k, S k ↔ S' k) : starL R w S' := by
  have : S = S' := funext fun k => propext (e k)
  rwa [← this]
theorem starL.app : ∀ {R R' : List Res} {w : World} {S : Nat → Prop}, starL (R ++ R') w S ↔ ∃ S1 S2, starL R w S1 ∧ starL R' w S2 ∧ (∀ k, S k ↔ S1 k ∨ S2 k) ∧ ∀ k, S1 k → ¬ S2 k
  | [], R', w, S => ⟨fun h => ⟨fun _ => False, S, fun _ h => h, h, fun k => ⟨.inr, fun h => h.elim False.elim id⟩, fun _ h => h.elim⟩, fun ⟨S1, S2, h1, h2, h3, _⟩ => by
      show starL R' w S
      exact h2.same fun k => ⟨fun h => (h3 k).2 (.inr h), fun h => ((h3 k).1 h).resolve_left (h1 k)⟩⟩
  | r :: R, R', w, S => by
    constructor
    · rintro ⟨S1, S2, h1, h2, h3, h4⟩
      obtain ⟨S3, S4, h5, h6, h7, h8⟩ := starL.app.1 h2
      refine ⟨fun k => S1 k ∨ S3 k, S4, ⟨S1, S3, h1, h5, fun k => Iff.rfl, fun k hk h => h4 k hk ((h7 k).2 (.inl h))⟩, h6, fun k => ?_, fun k hk h => ?_⟩
      · rw [h3 k, h7 k, or_assoc]
      · rcases hk with hk | hk
        · exact h4 k hk ((h7 k).2 (.inr h))
        · exact h8 k hk h
    · rintro ⟨S0, S4, ⟨S1, S3, h1, h5, h9, h10⟩, h6, h3, h8⟩
      refine ⟨S1, fun k => S3 k ∨ S4 k, h1, starL.app.2 ⟨S3, S4, h5, h6, fun k => Iff.rfl, fun k hk => h8 k ((h9 k).2 (.inr hk))⟩, fun k => by rw [h3 k, h9 k, or_assoc], fun k hk h => ?_⟩
      rcases h with h | h
      · exact h10 k hk h
      · exact h8 k ((h9 k).2 (.inl hk)) h

theorem starL.perm {R R' : List Res} (h : R.Perm R') : ∀ {w : World} {S : Nat → Prop}, starL R w S → starL R' w S := by
  induction h with
  | nil => exact fun h => h
  | cons r _ ih =>
    rintro w S ⟨S1, S2, h1, h2, h3⟩
    exact ⟨S1, S2, h1, ih h2, h3⟩
  | swap r r' R =>
    rintro w S ⟨S1, S2, h1, ⟨S3, S4, h3, h4, h5, h6⟩, h7, h8⟩
    refine ⟨S3, fun k => S1 k ∨ S4 k, h3, ⟨S1, S4, h1, h4, fun _ => Iff.rfl, fun k hk hk' => h8 k hk ((h5 k).2 (.inr hk'))⟩, fun k => ?_, fun k hk hk' => ?_⟩
    · rw [h7 k, h5 k, ← or_assoc, ← or_assoc, or_comm (a := S1 k)]
    · rcases hk' with hk' | hk'
      · exact h8 k hk' ((h5 k).2 (.inl hk))
      · exact h6 k hk hk'
  | trans _ _ ih1 ih2 => exact fun h => ih2 (ih1 h)
/-- One of what is owned, and the others. -/
theorem starL.at : ∀ {R : List Res} {i : Nat} {r : Res} {w : World} {S : Nat → Prop}, starL R w S → R[i]? = some r → ∃ S1 S2, r.holds w S1 ∧ (∀ k, S k ↔ S1 k ∨ S2 k) ∧ (∀ k, S1 k → ¬ S2 k) ∧ starL (R.eraseIdx i) w S2 ∧
    ∀ (r' : Res) (w' : World) (S' : Nat → Prop), r'.holds w' S' → (∀ k, S2 k → w'.heap[k]? = w.heap[k]?) → (∀ k, S' k → ¬ S2 k) → starL (R.set i r') w' fun k => S' k ∨ S2 k
  | [], _, _, _, _, _, h => by simp at h
  | r0 :: R, 0, r, w, S, ⟨S1, S2, h1, h2, h3, h4⟩, h => by
    simp only [List.getElem?_cons_zero, Option.some.injEq] at h
    subst h
    exact ⟨S1, S2, h1, h3, h4, h2, fun r' w' S' hr hk hd => ⟨S', S2, hr, h2.keep hk, fun _ => Iff.rfl, hd⟩⟩
  | r0 :: R, i + 1, r, w, S, ⟨S0, S', h1, h2, h3, h4⟩, h => by
    obtain ⟨S1, S2, h5, h6, h7, h8, h9⟩ := starL.at h2 (by simpa using h)
    refine ⟨S1, fun k => S0 k ∨ S2 k, h5, fun k => ?_, fun k hk hk' => ?_, ⟨S0, S2, h1, h8, fun _ => Iff.rfl, fun k hk hk' => h4 k hk ((h6 k).2 (.inr hk'))⟩, fun r' w' S3 hr hk hd => ?_⟩
    · rw [h3 k, h6 k, ← or_assoc, ← or_assoc, or_comm (a := S0 k)]
    · rcases hk' with hk' | hk'
      · exact h4 k hk' ((h6 k).2 (.inl hk))
      · exact h7 k hk hk'
    · refine ⟨S0, fun k => S3 k ∨ S2 k, r0.keep h1 fun k hs => hk k (.inl hs), h9 r' w' S3 hr (fun k hs => hk k (.inr hs)) (fun k hs hs' => hd k hs (.inr hs')), fun k => ?_, fun k hk0 hs => ?_⟩
      · exact or_left_comm
      · rcases hs with hs | hs
        · exact hd k hs (.inl hk0)
        · exact h4 k hk0 ((h6 k).2 (.inr hs))

/-! ### States -/
/-- What is known: of the slots, of the variables, what is owned; facts that stay; facts of memory that is new in this call. -/
structure Env where
  E : SE
  L : List LV
  R : List Res
  F : World → Prop
  M : World → Prop
/-- All facts. -/
def Env.A (e : Env) (w : World) : Prop := e.F w ∧ e.M w
/-- One's own blocks. -/
def Mine (S : Nat → Prop) (G : Nat → Nat) (L : List LV) (k : Nat) : Prop := S k ∨ ∃ j ∈ namesL L, G j = k
/-- All that may change: the callers' (X) and one's own. -/
def Dof (X S : Nat → Prop) (G : Nat → Nat) (L : List LV) (k : Nat) : Prop := X k ∨ Mine S G L k
/-- What is fixed in a call: the callers' blocks that may change, the first world, what was handed in to own. -/
structure Base where
  X : Nat → Prop
  B : World
  D : Nat → Prop
/-- All but what is new, and one's own. -/
def Nof (b : Base) (S : Nat → Prop) (G : Nat → Nat) (L : List LV) (k : Nat) : Prop := k < b.B.heap.size ∨ Mine S G L k
structure StW (b : Base) (G : Nat → Nat) (S : Nat → Prop) (L : List LV) (R : List Res) (F M : World → Prop) (w : World) : Prop where
  var : ∀ x ∈ L, Blk w (G x.j) x.t (catP x.ps) ∧ OkP x.ps ∧ ∀ g, x.g = some g → G x.j = g
  apart : (namesL L).Pairwise fun i j => G i ≠ G j
  res : starL R w S
  sep : ∀ j ∈ namesL L, ¬ S (G j)
  fact : Stb (Dof b.X S G L) F w
  fresh : Stb (Nof b S G L) M w
  chg : Chg b.D b.B w
  mine : ∀ k, Mine S G L k → k < b.B.heap.size → b.D k
  old : ∀ k, b.X k → k < b.B.heap.size ∧ ¬ b.D k
structure StA (b : Base) (N : Nat) (e : Env) (G : Nat → Nat) (S : Nat → Prop) (a : Act) (w : World) : Prop where
  fr : Fr N (denE G e.E) a
  ok : OkE e.E
  st : StW b G S e.L e.R e.F e.M w
def St (b : Base) (N : Nat) (e : Env) (a : Act) (w : World) : Prop := ∃ G S, StA b N e G S a w
section
variable {b : Base} {G : Nat → Nat} {S : Nat → Prop} {L : List LV} {R : List Res} {F M : World → Prop} {w w' : World}
theorem Dof.nof (h : ∀ k, b.X k → k < b.B.heap.size ∧ ¬ b.D k) {k : Nat} (hk : Dof b.X S G L k) : Nof b S G L k := hk.imp (fun hx => (h k hx).1) id
theorem StW.lt (h : StW b G S L R F M w) : ∀ k, Mine S G L k → k < w.heap.size := fun k hk => by
  rcases hk with hk | ⟨j, hj, rfl⟩
  · exact h.res.lt k hk
  · obtain ⟨x, hx, rfl⟩ := List.mem_map.1 hj
    exact (h.var x hx).1.lt
/-- New memory comes. -/
theorem StW.later (h : StW b G S L R F M w) (k : Below w.heap.size w w') : StW b G S L R F M w' :=
  ⟨fun x hx => ⟨(h.var x hx).1.later k, (h.var x hx).2⟩, h.apart, h.res.keep fun i hi => k.block i (h.res.lt i hi), h.sep, h.fact.step (Chg.of_up k), h.fresh.step (Chg.of_up k), h.chg.step (D' := fun _ => False) (Chg.of_up k) (fun _ _ h => h.elim), h.mine, h.old⟩
/-- All facts, whatever becomes of what may change. -/
theorem StW.all (h : StW b G S L R F M w) : Stb (Dof b.X S G L) (fun w => F w ∧ M w) w := h.fact.and (h.fresh.less fun _ _ hk => hk.nof h.old)
theorem StW.imp (h : StW b G S L R F M w) {F' M' : World → Prop} (hF : ∀ w, F w → M w → F' w) (hM : ∀ w, M w → M' w) : StW b G S L R F' M' w := { h with fact := h.all.imp fun w hw => hF w hw.1 hw.2, fresh := h.fresh.imp hM }
/-- A fact more. -/
theorem StW.and (h : StW b G S L R F M w) {p : World → Prop} (hp : Stb (Dof b.X S G L) p w) : StW b G S L R (fun w => p w ∧ F w) M w := { h with fact := hp.and h.fact }
/-- A fact of new memory more. -/
theorem StW.andM (h : StW b G S L R F M w) {p : World → Prop} (hp : Stb (Nof b S G L) p w) : StW b G S L R F (fun w => p w ∧ M w) w := { h with fresh := hp.and h.fresh }
end
end Go.Proofs.Ythkbejheedffjaa
