/-
  SEVERAL TEXTS IN ONE: FrV, FrN, FrP, Word, Words, Limb, ElOps, ElSub.
-/
import Derived.Test.YtgmiaaapaiccdaaDoorMc
import Derived.Lib.Mul64
import Derived.Test.YtgmiaaapaiccdaaDoorMa
import Derived.StillTailTactics
/-
  ROWS OF CELLS, AND STORES OVER FRAMES BY WHAT IS KNOWN OF THEM.
-/
namespace Go.Proofs.YtgmiaaapaiccdaaDoor
open Go.RowKit Go.IntWalk

/-- The values l lie in block g from its head on, and may be written. -/
structure VL (w : World) (g : Nat) (l : List Value) : Prop where
  lt : g < w.heap.size
  cell : ∀ j v, l[j]? = some v → w.cell? ⟨g, j, none⟩ = some v
  free : ∀ j, j < l.length → w.frozen? ⟨g, j, none⟩ = false
section
variable {w w' : World} {g B : Nat} {l : List Value}
theorem VL.below (h : VL w g l) (hb : Below B w w') (hg : g < B) : VL w' g l :=
  ⟨Nat.lt_of_lt_of_le h.lt hb.size, fun j v hj => (hb.cell (p := ⟨g, j, none⟩) hg).trans (h.cell j v hj), fun j hj => (hb.frozen (p := ⟨g, j, none⟩) hg).trans (h.free j hj)⟩
theorem VL.up (h : VL w g l) (hb : Up w w') : VL w' g l := h.below hb h.lt
theorem VL.set (h : VL w g l) (k : Nat) (x : Value) : VL (w.setCell ⟨g, k, none⟩ x) g (l.set k x) := by
  refine ⟨by simpa [World.setCell] using h.lt, fun j v hj => ?_, fun j hj => ?_⟩
  · rw [List.getElem?_set] at hj
    by_cases e : k = j
    · subst e
      rw [if_pos rfl] at hj
      split at hj
      · rename_i hk
        cases hj
        exact World.cell?_setCell_same _ _ _ (h.cell k l[k] (List.getElem?_eq_getElem hk))
      · cases hj
    · rw [if_neg e] at hj
      rw [World.cell?_setCell_other _ _ _ _ (by intro he; injection he with _ he _; omega), h.cell j v hj]
  · rw [List.length_set] at hj
    rw [World.frozen?_setCell]
    exact h.free j hj
theorem VL.far (h : VL w g l) {p : Addr} (hp : g ≠ p.block) (u : Value) : VL (w.setCell p u) g l :=
  ⟨by simpa [World.setCell] using h.lt, fun j v hj => by rw [World.cell?_setCell_other _ _ _ _ (fun e => hp (by rw [e]))]; exact h.cell j v hj, fun j hj => by rw [World.frozen?_setCell]; exact h.free j hj⟩
end
theorem Us_at? {l : List Nat} {j : Nat} (h : j < l.length) : (Us l)[j]? = some (.int .u64 (l[j]! : Nat)) := by
  simp [Us, h]
theorem Us_put (l : List Nat) (k x : Nat) : (Us l).set k (.int .u64 (x : Int)) = Us (l.set k x) := by
  simp [Us, List.map_set]
theorem By_at? {l : List UInt8} {j : Nat} (h : j < l.length) : (By l)[j]? = some (.int .u8 ((l[j]!).toNat : Int)) := by
  have h1 := By_get h
  simpa using h1
theorem VL.byte {w : World} {g : Nat} {l : List UInt8} (h : VL w g (By l)) {j : Nat} (hj : j < l.length) : w.cell? ⟨g, j, none⟩ = some (.int .u8 ((l[j]!).toNat : Int)) := h.cell j _ (By_at? hj)
theorem VL.word {w : World} {g : Nat} {l : List Nat} (h : VL w g (Us l)) {j : Nat} (hj : j < l.length) : w.cell? ⟨g, j, none⟩ = some (.int .u64 (l[j]! : Nat)) := h.cell j _ (Us_at? hj)

section
variable {ops : Array Oper} {Q : Exit → Act → World → Prop} {N : Nat} {E : List (Nat × Value)} {w : World}
/-- The end of a region that stores one number. -/
theorem f_store {os : Oper} {px x : Operand} {t : TypeId} {K : IntKind} (p : Addr) (v : Int) (old : Value) (ht : (t = 24 ∧ K = .u64) ∨ (t = 5 ∧ K = .u8)) (hg : os.guard = none) (hd : os.dst = none) (ho : os.op = .store t px x) (hp : ev E px = some (.pointer (some p))) (hx : ev E x = some (.int K v))
    (hc : w.cell? p = some old) (hf : w.frozen? p = false) (hlt : p.block < w.heap.size) (h : ∀ w', Up w w' → kF (Q .normal) N E (w'.setCell p (.int K v))) :
    bF Tryd.prog ops (Up w) (fun a' => ∀ w', Up w w' → wpList Tryd.prog ops Q [os] a' w') [] N E := fun a ha => wpB_nil fun w' hw' => by
  have h1 := ha.eval hp
  have h2 := ha.eval hx
  have h3 : w'.cell? p = some old := (hw'.cell hlt).trans hc
  have h4 : w'.frozen? p = false := (hw'.frozen hlt).trans hf
  have h5 := h w' hw' a ha
  unfold wpList
  rw [if_pos (by simp [Region.wanted, hg])]
  refine .inl ?_
  unfold Oper.wp execOp
  simp only [ho, h1, h2]
  have key : (Instr.storeAt t (.pointer (some p)) (.int K v)).run Tryd.prog w' = .ok () (w'.setCell p (.int K v)) := by
    rcases ht with ⟨rfl, rfl⟩ | ⟨rfl, rfl⟩ <;> go_simp
  simp only [Sem.run_bind, key, Result.andThen_ok, Sem.run_pure, Oper.upon, hd]
  exact h5
end
section
variable {ops : Array Oper} {C0 : World → Prop} {Q : Act → Prop} {N : Nat} {E : List (Nat × Value)} {o : Oper} {rest : List Oper} {k : Nat}
theorem f_subV {x y : Operand} {t : TypeId} (m n r : Int) (hg : o.guard = none) (hd : o.dst = some k) (hk : Nat.blt k N = true) (ho : o.op = .binOp .sub 64 x y t) (hx : ev E x = some (.int .u64 m)) (hy : ev E y = some (.int .u64 n))
    (hr : IntKind.u64.wrap (m - n) = r) (hn : bF Tryd.prog ops C0 Q rest N ((k, .int .u64 r) :: E)) : bF Tryd.prog ops C0 Q (o :: rest) N E :=
  f_val _ hg hd hk (fun a ha w _ => by
    have h1 := ha.eval hx
    have h2 := ha.eval hy
    unfold execOp
    simp only [ho, h1, h2]
    go_simp) hn
theorem f_shrU {x y : Operand} {t : TypeId} (m : Int) (n : Nat) (r : Int) (h64 : n ≤ 64) (hg : o.guard = none) (hd : o.dst = some k) (hk : Nat.blt k N = true) (ho : o.op = .binOp .shr 24 x y t) (hx : ev E x = some (.int .u64 m)) (hy : ev E y = some (.int .u64 (n : Int)))
    (hr : m / 2 ^ n = r) (hn : bF Tryd.prog ops C0 Q rest N ((k, .int .u64 r) :: E)) : bF Tryd.prog ops C0 Q (o :: rest) N E :=
  f_val _ hg hd hk (fun a ha w _ => by
    have h1 := ha.eval hx
    have h2 := ha.eval hy
    have h3 : (n : Int) ≤ 64 := by omega
    unfold execOp
    simp only [ho, h1, h2]
    go_simp) hn
end
theorem VL.new (w : World) (l : List Value) (t : TypeId) : VL (w.alloc (.cells l.toArray t)) w.heap.size l := by
  have hb := Blk.new w t l.toArray
  exact ⟨by rw [World.size_alloc]; omega, fun j v hj => by rw [hb.cell j]; simpa using hj, fun j _ => hb.free j⟩
section
variable {ops : Array Oper} {C0 : World → Prop} {Q : Act → Prop} {N : Nat} {E : List (Nat × Value)} {o : Oper} {rest : List Oper} {k : Nat}
/-- A byte as a word. -/
theorem f_wordB {x : Operand} (m r : Int) (hg : o.guard = none) (hd : o.dst = some k) (hk : Nat.blt k N = true) (ho : o.op = .convert 5 24 x) (hx : ev E x = some (.int .u8 m))
    (hr : IntKind.u64.wrap m = r) (hn : bF Tryd.prog ops C0 Q rest N ((k, .int .u64 r) :: E)) : bF Tryd.prog ops C0 Q (o :: rest) N E :=
  f_val _ hg hd hk (fun a ha w _ => by
    have h1 := ha.eval hx
    unfold execOp
    simp only [ho, h1]
    go_simp) hn
/-- A word's lowest byte. -/
theorem f_byteU {x : Operand} (m r : Int) (hg : o.guard = none) (hd : o.dst = some k) (hk : Nat.blt k N = true) (ho : o.op = .convert 24 5 x) (hx : ev E x = some (.int .u64 m))
    (hr : IntKind.u8.wrap m = r) (hn : bF Tryd.prog ops C0 Q rest N ((k, .int .u8 r) :: E)) : bF Tryd.prog ops C0 Q (o :: rest) N E :=
  f_val _ hg hd hk (fun a ha w _ => by
    have h1 := ha.eval hx
    unfold execOp
    simp only [ho, h1]
    go_simp) hn
/-- An int as a uint, or as a word. -/
theorem f_uintI {x : Operand} (m r : Int) (hg : o.guard = none) (hd : o.dst = some k) (hk : Nat.blt k N = true) (ho : o.op = .convert 3 64 x) (hx : ev E x = some (.int .i64 m))
    (hr : IntKind.u64.wrap m = r) (hn : bF Tryd.prog ops C0 Q rest N ((k, .int .u64 r) :: E)) : bF Tryd.prog ops C0 Q (o :: rest) N E :=
  f_val _ hg hd hk (fun a ha w _ => by
    have h1 := ha.eval hx
    unfold execOp
    simp only [ho, h1]
    go_simp) hn
theorem f_wordI {x : Operand} (m r : Int) (hg : o.guard = none) (hd : o.dst = some k) (hk : Nat.blt k N = true) (ho : o.op = .convert 3 24 x) (hx : ev E x = some (.int .i64 m))
    (hr : IntKind.u64.wrap m = r) (hn : bF Tryd.prog ops C0 Q rest N ((k, .int .u64 r) :: E)) : bF Tryd.prog ops C0 Q (o :: rest) N E :=
  f_val _ hg hd hk (fun a ha w _ => by
    have h1 := ha.eval hx
    unfold execOp
    simp only [ho, h1]
    go_simp) hn
theorem f_geqI {x y : Operand} {t : TypeId} (m n : Int) (q : Bool) (hg : o.guard = none) (hd : o.dst = some k) (hk : Nat.blt k N = true) (ho : o.op = .binOp .geq 3 x y t) (hx : ev E x = some (.int .i64 m)) (hy : ev E y = some (.int .i64 n))
    (hr : decide (n ≤ m) = q) (hn : bF Tryd.prog ops C0 Q rest N ((k, .bool q) :: E)) : bF Tryd.prog ops C0 Q (o :: rest) N E :=
  f_val _ hg hd hk (fun a ha w _ => by
    have h1 := ha.eval hx
    have h2 := ha.eval hy
    subst hr
    unfold execOp
    simp only [ho, h1, h2]
    go_simp) hn
theorem f_neqI {x y : Operand} {t : TypeId} (m n : Int) (q : Bool) (hg : o.guard = none) (hd : o.dst = some k) (hk : Nat.blt k N = true) (ho : o.op = .binOp .neq 3 x y t) (hx : ev E x = some (.int .i64 m)) (hy : ev E y = some (.int .i64 n))
    (hr : decide (m ≠ n) = q) (hn : bF Tryd.prog ops C0 Q rest N ((k, .bool q) :: E)) : bF Tryd.prog ops C0 Q (o :: rest) N E :=
  f_val _ hg hd hk (fun a ha w _ => by
    have h1 := ha.eval hx
    have h2 := ha.eval hy
    subst hr
    unfold execOp
    simp only [ho, h1, h2]
    by_cases e : m = n <;> go_simp) hn
theorem f_remI {x y : Operand} {t : TypeId} (m n r : Int) (hz : n ≠ 0) (hg : o.guard = none) (hd : o.dst = some k) (hk : Nat.blt k N = true) (ho : o.op = .binOp .rem 3 x y t) (hx : ev E x = some (.int .i64 m)) (hy : ev E y = some (.int .i64 n))
    (hr : m.tmod n = r) (hn : bF Tryd.prog ops C0 Q rest N ((k, .int .i64 r) :: E)) : bF Tryd.prog ops C0 Q (o :: rest) N E :=
  f_val _ hg hd hk (fun a ha w _ => by
    have h1 := ha.eval hx
    have h2 := ha.eval hy
    subst hr
    unfold execOp
    simp only [ho, h1, h2]
    go_simp) hn
theorem f_remU {x y : Operand} {t : TypeId} (m n r : Int) (hz : n ≠ 0) (hg : o.guard = none) (hd : o.dst = some k) (hk : Nat.blt k N = true) (ho : o.op = .binOp .rem 24 x y t) (hx : ev E x = some (.int .u64 m)) (hy : ev E y = some (.int .u64 n))
    (hr : m.tmod n = r) (hn : bF Tryd.prog ops C0 Q rest N ((k, .int .u64 r) :: E)) : bF Tryd.prog ops C0 Q (o :: rest) N E :=
  f_val _ hg hd hk (fun a ha w _ => by
    have h1 := ha.eval hx
    have h2 := ha.eval hy
    subst hr
    unfold execOp
    simp only [ho, h1, h2]
    go_simp) hn
theorem f_quoU {x y : Operand} {t : TypeId} (m n r : Int) (hz : n ≠ 0) (hg : o.guard = none) (hd : o.dst = some k) (hk : Nat.blt k N = true) (ho : o.op = .binOp .quo 24 x y t) (hx : ev E x = some (.int .u64 m)) (hy : ev E y = some (.int .u64 n))
    (hr : IntKind.u64.wrap (m.tdiv n) = r) (hn : bF Tryd.prog ops C0 Q rest N ((k, .int .u64 r) :: E)) : bF Tryd.prog ops C0 Q (o :: rest) N E :=
  f_val _ hg hd hk (fun a ha w _ => by
    have h1 := ha.eval hx
    have h2 := ha.eval hy
    subst hr
    unfold execOp
    simp only [ho, h1, h2]
    go_simp) hn
end
/-! ### The check of a region whose first forced operation waits for some by more than four steps -/
section
variable {ops : Array Oper}
def sinksD (f : Nat) (md : Region.Mode) (ops : Array Oper) (N : Nat) : Bool := match ops[N]? with
  | none => true
  | some o => (List.range N).all fun i => edgeTo md o i || waitsT md ops (min f ops.size) N i
def tailD (f : Nat) (ops : Array Oper) (n k m : Nat) : Bool :=
  Region.noSelect ops && headC .any ops n ops.toList 0 && chainB .any ops.toList 0 none && decide (ops.size = m + k + n) && sinksD f .any ops (k + n) &&
    forcedB .any ops m (k + n) (marks k n (marks n 0 (Array.replicate ops.size false)))
theorem tail_okD (f : Nat) {n k m : Nat} (h : tailD f ops n k m = true) : tailB ops n k m = true := by
  simp only [tailD, Bool.and_eq_true, decide_eq_true_eq] at h
  obtain ⟨⟨⟨⟨⟨h1, h2⟩, h3⟩, h4⟩, h5⟩, h6⟩ := h
  have hr : ∀ j ∈ Region.ready .any ops (marks k n (marks n 0 (Array.replicate ops.size false))), j = k + n := by
    intro j hj
    cases m with
    | zero =>
      simp only [forcedB, List.isEmpty_iff] at h6
      rw [h6] at hj
      cases hj
    | succ m =>
      simp only [forcedB, Bool.and_eq_true, decide_eq_true_eq] at h6
      rw [h6.1] at hj
      simpa using hj
  simp only [tailB, Bool.and_eq_true, decide_eq_true_eq]
  refine ⟨⟨⟨⟨h1, headB_of h3 n ops.toList 0 _ Inv.start rfl h2⟩, h4⟩, ?_⟩, h6⟩
  unfold sinksB
  rw [List.all_eq_true]
  intro j hj
  have hjk := hr j hj
  subst hjk
  obtain ⟨_, o, ho, _⟩ := mem_ready.1 hj
  unfold sinksD at h5
  rw [ho] at h5
  simp only [List.all_eq_true, List.mem_range] at h5 ⊢
  intro i hi
  have hz : 0 < ops.size := Nat.lt_of_le_of_lt (Nat.zero_le _) (Array.getElem?_eq_some_iff.1 ho).1
  obtain ⟨g, hg⟩ : ∃ g, ops.size = g + 1 := ⟨ops.size - 1, by omega⟩
  have h7 := h5 i hi
  simp only [Bool.or_eq_true] at h7
  rcases h7 with h7 | h7
  · rw [hg]
    exact waitsT_edge ho h7
  · exact waitsT_mono (Nat.min_le_right _ _) h7
end
theorem f_tail {P : Program} {ops : Array Oper} {Q : Exit → Act → World → Prop} {T : List Oper} {N : Nat} {E : List (Nat × Value)} {w : World} (h : ∀ w', Up w w' → lF P ops Q T N E w') :
    bF P ops (Up w) (fun a' => ∀ w', Up w w' → wpList P ops Q T a' w') [] N E := fun a ha => wpB_nil fun w' hw' => h w' hw' a ha
section
variable {P : Program} {ops : Array Oper} {Q : Exit → Act → World → Prop} {N : Nat} {E : List (Nat × Value)} {w : World} {o : Oper} {rest : List Oper} {k : Nat}
theorem l_nil (h : kF (Q .normal) N E w) : lF P ops Q [] N E w := fun a ha => wpl_nil (h a ha)
/-- One operation that hands back a value, whatever becomes of the world. -/
theorem l_val {w' : World} (v : Value) (hg : o.guard = none) (hd : o.dst = some k) (hk : Nat.blt k N = true) (h : ∀ a, Fr N E a → (execOp a.eval o).run P w = .ok (.value v) w') (hn : lF P ops Q rest N ((k, v) :: E) w') : lF P ops Q (o :: rest) N E w := fun a ha => by
  have h1 := h a ha
  have h2 := hn _ (ha.put hk v)
  unfold wpList
  rw [if_pos (by simp [Region.wanted, hg])]
  refine .inl ?_
  unfold Oper.wp
  rw [h1]
  simp only [Oper.upon, hd]
  exact h2
theorem l_move {x : Operand} (v : Value) (hg : o.guard = none) (hd : o.dst = some k) (hk : Nat.blt k N = true) (ho : o.op = .move x) (hx : ev E x = some v) (hn : lF P ops Q rest N ((k, v) :: E) w) : lF P ops Q (o :: rest) N E w :=
  l_val v hg hd hk (fun a ha => by
    have h1 := ha.eval hx
    unfold execOp
    simp only [ho, h1, Sem.run_pure]) hn
theorem l_assign {x : Operand} (v : Value) (hg : o.guard = none) (hd : o.dst = some k) (hk : Nat.blt k N = true) (ho : o.op = .assign x) (hx : ev E x = some v) (hn : lF P ops Q rest N ((k, v) :: E) w) : lF P ops Q (o :: rest) N E w :=
  l_val v hg hd hk (fun a ha => by
    have h1 := ha.eval hx
    unfold execOp
    simp only [ho, h1, Sem.run_pure]) hn
end
theorem calls_still {f : FuncId} {args : Array Value} {v : Value} {w : World} (h : Calls Tryd.prog f args w fun e w' => e = .returned v ∧ w' = w) : Calls Tryd.prog f args w fun e w' => e = .returned v ∧ Below w.heap.size w w' :=
  h.mono fun _ _ ⟨h1, h2⟩ => ⟨h1, by rw [h2]; exact Below.refl _ _⟩
end Go.Proofs.YtgmiaaapaiccdaaDoor
/-
  NEW VARIABLES OVER FRAMES BY WHAT IS KNOWN OF THEM: 'x, y, .. := .., ..', as many as there are, in whatever order they come.
-/
namespace Go.Proofs.YtgmiaaapaiccdaaDoor
open Go.RowKit Go.IntWalk

/-- A new variable: its slot, its type, its noughts. -/
structure NV where
  t : Nat
  ty : TypeId
  zs : Array Value

section
variable {P : Program} {N : Nat}
def nvOne (P : Program) (N : Nat) (o : Oper) (v : NV) : Prop := o.guard = none ∧ o.dst = some v.t ∧ Nat.blt v.t N = true ∧ o.op = .alloc v.ty ∧ (P.info? v.ty).bind (fun i => i.zero.map (·.cells)) = some v.zs
def nvOk (P : Program) (N : Nat) : List Oper → List NV → Prop
  | _, [] => True
  | [], _ :: _ => False
  | o :: l, v :: vs => nvOne P N o v ∧ nvOk P N l vs
theorem nvOk_get : ∀ {l : List Oper} {vs : List NV}, nvOk P N l vs → ∀ (j : Nat) (v : NV), vs[j]? = some v → ∃ o : Oper, l[j]? = some o ∧ nvOne P N o v
  | _, [], _, j, v, hv => by simp at hv
  | [], _ :: _, h, _, _, _ => h.elim
  | o :: l, v0 :: vs, h, 0, v, hv => by
    simp only [List.getElem?_cons_zero, Option.some.injEq] at hv
    subst hv
    exact ⟨o, rfl, h.1⟩
  | o :: l, v0 :: vs, h, j + 1, v, hv => by
    simp only [List.getElem?_cons_succ] at hv
    obtain ⟨o', h1, h2⟩ := nvOk_get h.2 j v hv
    exact ⟨o', by simpa using h1, h2⟩
end

def ptrs : List NV → Nat → (Nat → Nat) → List (Nat × Value) → List (Nat × Value)
  | [], _, _, E => E
  | v :: vs, j, gs, E => (v.t, .pointer (some ⟨gs j, 0, none⟩)) :: ptrs vs (j + 1) gs E
def far (E : List (Nat × Value)) : List NV → Prop
  | [] => True
  | v :: vs => look E v.t = none ∧ far E vs
theorem far_cons {E : List (Nat × Value)} {k : Nat} {x : Value} : ∀ {vs : List NV}, (∀ v ∈ vs, k ≠ v.t) → far E vs → far ((k, x) :: E) vs
  | [], _, _ => trivial
  | v :: vs, h, hE => ⟨by rw [look_cons, if_neg (h v (by simp))]; exact hE.1, far_cons (fun u hu => h u (by simp [hu])) hE.2⟩
theorem far_mem {E : List (Nat × Value)} : ∀ {vs : List NV}, far E vs → ∀ (j : Nat) (v : NV), vs[j]? = some v → look E v.t = none
  | [], _, j, v, hv => by simp at hv
  | v0 :: vs, h, 0, v, hv => by
    simp only [List.getElem?_cons_zero, Option.some.injEq] at hv
    subst hv
    exact h.1
  | v0 :: vs, h, j + 1, v, hv => far_mem h.2 j v (by simpa using hv)

section
variable {N : Nat} {E : List (Nat × Value)} {a : Act}
theorem Fr.putFar (h : Fr N E a) {k : Nat} (hk : look E k = none) (v : Value) : Fr N E (a.put (some k) v) := by
  refine ⟨by simp [Act.put, h.size], h.defers, fun j u hj => ?_⟩
  have e : k ≠ j := by
    rintro rfl
    rw [hk] at hj
    cases hj
  have h1 := h.get j u hj
  simp only [Act.put, Act.eval, Array.getD_eq_getD_getElem?] at h1 ⊢
  rw [Array.getElem?_setIfInBounds_ne (by omega)]
  exact h1
theorem Fr.more (h : Fr N E a) {k : Nat} {v : Value} (hv : a.eval (.tmp k) = v) : Fr N ((k, v) :: E) a := by
  refine ⟨h.size, h.defers, fun j u hj => ?_⟩
  rw [look_cons] at hj
  by_cases e : k = j
  · subst e
    rw [if_pos rfl] at hj
    cases hj
    exact hv
  · rw [if_neg e] at hj
    exact h.get j u hj
theorem Fr.tail {k : Nat} {v : Value} (h : Fr N ((k, v) :: E) a) (hk : look E k = none) : Fr N E a := by
  refine ⟨h.size, h.defers, fun j u hj => h.get j u ?_⟩
  rw [look_cons, if_neg]
  · exact hj
  · rintro rfl
    rw [hk] at hj
    cases hj
theorem eval_put_same (h : Fr N E a) {k : Nat} (hk : Nat.blt k N = true) (v : Value) : (a.put (some k) v).eval (.tmp k) = v := (h.put hk v).get k v (by rw [look_cons, if_pos rfl])
theorem eval_put_ne {k j : Nat} (hk : k ≠ j) (v : Value) : (a.put (some k) v).eval (.tmp j) = a.eval (.tmp j) := by
  simp only [Act.put, Act.eval, Array.getD_eq_getD_getElem?]
  rw [Array.getElem?_setIfInBounds_ne (by omega)]
theorem Fr.ptrs (h : Fr N E a) (gs : Nat → Nat) : ∀ (vs : List NV) (j0 : Nat), (∀ (j : Nat) (v : NV), vs[j]? = some v → a.eval (.tmp v.t) = .pointer (some ⟨gs (j0 + j), 0, none⟩)) → Fr N (ptrs vs j0 gs E) a
  | [], _, _ => h
  | v :: vs, j0, hv => by
    refine Fr.more (Fr.ptrs h gs vs (j0 + 1) fun j u hu => ?_) (hv 0 v rfl)
    have := hv (j + 1) u (by simpa using hu)
    rwa [← Nat.add_assoc, Nat.add_right_comm] at this
end

/-- Which variables are left (numbers from n on) are just what may come next, in whatever order they come. -/
def newC (ops : Array Oper) (n : Nat) (lend : Array Bool) : Nat → List Nat → Array Bool → Bool
  | 0, _, listed => decide (listed = lend)
  | f + 1, rem, listed => decide (Region.ready .any ops listed = rem.map (n + ·)) && rem.all fun j => newC ops n lend f (rem.erase j) (listed.setIfInBounds (n + j) true)

def tsApart : List NV → Bool
  | [] => true
  | v :: vs => (vs.all fun u => !(v.t == u.t)) && tsApart vs
theorem tsApart_lt : ∀ {vs : List NV}, tsApart vs = true → ∀ (i j : Nat) (vi vj : NV), i < j → vs[i]? = some vi → vs[j]? = some vj → vi.t ≠ vj.t
  | [], _, i, j, vi, vj, _, hi, _ => by simp at hi
  | v :: vs, h, 0, j + 1, vi, vj, _, hi, hj => by
    simp only [tsApart, Bool.and_eq_true, List.all_eq_true] at h
    simp only [List.getElem?_cons_zero, Option.some.injEq, List.getElem?_cons_succ] at hi hj
    subst hi
    have := h.1 vj (List.mem_of_getElem? hj)
    simpa using this
  | v :: vs, h, i + 1, j + 1, vi, vj, hij, hi, hj => by
    simp only [tsApart, Bool.and_eq_true] at h
    exact tsApart_lt h.2 i j vi vj (by omega) (by simpa using hi) (by simpa using hj)
theorem tsApart_ne {vs : List NV} (h : tsApart vs = true) {i j : Nat} {vi vj : NV} (hij : i ≠ j) (hi : vs[i]? = some vi) (hj : vs[j]? = some vj) : vi.t ≠ vj.t := by
  rcases Nat.lt_or_gt_of_ne hij with h1 | h1
  · exact tsApart_lt h i j vi vj h1 hi hj
  · exact (tsApart_lt h j i vj vi h1 hj hi).symm

section
variable {P : Program} {Q : Exit → Act → World → Prop} {N : Nat} {E : List (Nat × Value)} {w : World}
/-- What is asked where the variables have come. -/
def newEnd (P : Program) (ops : Array Oper) (Q : Exit → Act → World → Prop) (w : World) (vs : List NV) (T : List Oper) (N : Nat) (E : List (Nat × Value)) : Prop :=
  ∀ gs w', (∀ j, j < vs.length → w.heap.size ≤ gs j) → (∀ i j, i < vs.length → j < vs.length → i ≠ j → gs i ≠ gs j) → Up w w' → (∀ (j : Nat) (v : NV), vs[j]? = some v → Blk w' (gs j) v.ty v.zs) → lF P ops Q T N (ptrs vs 0 gs E) w'
def newPost (P : Program) (ops : Array Oper) (Q : Exit → Act → World → Prop) (w : World) (vs : List NV) (T : List Oper) (N : Nat) (a' : Act) : Prop :=
  ∃ E', Fr N E' a' ∧ far E' vs ∧ newEnd P ops Q w vs T N E'

theorem news_any {ops : Array Oper} {n m M : Nat} {lend : Array Bool} (vs : List NV) (hap : tsApart vs = true) (hnv : ∀ j v, vs[j]? = some v → ∃ o, ops[n + j]? = some o ∧ nvOne P N o v) (hE : far E vs)
    (fin : ∀ gs w0 a, Up w w0 → Fr N (ptrs vs 0 gs E) a → (∀ j, j < vs.length → w.heap.size ≤ gs j) → (∀ i j, i < vs.length → j < vs.length → i ≠ j → gs i ≠ gs j) → (∀ (j : Nat) (v : NV), vs[j]? = some v → Blk w0 (gs j) v.ty v.zs) →
      wpAnyU P .any ops (Up w) Q M m 0 w0 lend a) :
    ∀ (f : Nat) (rem : List Nat) (listed : Array Bool) (w0 : World) (a : Act) (gs : Nat → Nat), newC ops n lend f rem listed = true → rem.Nodup → f = rem.length → (∀ j ∈ rem, j < vs.length) → Up w w0 → Fr N E a →
      (∀ (j : Nat) (v : NV), j ∉ rem → vs[j]? = some v → w.heap.size ≤ gs j ∧ Blk w0 (gs j) v.ty v.zs ∧ a.eval (.tmp v.t) = .pointer (some ⟨gs j, 0, none⟩)) →
      (∀ i j, i < vs.length → j < vs.length → i ∉ rem → j ∉ rem → i ≠ j → gs i ≠ gs j) → wpAnyU P .any ops (Up w) Q M m f w0 listed a
  | 0, rem, listed, w0, a, gs, hc, _, hf, _, hU, hF, hd, hg => by
    obtain rfl : rem = [] := List.eq_nil_of_length_eq_zero hf.symm
    simp only [newC, decide_eq_true_eq] at hc
    subst hc
    refine fin gs w0 a hU (hF.ptrs gs vs 0 fun j v hv => ?_) (fun j hj => ?_) (fun i j hi hj hij => hg i j hi hj (by simp) (by simp) hij) (fun j v hv => (hd j v (by simp) hv).2.1)
    · rw [Nat.zero_add]
      exact (hd j v (by simp) hv).2.2
    · exact (hd j vs[j] (by simp) (List.getElem?_eq_getElem hj)).1
  | f + 1, rem, listed, w0, a, gs, hc, hnd, hf, hlt, hU, hF, hd, hg => by
    simp only [newC, Bool.and_eq_true, decide_eq_true_eq, List.all_eq_true] at hc
    obtain ⟨hr, hc⟩ := hc
    refine ⟨?_, fun i hi => ?_⟩
    · rw [hr]
      cases rem with
      | nil => cases hf
      | cons j rem => exact List.cons_ne_nil _ _
    · rw [hr] at hi
      obtain ⟨j, hj, rfl⟩ := List.mem_map.1 hi
      have hjl := hlt j hj
      have hv : vs[j]? = some vs[j] := List.getElem?_eq_getElem hjl
      generalize vs[j] = v at hv
      obtain ⟨o, ho, hgd, hds, hb, hop, hz⟩ := hnv j v hv
      refine wpAnyU_new (base := w.heap.size) ho hgd (exec_alloc hop hz) (fun _ _ h k => h.step k) (fun _ h => h.size) hU fun w1 hw1 hC1 hp => ?_
      rw [hds]
      have hfar := far_mem hE j v hv
      have hal := (Below.refl w1.heap.size w1).alloc (Nat.le_refl _) (.cells v.zs v.ty)
      have hem : ∀ i, i ∉ rem.erase j → i = j ∨ i ∉ rem := fun i hi => by
        by_cases e : i = j
        · exact .inl e
        · exact .inr fun hm => hi ((List.mem_erase_of_ne e).2 hm)
      refine news_any vs hap hnv hE fin f (rem.erase j) _ _ _ (fun i => if i = j then w1.heap.size else gs i) (hc j hj) (hnd.erase j) (by rw [List.length_erase_of_mem hj]; omega) (fun i hi => hlt i (List.mem_of_mem_erase hi)) (hC1.step hal) (hF.putFar hfar _) ?_ ?_
      · intro i u hi hu
        by_cases e : i = j
        · subst e
          obtain rfl : u = v := Option.some.inj (hu.symm.trans hv)
          rw [if_pos rfl]
          exact ⟨hp, Blk.new w1 _ _, eval_put_same hF hb _⟩
        · rw [if_neg e]
          obtain ⟨h1, h2, h3⟩ := hd i u ((hem i hi).resolve_left e) hu
          exact ⟨h1, (h2.later hw1).later hal, by rw [eval_put_ne (tsApart_ne hap (Ne.symm e) hv hu)]; exact h3⟩
      · intro i k hi hk hir hkr hik
        have hlt1 : ∀ i, i < vs.length → i ∉ rem → gs i < w1.heap.size := fun i hi hir => ((hd i vs[i] hir (List.getElem?_eq_getElem hi)).2.1.later hw1).lt
        by_cases e : i = j
        · rw [if_pos e, if_neg (fun h => hik (e.trans h.symm))]
          have := hlt1 k hk ((hem k hkr).resolve_left (fun h => hik (e.trans h.symm)))
          omega
        · rw [if_neg e]
          by_cases e2 : k = j
          · rw [if_pos e2]
            have := hlt1 i hi ((hem i hir).resolve_left e)
            omega
          · rw [if_neg e2]
            exact hg i k hi hk ((hem i hir).resolve_left e) ((hem k hkr).resolve_left e2) hik

/-- **New variables**: n operations may be taken first; the variables come when they come; then the rest, in its order. -/
theorem c_new {id : Nat} {l : List Oper} (n : Nat) (vs : List NV) (hn : n + vs.length ≤ l.length) (hap : tsApart vs = true) (hnv : nvOk P N (l.drop n) vs) (hm : P.follows .mixedOrders = true)
    (hB : tailB l.toArray n vs.length (l.drop (n + vs.length)).length = true)
    (hC : newC l.toArray n (marks vs.length n (marks n 0 (Array.replicate l.toArray.size false))) vs.length (List.range vs.length) (marks n 0 (Array.replicate l.toArray.size false)) = true)
    (hQ : ∀ c a d v w, Q (.panic c) (a.put d v) w → Q (.panic c) a w)
    (h : bF P l.toArray (Up w) (newPost P l.toArray Q w vs (l.drop (n + vs.length)) N) (l.take n) N E) : cF P (.region id l.toArray true) Q N E w := fun a ha => by
  simp only [tailB, Bool.and_eq_true, decide_eq_true_eq] at hB
  obtain ⟨⟨⟨⟨hs, hh⟩, hz⟩, hsk⟩, hf⟩ := hB
  have hL : (l.take n).length = n := by rw [List.length_take]; omega
  refine wp_region_any hm ?_
  have hT : ∀ j, j < (l.drop (n + vs.length)).length → (l.drop (n + vs.length))[j]? = l.toArray[vs.length + n + j]? := fun j _ => by
    simp only [List.getElem?_drop, List.getElem?_toArray]
    congr 1
    omega
  have hG : wpAnyU P .any l.toArray (Up w) Q (vs.length + n) (l.drop (n + vs.length)).length (vs.length + (l.take n).length) w.drew (Array.replicate l.toArray.size false) a := by
    refine wpAnyU_head (fun _ _ h k => h.step k) hs hQ vs.length w.drew (Up.drew w) (l.take n) 0 _ a (Closed.none _) (by omega) (fun j hj => ?_) (by rw [hL]; exact hh) ?_
    · rw [hL] at hj
      simp [hj]
    rw [hL]
    refine wpB_mono (fun a' h' => ?_) _ a (h a ha)
    obtain ⟨E', hF, hE, hk⟩ := h'
    refine news_any (E := E') (w := w) vs hap (fun j v hv => ?_) hE (fun gs w0 a hU hF hb hd hB => ⟨fun j hj i hi => ?_, fun w' hw' => ?_⟩) vs.length (List.range vs.length) _ w.drew a' (fun _ => 0) hC List.nodup_range (by simp) (fun j hj => by simpa using hj) (Up.drew w) hF ?_ ?_
    · obtain ⟨o, h1, h2⟩ := nvOk_get hnv j v hv
      exact ⟨o, by simpa using h1, h2⟩
    · have h1 := List.all_eq_true.1 hsk j hj
      exact List.all_eq_true.1 h1 i (List.mem_range.2 hi)
    · exact wpAny_forced _ (vs.length + n) _ _ w' hT hf (hk gs w' hb hd (hU.step hw') (fun j v hv => (hB j v hv).later hw') a hF)
    · intro j v hj hv
      exact absurd (List.mem_range.2 (List.getElem?_eq_some_iff.1 hv).1) hj
    · intro i j hi hj h1
      exact absurd (List.mem_range.2 hi) h1
  have h2 := wpAny_of_U (vs.length + (l.take n).length) _ a w.drew hG
  rw [hL] at h2
  have e : l.toArray.size = (l.drop (n + vs.length)).length + (vs.length + n) := by rw [hz, Nat.add_assoc]
  rw [← e] at h2
  exact h2

/-- The same in the text's order. -/
theorem l_news {ops : Array Oper} {T : List Oper} : ∀ (vs : List NV) (l : List Oper) (j0 : Nat) (gs : Nat → Nat) (w : World) (E : List (Nat × Value)), nvOk P N l vs → l.drop vs.length = T →
    (∀ (gs' : Nat → Nat) (w' : World), (∀ j, j < j0 → gs' j = gs j) → (∀ j, j < vs.length → w.heap.size ≤ gs' (j0 + j)) → (∀ i j, i < vs.length → j < vs.length → i ≠ j → gs' (j0 + i) ≠ gs' (j0 + j)) → Up w w' → (∀ (j : Nat) (v : NV), vs[j]? = some v → Blk w' (gs' (j0 + j)) v.ty v.zs) →
      ∀ a, Fr N E a → (∀ (j : Nat) (v : NV), vs[j]? = some v → a.eval (.tmp v.t) = .pointer (some ⟨gs' (j0 + j), 0, none⟩)) → wpList P ops Q T a w') →
    far E vs → tsApart vs = true → ∀ a, Fr N E a → wpList P ops Q l a w
  | [], l, j0, gs, w, E, _, hT, h, _, _, a, ha => by
    obtain rfl : l = T := by simpa using hT
    exact h gs w (fun _ _ => rfl) (fun _ h => absurd h (by simp)) (fun _ _ h => absurd h (by simp)) (Up.refl w) (fun _ _ h => by simp at h) a ha (fun _ _ h => by simp at h)
  | _ :: _, [], _, _, _, _, hnv, _, _, _, _, _, _ => hnv.elim
  | v :: vs, o :: l, j0, gs, w, E, hnv, hT, h, hE, hap, a, ha => by
    obtain ⟨⟨hgd, hds, hb, hop, hz⟩, hnv⟩ := hnv
    have hap' : tsApart vs = true := by
      simp only [tsApart, Bool.and_eq_true] at hap
      exact hap.2
    refine wpl_alloc hgd hop hz ?_
    rw [hds]
    have hF := ha.putFar hE.1 (.pointer (some ⟨w.heap.size, 0, none⟩))
    have hal := (Below.refl w.heap.size w).alloc (Nat.le_refl _) (.cells v.zs v.ty)
    refine l_news (T := T) vs l (j0 + 1) (fun j => if j = j0 then w.heap.size else gs j) _ ((v.t, .pointer (some ⟨w.heap.size, 0, none⟩)) :: E) hnv (by simpa using hT) (fun gs' w' hg hge hd hU hB a' ha' hp => ?_) ?_ hap' _ (ha.put hb _)
    · have hsz : (w.alloc (.cells v.zs v.ty)).heap.size = w.heap.size + 1 := World.size_alloc _ _
      rw [hsz] at hge
      have e0 : gs' j0 = w.heap.size := by rw [hg j0 (by omega), if_pos rfl]
      refine h gs' w' (fun j hj => by rw [hg j (by omega), if_neg (by omega)]) (fun j hj => ?_) (fun i j hi hj hij => ?_) ((Up.refl w).alloc _ |>.step hU) (fun j u hu => ?_) a' (ha'.tail hE.1) (fun j u hu => ?_)
      · cases j with
        | zero => rw [Nat.add_zero, e0]; exact Nat.le_refl _
        | succ j =>
          have := hge j (by simpa using hj)
          rw [Nat.add_right_comm] at this
          rw [← Nat.add_assoc]
          omega
      · have hge' : ∀ j, j < vs.length → w.heap.size + 1 ≤ gs' (j0 + (j + 1)) := fun j hj => by
          have := hge j hj
          rw [Nat.add_right_comm, Nat.add_assoc] at this
          exact this
        cases i with
        | zero =>
          cases j with
          | zero => exact absurd rfl hij
          | succ j =>
            have := hge' j (by simpa using hj)
            have e1 : gs' (j0 + 0) = w.heap.size := by rw [Nat.add_zero, e0]
            rw [e1]
            omega
        | succ i =>
          cases j with
          | zero =>
            have := hge' i (by simpa using hi)
            have e1 : gs' (j0 + 0) = w.heap.size := by rw [Nat.add_zero, e0]
            rw [e1]
            omega
          | succ j =>
            have := hd i j (by simpa using hi) (by simpa using hj) (by omega)
            rwa [Nat.add_right_comm, Nat.add_right_comm j0 1 j] at this
      · cases j with
        | zero =>
          simp only [List.getElem?_cons_zero, Option.some.injEq] at hu
          subst hu
          rw [Nat.add_zero, e0]
          exact (Blk.new w _ _).later hU
        | succ j =>
          have := hB j u (by simpa using hu)
          rwa [Nat.add_right_comm] at this
      · cases j with
        | zero =>
          simp only [List.getElem?_cons_zero, Option.some.injEq] at hu
          subst hu
          rw [Nat.add_zero, e0]
          exact ha'.get _ _ (by rw [look_cons, if_pos rfl])
        | succ j =>
          have := hp j u (by simpa using hu)
          rwa [Nat.add_right_comm] at this
    · refine far_cons (fun u hu => ?_) hE.2
      simp only [tsApart, Bool.and_eq_true, List.all_eq_true] at hap
      have := hap.1 u hu
      simpa using this
theorem c_newF {id : Nat} {l : List Oper} (n : Nat) (vs : List NV) (hap : tsApart vs = true) (hnv : nvOk P N (l.drop n) vs)
    (h : bF P l.toArray (Up w) (newPost P l.toArray Q w vs (l.drop (n + vs.length)) N) (l.take n) N E) : cF P (.region id l.toArray false) Q N E w := fun a ha => by
  refine reg_tailF n (wpB_mono (fun a' h' w' hw' => ?_) _ _ (h a ha))
  obtain ⟨E', hF, hE, hk⟩ := h'
  refine l_news vs (l.drop n) 0 (fun _ => 0) w' E' hnv (by rw [List.drop_drop]) (fun gs w2 _ hge hd hU hB a2 ha2 hp => ?_) hE hap a' hF
  simp only [Nat.zero_add] at hge hd hB hp
  exact hk gs w2 (fun j hj => Nat.le_trans hw'.size (hge j hj)) hd (hw'.step hU) hB a2 (ha2.ptrs gs vs 0 (by simpa using hp))

/-! ### What they hold at first -/
def stOk : List NV → List Operand → List Oper → List Oper → Prop
  | [], [], T, T' => T = T'
  | v :: vs, x :: xs, o :: T, T' => (o.guard = none ∧ o.dst = none ∧ o.op = .store v.ty (.tmp v.t) x) ∧ stOk vs xs T T'
  | _, _, _, _ => False
def valOk (P : Program) (E : List (Nat × Value)) : List NV → List Operand → List (Array Value) → Prop
  | [], [], [] => True
  | v :: vs, x :: xs, c :: cs => (ev E x = some (.agg c) ∧ v.zs.size = c.size ∧ (P.info? v.ty).map (·.size) = some c.size ∧ ∀ u ∈ c.toList, u.oneCell' = true) ∧ valOk P E vs xs cs
  | _, _, _ => False
def blks (w : World) : List NV → List (Array Value) → Nat → (Nat → Nat) → Prop
  | v :: vs, c :: cs, j, gs => Blk w (gs j) v.ty c ∧ blks w vs cs (j + 1) gs
  | _, _, _, _ => True
theorem blks_row {w : World} {gs : Nat → Nat} {g : Nat} (c : Array Value) : ∀ (vs : List NV) (cs : List (Array Value)) (j : Nat), (∀ i, i < vs.length → gs (j + i) ≠ g) → blks w vs cs j gs → blks (w.setRow g c) vs cs j gs
  | [], _, _, _, _ => by unfold blks; trivial
  | _ :: _, [], _, _, _ => by unfold blks; trivial
  | v :: vs, c0 :: cs, j, hg, h => ⟨h.1.rowFar (hg 0 (by simp)) _, blks_row c vs cs (j + 1) (fun i hi => by have := hg (i + 1) (by simpa using hi); rwa [← Nat.add_assoc, Nat.add_right_comm] at this) h.2⟩
theorem l_stores {ops : Array Oper} {T' : List Oper} {W : World} {gs : Nat → Nat} : ∀ (vs : List NV) (xs : List Operand) (cs : List (Array Value)) (T : List Oper) (j0 : Nat) (w : World), stOk vs xs T T' → valOk P E vs xs cs →
    (∀ (j : Nat) (v : NV), vs[j]? = some v → look E v.t = some (.pointer (some ⟨gs (j0 + j), 0, none⟩))) → (∀ j, j < vs.length → W.heap.size ≤ gs (j0 + j)) → (∀ i j, i < vs.length → j < vs.length → i ≠ j → gs (j0 + i) ≠ gs (j0 + j)) → Up W w → (∀ (j : Nat) (v : NV), vs[j]? = some v → Blk w (gs (j0 + j)) v.ty v.zs) →
    (∀ w', Up W w' → (∀ g t c, (∀ j, j < vs.length → gs (j0 + j) ≠ g) → Blk w g t c → Blk w' g t c) → blks w' vs cs j0 gs → lF P ops Q T' N E w') → lF P ops Q T N E w
  | [], xs, cs, T, j0, w, hst, hv, _, _, _, hU, _, h => by
    cases xs with
    | cons => exact hst.elim
    | nil =>
      obtain rfl : T = T' := hst
      exact h w hU (fun _ _ _ _ h => h) (by unfold blks; trivial)
  | v :: vs, xs, cs, T, j0, w, hst, hv, hl, hge, hd, hU, hB, h => by
    cases xs with
    | nil => exact hst.elim
    | cons x xs =>
      cases T with
      | nil => exact hst.elim
      | cons o T =>
        cases cs with
        | nil => exact hv.elim
        | cons c cs =>
          obtain ⟨⟨hgd, hds, hop⟩, hst⟩ := hst
          obtain ⟨⟨hx, hz, hi, ho⟩, hv⟩ := hv
          intro a ha
          have h0 := hB 0 v rfl
          have hd0 : ∀ j, j < vs.length → gs (j0 + 1 + j) ≠ gs j0 := fun j hj => by
            have := hd (j + 1) 0 (by simpa using hj) (by simp) (by omega)
            rwa [← Nat.add_assoc, Nat.add_right_comm, Nat.add_zero] at this
          rw [Nat.add_zero] at h0
          refine wpList_store_row hgd v.ty (.tmp v.t) x hop (gs j0) (ha.get _ _ (hl 0 v rfl)) c (ha.eval hx) v.ty v.zs h0 hi hz ho ?_
          rw [hds]
          refine l_stores (gs := gs) (W := W) vs xs cs T (j0 + 1) (w.setRow (gs j0) c) hst hv (fun j u hu => ?_) (fun j hj => ?_) (fun i j hi hj hij => ?_) (up_row hU (hge 0 (by simp)) _) (fun j u hu => ?_) (fun w' hU' hK hb => ?_) a ha
          · have := hl (j + 1) u (by simpa using hu)
            rwa [← Nat.add_assoc, Nat.add_right_comm] at this
          · have := hge (j + 1) (by simpa using hj)
            rwa [← Nat.add_assoc, Nat.add_right_comm] at this
          · have := hd (i + 1) (j + 1) (by simpa using hi) (by simpa using hj) (by omega)
            rwa [← Nat.add_assoc, ← Nat.add_assoc, Nat.add_right_comm, Nat.add_right_comm j0 j 1] at this
          · have := hB (j + 1) u (by simpa using hu)
            rw [← Nat.add_assoc, Nat.add_right_comm] at this
            exact this.rowFar (hd0 j (List.getElem?_eq_some_iff.1 hu).1) _
          · refine h w' hU' (fun g t c' hg hb' => hK g t c' (fun j hj => ?_) (hb'.rowFar (Ne.symm (by have := hg 0 (by simp); rwa [Nat.add_zero] at this)) _)) ⟨hK _ _ _ hd0 (h0.row _), hb⟩
            have := hg (j + 1) (by simpa using hj)
            rwa [← Nat.add_assoc, Nat.add_right_comm] at this
theorem look_ptrs {gs : Nat → Nat} {E : List (Nat × Value)} {k : Nat} : ∀ (vs : List NV) (j0 : Nat), (∀ v ∈ vs, v.t ≠ k) → look (ptrs vs j0 gs E) k = look E k
  | [], _, _ => rfl
  | v :: vs, j0, h => by
    rw [ptrs, look_cons, if_neg (h v (by simp))]
    exact look_ptrs vs (j0 + 1) fun u hu => h u (by simp [hu])
theorem look_ptr {gs : Nat → Nat} {E : List (Nat × Value)} : ∀ (vs : List NV) (j0 : Nat), tsApart vs = true → ∀ (j : Nat) (v : NV), vs[j]? = some v → look (ptrs vs j0 gs E) v.t = some (.pointer (some ⟨gs (j0 + j), 0, none⟩))
  | [], _, _, _, _, hv => by simp at hv
  | v0 :: vs, j0, hap, 0, v, hv => by
    simp only [List.getElem?_cons_zero, Option.some.injEq] at hv
    subst hv
    rw [ptrs, look_cons, if_pos rfl, Nat.add_zero]
  | v0 :: vs, j0, hap, j + 1, v, hv => by
    have hne : v0.t ≠ v.t := tsApart_ne hap (i := 0) (j := j + 1) (by omega) rfl hv
    simp only [tsApart, Bool.and_eq_true] at hap
    rw [ptrs, look_cons, if_neg hne, look_ptr vs (j0 + 1) hap.2 j v (by simpa using hv), ← Nat.add_assoc, Nat.add_right_comm]
theorem ev_far {gs : Nat → Nat} {E : List (Nat × Value)} {vs : List NV} (hE : far E vs) {x : Operand} {v : Value} (hx : ev E x = some v) : ev (ptrs vs 0 gs E) x = some v := by
  cases x with
  | tmp t =>
    show look (ptrs vs 0 gs E) t = some v
    rw [look_ptrs vs 0 fun u hu => ?_]
    · exact hx
    · rintro rfl
      obtain ⟨j, hj⟩ := List.getElem?_of_mem hu
      have h1 := far_mem hE j u hj
      have h2 : look E u.t = some v := hx
      rw [h1] at h2
      cases h2
  | const u => exact hx
  | global g => exact hx
  | func f => exact hx
theorem valOk_far {gs : Nat → Nat} {E : List (Nat × Value)} {ws : List NV} (hE : far E ws) : ∀ (vs : List NV) (xs : List Operand) (cs : List (Array Value)), valOk P E vs xs cs → valOk P (ptrs ws 0 gs E) vs xs cs
  | [], [], [], _ => trivial
  | _ :: vs, _ :: xs, _ :: cs, h => ⟨⟨ev_far hE h.1.1, h.1.2⟩, valOk_far hE vs xs cs h.2⟩
  | [], [], _ :: _, h => h.elim
  | [], _ :: _, _, h => h.elim
  | _ :: _, [], _, h => h.elim
  | _ :: _, _ :: _, [], h => h.elim
/-- **'x, y, .. := u, v, ..'**, behind the reads and calls. -/
theorem f_new {ops : Array Oper} {vs : List NV} {T T' : List Oper} (xs : List Operand) (cs : List (Array Value)) (hE : far E vs) (hap : tsApart vs = true) (hst : stOk vs xs T T') (hv : valOk P E vs xs cs)
    (h : ∀ gs w', (∀ j, j < vs.length → w.heap.size ≤ gs j) → (∀ i j, i < vs.length → j < vs.length → i ≠ j → gs i ≠ gs j) → Up w w' → blks w' vs cs 0 gs → lF P ops Q T' N (ptrs vs 0 gs E) w') :
    bF P ops (Up w) (newPost P ops Q w vs T N) [] N E := fun a ha => wpB_nil ⟨E, ha, hE, fun gs w' hge hd hU hB => by
  refine l_stores (W := w) (gs := gs) vs xs cs T 0 w' hst (valOk_far hE _ _ _ hv) (fun j v hv => look_ptr vs 0 hap j v hv) (by simpa using hge) (by simpa using hd) hU (by simpa using hB) fun w2 hU2 _ hb => ?_
  exact h gs w2 hge hd hU2 hb⟩
end
end Go.Proofs.YtgmiaaapaiccdaaDoor
/-
  STEPS OVER FRAMES BY WHAT IS KNOWN OF THEM: fields, rows, calls that hand back one of a set, structs put together, new cells.
-/
namespace Go.Proofs.YtgmiaaapaiccdaaDoor
open Go.RowKit Go.IntWalk

section
variable {N : Nat} {E : List (Nat × Value)} {a : Act}
theorem Fr.evals (ha : Fr N E a) : ∀ (l : List Operand) (m : List Value), l.map (ev E) = m.map some → l.map a.eval = m
  | [], [], _ => rfl
  | [], _ :: _, h => by cases h
  | _ :: _, [], h => by cases h
  | y :: l, u :: m, h => by
    simp only [List.map_cons, List.cons.injEq] at h ⊢
    exact ⟨ha.eval h.1, Fr.evals ha l m h.2⟩
theorem Fr.parts (ha : Fr N E a) : ∀ (l : List (Nat × Operand)) (m : List (Nat × Value)), l.map (fun p => (p.1, ev E p.2)) = m.map (fun p => (p.1, some p.2)) → (l.map fun (i, x) => (i, a.eval x)) = m
  | [], [], _ => rfl
  | [], _ :: _, h => by cases h
  | _ :: _, [], h => by cases h
  | y :: l, u :: m, h => by
    simp only [List.map_cons, List.cons.injEq, Prod.mk.injEq] at h ⊢
    refine ⟨?_, Fr.parts ha l m h.2⟩
    rw [ha.eval h.1.2, h.1.1]
end

section
variable {P : Program} {ops : Array Oper} {C0 : World → Prop} {Q : Act → Prop} {N : Nat} {E : List (Nat × Value)} {o : Oper} {rest : List Oper} {k : Nat}
/-- The address of a field. -/
theorem f_fld {s : TypeId} {x : Operand} {f : Nat} (b off off' : Nat) (hg : o.guard = none) (hd : o.dst = some k) (hk : Nat.blt k N = true) (ho : o.op = .fieldAddr s x f) (hx : ev E x = some (.pointer (some ⟨b, off, none⟩)))
    (hr : ∀ w, (Instr.fieldAt s (.pointer (some ⟨b, off, none⟩)) f).run P w = .ok (.pointer (some ⟨b, off', none⟩)) w) (hn : bF P ops C0 Q rest N ((k, .pointer (some ⟨b, off', none⟩)) :: E)) : bF P ops C0 Q (o :: rest) N E :=
  f_val _ hg hd hk (fun a ha w _ => by
    have h1 := ha.eval hx
    unfold execOp
    simp only [ho, h1, Sem.run_bind, hr, Result.andThen_ok, Sem.run_pure]) hn
/-- The address of a part of an array or a slice. -/
theorem f_ix {t : TypeId} {x y : Operand} (p : Value) (i : Int) (q : Addr) (hg : o.guard = none) (hd : o.dst = some k) (hk : Nat.blt k N = true) (ho : o.op = .indexAddr t x y) (hx : ev E x = some p) (hy : ev E y = some (.int .i64 i))
    (hr : ∀ w, (Instr.indexAt t p (.int .i64 i)).run P w = .ok (.pointer (some q)) w) (hn : bF P ops C0 Q rest N ((k, .pointer (some q)) :: E)) : bF P ops C0 Q (o :: rest) N E :=
  f_val _ hg hd hk (fun a ha w _ => by
    have h1 := ha.eval hx
    have h2 := ha.eval hy
    unfold execOp
    simp only [ho, h1, h2, Sem.run_bind, hr, Result.andThen_ok, Sem.run_pure]) hn
/-- A row (or a struct) is read. -/
theorem f_row {ty : TypeId} {x : Operand} (b off : Nat) (cs : List Value) (d : TypeDesc) (hg : o.guard = none) (hd : o.dst = some k) (hk : Nat.blt k N = true) (ho : o.op = .load ty x) (hx : ev E x = some (.pointer (some ⟨b, off, none⟩)))
    (hc : ∀ w, C0 w → w.rangeAt b off cs) (hu : P.underlying ty = some d) (hr : d.isRow = true) (hi : (P.info? ty).map (·.size) = some cs.length)
    (hn : bF P ops C0 Q rest N ((k, .agg cs.toArray) :: E)) : bF P ops C0 Q (o :: rest) N E :=
  f_val _ hg hd hk (fun a ha w hw => by
    have h1 := ha.eval hx
    unfold execOp
    simp only [ho, h1, Instr.loadAt, Instr.sureAddr, Sem.run_bind, Sem.run_pure, Result.andThen_ok, run_loadVar_mid w b off ty cs d (hc w hw) hu hr hi]) hn
theorem f_build {t : TypeId} {parts : Array (Nat × Operand)} (vs : List (Nat × Value)) (cells : Array Value) (hg : o.guard = none) (hd : o.dst = some k) (hk : Nat.blt k N = true) (ho : o.op = .build t parts)
    (hv : parts.toList.map (fun p => (p.1, ev E p.2)) = vs.map (fun p => (p.1, some p.2))) (hb : P.built t vs = some cells) (hn : bF P ops C0 Q rest N ((k, .agg cells) :: E)) : bF P ops C0 Q (o :: rest) N E :=
  f_val _ hg hd hk (fun a ha w _ => by
    have h1 := ha.parts _ _ hv
    unfold execOp
    simp only [ho, Sem.run_bind, run_build w t _ cells (by rw [Array.toList_map, h1]; exact hb), Result.andThen_ok, Sem.run_pure]) hn
theorem f_extract {x : Operand} {i : Nat} {vs : Array Value} (v : Value) (hg : o.guard = none) (hd : o.dst = some k) (hk : Nat.blt k N = true) (ho : o.op = .extract x i) (hx : ev E x = some (.tuple vs)) (hv : vs[i]? = some v)
    (hn : bF P ops C0 Q rest N ((k, v) :: E)) : bF P ops C0 Q (o :: rest) N E :=
  f_val _ hg hd hk (fun a ha w _ => by
    have h1 := ha.eval hx
    unfold execOp
    simp only [ho, h1]
    go_simp) hn
/-- Two rows, by '=='. -/
theorem f_eq {t t' : TypeId} {x y : Operand} {q : Bool} (xs ys : Array Value) (hg : o.guard = none) (hd : o.dst = some k) (hk : Nat.blt k N = true) (ho : o.op = .binOp .eql t x y t') (hx : ev E x = some (.agg xs)) (hy : ev E y = some (.agg ys))
    (ht : P.eqGuardType P.depth t = false) (he : ∀ w, (Op.equalIn 10000 t (.agg xs) (.agg ys)).run P w = .ok q w) (hn : bF P ops C0 Q rest N ((k, .bool q) :: E)) : bF P ops C0 Q (o :: rest) N E :=
  f_val _ hg hd hk (fun a ha w _ => by
    have h1 := ha.eval hx
    have h2 := ha.eval hy
    unfold execOp
    simp only [ho, h1, h2, Sem.run_bind, run_eqGuard_agg (hm := ht), Result.andThen_ok, binOp, Op.equal, Op.maxDepth, he, Sem.run_pure]) hn
end

section
variable {ops : Array Oper} {C0 : World → Prop} {Q : Act → Prop} {N : Nat} {E : List (Nat × Value)} {o : Oper} {rest : List Oper} {k : Nat}
/-- A call that hands back one of a set. -/
theorem f_callV {f : FuncId} {xs : Array Operand} {ats : Array TypeId} (args : Array Value) (V : Value → Prop) (hg : o.guard = none) (hd : o.dst = some k) (hk : Nat.blt k N = true)
    (hf : Own f) (hc : ∀ w, C0 w → Calls Tryd.prog f args w (fun e w' => ∃ v, e = .returned v ∧ V v ∧ Below w.heap.size w w'))
    (ho : o.op = .call { callee := .value (.func f), args := xs, argTypes := ats }) (hx : xs.toList.map (ev E) = args.toList.map some) (hn : ∀ v, V v → bF Tryd.prog ops C0 Q rest N ((k, v) :: E)) : bF Tryd.prog ops C0 Q (o :: rest) N E := fun a ha => by
  refine b_callV (f := f) (args := args) V (by simp [Region.wanted, hg]) hf hc ho (ha.evals _ _ hx) fun v hv => ?_
  rw [hd]
  exact hn v hv _ (ha.put hk v)
end

section
variable {P : Program} {ops : Array Oper} {Q : Exit → Act → World → Prop} {N : Nat} {E : List (Nat × Value)} {w : World} {o : Oper} {rest : List Oper} {k : Nat}
theorem l_box {ty : TypeId} {x : Operand} (cs : Array Value) (hg : o.guard = none) (hd : o.dst = some k) (hk : Nat.blt k N = true) (ho : o.op = .box ty x) (hx : ev E x = some (.agg cs))
    (hn : lF P ops Q rest N ((k, .pointer (some ⟨w.heap.size, 0, none⟩)) :: E) (w.alloc (.cells cs ty))) : lF P ops Q (o :: rest) N E w :=
  l_val _ hg hd hk (fun a ha => by
    have h1 := ha.eval hx
    unfold execOp
    simp only [ho, h1, Sem.run_bind, run_box_agg, Result.andThen_ok, Sem.run_pure]) hn
theorem l_alloc {ty : TypeId} {zs : Array Value} (hg : o.guard = none) (hd : o.dst = some k) (hk : Nat.blt k N = true) (ho : o.op = .alloc ty) (hz : (P.info? ty).bind (fun i => i.zero.map (·.cells)) = some zs)
    (hn : lF P ops Q rest N ((k, .pointer (some ⟨w.heap.size, 0, none⟩)) :: E) (w.alloc (.cells zs ty))) : lF P ops Q (o :: rest) N E w :=
  l_val _ hg hd hk (fun _ _ => exec_alloc ho hz _ w) hn
/-- The same, the world and the address by what is known of them. -/
theorem l_boxA {ty : TypeId} {x : Operand} (cs : Array Value) (hg : o.guard = none) (hd : o.dst = some k) (hk : Nat.blt k N = true) (ho : o.op = .box ty x) (hx : ev E x = some (.agg cs))
    (hn : ∀ W g, Up w W → g = w.heap.size → Blk W g ty cs → lF P ops Q rest N ((k, .pointer (some ⟨g, 0, none⟩)) :: E) W) : lF P ops Q (o :: rest) N E w :=
  l_box cs hg hd hk ho hx (hn _ _ ((Up.refl w).alloc _) rfl (Blk.new w _ _))
theorem l_allocA {ty : TypeId} (zs : Array Value) (hg : o.guard = none) (hd : o.dst = some k) (hk : Nat.blt k N = true) (ho : o.op = .alloc ty) (hz : (P.info? ty).bind (fun i => i.zero.map (·.cells)) = some zs)
    (hn : ∀ W g, Up w W → g = w.heap.size → Blk W g ty zs → lF P ops Q rest N ((k, .pointer (some ⟨g, 0, none⟩)) :: E) W) : lF P ops Q (o :: rest) N E w :=
  l_alloc hg hd hk ho hz (hn _ _ ((Up.refl w).alloc _) rfl (Blk.new w _ _))
/-- The whole of a variable is written. -/
theorem l_set {ty t : TypeId} {p x : Operand} (g : Nat) (old cells : Array Value) (hg : o.guard = none) (hd : o.dst = none) (ho : o.op = .store ty p x) (hp : ev E p = some (.pointer (some ⟨g, 0, none⟩))) (hx : ev E x = some (.agg cells))
    (hb : Blk w g t old) (hi : (P.info? ty).map (·.size) = some cells.size) (hz : old.size = cells.size) (h1 : ∀ v ∈ cells.toList, v.oneCell' = true) (hn : lF P ops Q rest N E (w.setRow g cells)) : lF P ops Q (o :: rest) N E w := fun a ha => by
  refine wpList_store_row hg ty p x ho g (ha.eval hp) cells (ha.eval hx) t old hb hi hz h1 ?_
  rw [hd]
  exact hn a ha
/-- Cells from the middle of a variable on are written. -/
theorem l_mid {ty : TypeId} {p x : Operand} (g off : Nat) (cells : Array Value) (hg : o.guard = none) (hd : o.dst = none) (ho : o.op = .store ty p x) (hp : ev E p = some (.pointer (some ⟨g, off, none⟩))) (hx : ev E x = some (.agg cells))
    (ht : w.there g off cells.size) (hi : (P.info? ty).map (·.size) = some cells.size) (h1 : cells.all (·.oneCell') = true) (hn : lF P ops Q rest N E (w.setCells g off cells.toList)) : lF P ops Q (o :: rest) N E w := fun a ha => by
  refine wpList_store_mid hg ty p x ho g off cells (ha.eval hp) (ha.eval hx) ht hi h1 ?_
  rw [hd]
  exact hn a ha
end
theorem f_eqlI {ops : Array Oper} {C0 : World → Prop} {Q : Act → Prop} {N : Nat} {E : List (Nat × Value)} {o : Oper} {rest : List Oper} {k : Nat} {x y : Operand} {t : TypeId} (m n : Int) (q : Bool) (hg : o.guard = none) (hd : o.dst = some k) (hk : Nat.blt k N = true) (ho : o.op = .binOp .eql 3 x y t) (hx : ev E x = some (.int .i64 m)) (hy : ev E y = some (.int .i64 n))
    (hr : decide (m = n) = q) (hn : bF Tryd.prog ops C0 Q rest N ((k, .bool q) :: E)) : bF Tryd.prog ops C0 Q (o :: rest) N E :=
  f_val _ hg hd hk (fun a ha w _ => by
    have h1 := ha.eval hx
    have h2 := ha.eval hy
    subst hr
    unfold execOp
    simp only [ho, h1, h2]
    by_cases e : m = n <;> go_simp) hn
theorem addI (a b : Nat) (h : a + b < 9223372036854775808) : IntKind.i64.wrap ((a : Int) + (b : Int)) = ((a + b : Nat) : Int) := by rw [i64_left, wrap64_in _ (by omega)]; omega
theorem subI (a b : Nat) (h : b ≤ a) (h2 : a < 9223372036854775808) : IntKind.i64.wrap ((a : Int) - (b : Int)) = ((a - b : Nat) : Int) := by rw [i64_left, wrap64_in _ (by omega)]; omega
/-- The world where cells of block g alone have turned. -/
structure OnlyG (w w' : World) (g : Nat) : Prop where
  size : w'.heap.size = w.heap.size
  blk : ∀ g' t c, g' ≠ g → Blk w g' t c → Blk w' g' t c
  cell : ∀ p : Addr, p.block ≠ g → w'.cell? p = w.cell? p
  up : ∀ w0, w0.heap.size ≤ g → Up w0 w → Up w0 w'
theorem OnlyG.set {w w' : World} {g : Nat} (h : OnlyG w w' g) (k : Nat) (u : Value) : OnlyG w (w'.setCell ⟨g, k, none⟩ u) g where
  size := by rw [← h.size]; simp [World.setCell]
  blk := fun g' t c hg hb => (h.blk g' t c hg hb).far hg u
  cell := fun p hp => by rw [World.cell?_setCell_other _ _ _ _ (fun e => hp (by rw [← e])), h.cell p hp]
  up := fun w0 hg hU => (h.up w0 hg hU).setCell hg u
theorem OnlyG.refl (w : World) (g : Nat) : OnlyG w w g := ⟨rfl, fun _ _ _ _ h => h, fun _ _ => rfl, fun _ _ h => h⟩
theorem setCells_blk {w0 : World} {g t : Nat} : ∀ (U A V Z : List Value) (w : World), Blk w g t (A ++ (V ++ Z)).toArray → V.length = U.length → OnlyG w0 w g → Blk (w.setCells g A.length U) g t (A ++ (U ++ Z)).toArray ∧ OnlyG w0 (w.setCells g A.length U) g
  | [], A, V, Z, w, hb, hl, ho => by
    obtain rfl : V = [] := List.eq_nil_of_length_eq_zero hl
    exact ⟨hb, ho⟩
  | u :: U, A, [], Z, w, hb, hl, ho => by simp at hl
  | u :: U, A, v :: V, Z, w, hb, hl, ho => by
    have h1 := hb.set A.length u
    have e : (A ++ (v :: V ++ Z)).toArray.setIfInBounds A.length u = (A ++ [u] ++ (V ++ Z)).toArray := by simp
    rw [e] at h1
    have h2 := setCells_blk U (A ++ [u]) V Z _ h1 (by simpa using hl) (ho.set A.length u)
    simp only [List.length_append, List.length_cons, List.length_nil, Nat.zero_add, List.append_assoc, List.cons_append, List.nil_append] at h2
    simpa [World.setCells] using h2
theorem there_mid {w : World} {g t : Nat} {A V Z : List Value} (h : Blk w g t (A ++ (V ++ Z)).toArray) : w.there g A.length V.length := fun j hj => by
  refine ⟨?_, h.free _⟩
  rw [h.cell]
  simp only [List.getElem?_toArray]
  rw [List.getElem?_append_right (by omega), Nat.add_sub_cancel_left, List.getElem?_append_left hj, List.getElem?_eq_getElem hj]
  rfl
section
variable {P : Program} {ops : Array Oper} {Q : Exit → Act → World → Prop} {N : Nat} {E : List (Nat × Value)} {w : World} {o : Oper} {rest : List Oper} {k : Nat}
/-- A part of a variable is written. -/
theorem l_midA {ty t : TypeId} {p x : Operand} (g off : Nat) (A V Z U : List Value) (hg : o.guard = none) (hd : o.dst = none) (ho : o.op = .store ty p x) (hp : ev E p = some (.pointer (some ⟨g, off, none⟩))) (hx : ev E x = some (.agg U.toArray))
    (hb : Blk w g t (A ++ (V ++ Z)).toArray) (hoff : off = A.length) (hl : V.length = U.length) (hi : (P.info? ty).map (·.size) = some U.length) (h1 : ∀ v ∈ U, v.oneCell' = true)
    (hn : ∀ W', OnlyG w W' g → Blk W' g t (A ++ (U ++ Z)).toArray → lF P ops Q rest N E W') : lF P ops Q (o :: rest) N E w := by
  subst hoff
  have h2 := setCells_blk U A V Z w hb hl (OnlyG.refl w g)
  exact l_mid g A.length U.toArray hg hd ho hp hx (by have := there_mid hb; rw [hl] at this; simpa using this) (by simpa using hi) (all_oneCell_toArray h1) (by simpa using hn _ h2.2 h2.1)
end
theorem k_then_ret {K : Act → World → Prop} {Q : Exit → Act → World → Prop} {N : Nat} {E : List (Nat × Value)} {w : World} (h : kF (Q .ret) N E w) : kF (Exit.then K Q .ret) N E w := h
/-- 'x = ..', 'return ..' behind the reads and calls. -/
theorem f_set {P : Program} {ops : Array Oper} {Q : Exit → Act → World → Prop} {N : Nat} {E : List (Nat × Value)} {w : World} {o : Oper} {rest : List Oper} {ty t : TypeId} {p x : Operand} (g : Nat) (old cells : Array Value) (hg : o.guard = none) (hd : o.dst = none) (ho : o.op = .store ty p x) (hp : ev E p = some (.pointer (some ⟨g, 0, none⟩))) (hx : ev E x = some (.agg cells))
    (hb : Blk w g t old) (hi : (P.info? ty).map (·.size) = some cells.size) (hz : old.size = cells.size) (h1 : ∀ v ∈ cells.toList, v.oneCell' = true) (hn : ∀ w', Up w w' → Blk (w'.setRow g cells) g t cells → lF P ops Q rest N E (w'.setRow g cells)) :
    bF P ops (Up w) (fun a' => ∀ w', Up w w' → wpList P ops Q (o :: rest) a' w') [] N E :=
  f_tail fun w' hw' => l_set g old cells hg hd ho hp hx (hw'.blk hb) hi hz h1 (hn w' hw' ((hw'.blk hb).row _))
/-- Behind the set of a variable of one's own. -/
theorem up_set {w0 w w' : World} {g t : Nat} {cs : Array Value} (h : Up w0 w) (hw : Up w w') (hg : w0.heap.size ≤ g) (c : Array Value) (_ : Blk w g t cs) : Up w0 (w'.setRow g c) := up_row (h.step hw) hg c
end Go.Proofs.YtgmiaaapaiccdaaDoor
/-
  WORDS OF 64 BITS: the library's Mul64 and Add64.
-/
namespace Go.Proofs.YtgmiaaapaiccdaaDoor
open Go.RowKit Go.IntWalk

set_option maxHeartbeats 1000000 in
theorem mul64_any (x y : Nat) (hx : x < 18446744073709551616) (hy : y < 18446744073709551616) (w : World) :
    Calls Tryd.prog 76 #[.int .u64 x, .int .u64 y] w fun e w' => e = .returned (.tuple #[.int .u64 ((x * y / 18446744073709551616 : Nat) : Int), .int .u64 ((x * y % 18446744073709551616 : Nat) : Int)]) ∧ w' = w := by
  obtain ⟨bd, bt, bw, hhi⟩ := Lib.mul64_hi x y hx hy
  have ba := Lib.half_mul_le (a := x / 4294967296) (b := y / 4294967296) (by omega) (by omega)
  have bb := Lib.half_mul_le (a := x / 4294967296) (b := y % 4294967296) (by omega) (by omega)
  have bc := Lib.half_mul_le (a := x % 4294967296) (b := y / 4294967296) (by omega) (by omega)
  have ba' : x / 4294967296 * (y / 4294967296) < 18446744073709551616 := by omega
  have bb' : x / 4294967296 * (y % 4294967296) < 18446744073709551616 := by omega
  have bc' : x % 4294967296 * (y / 4294967296) < 18446744073709551616 := by omega
  have bh1 : x / 4294967296 * (y / 4294967296) + (x / 4294967296 * (y % 4294967296) + x % 4294967296 * (y % 4294967296) / 4294967296) / 4294967296 < 18446744073709551616 := by omega
  have bh : x / 4294967296 * (y / 4294967296) + (x / 4294967296 * (y % 4294967296) + x % 4294967296 * (y % 4294967296) / 4294967296) / 4294967296 + ((x / 4294967296 * (y % 4294967296) + x % 4294967296 * (y % 4294967296) / 4294967296) % 4294967296 + x % 4294967296 * (y / 4294967296)) / 4294967296 < 18446744073709551616 := by omega
  go_enter Tryd.func76, Tryd.ntmps76
  go_wp2
  simp only [mask32 x hx, mask32 y hy, div32, mulN, addN, wrapN _ bd, wrapN _ bb', wrapN _ bt, mask32 _ bt, wrapN _ bc', wrapN _ bw, wrapN _ ba', wrapN _ bh1, wrapN _ bh, wrapM (x * y)]
  rw [hhi]
  go_ret2
  exact ⟨rfl, rfl⟩

theorem add64_run (x y c : Nat) (hc : c ≤ 1) (w : World) : (callFunc 77 #[.int .u64 x, .int .u64 y, .int .u64 c]).run Tryd.prog w =
    .ok (.value (.tuple #[.int .u64 (((x + y + c) % 18446744073709551616 : Nat) : Int), .int .u64 (((x + y + c) / 18446744073709551616 : Nat) : Int)])) w := by
  rw [run_callFunc_extern Tryd.func77 (by kernel_rfl) (by kernel_rfl) (by kernel_rfl) (e := add64Entry) (by kernel_rfl), run_add64 x y c (by omega) (by omega) (by omega) (by omega)]
  simp only [Result.andThen]
  congr 5 <;> omega
theorem add64_int (x y c : Int) (hx : 0 ≤ x) (hy : 0 ≤ y) (hc0 : 0 ≤ c) (hc : c ≤ 1) (w : World) : (callFunc 77 #[.int .u64 x, .int .u64 y, .int .u64 c]).run Tryd.prog w =
    .ok (.value (.tuple #[.int .u64 ((x + y + c) % 18446744073709551616), .int .u64 ((x + y + c) / 18446744073709551616)])) w := by
  obtain ⟨x, rfl⟩ := Int.eq_ofNat_of_zero_le hx
  obtain ⟨y, rfl⟩ := Int.eq_ofNat_of_zero_le hy
  obtain ⟨c, rfl⟩ := Int.eq_ofNat_of_zero_le hc0
  refine (add64_run x y c (by omega) w).trans ?_
  congr 5 <;> omega
theorem add64_int0 (x y : Int) (hx : 0 ≤ x) (hy : 0 ≤ y) (w : World) : (callFunc 77 #[.int .u64 x, .int .u64 y, .int .u64 0]).run Tryd.prog w =
    .ok (.value (.tuple #[.int .u64 ((x + y) % 18446744073709551616), .int .u64 ((x + y) / 18446744073709551616)])) w := by
  simpa using add64_int x y 0 hx hy (Int.le_refl 0) (by decide) w

end Go.Proofs.YtgmiaaapaiccdaaDoor
/-
  WORDS OF 64 BITS: the field's sums of two words: low, high, plus.
-/
namespace Go.Proofs.YtgmiaaapaiccdaaDoor
open Go.RowKit Go.IntWalk

theorem size_sum (cs : Array Value) (h : cs.size = 2) : (Tryd.prog.info? 97).map (·.size) = some cs.size := by
  rw [h]
  kernel_rfl

theorem low_any (hi lo : Nat) (hl : lo < 18446744073709551616) (w : World) :
    Calls Tryd.prog 64 #[.agg (Us [hi, lo]).toArray] w fun e w' => e = .returned (.int .u64 ((lo % 2251799813685248 : Nat) : Int)) ∧ Below w.heap.size w w' := by
  have e0 : (Us [hi, lo]).toArray = #[.int .u64 (hi : Int), .int .u64 (lo : Int)] := rfl
  rw [e0]
  go_enter Tryd.func64, Tryd.ntmps64
  go_wp2
  rw [maskW lo hl]
  go_ret
  exact ⟨rfl, (Below.refl _ _).alloc (Nat.le_refl _) _⟩

theorem high_any (hi lo : Nat) (hh : hi < 2251799813685248) (hl : lo < 18446744073709551616) (w : World) :
    Calls Tryd.prog 65 #[.agg (Us [hi, lo]).toArray] w fun e w' => e = .returned (.int .u64 ((hi * 8192 + lo / 2251799813685248 : Nat) : Int)) ∧ Below w.heap.size w w' := by
  have e0 : (Us [hi, lo]).toArray = #[.int .u64 (hi : Int), .int .u64 (lo : Int)] := rfl
  rw [e0]
  go_enter Tryd.func65, Tryd.ntmps65
  go_wp2
  have e1 : (hi : Int) * 8192 = ((hi * 8192 : Nat) : Int) := by omega
  rw [e1, div51, orW 13 (hi * 8192) (lo / 2251799813685248) (by omega) (by omega) (by omega) (by omega)]
  go_ret
  exact ⟨rfl, (Below.refl _ _).alloc (Nat.le_refl _) _⟩

set_option maxHeartbeats 1000000 in
theorem plus_any (hi lo a b : Nat) (hh : hi < 18446744073709551616) (hl : lo < 18446744073709551616) (ha : a < 18446744073709551616) (hb : b < 18446744073709551616) (w : World) :
    Calls Tryd.prog 63 #[.agg (Us [hi, lo]).toArray, .int .u64 a, .int .u64 b] w fun e w' =>
      e = .returned (.agg (Us [(hi + a * b / 18446744073709551616 + (lo + a * b % 18446744073709551616) / 18446744073709551616) % 18446744073709551616, (lo + a * b % 18446744073709551616) % 18446744073709551616]).toArray) ∧ Below w.heap.size w w' := by
  have e0 : (Us [hi, lo]).toArray = #[.int .u64 (hi : Int), .int .u64 (lo : Int)] := rfl
  rw [e0]
  have HM := fun w1 => Lib.hid (mul64_any a b ha hb w1)
  generalize a * b / 18446744073709551616 = mh at *
  generalize hml : a * b % 18446744073709551616 = ml at *
  have hml : ml < 18446744073709551616 := by omega
  have hc1 : ((lo : Int) + (ml : Int)) / 18446744073709551616 ≤ 1 := by omega
  have hc0 : (0 : Int) ≤ ((lo : Int) + (ml : Int)) / 18446744073709551616 := by omega
  go_enter Tryd.func63, Tryd.ntmps63
  go_wp2_with (fail)
  refine (HM _).out.mono ?_
  rintro e w1 ⟨rfl, rfl⟩
  go_wp2_with (first | simp only [add64_int0 lo ml (by omega) (by omega)] | simp only [add64_int hi mh _ (by omega) (by omega) hc0 hc1])
  refine bodyPost_ret (results_cell_row rfl _ _ (w.heap.size + 1) 97 _ (0, 0) _ rfl (heap_alloc2_new w _ _) Tryd.underlying97 rfl (size_sum _ rfl)) rfl ⟨?_, ((Below.refl _ _).alloc (Nat.le_refl _) _).alloc (by simp) _⟩
  rfl
end Go.Proofs.YtgmiaaapaiccdaaDoor
/-
  PLAIN NUMBERS: five limbs of 51 bits as numbers modulo p: carries, sums, differences, products, the number below p. No program is imported.
-/
namespace Nums

/-- The number of a row of limbs, the least first. -/
def lv : List Nat → Nat
  | [] => 0
  | d :: ds => d + 2251799813685248 * lv ds

theorem lv5 (a0 a1 a2 a3 a4 : Nat) : lv [a0, a1, a2, a3, a4] = a0 + 2251799813685248 * (a1 + 2251799813685248 * (a2 + 2251799813685248 * (a3 + 2251799813685248 * a4))) := by
  simp only [lv, Nat.mul_zero, Nat.add_zero]

/-- Five limbs, each below 2^51 + 2^18, that are x modulo p. -/
structure EB (l : List Nat) (x : F) : Prop where
  len : l.length = 5
  bnd : ∀ y ∈ l, y < 2251799813947392
  val : fof (lv l) = x

theorem five {l : List Nat} (h : l.length = 5) : ∃ a0 a1 a2 a3 a4, l = [a0, a1, a2, a3, a4] := by
  match l, h with
  | [a0, a1, a2, a3, a4], _ => exact ⟨a0, a1, a2, a3, a4, rfl⟩

theorem EB.five {l : List Nat} {x : F} (h : EB l x) : ∃ a0 a1 a2 a3 a4, l = [a0, a1, a2, a3, a4] ∧ a0 < 2251799813947392 ∧ a1 < 2251799813947392 ∧ a2 < 2251799813947392 ∧ a3 < 2251799813947392 ∧ a4 < 2251799813947392 ∧ fof (lv [a0, a1, a2, a3, a4]) = x := by
  obtain ⟨a0, a1, a2, a3, a4, rfl⟩ := Nums.five h.len
  have hb := h.bnd
  exact ⟨a0, a1, a2, a3, a4, rfl, hb _ (by simp), hb _ (by simp), hb _ (by simp), hb _ (by simp), hb _ (by simp), h.val⟩

theorem EB.mk5 {a0 a1 a2 a3 a4 : Nat} {x : F} (h0 : a0 < 2251799813947392) (h1 : a1 < 2251799813947392) (h2 : a2 < 2251799813947392) (h3 : a3 < 2251799813947392) (h4 : a4 < 2251799813947392) (h : fof (lv [a0, a1, a2, a3, a4]) = x) :
    EB [a0, a1, a2, a3, a4] x := by
  refine ⟨rfl, ?_, h⟩
  intro y hy
  simp only [List.mem_cons, List.not_mem_nil, or_false] at hy
  rcases hy with rfl | rfl | rfl | rfl | rfl <;> assumption

theorem p_eq : p = 57896044618658097711785492504343953926634992332820282019728792003956564819949 := by decide

/-- The carries: what goes out above comes back 19 times. -/
def crd (a0 a1 a2 a3 a4 : Nat) : List Nat :=
  [a0 % 2251799813685248 + 19 * (a4 / 2251799813685248), a1 % 2251799813685248 + a0 / 2251799813685248, a2 % 2251799813685248 + a1 / 2251799813685248, a3 % 2251799813685248 + a2 / 2251799813685248, a4 % 2251799813685248 + a3 / 2251799813685248]

theorem fof_p (a k : Nat) : fof (a + p * k) = fof a := fof_eq (by rw [Nat.add_mul_mod_self_left])

theorem crd_lv (a0 a1 a2 a3 a4 : Nat) : fof (lv (crd a0 a1 a2 a3 a4)) = fof (lv [a0, a1, a2, a3, a4]) := by
  have h : lv (crd a0 a1 a2 a3 a4) + p * (a4 / 2251799813685248) = lv [a0, a1, a2, a3, a4] := by
    unfold crd
    rw [lv5, lv5, p_eq]
    omega
  rw [← h, fof_p]

theorem crd_eb {a0 a1 a2 a3 a4 : Nat} (h0 : a0 < 18446744073709551616) (h1 : a1 < 18446744073709551616) (h2 : a2 < 18446744073709551616) (h3 : a3 < 18446744073709551616) (h4 : a4 < 18446744073709551616) :
    EB (crd a0 a1 a2 a3 a4) (fof (lv [a0, a1, a2, a3, a4])) :=
  EB.mk5 (by omega) (by omega) (by omega) (by omega) (by omega) (crd_lv a0 a1 a2 a3 a4)

theorem add_lv (a0 a1 a2 a3 a4 b0 b1 b2 b3 b4 : Nat) : lv [a0 + b0, a1 + b1, a2 + b2, a3 + b3, a4 + b4] = lv [a0, a1, a2, a3, a4] + lv [b0, b1, b2, b3, b4] := by
  rw [lv5, lv5, lv5]
  omega

theorem sub_lv {a0 a1 a2 a3 a4 b0 b1 b2 b3 b4 : Nat} (h0 : b0 < 2251799813947392) (h1 : b1 < 2251799813947392) (h2 : b2 < 2251799813947392) (h3 : b3 < 2251799813947392) (h4 : b4 < 2251799813947392) :
    fof (lv [a0 + (4503599627370458 - b0), a1 + (4503599627370494 - b1), a2 + (4503599627370494 - b2), a3 + (4503599627370494 - b3), a4 + (4503599627370494 - b4)]) = fof (lv [a0, a1, a2, a3, a4]) - fof (lv [b0, b1, b2, b3, b4]) := by
  have h : lv [a0 + (4503599627370458 - b0), a1 + (4503599627370494 - b1), a2 + (4503599627370494 - b2), a3 + (4503599627370494 - b3), a4 + (4503599627370494 - b4)] + lv [b0, b1, b2, b3, b4] = lv [a0, a1, a2, a3, a4] + p * 2 := by
    rw [lv5, lv5, lv5, p_eq]
    omega
  have h2 : fof (lv [a0, a1, a2, a3, a4]) = fof (lv [a0 + (4503599627370458 - b0), a1 + (4503599627370494 - b1), a2 + (4503599627370494 - b2), a3 + (4503599627370494 - b3), a4 + (4503599627370494 - b4)]) + fof (lv [b0, b1, b2, b3, b4]) := by
    rw [← fof_add, h, fof_p]
  rw [h2]
  generalize fof (lv [a0 + (4503599627370458 - b0), a1 + (4503599627370494 - b1), a2 + (4503599627370494 - b2), a3 + (4503599627370494 - b3), a4 + (4503599627370494 - b4)]) = u
  generalize fof (lv [b0, b1, b2, b3, b4]) = v
  grind only

/-- A row turned by one limb: 2^51 times. -/
theorem turn_lv (c0 c1 c2 c3 c4 : Nat) : fof (lv [19 * c4, c0, c1, c2, c3]) = fof 2251799813685248 * fof (lv [c0, c1, c2, c3, c4]) := by
  have h : lv [19 * c4, c0, c1, c2, c3] + p * c4 = 2251799813685248 * lv [c0, c1, c2, c3, c4] := by
    rw [lv5, lv5, p_eq]
    omega
  rw [← fof_mul, ← h, fof_p]

/-- A row of products more. -/
theorem more_lv (s0 s1 s2 s3 s4 v c0 c1 c2 c3 c4 : Nat) : lv [s0 + v * c0, s1 + v * c1, s2 + v * c2, s3 + v * c3, s4 + v * c4] = lv [s0, s1, s2, s3, s4] + v * lv [c0, c1, c2, c3, c4] := by
  rw [lv5, lv5, lv5]
  grind only

/-! ### The number below p -/
/-- What the first run carries out: is the number p or more? -/
def up1 (l : List Nat) (u : Nat) : Nat → Nat
  | 0 => u
  | k + 1 => (l[k]! + up1 l u k) / 2251799813685248

/-- What the second run carries. -/
def up2 (l : List Nat) (u : Nat) : Nat → Nat
  | 0 => u
  | k + 1 => (up2 l u k + l[k]!) / 2251799813685248

/-- The row when k limbs are whole. -/
def whs (l : List Nat) (u k : Nat) : List Nat := (List.range 5).map fun j => if j < k then (up2 l u j + l[j]!) % 2251799813685248 else l[j]!
def whole (l : List Nat) : List Nat := whs l (up1 l 19 5 * 19) 5

theorem whole_all {l : List Nat} {x : F} (h : EB l x) : (whole l).length = 5 ∧ (∀ y ∈ whole l, y < 2251799813685248) ∧ lv (whole l) = x.val := by
  refine ⟨by simp [whole, whs], ?_, ?_⟩
  · intro y hy
    obtain ⟨j, hj, rfl⟩ := List.mem_map.1 hy
    rw [if_pos (by simpa using hj)]
    exact Nat.mod_lt _ (by decide)
  · obtain ⟨a0, a1, a2, a3, a4, rfl, h0, h1, h2, h3, h4, hv⟩ := h.five
    have hw : whole [a0, a1, a2, a3, a4] = [(up2 [a0, a1, a2, a3, a4] (up1 [a0, a1, a2, a3, a4] 19 5 * 19) 0 + a0) % 2251799813685248, (up2 [a0, a1, a2, a3, a4] (up1 [a0, a1, a2, a3, a4] 19 5 * 19) 1 + a1) % 2251799813685248, (up2 [a0, a1, a2, a3, a4] (up1 [a0, a1, a2, a3, a4] 19 5 * 19) 2 + a2) % 2251799813685248, (up2 [a0, a1, a2, a3, a4] (up1 [a0, a1, a2, a3, a4] 19 5 * 19) 3 + a3) % 2251799813685248, (up2 [a0, a1, a2, a3, a4] (up1 [a0, a1, a2, a3, a4] 19 5 * 19) 4 + a4) % 2251799813685248] := rfl
    have hu : up1 [a0, a1, a2, a3, a4] 19 5 = (a4 + (a3 + (a2 + (a1 + (a0 + 19) / 2251799813685248) / 2251799813685248) / 2251799813685248) / 2251799813685248) / 2251799813685248 := rfl
    rw [← hv, fof_val, hw]
    generalize hq : up1 [a0, a1, a2, a3, a4] 19 5 = q at *
    have g0 : up2 [a0, a1, a2, a3, a4] (q * 19) 0 = q * 19 := rfl
    have g1 : up2 [a0, a1, a2, a3, a4] (q * 19) 1 = (up2 [a0, a1, a2, a3, a4] (q * 19) 0 + a0) / 2251799813685248 := rfl
    have g2 : up2 [a0, a1, a2, a3, a4] (q * 19) 2 = (up2 [a0, a1, a2, a3, a4] (q * 19) 1 + a1) / 2251799813685248 := rfl
    have g3 : up2 [a0, a1, a2, a3, a4] (q * 19) 3 = (up2 [a0, a1, a2, a3, a4] (q * 19) 2 + a2) / 2251799813685248 := rfl
    have g4 : up2 [a0, a1, a2, a3, a4] (q * 19) 4 = (up2 [a0, a1, a2, a3, a4] (q * 19) 3 + a3) / 2251799813685248 := rfl
    generalize up2 [a0, a1, a2, a3, a4] (q * 19) 0 = e0 at *
    generalize up2 [a0, a1, a2, a3, a4] (q * 19) 1 = e1 at *
    generalize up2 [a0, a1, a2, a3, a4] (q * 19) 2 = e2 at *
    generalize up2 [a0, a1, a2, a3, a4] (q * 19) 3 = e3 at *
    generalize up2 [a0, a1, a2, a3, a4] (q * 19) 4 = e4 at *
    have hL := lv5 a0 a1 a2 a3 a4
    generalize lv [a0, a1, a2, a3, a4] = L at *
    rw [lv5]
    have hp := p_eq
    generalize p = P at *
    have ha : q < 2 := by omega
    have hb : q = 0 → L < P := by omega
    have hc : q = 1 → P ≤ L := by omega
    have hd : L < 2 * P := by omega
    rcases (show q = 0 ∨ q = 1 by omega) with rfl | rfl
    · rw [Nat.mod_eq_of_lt (hb rfl)]
      clear hu hc hd hv
      have := hb rfl
      omega
    · have hge := hc rfl
      have hm : L % P = L - P := by rw [Nat.mod_eq_sub_mod hge, Nat.mod_eq_of_lt (by omega)]
      rw [hm]
      clear hu hb hv hm
      omega

end Nums
/-
  THE FIELD'S NUMBERS: carried, Add, Sub, Small.
-/
namespace Go.Proofs.YtgmiaaapaiccdaaDoor
open Go.RowKit Go.IntWalk Nums

theorem size_el (cs : Array Value) (h : cs.size = 5) : (Tryd.prog.info? 27).map (·.size) = some cs.size := by
  rw [h]
  kernel_rfl
theorem size_u5 (cs : Array Value) (h : cs.size = 5) : (Tryd.prog.info? 25).map (·.size) = some cs.size := by
  rw [h]
  kernel_rfl
def z5 : Array Value := (Us [0, 0, 0, 0, 0]).toArray
theorem len_us {l : List Nat} (h : l.length = 5) : (Us l).toArray.size = 5 := by rw [List.size_toArray, Us_len, h]

theorem crd_cell0 (a c : Nat) (ha : a < 18446744073709551616) (hc : c < 18446744073709551616) :
    IntKind.u64.wrap (bits .and .u64 (a : Int) 2251799813685247 + 19 * ((c : Int) / 2251799813685248)) = ((a % 2251799813685248 + 19 * (c / 2251799813685248) : Nat) : Int) := by
  rw [maskW a ha, IntKind.wrap_u64]
  omega
theorem crd_cell (a c : Nat) (ha : a < 18446744073709551616) (hc : c < 18446744073709551616) :
    IntKind.u64.wrap (bits .and .u64 (a : Int) 2251799813685247 + (c : Int) / 2251799813685248) = ((a % 2251799813685248 + c / 2251799813685248 : Nat) : Int) := by
  rw [maskW a ha, IntKind.wrap_u64]
  omega

set_option maxRecDepth 100000 in
set_option maxHeartbeats 1000000 in
theorem carried_f (a0 a1 a2 a3 a4 : Nat) (h0 : a0 < 18446744073709551616) (h1 : a1 < 18446744073709551616) (h2 : a2 < 18446744073709551616) (h3 : a3 < 18446744073709551616) (h4 : a4 < 18446744073709551616) (w : World) :
    Calls Tryd.prog 66 #[.agg (Us [a0, a1, a2, a3, a4]).toArray] w fun e w' => e = .returned (.agg (Us (crd a0 a1 a2 a3 a4)).toArray) ∧ Below w.heap.size w w' := by
  have e0 : (Us [a0, a1, a2, a3, a4]).toArray = #[.int .u64 (a0 : Int), .int .u64 (a1 : Int), .int .u64 (a2 : Int), .int .u64 (a3 : Int), .int .u64 (a4 : Int)] := rfl
  rw [e0]
  go_enter Tryd.func66, Tryd.ntmps66
  go_wp2
  rw [crd_cell0 a0 a4 h0 h4, crd_cell a1 a0 h1 h0, crd_cell a2 a1 h2 h1, crd_cell a3 a2 h3 h2, crd_cell a4 a3 h4 h3]
  refine bodyPost_ret (results_cell_row rfl _ _ (w.heap.size + 1) 27 _ (0, 0) _ rfl (blk3_1 w _ _ _ _) Tryd.underlying27 rfl (size_el _ rfl)) rfl ⟨rfl, ?_⟩
  exact (((Below.refl _ _).alloc (Nat.le_refl _) _).alloc (by simp) _).alloc (by simp; omega) _

/-! ### Rows whose first k words have turned -/
def mx (f : Nat → Nat) (l : List Nat) (k : Nat) : List Nat := (List.range 5).map fun j => if j < k then f j else l[j]!
theorem mx_len (f : Nat → Nat) (l : List Nat) (k : Nat) : (mx f l k).length = 5 := by simp [mx]
theorem mx_zero (f : Nat → Nat) {l : List Nat} (h : l.length = 5) : mx f l 0 = l := by
  obtain ⟨a0, a1, a2, a3, a4, rfl⟩ := five h
  rfl
theorem mx_get (f : Nat → Nat) (l : List Nat) {k : Nat} (h : k < 5) : (mx f l k)[k]! = l[k]! := by
  rw [getElem!_pos _ k (by rw [mx_len]; exact h)]
  simp [mx]
theorem mx_set (f : Nat → Nat) (l : List Nat) {k : Nat} : (mx f l k).set k (f k) = mx f l (k + 1) := by
  apply List.ext_getElem (by simp [mx])
  intro j h1 h2
  rw [List.getElem_set]
  simp only [mx, List.getElem_map, List.getElem_range]
  by_cases hjk : k = j
  · subst hjk
    simp
  · rw [if_neg hjk]
    by_cases hlt : j < k
    · rw [if_pos hlt, if_pos (by omega)]
    · rw [if_neg hlt, if_neg (by omega)]

theorem eb_get {l : List Nat} {x : F} (h : EB l x) {k : Nat} (hk : k < 5) : l[k]! < 2251799813947392 :=
  h.bnd _ (by rw [getElem!_pos l k (by rw [h.len]; exact hk)]; exact List.getElem_mem _)

set_option maxRecDepth 100000 in
set_option maxHeartbeats 1000000 in
theorem eladd_f {a b : List Nat} {x y : F} (ha : EB a x) (hb : EB b y) (w : World) :
    Calls Tryd.prog 38 #[.agg (Us a).toArray, .agg (Us b).toArray] w fun e w' => ∃ r, EB r (x + y) ∧ e = .returned (.agg (Us r).toArray) ∧ Below w.heap.size w w' := by
  go_enter Tryd.func38, Tryd.ntmps38
  go_wp2
  go_loopw [6] (fun i wr => ∃ k : Nat, k ≤ 5 ∧ i = .int .i64 k ∧ Blk wr w.heap.size 27 (Us (mx (fun j => a[j]! + b[j]!) a k)).toArray ∧ Blk wr (w.heap.size + 1) 27 (Us b).toArray ∧ Blk wr (w.heap.size + 1 + 1) 27 z5 ∧ Below w.heap.size w wr) (fun i _ => 5 - (intOf i).toNat)
  case atStart =>
    refine ⟨0, by omega, rfl, ?_, blk3_1 w _ _ _ _, blk3_2 w _ _ _ _, (((Below.refl _ _).alloc (Nat.le_refl _) _).alloc (by simp) _).alloc (by simp; omega) _⟩
    rw [mx_zero _ ha.len]
    exact blk3_0 w _ _ _ _
  case round =>
    obtain ⟨k, hk, rfl, h0, h1, h2, hbel⟩ := hrel
    by_cases hlt : k < 5
    · have hN := mx_set (fun j => a[j]! + b[j]!) a (k := k)
      have hg := mx_get (fun j => a[j]! + b[j]!) a hlt
      have c0 := (h0.drew.cell k).trans (Us_at (by rw [mx_len]; exact hlt))
      rw [hg] at c0
      have c1 := (h1.drew.cell k).trans (Us_at (by rw [hb.len]; exact hlt))
      have b0 := eb_get ha hlt
      have b1 := eb_get hb hlt
      have hf := h0.drew.free k
      generalize a[k]! = u at *
      generalize b[k]! = v at *
      have q1 : IntKind.u64.wrap ((u : Int) + (v : Int)) = ((u + v : Nat) : Int) := by rw [IntKind.wrap_u64]; omega
      have q2 : (0 : Int) ≤ (k : Int) := by omega
      have HK := Lib.hid (And.intro h0 (And.intro h1 (And.intro h2 (And.intro hbel hN))))
      clear h0 h1 h2 hbel hN hg
      go_wp2
      go_still_tail 11, (by kernel_rfl)
      go_wp2
      go_roundw
      case rel =>
        obtain ⟨h0, h1, h2, hbel, hN⟩ := HK.out
        have h4 := h0.set k (.int .u64 ((u + v : Nat) : Int))
        rw [Us_set, hN] at h4
        exact ⟨k + 1, by omega, by go_num, h4, h1.far (by simp) _, h2.far (by simp; omega) _, (hbel.setCell (by simp) _).drew⟩
      case measure => simp [intOf]; omega
    · obtain rfl : k = 5 := by omega
      obtain ⟨a0, a1, a2, a3, a4, rfl, p0, p1, p2, p3, p4, pv⟩ := ha.five
      obtain ⟨b0, b1, b2, b3, b4, rfl, r0, r1, r2, r3, r4, rv⟩ := hb.five
      have e5 : mx (fun j => [a0, a1, a2, a3, a4][j]! + [b0, b1, b2, b3, b4][j]!) [a0, a1, a2, a3, a4] 5 = [a0 + b0, a1 + b1, a2 + b2, a3 + b3, a4 + b4] := rfl
      rw [e5] at h0
      have HC := fun w1 => Lib.hid (carried_f (a0 + b0) (a1 + b1) (a2 + b2) (a3 + b3) (a4 + b4) (by omega) (by omega) (by omega) (by omega) (by omega) w1)
      have hE := crd_eb (a0 := a0 + b0) (a1 := a1 + b1) (a2 := a2 + b2) (a3 := a3 + b3) (a4 := a4 + b4) (by omega) (by omega) (by omega) (by omega) (by omega)
      rw [add_lv, fof_add, pv, rv] at hE
      generalize crd (a0 + b0) (a1 + b1) (a2 + b2) (a3 + b3) (a4 + b4) = r at *
      have hz : (Us [a0 + b0, a1 + b1, a2 + b2, a3 + b3, a4 + b4]).toArray.size = 5 := rfl
      generalize (Us [a0 + b0, a1 + b1, a2 + b2, a3 + b3, a4 + b4]).toArray = cs at *
      have HK := Lib.hid (And.intro h2 hbel)
      clear h1 h2 hbel ha hb p0 p1 p2 p3 p4 pv r0 r1 r2 r3 r4 rv e5
      have hzr := len_us hE.len
      go_wp2_with (refine wpList_load_row rfl 27 _ rfl w.heap.size rfl 27 cs (0, 0) _ h0 Tryd.underlying27 rfl (size_el _ hz) ?_)
      refine (HC _).out.mono ?_
      rintro e w1 ⟨rfl, hw1⟩
      obtain ⟨h2, hbel⟩ := HK.out
      have hb2 := hbel.trans (hw1.mono hbel.size)
      have h4 := h2.below hw1 h2.lt
      go_wp2_with (refine wpList_store_row rfl 27 _ _ rfl (w.heap.size + 1 + 1) rfl (Us r).toArray rfl 27 _ h4 (size_el _ hzr) (by rw [hzr]; rfl) (Us_one _) ?_)
      refine bodyPost_ret (results_cell_row rfl _ _ (w.heap.size + 1 + 1) 27 (Us r).toArray (0, 0) _ rfl (h4.row _) Tryd.underlying27 rfl (size_el _ hzr)) rfl ⟨r, hE, rfl, ?_⟩
      exact below_setRow hb2 (by omega) _
end Go.Proofs.YtgmiaaapaiccdaaDoor
/-
  THE FIELD'S NUMBERS: Sub, which reads the table of 2p; Small.
-/
namespace Go.Proofs.YtgmiaaapaiccdaaDoor
open Go.RowKit Go.IntWalk Nums

/-- 2p in limbs, as the program's table has it. -/
def twl : List Nat := [4503599627370458, 4503599627370494, 4503599627370494, 4503599627370494, 4503599627370494]
theorem twl_get {k : Nat} (h : k < 5) : 4503599627370458 ≤ twl[k]! ∧ twl[k]! ≤ 4503599627370494 := by
  have h5 : k = 0 ∨ k = 1 ∨ k = 2 ∨ k = 3 ∨ k = 4 := by omega
  rcases h5 with rfl | rfl | rfl | rfl | rfl <;> decide

/-- The table lies where it lay. -/
structure Tw (w : World) : Prop where
  cell : ∀ i, i < 5 → w.cell? ⟨0, i, none⟩ = some (.int .u64 (twl[i]! : Nat))
  lt : 0 < w.heap.size
theorem Tw.below {w w' : World}  (h : Tw w) (hb : Below w.heap.size w w') : Tw w' :=
  ⟨fun i hi => (hb.cell (p := ⟨0, i, none⟩) h.lt).trans (h.cell i hi), Nat.lt_of_lt_of_le h.lt hb.size⟩
theorem Tw.drew {w : World} (h : Tw w) : Tw w.drew := ⟨h.cell, h.lt⟩
theorem Tw.at {w : World} (h : Tw w) {k : Nat} (hk : k < 5) : w.cell? ⟨0, k, none⟩ = some (.int .u64 (twl[k]! : Nat)) := h.cell k hk

set_option maxRecDepth 100000 in
set_option maxHeartbeats 1000000 in
theorem elsub_f {a b : List Nat} {x y : F} (ha : EB a x) (hb : EB b y) (w : World) (hT : Tw w) :
    Calls Tryd.prog 36 #[.agg (Us a).toArray, .agg (Us b).toArray] w fun e w' => ∃ r, EB r (x - y) ∧ e = .returned (.agg (Us r).toArray) ∧ Below w.heap.size w w' := by
  go_enter Tryd.func36, Tryd.ntmps36
  go_wp2
  go_loopw [6] (fun i wr => ∃ k : Nat, k ≤ 5 ∧ i = .int .i64 k ∧ Blk wr w.heap.size 27 (Us (mx (fun j => a[j]! + (twl[j]! - b[j]!)) a k)).toArray ∧ Blk wr (w.heap.size + 1) 27 (Us b).toArray ∧ Blk wr (w.heap.size + 1 + 1) 27 z5 ∧ Below w.heap.size w wr) (fun i _ => 5 - (intOf i).toNat)
  case atStart =>
    refine ⟨0, by omega, rfl, ?_, blk3_1 w _ _ _ _, blk3_2 w _ _ _ _, (((Below.refl _ _).alloc (Nat.le_refl _) _).alloc (by simp) _).alloc (by simp; omega) _⟩
    rw [mx_zero _ ha.len]
    exact blk3_0 w _ _ _ _
  case round =>
    obtain ⟨k, hk, rfl, h0, h1, h2, hbel⟩ := hrel
    by_cases hlt : k < 5
    · have hN := mx_set (fun j => a[j]! + (twl[j]! - b[j]!)) a (k := k)
      have hg := mx_get (fun j => a[j]! + (twl[j]! - b[j]!)) a hlt
      have c0 := (h0.drew.cell k).trans (Us_at (by rw [mx_len]; exact hlt))
      rw [hg] at c0
      have c1 := (h1.drew.cell k).trans (Us_at (by rw [hb.len]; exact hlt))
      have b0 := eb_get ha hlt
      have b1 := eb_get hb hlt
      have hf := h0.drew.free k
      have c2 := (hT.below hbel).drew.at hlt
      have b2 := twl_get hlt
      generalize a[k]! = u at *
      generalize b[k]! = v at *
      generalize twl[k]! = t at *
      have q0 : IntKind.u64.wrap ((t : Int) - (v : Int)) = ((t - v : Nat) : Int) := by rw [IntKind.wrap_u64]; omega
      have q1 : IntKind.u64.wrap ((u : Int) + ((t - v : Nat) : Int)) = ((u + (t - v) : Nat) : Int) := by rw [IntKind.wrap_u64]; omega
      have hle : v ≤ t := by omega
      have q2 : (0 : Int) ≤ (k : Int) := by omega
      have HK := Lib.hid (And.intro h0 (And.intro h1 (And.intro h2 (And.intro hbel hN))))
      clear h0 h1 h2 hbel hN hg
      go_wp2
      go_still_tail 15, (by kernel_rfl)
      go_wp2
      go_roundw
      case rel =>
        obtain ⟨h0, h1, h2, hbel, hN⟩ := HK.out
        have h4 := h0.set k (.int .u64 ((u + (t - v) : Nat) : Int))
        rw [Us_set, hN] at h4
        exact ⟨k + 1, by omega, by go_num, h4, h1.far (by simp) _, h2.far (by simp; omega) _, (hbel.setCell (by simp) _).drew⟩
      case measure => simp [intOf]; omega
    · obtain rfl : k = 5 := by omega
      obtain ⟨a0, a1, a2, a3, a4, rfl, p0, p1, p2, p3, p4, pv⟩ := ha.five
      obtain ⟨b0, b1, b2, b3, b4, rfl, r0, r1, r2, r3, r4, rv⟩ := hb.five
      have e5 : mx (fun j => [a0, a1, a2, a3, a4][j]! + (twl[j]! - [b0, b1, b2, b3, b4][j]!)) [a0, a1, a2, a3, a4] 5 = [a0 + (4503599627370458 - b0), a1 + (4503599627370494 - b1), a2 + (4503599627370494 - b2), a3 + (4503599627370494 - b3), a4 + (4503599627370494 - b4)] := rfl
      rw [e5] at h0
      have HC := fun w1 => Lib.hid (carried_f (a0 + (4503599627370458 - b0)) (a1 + (4503599627370494 - b1)) (a2 + (4503599627370494 - b2)) (a3 + (4503599627370494 - b3)) (a4 + (4503599627370494 - b4)) (by omega) (by omega) (by omega) (by omega) (by omega) w1)
      have hE := crd_eb (a0 := a0 + (4503599627370458 - b0)) (a1 := a1 + (4503599627370494 - b1)) (a2 := a2 + (4503599627370494 - b2)) (a3 := a3 + (4503599627370494 - b3)) (a4 := a4 + (4503599627370494 - b4)) (by omega) (by omega) (by omega) (by omega) (by omega)
      rw [sub_lv r0 r1 r2 r3 r4, pv, rv] at hE
      generalize crd (a0 + (4503599627370458 - b0)) (a1 + (4503599627370494 - b1)) (a2 + (4503599627370494 - b2)) (a3 + (4503599627370494 - b3)) (a4 + (4503599627370494 - b4)) = r at *
      have hz : (Us [a0 + (4503599627370458 - b0), a1 + (4503599627370494 - b1), a2 + (4503599627370494 - b2), a3 + (4503599627370494 - b3), a4 + (4503599627370494 - b4)]).toArray.size = 5 := rfl
      generalize (Us [a0 + (4503599627370458 - b0), a1 + (4503599627370494 - b1), a2 + (4503599627370494 - b2), a3 + (4503599627370494 - b3), a4 + (4503599627370494 - b4)]).toArray = cs at *
      have HK := Lib.hid (And.intro h2 hbel)
      clear h1 h2 hbel ha hb p0 p1 p2 p3 p4 pv r0 r1 r2 r3 r4 rv e5
      have hzr := len_us hE.len
      go_wp2_with (refine wpList_load_row rfl 27 _ rfl w.heap.size rfl 27 cs (0, 0) _ h0 Tryd.underlying27 rfl (size_el _ hz) ?_)
      refine (HC _).out.mono ?_
      rintro e w1 ⟨rfl, hw1⟩
      obtain ⟨h2, hbel⟩ := HK.out
      have hb2 := hbel.trans (hw1.mono hbel.size)
      have h4 := h2.below hw1 h2.lt
      go_wp2_with (refine wpList_store_row rfl 27 _ _ rfl (w.heap.size + 1 + 1) rfl (Us r).toArray rfl 27 _ h4 (size_el _ hzr) (by rw [hzr]; rfl) (Us_one _) ?_)
      refine bodyPost_ret (results_cell_row rfl _ _ (w.heap.size + 1 + 1) 27 (Us r).toArray (0, 0) _ rfl (h4.row _) Tryd.underlying27 rfl (size_el _ hzr)) rfl ⟨r, hE, rfl, ?_⟩
      exact below_setRow hb2 (by omega) _

set_option maxRecDepth 100000 in
theorem small_f (v : Nat) (hv : v < 18446744073709551616) (w : World) :
    Calls Tryd.prog 33 #[.int .u64 v] w fun e w' => ∃ r, EB r (fof v) ∧ e = .returned (.agg (Us r).toArray) ∧ Below w.heap.size w w' := by
  go_enter Tryd.func33, Tryd.ntmps33
  go_wp2
  rw [maskW v hv]
  have hE : EB [v % 2251799813685248, v / 2251799813685248, 0, 0, 0] (fof v) := EB.mk5 (by omega) (by omega) (by omega) (by omega) (by omega) (by
    congr 1
    rw [lv5]
    omega)
  refine bodyPost_ret (results_cell_row rfl _ _ w.heap.size 27 _ (0, 0) _ rfl (heap_alloc_new w _) Tryd.underlying27 rfl (size_el _ rfl)) rfl ⟨_, hE, rfl, ?_⟩
  exact (Below.refl _ _).alloc (Nat.le_refl _) _
end Go.Proofs.YtgmiaaapaiccdaaDoor
