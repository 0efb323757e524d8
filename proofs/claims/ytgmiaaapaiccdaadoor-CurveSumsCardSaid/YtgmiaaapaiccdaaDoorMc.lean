/-
  SEVERAL TEXTS IN ONE: Regs, Calls, Pick, Fr, Us.
-/
import Derived.Test.YtgmiaaapaiccdaaDoorMb
import Derived.Test.YtgmiaaapaiccdaaDoorMa
import Derived.Laws.Bits64b
import Derived.Laws.BitsAllLaws
import Derived.Laws.Externs
/-
  REGIONS, WHOLE: 'x := f(..)', 'x = f(..)', 'return f(..)' over any world: the class is what is the world at hand with new memory.
-/
namespace Go.Proofs.YtgmiaaapaiccdaaDoor
open Go.RowKit Go.IntWalk

section
variable {P : Program} {Q : Exit → Act → World → Prop} {id : Nat} {a : Act} {w : World} {l : List Oper}

/-- What is the world w with new memory. -/
def Up (w w' : World) : Prop := Below w.heap.size w w'
theorem Up.refl (w : World) : Up w w := Below.refl _ _
theorem Up.drew (w : World) : Up w w.drew := (Below.refl _ _).drew
theorem Up.step {w w1 w2 : World} (h : Up w w1) (k : Below w1.heap.size w1 w2) : Up w w2 := Below.trans h (k.mono h.size)
theorem Up.of {w w1 : World} (h : Up w w1) : Below w.heap.size w w1 := h
theorem Up.blk {w w1 : World} {g t : Nat} {cs : Array Value} (h : Up w w1) (k : Blk w g t cs) : Blk w1 g t cs := k.later h
theorem Up.alloc {w w1 : World} (h : Up w w1) (o : Obj) : Up w (w1.alloc o) := h.step ((Below.refl _ _).alloc (Nat.le_refl _) _)

theorem below_up {w W W' : World} (h : Below w.heap.size w W) (k : Up W W') : Below w.heap.size w W' := Below.trans h (Below.mono k h.size)
theorem wp_at {P : Program} {c : Code} {Q : Exit → Act → World → Prop} {a : Act} {w0 : World} (F : World → Prop) (h0 : F w0) (h : ∀ W, F W → c.wp P Q a W) : c.wp P Q a w0 := h w0 h0

/-- In the text's order the same walk serves. -/
theorem wpList_of_B {ops : Array Oper} {T : List Oper} : ∀ (L : List Oper) (a : Act) (w w0 : World), Up w0 w → wpB P ops (Up w0) (fun a' => ∀ w', Up w0 w' → wpList P ops Q T a' w') L a → wpList P ops Q (L ++ T) a w
  | [], a, w, w0, hw, h => h w hw
  | o :: L, a, w, w0, hw, h => by
    have key : ∀ V : Value → Prop, atB P o a w V → (∀ v w', V v → Below w.heap.size w w' → wpList P ops Q (L ++ T) (a.put o.dst v) w') → o.wp P a w (wpList P ops Q (L ++ T)) Q := fun V h3 hk => by
      unfold atB at h3
      unfold Oper.wp
      generalize (execOp a.eval o).run P w = r at *
      cases r with
      | ok n w' =>
        cases n <;> simp only [uponB] at h3 <;> simp only [Oper.upon]
        case value u =>
          obtain ⟨e1, e2⟩ := h3
          rw [e1]
          exact hk _ _ e2 (Below.refl _ _)
        case skip =>
          obtain ⟨e1, e2⟩ := h3
          rw [e1]
          exact hk _ _ e2 (Below.refl _ _)
        case enter f args =>
          obtain ⟨e1, hc⟩ := h3
          rw [e1]
          exact hc.mono fun e w'' ⟨v, he, hv, hw''⟩ => by subst he; exact hk _ _ hv hw''
      | halt x w' => simp only [uponB] at h3
    show wpList P ops Q (o :: (L ++ T)) a w
    unfold wpB at h
    unfold wpList
    split
    · rename_i hwt
      rw [if_pos hwt] at h
      refine .inl ?_
      rcases h with ⟨v, h1, h2⟩ | ⟨_, V, h1, h2⟩
      · exact key (· = v) (h1 w hw) fun u w' hu hw' => by rw [hu]; exact wpList_of_B L _ w' w0 (hw.step hw') h2
      · exact key V (h1 w hw) fun u w' hu hw' => wpList_of_B L _ w' w0 (hw.step hw') (h2 u hu)
    · rename_i hwt
      rw [if_neg hwt] at h
      exact wpList_of_B L _ w w0 hw h

/-- Nothing but reads and calls. -/
theorem reg_q (hm : P.follows .mixedOrders = true) (hB : tailB l.toArray l.length 0 0 = true) (hQ : ∀ c a d v w, Q (.panic c) (a.put d v) w → Q (.panic c) a w)
    (h : wpB P l.toArray (Up w) (fun a' => ∀ w', Up w w' → Q .normal a' w') l a) : (Code.region id l.toArray true).wp P Q a w :=
  region_B (l := l) l.length (Up w) (Nat.le_refl _) hm (by rw [List.drop_length]; exact hB) (fun _ _ h k => h.step k) (Up.drew w) hQ (by rw [List.drop_length, List.take_length]; exact h)
theorem reg_qF (h : wpB P l.toArray (Up w) (fun a' => ∀ w', Up w w' → Q .normal a' w') l a) : (Code.region id l.toArray false).wp P Q a w := by
  refine wp_region_lit ?_
  have h1 := wpList_of_B (Q := Q) (T := []) l a w w (Up.refl w) h
  rwa [List.append_nil] at h1

/-- Reads and calls, then the rest of the region in its order. -/
theorem reg_tailF (n : Nat) (h : wpB P l.toArray (Up w) (fun a' => ∀ w', Up w w' → wpList P l.toArray Q (l.drop n) a' w') (l.take n) a) : (Code.region id l.toArray false).wp P Q a w := by
  refine wp_region_lit ?_
  have h1 := wpList_of_B (Q := Q) (T := l.drop n) (l.take n) a w w (Up.refl w) h
  rwa [List.take_append_drop] at h1

/-- What is asked behind the reads and calls of 'x := ..'. -/
def varEnd (P : Program) (Q : Exit → Act → World → Prop) (w : World) (t : Tmp) (ty : TypeId) (x : Operand) (n : Nat) (a' : Act) : Prop :=
  ∃ cells : Array Value, (∀ v, (a'.put (some t) v).eval (.tmp t) = v) ∧ (∀ v, (a'.put (some t) v).eval x = .agg cells) ∧ n = cells.size ∧ (P.info? ty).map (·.size) = some cells.size ∧ (∀ v ∈ cells.toList, v.oneCell' = true) ∧
    ∀ g w', w.heap.size ≤ g → Up w w' → Blk w' g ty cells → Q .normal (a'.put (some t) (.pointer (some ⟨g, 0, none⟩))) w'

theorem up_row {w w1 : World} {g : Nat} (h : Up w w1) (hg : w.heap.size ≤ g) (cs : Array Value) : Up w (w1.setRow g cs) := below_setRow h hg _

theorem var_end {ops : Array Oper} {w w1 : World} {a' : Act} {t : Tmp} {ty : TypeId} {x : Operand} {os : Oper} {zs : Array Value} (hop : os.op = .store ty (.tmp t) x) (hsg : os.guard = none) (hsd : os.dst = none)
    {g : Nat} (hg : w.heap.size ≤ g) (hw : Up w w1) (hb : Blk w1 g ty zs) (h : varEnd P Q w t ty x zs.size a') : wpList P ops Q [os] (a'.put (some t) (.pointer (some ⟨g, 0, none⟩))) w1 := by
  obtain ⟨cells, h1, h2, hz, hi, ho, hk⟩ := h
  refine wpList_store_row hsg ty (.tmp t) x hop g (h1 _) cells (h2 _) ty zs hb hi hz ho ?_
  rw [hsd]
  exact hk g _ hg (up_row hw hg _) (hb.row _)

/-- **'x := ..'**, where the order is drawn. -/
theorem reg_var {oa os : Oper} (n : Nat) (t : Tmp) (ty : TypeId) (x : Operand) (zs : Array Value) (hoa : l[n]? = some oa) (hos : l.drop (n + 1) = [os]) (hop : os.op = .store ty (.tmp t) x) (hsg : os.guard = none) (hsd : os.dst = none)
    (hag : oa.guard = none) (had : oa.dst = some t) (hm : P.follows .mixedOrders = true)
    (hB : tailB l.toArray n 1 1 = true) (hr : Region.ready .any l.toArray (marks n 0 (Array.replicate l.toArray.size false)) = [n])
    (hQ : ∀ c a d v w, Q (.panic c) (a.put d v) w → Q (.panic c) a w)
    (hrun : ∀ (a : Act) w, (execOp a.eval oa).run P w = .ok (.value (.pointer (some ⟨w.heap.size, 0, none⟩))) (w.alloc (.cells zs ty)))
    (h : wpB P l.toArray (Up w) (varEnd P Q w t ty x zs.size) (l.take n) a) : (Code.region id l.toArray true).wp P Q a w := by
  refine region_new n (Up w) w.heap.size ty zs hoa hm (by rw [hos]; exact hB) hr (fun _ _ h k => h.step k) (fun _ h => h.size) (Up.drew w) hQ hag hrun ?_
  rw [hos, had]
  exact wpB_mono (fun a' h' g w' hw' hg hb => var_end hop hsg hsd hg hw' hb h') _ _ h
theorem reg_varF {oa os : Oper} (n : Nat) (t : Tmp) (ty : TypeId) (x : Operand) (zs : Array Value) (hoa : l[n]? = some oa) (hos : l.drop (n + 1) = [os]) (hop : os.op = .store ty (.tmp t) x) (hsg : os.guard = none) (hsd : os.dst = none)
    (hag : oa.guard = none) (had : oa.dst = some t)
    (hrun : ∀ (a : Act) w, (execOp a.eval oa).run P w = .ok (.value (.pointer (some ⟨w.heap.size, 0, none⟩))) (w.alloc (.cells zs ty)))
    (h : wpB P l.toArray (Up w) (varEnd P Q w t ty x zs.size) (l.take n) a) : (Code.region id l.toArray false).wp P Q a w := by
  refine wp_region_lit ?_
  obtain ⟨e, _⟩ := cut_at hoa
  have h1 : wpList P l.toArray Q (l.take n ++ oa :: l.drop (n + 1)) a w := by
    refine wpList_of_B (l.take n) a w w (Up.refl w) (wpB_mono (fun a' h' w' hw' => ?_) _ _ h)
    rw [hos]
    unfold wpList
    rw [if_pos (by simp [Region.wanted, hag])]
    refine .inl ?_
    unfold Oper.wp
    rw [hrun]
    simp only [Oper.upon]
    rw [had]
    exact var_end hop hsg hsd hw'.size (hw'.alloc _) (Blk.new w' _ _) h'
  rwa [← e] at h1

/-- What is asked behind the reads and calls of 'x, y := .., ..'. -/
def varEnd2 (P : Program) (Q : Exit → Act → World → Prop) (w : World) (t t2 : Tmp) (ty ty2 : TypeId) (x x2 : Operand) (n n2 : Nat) (a' : Act) : Prop :=
  ∃ cells cells2 : Array Value, (∀ v u, ((a'.put (some t) v).put (some t2) u).eval (.tmp t) = v) ∧ (∀ v u, ((a'.put (some t) v).put (some t2) u).eval (.tmp t2) = u) ∧
    (∀ v u, ((a'.put (some t) v).put (some t2) u).eval x = .agg cells) ∧ (∀ v u, ((a'.put (some t) v).put (some t2) u).eval x2 = .agg cells2) ∧ n = cells.size ∧ n2 = cells2.size ∧
    (P.info? ty).map (·.size) = some cells.size ∧ (P.info? ty2).map (·.size) = some cells2.size ∧ (∀ v ∈ cells.toList, v.oneCell' = true) ∧ (∀ v ∈ cells2.toList, v.oneCell' = true) ∧
    ∀ g g2 w', w.heap.size ≤ g → w.heap.size ≤ g2 → Up w w' → Blk w' g ty cells → Blk w' g2 ty2 cells2 → Q .normal ((a'.put (some t) (.pointer (some ⟨g, 0, none⟩))).put (some t2) (.pointer (some ⟨g2, 0, none⟩))) w'
/-- **'x, y := .., ..'**, where the order is drawn. -/
theorem reg_var2 {oa ob os os2 : Oper} (n : Nat) (t t2 : Tmp) (ty ty2 : TypeId) (x x2 : Operand) (zs zs2 : Array Value) (hoa : l[n]? = some oa) (hob : l[n + 1]? = some ob) (hos : l.drop (n + 1 + 1) = [os, os2])
    (hop : os.op = .store ty (.tmp t) x) (hop2 : os2.op = .store ty2 (.tmp t2) x2) (hsg : os.guard = none) (hsg2 : os2.guard = none) (hsd : os.dst = none) (hsd2 : os2.dst = none)
    (hag : oa.guard = none) (hbg : ob.guard = none) (had : oa.dst = some t) (hbd : ob.dst = some t2) (htt : t ≠ t2) (hm : P.follows .mixedOrders = true)
    (hB : tailB l.toArray n 2 2 = true) (hr : Region.ready .any l.toArray (marks n 0 (Array.replicate l.toArray.size false)) = [n, n + 1])
    (hr1 : Region.ready .any l.toArray ((marks n 0 (Array.replicate l.toArray.size false)).setIfInBounds n true) = [n + 1])
    (hr2 : Region.ready .any l.toArray ((marks n 0 (Array.replicate l.toArray.size false)).setIfInBounds (n + 1) true) = [n])
    (hQ : ∀ c a d v w, Q (.panic c) (a.put d v) w → Q (.panic c) a w)
    (hrun : ∀ (a : Act) w, (execOp a.eval oa).run P w = .ok (.value (.pointer (some ⟨w.heap.size, 0, none⟩))) (w.alloc (.cells zs ty)))
    (hrun2 : ∀ (a : Act) w, (execOp a.eval ob).run P w = .ok (.value (.pointer (some ⟨w.heap.size, 0, none⟩))) (w.alloc (.cells zs2 ty2)))
    (h : wpB P l.toArray (Up w) (varEnd2 P Q w t t2 ty ty2 x x2 zs.size zs2.size) (l.take n) a) : (Code.region id l.toArray true).wp P Q a w := by
  refine region_new2 n (Up w) w.heap.size ty ty2 zs zs2 hoa hob hm (by rw [hos]; exact hB) hr hr1 hr2 (fun _ _ h k => h.step k) (fun _ h => h.size) (Up.drew w) hQ hag hrun hbg hrun2
    (fun d h1 h2 => htt (Option.some.inj (had.symm.trans (h1.trans (h2.symm.trans hbd))))) ?_
  rw [hos, had, hbd]
  refine wpB_mono (fun a' h' g g2 w' hw' hg hg2 hne hb hb2 => ?_) _ _ h
  obtain ⟨cells, cells2, h1, h2, h3, h4, z1, z2, i1, i2, o1, o2, hk⟩ := h'
  refine wpList_store_row hsg ty (.tmp t) x hop g (h1 _ _) cells (h3 _ _) ty zs hb i1 z1 o1 ?_
  rw [hsd]
  refine wpList_store_row hsg2 ty2 (.tmp t2) x2 hop2 g2 (h2 _ _) cells2 (h4 _ _) ty2 zs2 (hb2.rowFar (Ne.symm hne) _) i2 z2 o2 ?_
  rw [hsd2]
  exact hk g g2 _ hg hg2 (up_row (up_row hw' hg _) hg2 _) ((hb.row _).rowFar hne _) ((hb2.rowFar (Ne.symm hne) _).row _)

/-- What is asked behind the reads and calls of 'x = ..': the whole of a variable that is there. -/
def setEnd (P : Program) (Q : Exit → Act → World → Prop) (w : World) (p : Operand) (ty : TypeId) (x : Operand) (a' : Act) : Prop :=
  ∃ (g : Nat) (old cells : Array Value), a'.eval p = .pointer (some ⟨g, 0, none⟩) ∧ a'.eval x = .agg cells ∧ Blk w g ty old ∧ old.size = cells.size ∧ (P.info? ty).map (·.size) = some cells.size ∧ (∀ v ∈ cells.toList, v.oneCell' = true) ∧
    ∀ w', Up w w' → Q .normal a' (w'.setRow g cells)
theorem set_end {ops : Array Oper} {w w1 : World} {a' : Act} {p : Operand} {ty : TypeId} {x : Operand} {os : Oper} (hop : os.op = .store ty p x) (hsg : os.guard = none) (hsd : os.dst = none)
    (hw : Up w w1) (h : setEnd P Q w p ty x a') : wpList P ops Q [os] a' w1 := by
  obtain ⟨g, old, cells, h1, h2, hb, hz, hi, ho, hk⟩ := h
  refine wpList_store_row hsg ty p x hop g h1 cells h2 ty old (hw.blk hb) hi hz ho ?_
  rw [hsd]
  exact hk _ hw
/-- **'x = ..'** (and 'return ..'), where the order is drawn. -/
theorem reg_set {os : Oper} (n : Nat) (p : Operand) (ty : TypeId) (x : Operand) (hos : l.drop n = [os]) (hop : os.op = .store ty p x) (hsg : os.guard = none) (hsd : os.dst = none) (hm : P.follows .mixedOrders = true)
    (hB : tailB l.toArray n 0 1 = true) (hQ : ∀ c a d v w, Q (.panic c) (a.put d v) w → Q (.panic c) a w)
    (h : wpB P l.toArray (Up w) (setEnd P Q w p ty x) (l.take n) a) : (Code.region id l.toArray true).wp P Q a w := by
  have hn : n ≤ l.length := by
    have h1 := congrArg List.length hos
    simp only [List.length_drop, List.length_cons, List.length_nil] at h1
    omega
  refine region_B n (Up w) hn hm (by rw [hos]; exact hB) (fun _ _ h k => h.step k) (Up.drew w) hQ ?_
  rw [hos]
  exact wpB_mono (fun a' h' w' hw' => set_end hop hsg hsd hw' h') _ _ h
theorem reg_setF {os : Oper} (n : Nat) (p : Operand) (ty : TypeId) (x : Operand) (hos : l.drop n = [os]) (hop : os.op = .store ty p x) (hsg : os.guard = none) (hsd : os.dst = none)
    (h : wpB P l.toArray (Up w) (setEnd P Q w p ty x) (l.take n) a) : (Code.region id l.toArray false).wp P Q a w := by
  refine wp_region_lit ?_
  have h1 : wpList P l.toArray Q (l.take n ++ [os]) a w := wpList_of_B (l.take n) a w w (Up.refl w) (wpB_mono (fun a' h' w' hw' => set_end hop hsg hsd hw' h') _ _ h)
  rwa [← hos, List.take_append_drop] at h1
end

/-! ### Structs and arrays put together -/
theorem foldl_put {α : Type} (V A O Z : List α) (m k : Nat) (hm : m + k = A.length) (hl : O.length = V.length) :
    (V.zipIdx k).foldl (fun (cs : Array α) (p : α × Nat) => cs.setIfInBounds (m + p.2) p.1) (A ++ (O ++ Z)).toArray = (A ++ (V ++ Z)).toArray := by
  induction V generalizing A O k with
  | nil =>
    obtain rfl : O = [] := List.eq_nil_of_length_eq_zero hl
    rfl
  | cons c V ih =>
    obtain ⟨o, O, rfl⟩ : ∃ o O', O = o :: O' := by
      cases O with
      | nil => simp at hl
      | cons o O => exact ⟨o, O, rfl⟩
    rw [List.zipIdx_cons, List.foldl_cons]
    have e : ((A ++ (o :: O ++ Z)).toArray.setIfInBounds (m + k) c) = (A ++ [c] ++ (O ++ Z)).toArray := by
      rw [hm]
      simp
    rw [e, ih (A ++ [c]) O (k + 1) (by simp; omega) (by simpa using hl)]
    simp

/-- A part of a struct that is built. -/
theorem fill_put (place : Nat → Option (Nat × Nat)) (i n : Nat) (A O Z V : List Value) (rest : List (Nat × Value)) (hp : place i = some (A.length, n)) (hV : V.length = n) (hO : O.length = n) :
    Instr.fill place (A ++ (O ++ Z)).toArray ((i, .agg V.toArray) :: rest) = Instr.fill place (A ++ (V ++ Z)).toArray rest := by
  rw [Instr.fill]
  simp only [hp]
  rw [if_neg (by simp [Value.cells, hV, hO])]
  congr 1
  have h := foldl_put V A O Z A.length 0 rfl (by rw [hV, hO])
  rw [← h]
  simp [Value.cells, Array.zipIdx, List.mapIdx_eq_zipIdx_map]

theorem built_of {P : Program} {t : TypeId} {z : Array Value} {pl : List (Nat × Nat)} {parts : List (Nat × Value)}
    (h : (match P.info? t, P.underlying t with
      | some it, some (.struct fields) => (match it.zero, fields.toList.mapM (fun f => (P.info? f.type).map fun i => (f.offset, i.size)) with
        | some z, some places => some (z.cells, places)
        | _, _ => none)
      | _, _ => none) = some (z, pl)) : P.built t parts = Instr.fill (pl.toArray[·]?) z parts := by
  unfold Program.built
  cases hi : P.info? t with
  | none => simp [hi] at h
  | some it =>
    cases hu : P.underlying t with
    | none => simp [hi, hu] at h
    | some d =>
      cases d <;> simp only [hi, hu] at h <;> try (cases h; done)
      case struct fields =>
        simp only []
        cases hz : it.zero with
        | none => simp [hz] at h
        | some z' =>
          cases hp : fields.toList.mapM (fun f => (P.info? f.type).map fun i => (f.offset, i.size)) with
          | none => simp [hz, hp] at h
          | some places =>
            simp only [hz, hp] at h
            injection h with h
            injection h with h1 h2
            rw [← h1, ← h2]

section
variable {P : Program} {ops : Array Oper} {C0 : World → Prop} {Q : Act → Prop} {a : Act} {o : Oper} {rest : List Oper}
theorem b_build {t : TypeId} {parts : Array (Nat × Operand)} (vs : List (Nat × Value)) (cells : Array Value) (hg : Region.wanted o (yielded ops a.tmps) = true) (ho : o.op = .build t parts)
    (hv : (parts.toList.map fun (i, x) => (i, a.eval x)) = vs) (hb : P.built t vs = some cells) (hk : wpB P ops C0 Q rest (a.put o.dst (.agg cells))) : wpB P ops C0 Q (o :: rest) a :=
  b_val hg (fun w _ => by
    unfold execOp
    simp only [ho, Sem.run_bind, run_build w t _ cells (by rw [Array.toList_map, hv]; exact hb), Result.andThen_ok, Sem.run_pure]) hk
theorem b_extract {x : Operand} {i : Nat} {vs : Array Value} (v : Value) (hg : Region.wanted o (yielded ops a.tmps) = true) (ho : o.op = .extract x i) (hx : a.eval x = .tuple vs) (hv : vs[i]? = some v)
    (hk : wpB P ops C0 Q rest (a.put o.dst v)) : wpB P ops C0 Q (o :: rest) a :=
  b_val hg (fun w _ => by
    unfold execOp
    simp only [ho, hx]
    go_simp) hk
theorem b_move {x : Operand} (hg : Region.wanted o (yielded ops a.tmps) = true) (ho : o.op = .move x) (hk : wpB P ops C0 Q rest (a.put o.dst (a.eval x))) : wpB P ops C0 Q (o :: rest) a :=
  b_val hg (fun w _ => by
    unfold execOp
    simp only [ho, Sem.run_pure]) hk
/-- The address of a field. -/
theorem b_field {s : TypeId} {x : Operand} {f : Nat} (b off off' : Nat) (hg : Region.wanted o (yielded ops a.tmps) = true) (ho : o.op = .fieldAddr s x f) (hx : a.eval x = .pointer (some ⟨b, off, none⟩))
    (hr : ∀ w, (Instr.fieldAt s (.pointer (some ⟨b, off, none⟩)) f).run P w = .ok (.pointer (some ⟨b, off', none⟩)) w) (hk : wpB P ops C0 Q rest (a.put o.dst (.pointer (some ⟨b, off', none⟩)))) : wpB P ops C0 Q (o :: rest) a :=
  b_val hg (fun w _ => by
    unfold execOp
    simp only [ho, hx, Sem.run_bind, hr, Result.andThen_ok, Sem.run_pure]) hk
end

/-! ### New variables in a plain region -/
theorem run_box_agg {P : Program} (ty : TypeId) (cs : Array Value) (w : World) : (Instr.box ty (.agg cs)).run P w = .ok (.pointer (some ⟨w.heap.size, 0, none⟩)) (w.alloc (.cells cs ty)) := by
  simp [Instr.box, newVar, newRow, Value.cells]
theorem run_alloc0 {P : Program} {ty : TypeId} {zs : Array Value} (h : (P.info? ty).bind (fun i => i.zero.map (·.cells)) = some zs) (old : Value) (w : World) :
    (Instr.alloc ty true old).run P w = .ok (.pointer (some ⟨w.heap.size, 0, none⟩)) (w.alloc (.cells zs ty)) := by
  cases hi : P.info? ty with
  | none => simp [hi] at h
  | some i =>
    cases hz : i.zero with
    | none => simp [hi, hz] at h
    | some z =>
      simp only [hi, Option.bind_some, hz, Option.map_some] at h
      injection h with h
      subst h
      simp [Instr.alloc, zeroValue, typeInfo, hi, hz, newVar, newRow]
theorem exec_alloc {P : Program} {o : Oper} {ty : TypeId} {zs : Array Value} (ho : o.op = .alloc ty) (h : (P.info? ty).bind (fun i => i.zero.map (·.cells)) = some zs) (a : Act) (w : World) :
    (execOp a.eval o).run P w = .ok (.value (.pointer (some ⟨w.heap.size, 0, none⟩))) (w.alloc (.cells zs ty)) := by
  obtain ⟨dst, op, t, pos, af, gd⟩ := o
  simp only at ho
  subst ho
  unfold execOp
  simp only [Sem.run_bind, run_alloc0 h, Result.andThen_ok, Sem.run_pure]
section
variable {P : Program} {ops : Array Oper} {rest : List Oper} {o : Oper} {a : Act} {w : World} {Q : Exit → Act → World → Prop}
theorem wpl_alloc {ty : TypeId} {zs : Array Value} (hg : o.guard = none) (ho : o.op = .alloc ty) (hz : (P.info? ty).bind (fun i => i.zero.map (·.cells)) = some zs)
    (h : wpList P ops Q rest (a.put o.dst (.pointer (some ⟨w.heap.size, 0, none⟩))) (w.alloc (.cells zs ty))) : wpList P ops Q (o :: rest) a w :=
  wpList_plain hg fun _ hK => by
    unfold Oper.wp
    rw [exec_alloc ho hz]
    exact hK _ _ h
theorem wpl_box {ty : TypeId} {x : Operand} (cs : Array Value) (hg : o.guard = none) (ho : o.op = .box ty x) (hx : a.eval x = .agg cs)
    (h : wpList P ops Q rest (a.put o.dst (.pointer (some ⟨w.heap.size, 0, none⟩))) (w.alloc (.cells cs ty))) : wpList P ops Q (o :: rest) a w :=
  wpList_plain hg fun _ hK => by
    unfold Oper.wp execOp
    simp only [ho, hx, Sem.run_bind, run_box_agg, Result.andThen_ok, Sem.run_pure]
    exact hK _ _ h
theorem wpl_assign {x : Operand} (hg : o.guard = none) (ho : o.op = .assign x) (h : wpList P ops Q rest (a.put o.dst (a.eval x)) w) : wpList P ops Q (o :: rest) a w :=
  wpList_plain hg fun _ hK => by
    unfold Oper.wp execOp
    simp only [ho, Sem.run_pure]
    exact hK _ _ h
theorem wpl_val {v : Value} (hg : o.guard = none) (h : (execOp a.eval o).run P w = .ok (.value v) w) (hk : wpList P ops Q rest (a.put o.dst v) w) : wpList P ops Q (o :: rest) a w :=
  wpList_plain hg fun _ hK => by
    unfold Oper.wp
    rw [h]
    exact hK _ _ hk
theorem wpl_eq {t t' : TypeId} {x y : Operand} {q : Bool} (xs ys : Array Value) (hg : o.guard = none) (ho : o.op = .binOp .eql t x y t') (hx : a.eval x = .agg xs) (hy : a.eval y = .agg ys)
    (hd : P.eqGuardType P.depth t = false) (he : (Op.equalIn 10000 t (.agg xs) (.agg ys)).run P w = .ok q w) (hk : wpList P ops Q rest (a.put o.dst (.bool q)) w) : wpList P ops Q (o :: rest) a w :=
  wpl_val hg (by
    unfold execOp
    simp only [ho, hx, hy, Sem.run_bind, run_eqGuard_agg (hm := hd), Result.andThen_ok, binOp, Op.equal, Op.maxDepth, he, Sem.run_pure]) hk
theorem wpl_build {t : TypeId} {parts : Array (Nat × Operand)} (vs : List (Nat × Value)) (cells : Array Value) (hg : o.guard = none) (ho : o.op = .build t parts)
    (hv : (parts.toList.map fun (i, x) => (i, a.eval x)) = vs) (hb : P.built t vs = some cells) (hk : wpList P ops Q rest (a.put o.dst (.agg cells)) w) : wpList P ops Q (o :: rest) a w :=
  wpl_val hg (by
    unfold execOp
    simp only [ho, Sem.run_bind, run_build w t _ cells (by rw [Array.toList_map, hv]; exact hb), Result.andThen_ok, Sem.run_pure]) hk
/-! The same, guarded. -/
theorem wpl_valG {v : Value} (hg : Region.wanted o (yielded ops a.tmps) = true) (h : (execOp a.eval o).run P w = .ok (.value v) w) (hk : wpList P ops Q rest (a.put o.dst v) w) : wpList P ops Q (o :: rest) a w := by
  unfold wpList
  rw [if_pos hg]
  refine .inl ?_
  unfold Oper.wp
  rw [h]
  exact hk
theorem wpl_buildG {t : TypeId} {parts : Array (Nat × Operand)} (vs : List (Nat × Value)) (cells : Array Value) (hg : Region.wanted o (yielded ops a.tmps) = true) (ho : o.op = .build t parts)
    (hv : (parts.toList.map fun (i, x) => (i, a.eval x)) = vs) (hb : P.built t vs = some cells) (hk : wpList P ops Q rest (a.put o.dst (.agg cells)) w) : wpList P ops Q (o :: rest) a w :=
  wpl_valG hg (by
    unfold execOp
    simp only [ho, Sem.run_bind, run_build w t _ cells (by rw [Array.toList_map, hv]; exact hb), Result.andThen_ok, Sem.run_pure]) hk
theorem wpl_eqG {t t' : TypeId} {x y : Operand} {q : Bool} (xs ys : Array Value) (hg : Region.wanted o (yielded ops a.tmps) = true) (ho : o.op = .binOp .eql t x y t') (hx : a.eval x = .agg xs) (hy : a.eval y = .agg ys)
    (hd : P.eqGuardType P.depth t = false) (he : (Op.equalIn 10000 t (.agg xs) (.agg ys)).run P w = .ok q w) (hk : wpList P ops Q rest (a.put o.dst (.bool q)) w) : wpList P ops Q (o :: rest) a w :=
  wpl_valG hg (by
    unfold execOp
    simp only [ho, hx, hy, Sem.run_bind, run_eqGuard_agg (hm := hd), Result.andThen_ok, binOp, Op.equal, Op.maxDepth, he, Sem.run_pure]) hk
theorem wpl_rowG (hg : Region.wanted o (yielded ops a.tmps) = true) (ty : TypeId) (x : Operand) (ho : o.op = .load ty x) (g : Nat) (hx : a.eval x = .pointer (some ⟨g, 0, none⟩)) (t : TypeId) (cs : Array Value) (fr : Nat × Nat) (d : TypeDesc)
    (hb : w.heap[g]? = some (.cells cs t fr)) (hu : P.underlying ty = some d) (hd : (match d with | .struct _ | .array _ _ => true | _ => false) = true) (hi : (P.info? ty).map (·.size) = some cs.size)
    (hk : wpList P ops Q rest (a.put o.dst (.agg cs)) w) : wpList P ops Q (o :: rest) a w :=
  wpl_valG hg (by
    unfold execOp
    simp only [ho, hx, Instr.loadAt, Instr.sureAddr, Sem.run_bind, Sem.run_pure, Result.andThen_ok, run_loadVar_row w g t ty cs fr d hb hu hd hi]) hk
theorem wpl_nil (h : Q .normal a w) : wpList P ops Q [] a w := h
end
end Go.Proofs.YtgmiaaapaiccdaaDoor
/-
REGIONS THAT DRAW THEIR ORDER: the check of a region, quicker: each call waits for the call ahead of it, so for all of them.
REGIONS, WHOLE: calls of the program's own functions.
REGIONS, WHOLE: 'not', '!=', results of a cell and a temp.
-/
namespace Go.Proofs.YtgmiaaapaiccdaaDoor
open Go.RowKit Go.IntWalk

section
variable {md : Region.Mode} {ops : Array Oper}

/-- Has the operation an edge to number i? -/
def edgeTo (md : Region.Mode) (o : Oper) (i : Nat) : Bool := o.after.any fun e => Region.binds md e && e.on == i

theorem waitsT_edge {f j i : Nat} {o : Oper} (hj : ops[j]? = some o) (h : edgeTo md o i = true) : waitsT md ops (f + 1) j i = true := by
  unfold waitsT
  rw [hj]
  unfold edgeTo at h
  obtain ⟨e, he, hb⟩ := Array.any_eq_true'.1 h
  simp only [Bool.and_eq_true, beq_iff_eq] at hb
  exact Array.any_eq_true'.2 ⟨e, he, by simp [hb.1, hb.2]⟩
theorem waitsT_via {f j m i : Nat} {o : Oper} (hj : ops[j]? = some o) (h : edgeTo md o m = true) (hm : waitsT md ops f m i = true) : waitsT md ops (f + 1) j i = true := by
  unfold waitsT
  rw [hj]
  unfold edgeTo at h
  obtain ⟨e, he, hb⟩ := Array.any_eq_true'.1 h
  simp only [Bool.and_eq_true, beq_iff_eq] at hb
  exact Array.any_eq_true'.2 ⟨e, he, by simp [hb.1, hb.2, hm]⟩
theorem waitsT_mono : ∀ {f g j i : Nat}, f ≤ g → waitsT md ops f j i = true → waitsT md ops g j i = true
  | 0, _, _, _, _, h => by cases h
  | f + 1, 0, _, _, hle, _ => absurd hle (by omega)
  | f + 1, g + 1, j, i, hle, h => by
    unfold waitsT at h ⊢
    cases ho : ops[j]? with
    | none => rw [ho] at h; cases h
    | some o =>
      rw [ho] at h
      obtain ⟨e, he, hb⟩ := Array.any_eq_true'.1 h
      refine Array.any_eq_true'.2 ⟨e, he, ?_⟩
      simp only [Bool.and_eq_true, Bool.or_eq_true, beq_iff_eq] at hb ⊢
      exact ⟨hb.1, hb.2.imp id (waitsT_mono (by omega))⟩

/-- Has the operation an edge of the calls' order to number i? -/
def linkTo (md : Region.Mode) (o : Oper) (i : Nat) : Bool := o.after.any fun e => (match e.ground with
  | .chain => true
  | _ => false) && (Region.binds md e && e.on == i)
theorem edge_of_link {o : Oper} {i : Nat} (h : linkTo md o i = true) : edgeTo md o i = true := by
  unfold linkTo at h
  obtain ⟨e, he, hb⟩ := Array.any_eq_true'.1 h
  simp only [Bool.and_eq_true] at hb
  exact Array.any_eq_true'.2 ⟨e, he, by simp only [Bool.and_eq_true]; exact hb.2⟩

/-- Each call has an edge to what ends the row of calls ahead of it. -/
def chainB (md : Region.Mode) : List Oper → Nat → Option Nat → Bool
  | [], _, _ => true
  | o :: l, k, prev => if plainB o.op then chainB md l (k + 1) (match prev with
      | none => none
      | some i => if linkTo md o i then some k else some i)
    else (match prev with
    | none => true
    | some i => edgeTo md o i) && chainB md l (k + 1) (some k)

/-- A call. -/
def CallAt (ops : Array Oper) (i : Nat) : Prop := ∃ o, ops[i]? = some o ∧ plainB o.op = false
/-- Number p waits for all calls below it. -/
def WaitsAll (md : Region.Mode) (ops : Array Oper) (p : Nat) : Prop := ∀ i, i < p → CallAt ops i → waitsT md ops (p - i) p i = true

theorem waitsAll_edge {p k : Nat} {o : Oper} (hk : ops[k]? = some o) (he : edgeTo md o p = true) (hp : p < k) (hW : WaitsAll md ops p) (hall : ∀ i, i < k → CallAt ops i → i ≤ p) : WaitsAll md ops k := by
  intro i hi hc
  by_cases hip : i = p
  · subst hip
    exact waitsT_mono (f := 1) (by omega) (waitsT_edge hk he)
  · have h1 := hall i hi hc
    exact waitsT_mono (by omega) (waitsT_via hk he (hW i (by omega) hc))

theorem chain_all : ∀ (l : List Oper) (k : Nat) (prev : Option Nat), (∀ j, j < l.length → l[j]? = ops[k + j]?) → chainB md l k prev = true →
    (∀ p, prev = some p → p < k ∧ WaitsAll md ops p) → (∀ i, i < k → CallAt ops i → ∃ p, prev = some p ∧ i ≤ p) →
    ∀ j, k ≤ j → j < k + l.length → CallAt ops j → WaitsAll md ops j
  | [], k, _, _, _, _, _, j, h1, h2, _ => absurd h2 (by simp; omega)
  | x :: l, k, prev, hl, hB, hp, hq, j, h1, h2, hj => by
    have h0 : ops[k]? = some x := by simpa using (hl 0 (by simp)).symm
    have hl' : ∀ j, j < l.length → l[j]? = ops[k + 1 + j]? := fun j hj => by have := hl (j + 1) (by simpa using hj); simpa [Nat.add_assoc, Nat.add_comm 1 j] using this
    simp only [List.length_cons] at h2
    unfold chainB at hB
    by_cases hx : plainB x.op = true
    · rw [if_pos hx] at hB
      have hno : ¬ CallAt ops k := by
        rintro ⟨o', ho', hpo⟩
        rw [h0] at ho'
        cases ho'
        rw [hx] at hpo
        cases hpo
      have hjk : j ≠ k := by
        rintro rfl
        exact hno hj
      have hbel : ∀ i, i < k + 1 → CallAt ops i → i < k := fun i hi hc => by
        by_cases hik : i = k
        · subst hik
          exact absurd hc hno
        · omega
      cases prev with
      | none => exact chain_all l (k + 1) none hl' hB (fun p h => by cases h) (fun i hi hc => hq i (hbel i hi hc) hc) j (by omega) (by omega) hj
      | some p =>
        simp only at hB
        obtain ⟨hpk, hWp⟩ := hp p rfl
        have hall : ∀ i, i < k → CallAt ops i → i ≤ p := fun i hi hc => by
          obtain ⟨p', e, h⟩ := hq i hi hc
          cases e
          exact h
        by_cases hlk : linkTo md x p = true
        · rw [if_pos hlk] at hB
          refine chain_all l (k + 1) (some k) hl' hB (fun p' h => ?_) (fun i hi _ => ⟨k, rfl, by omega⟩) j (by omega) (by omega) hj
          cases h
          exact ⟨by omega, waitsAll_edge h0 (edge_of_link hlk) hpk hWp hall⟩
        · rw [if_neg hlk] at hB
          refine chain_all l (k + 1) (some p) hl' hB (fun p' h => ?_) (fun i hi hc => ⟨p, rfl, hall i (hbel i hi hc) hc⟩) j (by omega) (by omega) hj
          cases h
          exact ⟨by omega, hWp⟩
    · rw [if_neg hx] at hB
      simp only [Bool.and_eq_true] at hB
      have hWk : WaitsAll md ops k := by
        cases prev with
        | none =>
          intro i hi hc
          obtain ⟨p, e, _⟩ := hq i hi hc
          cases e
        | some p =>
          obtain ⟨hpk, hWp⟩ := hp p rfl
          refine waitsAll_edge h0 hB.1 hpk hWp (fun i hi hc => ?_)
          obtain ⟨p', e, h⟩ := hq i hi hc
          cases e
          exact h
      by_cases hjk : j = k
      · subst hjk
        exact hWk
      · refine chain_all l (k + 1) (some k) hl' hB.2 (fun p' h => ?_) (fun i hi _ => ⟨k, rfl, by omega⟩) j (by omega) (by omega) hj
        cases h
        exact ⟨by omega, hWk⟩

theorem chain_waits (hB : chainB md ops.toList 0 none = true) (j : Nat) (o : Oper) (hj : ops[j]? = some o) (hpl : plainB o.op = false) (i : Nat) (hij : i < j) (hi : CallAt ops i) : waitsT md ops (j - i) j i = true :=
  chain_all ops.toList 0 none (fun j _ => by simp) hB (fun p h => by cases h) (fun i hi => absurd hi (by omega)) j (by omega) (by simpa using (Array.getElem?_eq_some_iff.1 hj).1) ⟨o, hj, hpl⟩ i hij hi

/-! ### The head -/
def othersB (md : Region.Mode) (ops : Array Oper) (o : Oper) (k : Nat) : List Oper → Bool
  | [] => true
  | x :: l => (edgeTo md x k || o.apart ops x) && othersB md ops o k l
def headC (md : Region.Mode) (ops : Array Oper) : Nat → List Oper → Nat → Bool
  | 0, _, _ => true
  | _ + 1, [], _ => false
  | n + 1, o :: l, k => o.after.all (fun e => !Region.binds md e || decide (e.on < k)) && othersB md ops o k l && headC md ops n l (k + 1)

/-- Marked are just those below k. -/
def Inv (ops : Array Oper) (k : Nat) (listed : Array Bool) : Prop := ∀ j, j < ops.size → listed[j]? = some (decide (j < k))
theorem Inv.set {k : Nat} {listed : Array Bool} (h : Inv ops k listed) : Inv ops (k + 1) (listed.setIfInBounds k true) := by
  intro j hj
  rw [Array.getElem?_setIfInBounds]
  by_cases hjk : k = j
  · subst hjk
    have h1 := h k hj
    have hlt := (Array.getElem?_eq_some_iff.1 h1).1
    rw [if_pos rfl, if_pos hlt]
    simp
  · rw [if_neg hjk, h j hj]
    congr 1
    simp only [decide_eq_decide]
    omega
theorem Inv.start : Inv ops 0 (Array.replicate ops.size false) := by
  intro j hj
  simp [hj]
theorem Inv.marks {listed : Array Bool} : ∀ (n : Nat) {k : Nat} {listed : Array Bool}, Inv ops k listed → Inv ops (k + n) (marks n k listed)
  | 0, _, _, h => h
  | n + 1, k, _, h => by
    have := Inv.marks (listed := listed) n h.set
    rwa [show k + 1 + n = k + (n + 1) by omega] at this
theorem Inv.in_ {k : Nat} {listed : Array Bool} (h : Inv ops k listed) {j : Nat} (hj : j < ops.size) (hk : j < k) (d : Bool) : listed.getD j d = true := by
  have h1 := h j hj
  rw [Array.getD_eq_getD_getElem?, h1]
  simp [hk]
theorem Inv.out {k : Nat} {listed : Array Bool} (h : Inv ops k listed) {j : Nat} (hj : j < ops.size) (hk : k ≤ j) (d : Bool) : listed.getD j d = false := by
  have h1 := h j hj
  rw [Array.getD_eq_getD_getElem?, h1]
  simp
  omega

theorem others_spec {o : Oper} {k : Nat} : ∀ {l : List Oper}, othersB md ops o k l = true → ∀ x ∈ l, edgeTo md x k = true ∨ o.apart ops x = true
  | [], _, _, hx => absurd hx (by simp)
  | y :: l, h, x, hx => by
    simp only [othersB, Bool.and_eq_true, Bool.or_eq_true] at h
    rcases List.mem_cons.1 hx with rfl | hx
    · exact h.1
    · exact others_spec h.2 x hx

theorem headB_of (hch : chainB md ops.toList 0 none = true) : ∀ (n : Nat) (l : List Oper) (k : Nat) (listed : Array Bool), Inv ops k listed → l = ops.toList.drop k → headC md ops n l k = true → headB md ops n k listed = true
  | 0, _, _, _, _, _, _ => rfl
  | n + 1, [], _, _, _, _, h => by cases h
  | n + 1, o :: l, k, listed, hI, hl, h => by
    simp only [headC, Bool.and_eq_true] at h
    obtain ⟨⟨hr, ho⟩, hn⟩ := h
    have hk : k < ops.size := by
      have h1 := congrArg List.length hl
      simp only [List.length_cons, List.length_drop, Array.length_toList] at h1
      omega
    have h2 : ops.toList.drop k = ops.toList[k]'(by simpa using hk) :: ops.toList.drop (k + 1) := List.drop_eq_getElem_cons (by simpa using hk)
    rw [← hl] at h2
    injection h2 with h3 h4
    have hko : ops[k]? = some o := by
      rw [Array.getElem?_eq_getElem hk, h3]
      simp
    unfold headB
    simp only [Bool.and_eq_true]
    refine ⟨⟨⟨?_, ?_⟩, ?_⟩, headB_of hch n l (k + 1) _ hI.set h4 hn⟩
    · rw [List.contains_iff_mem]
      refine mem_ready.2 ⟨by rw [Array.getD_eq_getD_getElem?, hI k hk]; simp, o, hko, fun e he hb => ?_⟩
      have h5 := Array.all_eq_true'.1 hr e he
      simp only [hb, Bool.not_true, Bool.false_or, decide_eq_true_eq] at h5
      exact hI.in_ (by omega) h5 false
    · unfold Region.free
      simp only [hko]
      rw [List.all_eq_true]
      intro j hj
      have hj' : j < ops.size := by simpa using hj
      simp only [Bool.or_eq_true, beq_iff_eq]
      by_cases hjk : j = k
      · exact .inl (.inl hjk)
      · by_cases hlt : j < k
        · exact .inl (.inr (hI.in_ hj' hlt true))
        · right
          have hx : ops[j]? = some ops[j] := Array.getElem?_eq_getElem hj'
          rw [hx]
          have hm : ops[j] ∈ l := by
            rw [h4]
            rw [List.mem_iff_getElem?]
            exact ⟨j - (k + 1), by rw [List.getElem?_drop, show k + 1 + (j - (k + 1)) = j by omega]; simp [hj']⟩
          rcases others_spec ho _ hm with h6 | h6
          · simp only [Bool.or_eq_true]
            exact .inl h6
          · simp only [Bool.or_eq_true]
            exact .inr h6
    · unfold setFree
      simp only [hko, Bool.or_eq_true]
      by_cases hp : plainB o.op = true
      · exact .inl hp
      · right
        rw [List.all_eq_true]
        intro j hj
        have hj' : j < ops.size := by simpa using hj
        simp only [Bool.or_eq_true, beq_iff_eq]
        by_cases hjk : j = k
        · exact .inl (.inl (.inl hjk))
        · by_cases hlt : j < k
          · exact .inl (.inl (.inr (hI.in_ hj' hlt true)))
          · have hx : ops[j]? = some ops[j] := Array.getElem?_eq_getElem hj'
            by_cases hpj : plainB ops[j].op = true
            · right
              rw [hx]
              exact hpj
            · left
              right
              exact waitsT_mono (by omega) (chain_waits hch j _ hx (by simpa using hpj) k (by omega) ⟨o, hko, by simpa using hp⟩)

/-- Has the first of what is left to wait, within few steps, for all that stand ahead? -/
def sinksC (md : Region.Mode) (ops : Array Oper) (N : Nat) : Bool := match ops[N]? with
  | none => true
  | some o => (List.range N).all fun i => edgeTo md o i || waitsT md ops (min 4 ops.size) N i

/-- The quicker check. -/
def tailC (ops : Array Oper) (n k m : Nat) : Bool :=
  Region.noSelect ops && headC .any ops n ops.toList 0 && chainB .any ops.toList 0 none && decide (ops.size = m + k + n) && sinksC .any ops (k + n) &&
    forcedB .any ops m (k + n) (marks k n (marks n 0 (Array.replicate ops.size false)))

theorem tail_ok {n k m : Nat} (h : tailC ops n k m = true) : tailB ops n k m = true := by
  simp only [tailC, Bool.and_eq_true, decide_eq_true_eq] at h
  obtain ⟨⟨⟨⟨⟨h1, h2⟩, h3⟩, h4⟩, h5⟩, h6⟩ := h
  have hI1 : Inv ops n (marks n 0 (Array.replicate ops.size false)) := by
    have := Inv.marks (listed := #[]) n (Inv.start (ops := ops))
    rwa [Nat.zero_add] at this
  have hI2 : Inv ops (k + n) (marks k n (marks n 0 (Array.replicate ops.size false))) := by
    have := Inv.marks (listed := #[]) k hI1
    rwa [Nat.add_comm n k] at this
  have hr : ∀ j ∈ Region.ready .any ops (marks k n (marks n 0 (Array.replicate ops.size false))), j = k + n := by
    intro j hj
    cases m with
    | zero =>
      simp only [forcedB, List.isEmpty_iff] at h6
      rw [h6] at hj
      cases hj
    | succ m =>
      simp only [forcedB, Bool.and_eq_true, decide_eq_true_eq] at h6
      rw [h6.1] at hj
      simpa using hj
  simp only [tailB, Bool.and_eq_true, decide_eq_true_eq]
  refine ⟨⟨⟨⟨h1, headB_of h3 n ops.toList 0 _ Inv.start rfl h2⟩, h4⟩, ?_⟩, h6⟩
  unfold sinksB
  rw [List.all_eq_true]
  intro j hj
  have hjk := hr j hj
  subst hjk
  obtain ⟨_, o, ho, _⟩ := mem_ready.1 hj
  unfold sinksC at h5
  rw [ho] at h5
  simp only [List.all_eq_true, List.mem_range] at h5 ⊢
  intro i hi
  have hz : 0 < ops.size := Nat.lt_of_le_of_lt (Nat.zero_le _) (Array.getElem?_eq_some_iff.1 ho).1
  obtain ⟨f, hf⟩ : ∃ f, ops.size = f + 1 := ⟨ops.size - 1, by omega⟩
  have h7 := h5 i hi
  simp only [Bool.or_eq_true] at h7
  rcases h7 with h7 | h7
  · rw [hf]
    exact waitsT_edge ho h7
  · exact waitsT_mono (Nat.min_le_right _ _) h7
end
end Go.Proofs.YtgmiaaapaiccdaaDoor

namespace Go.Proofs.YtgmiaaapaiccdaaDoor
open Go.RowKit Go.IntWalk

/-- The function is the program's own. -/
def Own (f : FuncId) : Prop := ∀ (args : Array Value) (w : World), (callFunc f args).run Tryd.prog w = .ok (.enter f args) w
theorem run_call_fn {a : Act} {o : Oper} {f : FuncId} {xs : Array Operand} {ats : Array TypeId} (hf : Own f) (ho : o.op = .call { callee := .value (.func f), args := xs, argTypes := ats }) (w : World) :
    (execOp a.eval o).run Tryd.prog w = .ok (.enter f (xs.map a.eval)) w := by
  obtain ⟨dst, op, ty, pos, af, gd⟩ := o
  simp only at ho
  subst ho
  have h := hf (xs.map a.eval) w
  go_simp
theorem map_eval {a : Act} {xs : Array Operand} {args : Array Value} (h : xs.toList.map a.eval = args.toList) : xs.map a.eval = args := by
  apply Array.toList_inj.1
  rw [Array.toList_map, h]

section
variable {ops : Array Oper} {C0 : World → Prop} {Q : Act → Prop} {a : Act} {o : Oper} {rest : List Oper}
/-- A call that hands back one value. -/
theorem b_one {f : FuncId} {xs : Array Operand} {ats : Array TypeId} {args : Array Value} {v : Value} (hg : Region.wanted o (yielded ops a.tmps) = true)
    (hf : Own f) (hc : ∀ w, Calls Tryd.prog f args w (fun e w' => e = .returned v ∧ Below w.heap.size w w'))
    (ho : o.op = .call { callee := .value (.func f), args := xs, argTypes := ats }) (hx : xs.toList.map a.eval = args.toList) (hk : wpB Tryd.prog ops C0 Q rest (a.put o.dst v)) : wpB Tryd.prog ops C0 Q (o :: rest) a :=
  b_call1 (f := f) (args := args) hg (fun w _ => hc w) (fun w => by rw [run_call_fn hf ho, map_eval hx]) hk
end
end Go.Proofs.YtgmiaaapaiccdaaDoor

namespace Go.Proofs.YtgmiaaapaiccdaaDoor
open Go.RowKit Go.IntWalk

theorem results_cell_tmp {P : Program} {fn : Func} {p q : Tmp} {ty : TypeId} (h : fn.results = #[.cell p ty, .tmp q]) (tmps : Array Value) (w : World) (g : Nat) (t : TypeId) (cs : Array Value) (fr : Nat × Nat) (d : TypeDesc) (v : Value)
    (hp : tmps.getD p undef = .pointer (some ⟨g, 0, none⟩)) (hq : tmps.getD q undef = v) (hg : w.heap[g]? = some (.cells cs t fr))
    (hu : P.underlying ty = some d) (hd : (match d with | .struct _ | .array _ _ => true | _ => false) = true) (hi : (P.info? ty).map (·.size) = some cs.size) :
    (results fn tmps).run P w = .ok (.tuple #[.agg cs, v]) w := by
  have hp' : tmps[p]?.getD undef = .pointer (some ⟨g, 0, none⟩) := by simpa using hp
  have hq' : tmps[q]?.getD undef = v := by simpa using hq
  simp [results, h, hp', hq', asAddr, run_loadVar_row w g t ty cs fr d hg hu hd hi]

section
variable {ops : Array Oper} {C0 : World → Prop} {Q : Act → Prop} {a : Act} {o : Oper} {rest : List Oper}
theorem b_not {t : TypeId} {x : Operand} (q : Bool) (hg : Region.wanted o (yielded ops a.tmps) = true) (ho : o.op = .unOp .not t x) (hx : a.eval x = .bool q)
    (hk : wpB Tryd.prog ops C0 Q rest (a.put o.dst (.bool (!q)))) : wpB Tryd.prog ops C0 Q (o :: rest) a :=
  b_val hg (fun w _ => by
    unfold execOp
    simp only [ho, hx]
    go_simp) hk
/-- Two rows, by '!='. -/
theorem b_neq {t t' : TypeId} {x y : Operand} {q : Bool} (xs ys : Array Value) (hg : Region.wanted o (yielded ops a.tmps) = true) (ho : o.op = .binOp .neq t x y t') (hx : a.eval x = .agg xs) (hy : a.eval y = .agg ys)
    (hd : Tryd.prog.eqGuardType Tryd.prog.depth t = false) (he : ∀ w, (Op.equalIn 10000 t (.agg xs) (.agg ys)).run Tryd.prog w = .ok q w) (hk : wpB Tryd.prog ops C0 Q rest (a.put o.dst (.bool (!q)))) : wpB Tryd.prog ops C0 Q (o :: rest) a :=
  b_val hg (fun w _ => by
    unfold execOp
    simp only [ho, hx, hy, Sem.run_bind, run_eqGuard_agg (hm := hd), Result.andThen_ok, binOp, Op.equal, Op.maxDepth, he, Sem.run_pure]) hk
end

theorem b_assign {P : Program} {ops : Array Oper} {C0 : World → Prop} {Q : Act → Prop} {a : Act} {o : Oper} {rest : List Oper} {x : Operand} (hg : Region.wanted o (yielded ops a.tmps) = true) (ho : o.op = .assign x) (hk : wpB P ops C0 Q rest (a.put o.dst (a.eval x))) : wpB P ops C0 Q (o :: rest) a :=
  b_val hg (fun w _ => by
    unfold execOp
    simp only [ho, Sem.run_pure]) hk

end Go.Proofs.YtgmiaaapaiccdaaDoor
/-
  STEPS OF WALKS: bools, choices, rows of bytes, calls over a class of worlds; two new variables, the order forced.
-/
namespace Go.Proofs.YtgmiaaapaiccdaaDoor
open Go.RowKit Go.IntWalk

section
variable {ops : Array Oper} {C0 : World → Prop} {Q : Act → Prop} {a : Act} {o : Oper} {rest : List Oper}
/-- A call that hands back one value, over a class of worlds. -/
theorem b_oneC {f : FuncId} {xs : Array Operand} {ats : Array TypeId} {args : Array Value} {v : Value} (hg : Region.wanted o (yielded ops a.tmps) = true)
    (hf : Own f) (hc : ∀ w, C0 w → Calls Tryd.prog f args w (fun e w' => e = .returned v ∧ Below w.heap.size w w'))
    (ho : o.op = .call { callee := .value (.func f), args := xs, argTypes := ats }) (hx : xs.toList.map a.eval = args.toList) (hk : wpB Tryd.prog ops C0 Q rest (a.put o.dst v)) : wpB Tryd.prog ops C0 Q (o :: rest) a :=
  b_call1 (f := f) (args := args) hg hc (fun w => by rw [run_call_fn hf ho, map_eval hx]) hk
/-- A row of bytes is read. -/
theorem b_by {l : List UInt8} (g : Nat) (hl : l.length = 32) (x : Operand) (hg : Region.wanted o (yielded ops a.tmps) = true) (ho : o.op = .load 22 x) (hx : a.eval x = .pointer (some ⟨g, 0, none⟩))
    (hc : ∀ w, C0 w → Blk w g 22 (By l).toArray) (hk : wpB Tryd.prog ops C0 Q rest (a.put o.dst (.agg (By l).toArray))) : wpB Tryd.prog ops C0 Q (o :: rest) a :=
  b_mid hg 22 x ho g 0 hx (By l) _ (fun w h => (hc w h).range) Tryd.underlying22 rfl (size_hash (By l).toArray (len_by hl)) hk
/-- A choice whose condition is true. -/
theorem b_pick {c x y : Operand} (hg : Region.wanted o (yielded ops a.tmps) = true) (ho : o.op = .pick c x y) (hc : a.eval c = .bool true) (hk : wpB Tryd.prog ops C0 Q rest (a.put o.dst (a.eval x))) : wpB Tryd.prog ops C0 Q (o :: rest) a :=
  b_val hg (fun w _ => by
    unfold execOp
    simp only [ho, hc]
    go_simp) hk
/-- Two equal bools. -/
theorem b_eqb {x y : Operand} {t : TypeId} (q : Bool) (hg : Region.wanted o (yielded ops a.tmps) = true) (ho : o.op = .binOp .eql 4 x y t) (hx : a.eval x = .bool q) (hy : a.eval y = .bool q)
    (hk : wpB Tryd.prog ops C0 Q rest (a.put o.dst (.bool true))) : wpB Tryd.prog ops C0 Q (o :: rest) a :=
  b_val hg (fun w _ => by
    unfold execOp
    simp only [ho, hx, hy]
    go_simp) hk
/-- A choice whose condition is false. -/
theorem b_pickF {c x y : Operand} (hg : Region.wanted o (yielded ops a.tmps) = true) (ho : o.op = .pick c x y) (hc : a.eval c = .bool false) (hk : wpB Tryd.prog ops C0 Q rest (a.put o.dst (a.eval y))) : wpB Tryd.prog ops C0 Q (o :: rest) a :=
  b_val hg (fun w _ => by
    unfold execOp
    simp only [ho, hc]
    go_simp) hk
/-- Two equal bools, by '!='. -/
theorem b_neqb {x y : Operand} {t : TypeId} (q : Bool) (hg : Region.wanted o (yielded ops a.tmps) = true) (ho : o.op = .binOp .neq 4 x y t) (hx : a.eval x = .bool q) (hy : a.eval y = .bool q)
    (hk : wpB Tryd.prog ops C0 Q rest (a.put o.dst (.bool false))) : wpB Tryd.prog ops C0 Q (o :: rest) a :=
  b_val hg (fun w _ => by
    unfold execOp
    simp only [ho, hx, hy]
    go_simp) hk
/-- Two equal rows of bytes. -/
theorem b_eqh {t t' : TypeId} {x y : Operand} (l : List UInt8) (hl : l.length = 32) (hg : Region.wanted o (yielded ops a.tmps) = true) (ho : o.op = .binOp .eql t x y t') (ht : t = 22) (hx : a.eval x = .agg (By l).toArray) (hy : a.eval y = .agg (By l).toArray)
    (hk : wpB Tryd.prog ops C0 Q rest (a.put o.dst (.bool true))) : wpB Tryd.prog ops C0 Q (o :: rest) a := by
  subst ht
  exact b_eq (By l).toArray (By l).toArray hg ho hx hy (by kernel_rfl) (fun w => by rw [equal32 l l hl hl w]; simp) hk
end

section
variable {ops : Array Oper} {C0 : World → Prop} {Q : Act → Prop} {a : Act} {o : Oper} {rest : List Oper}
theorem b_index {x : Operand} (u : List UInt8) (hl : 0 < u.length) (hg : Region.wanted o (yielded ops a.tmps) = true) (ho : o.op = .index 22 x (.const (.int .i64 0))) (hx : a.eval x = .agg (By u).toArray)
    (hk : wpB Tryd.prog ops C0 Q rest (a.put o.dst (.int .u8 ((u[0]!).toNat : Int)))) : wpB Tryd.prog ops C0 Q (o :: rest) a :=
  b_val hg (fun w _ => by
    have h0 : (By u).toArray[0]? = some (.int .u8 ((u[0]!).toNat : Int)) := By_get hl
    unfold execOp
    simp only [ho, hx]
    generalize (u[0]!).toNat = c at *
    generalize (By u).toArray = cs at *
    have h1 : (Instr.index 22 (.agg cs) (.int .i64 0)).run Tryd.prog w = .ok (.int .u8 (c : Int)) w := by
      unfold Instr.index part
      go_simp
    go_simp) hk
theorem b_rem2 {x : Operand} (c : Nat) (hc : c < 256) (hg : Region.wanted o (yielded ops a.tmps) = true) (ho : o.op = .binOp .rem 5 x (.const (.int .u8 2)) 5) (hx : a.eval x = .int .u8 (c : Int))
    (hk : wpB Tryd.prog ops C0 Q rest (a.put o.dst (.int .u8 ((c % 2 : Nat) : Int)))) : wpB Tryd.prog ops C0 Q (o :: rest) a :=
  b_val hg (fun w _ => by
    unfold execOp
    simp only [ho, hx]
    go_simp
    exact Int.tmod_eq_emod_of_nonneg (by omega)) hk
theorem b_is1 {x : Operand} (c : Nat) (hg : Region.wanted o (yielded ops a.tmps) = true) (ho : o.op = .binOp .eql 5 x (.const (.int .u8 1)) 5) (hx : a.eval x = .int .u8 (c : Int))
    (hk : wpB Tryd.prog ops C0 Q rest (a.put o.dst (.bool (decide (c = 1))))) : wpB Tryd.prog ops C0 Q (o :: rest) a :=
  b_val hg (fun w _ => by
    unfold execOp
    simp only [ho, hx]
    go_simp
    rw [Bool.eq_iff_iff]
    simp
    omega) hk
end

/-! ### Two new variables, the order forced -/
theorem reg_var2F {P : Program} {Q : Exit → Act → World → Prop} {id : Nat} {a : Act} {w : World} {l : List Oper} {oa ob os os2 : Oper} (n : Nat) (t t2 : Tmp) (ty ty2 : TypeId) (x x2 : Operand) (zs zs2 : Array Value) (hoa : l[n]? = some oa) (hob : l[n + 1]? = some ob) (hos : l.drop (n + 1 + 1) = [os, os2])
    (hop : os.op = .store ty (.tmp t) x) (hop2 : os2.op = .store ty2 (.tmp t2) x2) (hsg : os.guard = none) (hsg2 : os2.guard = none) (hsd : os.dst = none) (hsd2 : os2.dst = none)
    (hag : oa.guard = none) (hbg : ob.guard = none) (had : oa.dst = some t) (hbd : ob.dst = some t2)
    (hrun : ∀ (a : Act) w, (execOp a.eval oa).run P w = .ok (.value (.pointer (some ⟨w.heap.size, 0, none⟩))) (w.alloc (.cells zs ty)))
    (hrun2 : ∀ (a : Act) w, (execOp a.eval ob).run P w = .ok (.value (.pointer (some ⟨w.heap.size, 0, none⟩))) (w.alloc (.cells zs2 ty2)))
    (h : wpB P l.toArray (Up w) (varEnd2 P Q w t t2 ty ty2 x x2 zs.size zs2.size) (l.take n) a) : (Code.region id l.toArray false).wp P Q a w := by
  have e : l.drop n = [oa, ob, os, os2] := by
    obtain ⟨h1, rfl⟩ := List.getElem?_eq_some_iff.1 hoa
    obtain ⟨h2, rfl⟩ := List.getElem?_eq_some_iff.1 hob
    rw [List.drop_eq_getElem_cons h1, List.drop_eq_getElem_cons h2, hos]
  refine reg_tailF n (wpB_mono (fun a' h' w' hw' => ?_) _ _ h)
  rw [e]
  unfold wpList
  rw [if_pos (by simp [Region.wanted, hag])]
  refine .inl ?_
  unfold Oper.wp
  rw [hrun]
  simp only [Oper.upon]
  rw [had]
  unfold wpList
  rw [if_pos (by simp [Region.wanted, hbg])]
  refine .inl ?_
  unfold Oper.wp
  rw [hrun2]
  simp only [Oper.upon]
  rw [hbd]
  obtain ⟨cells, cells2, h1, h2, h3, h4, z1, z2, i1, i2, o1, o2, hk⟩ := h'
  have hg : w.heap.size ≤ w'.heap.size := hw'.size
  have hg2 : w.heap.size ≤ (w'.alloc (.cells zs ty)).heap.size := by rw [World.size_alloc]; omega
  have hne : w'.heap.size ≠ (w'.alloc (.cells zs ty)).heap.size := by rw [World.size_alloc]; omega
  have hb : Blk ((w'.alloc (.cells zs ty)).alloc (.cells zs2 ty2)) w'.heap.size ty zs := (Blk.new w' ty zs).alloc _
  have hb2 : Blk ((w'.alloc (.cells zs ty)).alloc (.cells zs2 ty2)) (w'.alloc (.cells zs ty)).heap.size ty2 zs2 := Blk.new _ ty2 zs2
  have hU : Up w ((w'.alloc (.cells zs ty)).alloc (.cells zs2 ty2)) := (hw'.alloc _).alloc _
  refine wpList_store_row hsg ty (.tmp t) x hop w'.heap.size (h1 _ _) cells (h3 _ _) ty zs hb i1 z1 o1 ?_
  rw [hsd]
  refine wpList_store_row hsg2 ty2 (.tmp t2) x2 hop2 (w'.alloc (.cells zs ty)).heap.size (h2 _ _) cells2 (h4 _ _) ty2 zs2 (hb2.rowFar (Ne.symm hne) _) i2 z2 o2 ?_
  rw [hsd2]
  exact hk _ _ _ hg hg2 (up_row (up_row hU hg _) hg2 _) ((hb.row _).rowFar hne _) ((hb2.rowFar (Ne.symm hne) _).row _)
section
variable {ops : Array Oper} {C0 : World → Prop} {Q : Act → Prop} {a : Act} {o : Oper} {rest : List Oper}
/-- A call that hands back one of a set. -/
theorem b_callV {f : FuncId} {xs : Array Operand} {ats : Array TypeId} {args : Array Value} (V : Value → Prop) (hg : Region.wanted o (yielded ops a.tmps) = true)
    (hf : Own f) (hc : ∀ w, C0 w → Calls Tryd.prog f args w (fun e w' => ∃ v, e = .returned v ∧ V v ∧ Below w.heap.size w w'))
    (ho : o.op = .call { callee := .value (.func f), args := xs, argTypes := ats }) (hx : xs.toList.map a.eval = args.toList) (hk : ∀ v, V v → wpB Tryd.prog ops C0 Q rest (a.put o.dst v)) : wpB Tryd.prog ops C0 Q (o :: rest) a :=
  b_call (f := f) (args := args) V hg (by rw [ho]; rfl) hc (fun w => by rw [run_call_fn hf ho, map_eval hx]) hk
end

end Go.Proofs.YtgmiaaapaiccdaaDoor
/-
  FRAMES BY WHAT IS KNOWN OF THEM: the values of some slots are told, the others are not: great functions are walked over such frames.
-/
namespace Go.Proofs.YtgmiaaapaiccdaaDoor
open Go.RowKit Go.IntWalk

/-- What is told of slot j. -/
def look : List (Nat × Value) → Nat → Option Value
  | [], _ => none
  | (k, v) :: r, j => match Nat.beq k j with
    | true => some v
    | false => look r j
theorem look_cons (k j : Nat) (v : Value) (r : List (Nat × Value)) : look ((k, v) :: r) j = if k = j then some v else look r j := by
  show (match Nat.beq k j with | true => some v | false => look r j) = _
  by_cases h : k = j
  · subst h
    rw [if_pos rfl, Nat.beq_refl]
  · rw [if_neg h]
    cases e : Nat.beq k j with
    | true => exact absurd (Nat.eq_of_beq_eq_true e) h
    | false => rfl
/-- An operand's value, where it is told. -/
def ev (E : List (Nat × Value)) : Operand → Option Value
  | .tmp t => look E t
  | .const v => some v
  | .global g => some (.pointer (some ⟨g, 0, none⟩))
  | .func f => some (.func (.func f) #[] #[])
/-- Each slot that E' tells, E tells so. -/
def Sub : List (Nat × Value) → List (Nat × Value) → Prop
  | [], _ => True
  | p :: r, E => look E p.1 = some p.2 ∧ Sub r E
/-- A frame of N slots, of which E is told. -/
structure Fr (N : Nat) (E : List (Nat × Value)) (a : Act) : Prop where
  size : a.tmps.size = N
  defers : a.defers = []
  get : ∀ k v, look E k = some v → a.eval (.tmp k) = v

section
variable {N : Nat} {E E' : List (Nat × Value)} {a : Act}
theorem Fr.eval (h : Fr N E a) {x : Operand} {v : Value} (hx : ev E x = some v) : a.eval x = v := by
  cases x with
  | tmp t => exact h.get t v hx
  | const u => exact Option.some.inj hx
  | global g => exact Option.some.inj hx
  | func f => exact Option.some.inj hx
theorem Fr.put (h : Fr N E a) {k : Nat} (hk : Nat.blt k N = true) (v : Value) : Fr N ((k, v) :: E) (a.put (some k) v) := by
  have hk : k < N := by simpa using hk
  refine ⟨by simp [Act.put, h.size], h.defers, fun j u hj => ?_⟩
  rw [look_cons] at hj
  have hs : k < a.tmps.size := by rw [h.size]; exact hk
  by_cases e : k = j
  · subst e
    rw [if_pos rfl] at hj
    cases hj
    simp [Act.put, Act.eval, hs]
  · rw [if_neg e] at hj
    have h1 := h.get j u hj
    simp only [Act.put, Act.eval, Array.getD_eq_getD_getElem?] at h1 ⊢
    rw [Array.getElem?_setIfInBounds_ne (by omega)]
    exact h1
theorem Fr.sub (h : Fr N E a) (hs : Sub E' E) : Fr N E' a := by
  refine ⟨h.size, h.defers, ?_⟩
  induction E' with
  | nil => intro k v hk; cases hk
  | cons p r ih =>
    intro k v hk
    obtain ⟨j, u⟩ := p
    rw [look_cons] at hk
    by_cases e : j = k
    · subst e
      rw [if_pos rfl] at hk
      cases hk
      exact h.get _ _ hs.1
    · rw [if_neg e] at hk
      exact ih hs.2 k v hk
/-- The first frame of a call. -/
theorem Fr.start {args : Array Value} {n : Nat} (h : args.size + n = N) (E : List (Nat × Value)) (hE : ∀ k v, look E k = some v → args[k]? = some v) :
    Fr N E { tmps := args ++ Array.replicate n undef, defers := [] } := by
  refine ⟨by simp [h], rfl, fun k v hk => ?_⟩
  have h1 := hE k v hk
  have h2 := (Array.getElem?_eq_some_iff.1 h1).1
  simp only [Act.eval, Array.getD_eq_getD_getElem?]
  rw [Array.getElem?_append_left h2, h1]
  rfl
end

/-! ### Code over such frames -/
/-- Over whatever frame of which E is told. -/
def cF (P : Program) (c : Code) (Q : Exit → Act → World → Prop) (N : Nat) (E : List (Nat × Value)) (w : World) : Prop := ∀ a, Fr N E a → c.wp P Q a w
def bF (P : Program) (ops : Array Oper) (C0 : World → Prop) (Q : Act → Prop) (l : List Oper) (N : Nat) (E : List (Nat × Value)) : Prop := ∀ a, Fr N E a → wpB P ops C0 Q l a
def lF (P : Program) (ops : Array Oper) (Q : Exit → Act → World → Prop) (l : List Oper) (N : Nat) (E : List (Nat × Value)) (w : World) : Prop := ∀ a, Fr N E a → wpList P ops Q l a w
/-- What is left to do at the end of something: over whatever frame of which E is told. -/
def kF (K : Act → World → Prop) (N : Nat) (E : List (Nat × Value)) (w : World) : Prop := ∀ a, Fr N E a → K a w

section
variable {P : Program} {Q : Exit → Act → World → Prop} {N : Nat} {E E' : List (Nat × Value)} {w : World}
theorem c_sub {c : Code} (hs : Sub E' E) (h : cF P c Q N E' w) : cF P c Q N E w := fun a ha => h a (ha.sub hs)
theorem k_sub {K : Act → World → Prop} (hs : Sub E' E) (h : kF K N E' w) : kF K N E w := fun a ha => h a (ha.sub hs)
theorem c_seq {x y : Code} (h : ∀ K : Act → World → Prop, (∀ E' w', cF P y Q N E' w' → kF K N E' w') → cF P x (Exit.then K Q) N E w) : cF P (.seq x y) Q N E w := fun a ha =>
  wp_seq_k fun K hK => h K (fun _ _ h' a' ha' => hK _ _ (h' a' ha')) a ha
theorem c_cond {c : Operand} {x y : Code} (t : Bool) (hc : ev E c = some (.bool t)) (h : cF P (if t then x else y) Q N E w) : cF P (.cond c x y) Q N E w := fun a ha => wp_cond (ha.eval hc) (h a ha)
theorem c_block {id : Nat} {c : Code} (h : cF P c (Exit.inBlock id Q) N E w) : cF P (.block id c) Q N E w := fun a ha => wp_block (h a ha)
theorem c_skip (h : kF (Q .normal) N E w) : cF P .skip Q N E w := fun a ha => wp_skip (h a ha)
theorem c_exit {id : Nat} (h : kF (Q (.exit id)) N E w) : cF P (.exit id) Q N E w := fun a ha => wp_exit (h a ha)
theorem c_ret (h : kF (Q .ret) N E w) : cF P .ret Q N E w := fun a ha => wp_ret (h a ha)
/-- The end of a block by its exit. -/
theorem k_exit {id : Nat} (h : kF (Q .normal) N E w) : kF (Exit.inBlock id Q (.exit id)) N E w := fun a ha => by
  simp only [Exit.inBlock, if_true]
  exact h a ha

theorem least {σ : Type} (m : σ → Nat) (p : σ → Prop) : (∃ s, p s) → ∃ s, p s ∧ ∀ s', p s' → m s ≤ m s' := by
  rintro ⟨s, hs⟩
  have key : ∀ n s, m s ≤ n → p s → ∃ s, p s ∧ ∀ s', p s' → m s ≤ m s' := by
    intro n
    induction n with
    | zero => exact fun s hn hs => ⟨s, hs, fun s' _ => by omega⟩
    | succ n ih =>
      intro s hn hs
      by_cases h : ∃ s', p s' ∧ m s' < m s
      · obtain ⟨s', h1, h2⟩ := h
        exact ih s' (by omega) h1
      · exact ⟨s, hs, fun s' h1 => by
          by_cases h2 : m s' < m s
          · exact absurd ⟨s', h1, h2⟩ h
          · omega⟩
  exact key (m s) s (Nat.le_refl _) hs
open Classical in
/-- **A loop**: its states s, what is told of the frame and of the world at each, and what gets less. -/
theorem c_loop {σ : Type} {c : Code} (m : σ → Nat) (F : σ → List (Nat × Value)) (R : σ → World → Prop)
    (round : ∀ s w, R s w → cF P c (Exit.then (fun a' w' => ∃ s', R s' w' ∧ Fr N (F s') a' ∧ m s' < m s) Q) N (F s) w) (s0 : σ) (h0 : R s0 w) : cF P (.loop c) Q N (F s0) w := fun a ha => by
  let T : Act → World → σ → Prop := fun a w s => R s w ∧ Fr N (F s) a
  let μ : Act → World → Nat := fun a w => if h : ∃ s, T a w s then m (Classical.choose (least m (T a w) h)) else 0
  have hμ : ∀ a w (h : ∃ s, T a w s), ∃ s, T a w s ∧ (∀ s', T a w s' → m s ≤ m s') ∧ μ a w = m s := fun a w h => by
    refine ⟨Classical.choose (least m (T a w) h), (Classical.choose_spec (least m (T a w) h)).1, (Classical.choose_spec (least m (T a w) h)).2, ?_⟩
    show (if h : ∃ s, T a w s then m (Classical.choose (least m (T a w) h)) else 0) = _
    rw [dif_pos h]
  refine wp_loop (fun a w => ∃ s, T a w s) μ ⟨s0, h0, ha⟩ fun a w hI => ?_
  obtain ⟨s, hs, _, e⟩ := hμ a w hI
  refine wp_mono (round s w hs.1 a hs.2) fun x a' w' hx => ?_
  cases x with
  | normal =>
    obtain ⟨s', h1, h2, h3⟩ := hx
    have hI' : ∃ s, T a' w' s := ⟨s', h1, h2⟩
    obtain ⟨s2, hs2, hm2, e2⟩ := hμ a' w' hI'
    refine ⟨hI', ?_⟩
    rw [e, e2]
    exact Nat.lt_of_le_of_lt (hm2 s' ⟨h1, h2⟩) h3
  | exit _ => exact hx
  | goto _ => exact hx
  | ret => exact hx
  | panic _ => exact hx
  | outgrown => exact hx
/-- The end of a loop's round. -/
theorem k_round {σ : Type} {m : σ → Nat} {F : σ → List (Nat × Value)} {R : σ → World → Prop} {s : σ} (s' : σ) (hs : Sub (F s') E) (hR : R s' w) (hm : m s' < m s) :
    kF (fun a' w' => ∃ s', R s' w' ∧ Fr N (F s') a' ∧ m s' < m s) N E w := fun _ ha => ⟨s', hR, ha.sub hs, hm⟩
end

/-! ### Regions -/
section
variable {P : Program} {Q : Exit → Act → World → Prop} {N : Nat} {E : List (Nat × Value)} {w : World} {id : Nat} {l : List Oper}
theorem c_q (hm : P.follows .mixedOrders = true) (hB : tailB l.toArray l.length 0 0 = true) (hQ : ∀ c a d v w, Q (.panic c) (a.put d v) w → Q (.panic c) a w)
    (h : bF P l.toArray (Up w) (fun a' => ∀ w', Up w w' → Q .normal a' w') l N E) : cF P (.region id l.toArray true) Q N E w := fun a ha => reg_q hm hB hQ (h a ha)
theorem c_qF (h : bF P l.toArray (Up w) (fun a' => ∀ w', Up w w' → Q .normal a' w') l N E) : cF P (.region id l.toArray false) Q N E w := fun a ha => reg_qF (h a ha)
/-- Reads and calls, then the rest of the region in its order. -/
theorem c_t (n : Nat) (hn : n ≤ l.length) (hm : P.follows .mixedOrders = true) (hB : tailB l.toArray n 0 (l.drop n).length = true) (hQ : ∀ c a d v w, Q (.panic c) (a.put d v) w → Q (.panic c) a w)
    (h : bF P l.toArray (Up w) (fun a' => ∀ w', Up w w' → wpList P l.toArray Q (l.drop n) a' w') (l.take n) N E) : cF P (.region id l.toArray true) Q N E w := fun a ha =>
  region_B n (Up w) hn hm hB (fun _ _ h k => h.step k) (Up.drew w) hQ (h a ha)
theorem c_tF (n : Nat) (h : bF P l.toArray (Up w) (fun a' => ∀ w', Up w w' → wpList P l.toArray Q (l.drop n) a' w') (l.take n) N E) : cF P (.region id l.toArray false) Q N E w := fun a ha => reg_tailF n (h a ha)
theorem c_lit (h : lF P l.toArray Q l N E w) : cF P (.region id l.toArray false) Q N E w := fun a ha => wp_region_lit (h a ha)
end

/-! ### Steps -/
section
variable {P : Program} {ops : Array Oper} {C0 : World → Prop} {Q : Act → Prop} {N : Nat} {E : List (Nat × Value)} {o : Oper} {rest : List Oper} {k : Nat}
theorem f_val (v : Value) (hg : o.guard = none) (hd : o.dst = some k) (hk : Nat.blt k N = true) (h : ∀ a, Fr N E a → ∀ w, C0 w → (execOp a.eval o).run P w = .ok (.value v) w) (hn : bF P ops C0 Q rest N ((k, v) :: E)) :
    bF P ops C0 Q (o :: rest) N E := fun a ha => b_val (by simp [Region.wanted, hg]) (h a ha) (by rw [hd]; exact hn _ (ha.put hk v))
theorem f_move {x : Operand} (v : Value) (hg : o.guard = none) (hd : o.dst = some k) (hk : Nat.blt k N = true) (ho : o.op = .move x) (hx : ev E x = some v) (hn : bF P ops C0 Q rest N ((k, v) :: E)) : bF P ops C0 Q (o :: rest) N E :=
  f_val v hg hd hk (fun a ha w _ => by
    have h1 := ha.eval hx
    unfold execOp
    simp only [ho, h1, Sem.run_pure]) hn
theorem f_assign {x : Operand} (v : Value) (hg : o.guard = none) (hd : o.dst = some k) (hk : Nat.blt k N = true) (ho : o.op = .assign x) (hx : ev E x = some v) (hn : bF P ops C0 Q rest N ((k, v) :: E)) : bF P ops C0 Q (o :: rest) N E :=
  f_val v hg hd hk (fun a ha w _ => by
    have h1 := ha.eval hx
    unfold execOp
    simp only [ho, h1, Sem.run_pure]) hn
/-- What is told by one reckoning of two values, in every world. -/
theorem f_bin {b : BinOp} {t t2 : TypeId} {x y : Operand} (vx vy v : Value) (hg : o.guard = none) (hd : o.dst = some k) (hk : Nat.blt k N = true) (ho : o.op = .binOp b t x y t2) (hx : ev E x = some vx) (hy : ev E y = some vy)
    (hr : ∀ a : Act, ∀ o : Oper, o.op = .binOp b t x y t2 → a.eval x = vx → a.eval y = vy → ∀ w, (execOp a.eval o).run P w = .ok (.value v) w) (hn : bF P ops C0 Q rest N ((k, v) :: E)) : bF P ops C0 Q (o :: rest) N E :=
  f_val v hg hd hk (fun a ha w _ => hr a o ho (ha.eval hx) (ha.eval hy) w) hn
theorem f_nil (h : ∀ a, Fr N E a → Q a) : bF P ops C0 Q [] N E := fun a ha => wpB_nil (h a ha)
end
/-- The end of a region of reads and calls. -/
theorem f_end {P : Program} {ops : Array Oper} {Q : Exit → Act → World → Prop} {N : Nat} {E : List (Nat × Value)} {w : World} (h : ∀ w', Up w w' → kF (Q .normal) N E w') :
    bF P ops (Up w) (fun a' => ∀ w', Up w w' → Q .normal a' w') [] N E := fun a ha => wpB_nil fun w' hw' => h w' hw' a ha

section
variable {ops : Array Oper} {C0 : World → Prop} {Q : Act → Prop} {N : Nat} {E : List (Nat × Value)} {o : Oper} {rest : List Oper} {k : Nat}
/-- A call that hands back one value. -/
theorem f_call {f : FuncId} {xs : Array Operand} {ats : Array TypeId} (args : Array Value) (v : Value) (hg : o.guard = none) (hd : o.dst = some k) (hk : Nat.blt k N = true)
    (hf : Own f) (hc : ∀ w, C0 w → Calls Tryd.prog f args w (fun e w' => e = .returned v ∧ Below w.heap.size w w'))
    (ho : o.op = .call { callee := .value (.func f), args := xs, argTypes := ats }) (hx : xs.toList.map (ev E) = args.toList.map some) (hn : bF Tryd.prog ops C0 Q rest N ((k, v) :: E)) : bF Tryd.prog ops C0 Q (o :: rest) N E := fun a ha => by
  refine b_oneC (v := v) (args := args) (by simp [Region.wanted, hg]) hf hc ho ?_ (by rw [hd]; exact hn _ (ha.put hk v))
  have key : ∀ (l : List Operand) (m : List Value), l.map (ev E) = m.map some → l.map a.eval = m := by
    intro l
    induction l with
    | nil => intro m h; cases m with
      | nil => rfl
      | cons => cases h
    | cons y l ih => intro m h; cases m with
      | nil => cases h
      | cons u m =>
        simp only [List.map_cons, List.cons.injEq] at h ⊢
        exact ⟨ha.eval h.1, ih m h.2⟩
  exact key _ _ hx

/-! Numbers -/
theorem f_addI {x y : Operand} (m n r : Int) (hg : o.guard = none) (hd : o.dst = some k) (hk : Nat.blt k N = true) (ho : o.op = .binOp .add 3 x y 3) (hx : ev E x = some (.int .i64 m)) (hy : ev E y = some (.int .i64 n))
    (hr : IntKind.i64.wrap (m + n) = r) (hn : bF Tryd.prog ops C0 Q rest N ((k, .int .i64 r) :: E)) : bF Tryd.prog ops C0 Q (o :: rest) N E :=
  f_val _ hg hd hk (fun a ha w _ => by
    have h1 := ha.eval hx
    have h2 := ha.eval hy
    unfold execOp
    simp only [ho, h1, h2]
    go_simp) hn
theorem f_subI {x y : Operand} (m n r : Int) (hg : o.guard = none) (hd : o.dst = some k) (hk : Nat.blt k N = true) (ho : o.op = .binOp .sub 3 x y 3) (hx : ev E x = some (.int .i64 m)) (hy : ev E y = some (.int .i64 n))
    (hr : IntKind.i64.wrap (m - n) = r) (hn : bF Tryd.prog ops C0 Q rest N ((k, .int .i64 r) :: E)) : bF Tryd.prog ops C0 Q (o :: rest) N E :=
  f_val _ hg hd hk (fun a ha w _ => by
    have h1 := ha.eval hx
    have h2 := ha.eval hy
    unfold execOp
    simp only [ho, h1, h2]
    go_simp) hn
theorem f_mulI {x y : Operand} (m n r : Int) (hg : o.guard = none) (hd : o.dst = some k) (hk : Nat.blt k N = true) (ho : o.op = .binOp .mul 3 x y 3) (hx : ev E x = some (.int .i64 m)) (hy : ev E y = some (.int .i64 n))
    (hr : IntKind.i64.wrap (m * n) = r) (hn : bF Tryd.prog ops C0 Q rest N ((k, .int .i64 r) :: E)) : bF Tryd.prog ops C0 Q (o :: rest) N E :=
  f_val _ hg hd hk (fun a ha w _ => by
    have h1 := ha.eval hx
    have h2 := ha.eval hy
    unfold execOp
    simp only [ho, h1, h2]
    go_simp) hn
theorem f_lssI {x y : Operand} {t : TypeId} (m n : Int) (q : Bool) (hg : o.guard = none) (hd : o.dst = some k) (hk : Nat.blt k N = true) (ho : o.op = .binOp .lss 3 x y t) (hx : ev E x = some (.int .i64 m)) (hy : ev E y = some (.int .i64 n))
    (hr : decide (m < n) = q) (hn : bF Tryd.prog ops C0 Q rest N ((k, .bool q) :: E)) : bF Tryd.prog ops C0 Q (o :: rest) N E :=
  f_val _ hg hd hk (fun a ha w _ => by
    have h1 := ha.eval hx
    have h2 := ha.eval hy
    subst hr
    unfold execOp
    simp only [ho, h1, h2]
    go_simp) hn
theorem f_addU {x y : Operand} {t : TypeId} (m n r : Int) (hg : o.guard = none) (hd : o.dst = some k) (hk : Nat.blt k N = true) (ho : o.op = .binOp .add 24 x y t) (hx : ev E x = some (.int .u64 m)) (hy : ev E y = some (.int .u64 n))
    (hr : IntKind.u64.wrap (m + n) = r) (hn : bF Tryd.prog ops C0 Q rest N ((k, .int .u64 r) :: E)) : bF Tryd.prog ops C0 Q (o :: rest) N E :=
  f_val _ hg hd hk (fun a ha w _ => by
    have h1 := ha.eval hx
    have h2 := ha.eval hy
    unfold execOp
    simp only [ho, h1, h2]
    go_simp) hn
theorem f_mulU {x y : Operand} {t : TypeId} (m n r : Int) (hg : o.guard = none) (hd : o.dst = some k) (hk : Nat.blt k N = true) (ho : o.op = .binOp .mul 24 x y t) (hx : ev E x = some (.int .u64 m)) (hy : ev E y = some (.int .u64 n))
    (hr : IntKind.u64.wrap (m * n) = r) (hn : bF Tryd.prog ops C0 Q rest N ((k, .int .u64 r) :: E)) : bF Tryd.prog ops C0 Q (o :: rest) N E :=
  f_val _ hg hd hk (fun a ha w _ => by
    have h1 := ha.eval hx
    have h2 := ha.eval hy
    unfold execOp
    simp only [ho, h1, h2]
    go_simp) hn
theorem f_andU {x y : Operand} {t : TypeId} (m n r : Int) (hg : o.guard = none) (hd : o.dst = some k) (hk : Nat.blt k N = true) (ho : o.op = .binOp .and 24 x y t) (hx : ev E x = some (.int .u64 m)) (hy : ev E y = some (.int .u64 n))
    (hr : bits .and .u64 m n = r) (hn : bF Tryd.prog ops C0 Q rest N ((k, .int .u64 r) :: E)) : bF Tryd.prog ops C0 Q (o :: rest) N E :=
  f_val _ hg hd hk (fun a ha w _ => by
    have h1 := ha.eval hx
    have h2 := ha.eval hy
    unfold execOp
    simp only [ho, h1, h2]
    go_simp) hn
theorem f_orU {x y : Operand} {t : TypeId} (m n r : Int) (hg : o.guard = none) (hd : o.dst = some k) (hk : Nat.blt k N = true) (ho : o.op = .binOp .or 24 x y t) (hx : ev E x = some (.int .u64 m)) (hy : ev E y = some (.int .u64 n))
    (hr : bits .or .u64 m n = r) (hn : bF Tryd.prog ops C0 Q rest N ((k, .int .u64 r) :: E)) : bF Tryd.prog ops C0 Q (o :: rest) N E :=
  f_val _ hg hd hk (fun a ha w _ => by
    have h1 := ha.eval hx
    have h2 := ha.eval hy
    unfold execOp
    simp only [ho, h1, h2]
    go_simp) hn
theorem f_notU {x : Operand} {t : TypeId} (m r : Int) (hg : o.guard = none) (hd : o.dst = some k) (hk : Nat.blt k N = true) (ho : o.op = .unOp .xor t x) (hx : ev E x = some (.int .u64 m))
    (hr : bits .xor .u64 (if IntKind.u64.signed = true then -1 else IntKind.u64.max) m = r) (hn : bF Tryd.prog ops C0 Q rest N ((k, .int .u64 r) :: E)) : bF Tryd.prog ops C0 Q (o :: rest) N E :=
  f_val _ hg hd hk (fun a ha w _ => by
    have h1 := ha.eval hx
    subst hr
    unfold execOp
    simp only [ho, h1]
    go_simp) hn
theorem f_load {x : Operand} {t : TypeId} (p : Addr) (v : Value) (ht : t = 24 ∨ t = 64 ∨ t = 5 ∨ t = 3) (hg : o.guard = none) (hd : o.dst = some k) (hk : Nat.blt k N = true) (ho : o.op = .load t x) (hx : ev E x = some (.pointer (some p)))
    (hc : ∀ w, C0 w → w.cell? p = some v) (hn : bF Tryd.prog ops C0 Q rest N ((k, v) :: E)) : bF Tryd.prog ops C0 Q (o :: rest) N E :=
  f_val _ hg hd hk (fun a ha w hw => by
    have h1 := ha.eval hx
    have h2 := hc w hw
    unfold execOp
    simp only [ho, h1]
    rcases ht with rfl | rfl | rfl | rfl <;> go_simp) hn
end
end Go.Proofs.YtgmiaaapaiccdaaDoor
/-
  WORDS OF 64 BITS: rows of words, the walk's numbers made natural; a number's words and bytes.
-/
namespace Go.Proofs.YtgmiaaapaiccdaaDoor
open Go.RowKit Go.IntWalk

/-- Words as the cells of a row. -/
def Us (l : List Nat) : List Value := l.map fun x : Nat => .int .u64 (x : Int)
theorem Us_len (l : List Nat) : (Us l).length = l.length := by simp [Us]
theorem Us_one (l : List Nat) : ∀ u ∈ Us l, u.oneCell' = true := by
  intro u hu
  obtain ⟨x, _, rfl⟩ := List.mem_map.1 hu
  rfl
theorem Us_at {l : List Nat} {j : Nat} (h : j < l.length) : (Us l).toArray[j]? = some (.int .u64 (l[j]! : Nat)) := by
  simp [Us, h]
theorem Us_set (l : List Nat) (k x : Nat) : (Us l).toArray.setIfInBounds k (.int .u64 (x : Int)) = (Us (l.set k x)).toArray := by
  simp [Us, List.map_set]

theorem maskW (a : Nat) (ha : a < 18446744073709551616) : bits .and .u64 (a : Int) 2251799813685247 = ((a % 2251799813685248 : Nat) : Int) := by
  have h := u64_and_nat a 2251799813685247 ha (by omega)
  have e : a &&& 2251799813685247 = a % 2251799813685248 := Nat.and_two_pow_sub_one_eq_mod a 51
  rw [e] at h
  exact h

theorem orW (i x y : Nat) (hx : x % 2 ^ i = 0) (hy : y < 2 ^ i) (h1 : x < 18446744073709551616) (h2 : y < 18446744073709551616) : bits .or .u64 (x : Int) (y : Int) = ((x + y : Nat) : Int) := by
  rw [u64_or_nat x y h1 h2, nat_join i x y hx hy]
/-! ### The numbers of a walk, made natural -/
theorem mask32 (a : Nat) (ha : a < 18446744073709551616) : bits .and .u64 (a : Int) 4294967295 = ((a % 4294967296 : Nat) : Int) := by
  have h := u64_and_nat a 4294967295 ha (by omega)
  have e : a &&& 4294967295 = a % 4294967296 := Nat.and_two_pow_sub_one_eq_mod a 32
  rw [e] at h
  exact h
theorem div32 (a : Nat) : (a : Int) / 4294967296 = ((a / 4294967296 : Nat) : Int) := by omega
theorem div51 (a : Nat) : (a : Int) / 2251799813685248 = ((a / 2251799813685248 : Nat) : Int) := by omega
theorem mulN (a b : Nat) : (a : Int) * (b : Int) = ((a * b : Nat) : Int) := (Int.natCast_mul a b).symm
theorem addN (a b : Nat) : (a : Int) + (b : Int) = ((a + b : Nat) : Int) := (Int.natCast_add a b).symm
theorem wrapN (a : Nat) (ha : a < 18446744073709551616) : IntKind.u64.wrap (a : Int) = (a : Int) := by rw [IntKind.wrap_u64]; omega
theorem wrapM (a : Nat) : IntKind.u64.wrap (a : Int) = ((a % 18446744073709551616 : Nat) : Int) := by rw [IntKind.wrap_u64]; omega

/-- The model's row for math/bits.Sub64. -/
def subEntry : Array Value → Sem Value := fun args => do
  let (x, y, b) ← Extern.MathBitsCarry.three "Sub64" args
  pure (Extern.MathBitsCarry.pair ((x + Extern.MathBitsCarry.m64 - y - b) % Extern.MathBitsCarry.m64) (if x < y + b then 1 else 0))
theorem run_sub {P : Program} (x y b : Nat) (hb : b ≤ 1) (w : World) :
    (subEntry #[.int .u64 x, .int .u64 y, .int .u64 b]).run P w =
      .ok (.tuple #[.int .u64 (((x + 18446744073709551616 - y - b) % 18446744073709551616 : Nat) : Int), .int .u64 ((if x < y + b then 1 else 0 : Nat) : Int)]) w := by
  have : b = 0 ∨ b = 1 := by omega
  rcases this with rfl | rfl <;> rfl

/-! ### Bytes and words -/
/-- The bytes when n of them are there. -/
def fb (l : List UInt8) (n : Nat) : List UInt8 := (List.range 32).map fun m => if m < n then l[m]! else 0
theorem fb_len (l : List UInt8) (n : Nat) : (fb l n).length = 32 := by simp [fb]
theorem fb_zero (l : List UInt8) : fb l 0 = List.replicate 32 0 := by
  apply List.ext_getElem (by simp [fb])
  intro i h1 h2
  rw [List.getElem_replicate]
  simp [fb]
theorem fb_all {l : List UInt8} (h : l.length = 32) : fb l 32 = l := by
  apply List.ext_getElem (by simp [fb, h])
  intro i h1 h2
  have h3 : i < 32 := by simpa [fb] using h1
  simp [fb, h3, h2]
theorem fb_set (l : List UInt8) {n : Nat} : (fb l n).set n l[n]! = fb l (n + 1) := by
  apply List.ext_getElem (by simp [fb])
  intro j h1 h2
  rw [List.getElem_set]
  simp only [fb, List.getElem_map, List.getElem_range]
  by_cases hjk : n = j
  · subst hjk
    simp
  · rw [if_neg hjk]
    by_cases hlt : j < n
    · rw [if_pos hlt, if_pos (by omega)]
    · rw [if_neg hlt, if_neg (by omega)]

theorem bytes_get : ∀ (k v : Nat) {m : Nat}, m < k → ((Nums.bytes k v)[m]!).toNat = v / 256 ^ m % 256
  | k + 1, v, 0, _ => by
    show (UInt8.ofNat v).toNat = v / 1 % 256
    rw [UInt8.toNat_ofNat', Nat.div_one]
  | k + 1, v, m + 1, h => by
    have ih := bytes_get k (v / 256) (m := m) (by omega)
    show ((Nums.bytes k (v / 256))[m]!).toNat = v / 256 ^ (m + 1) % 256
    rw [ih, Nat.div_div_eq_div_mul, Nat.pow_succ, Nat.mul_comm 256]

/-- The word of 64 bits from 64 k on. -/
def wd (L k : Nat) : Nat := L / 18446744073709551616 ^ k % 18446744073709551616

theorem wd_byte (L k j : Nat) (hj : j < 8) : wd L k / 2 ^ (8 * j) % 256 = L / 256 ^ (8 * k + j) % 256 := by
  have e1 : (256 : Nat) ^ (8 * k + j) = 18446744073709551616 ^ k * 256 ^ j := by
    rw [Nat.pow_add, Nat.pow_mul]
  have e2 : (2 : Nat) ^ (8 * j) = 256 ^ j := by rw [Nat.pow_mul]
  rw [e1, e2, ← Nat.div_div_eq_div_mul]
  unfold wd
  generalize L / 18446744073709551616 ^ k = z
  have h8 : j = 0 ∨ j = 1 ∨ j = 2 ∨ j = 3 ∨ j = 4 ∨ j = 5 ∨ j = 6 ∨ j = 7 := by omega
  rcases h8 with rfl | rfl | rfl | rfl | rfl | rfl | rfl | rfl <;> simp only [Nat.reducePow] <;> omega

end Go.Proofs.YtgmiaaapaiccdaaDoor
