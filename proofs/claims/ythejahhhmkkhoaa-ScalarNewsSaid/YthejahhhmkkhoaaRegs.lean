/-
  REGIONS, WHOLE: 'x := f(..)', 'x = f(..)', 'return f(..)' over any world: the class is what is the world at hand with new memory.
-/
import Derived.Test.YthejahhhmkkhoaaTail
namespace Go.Proofs.Ythejahhhmkkhoaa
open Go.RowKit Go.IntWalk

section
variable {P : Program} {Q : Exit → Act → World → Prop} {id : Nat} {a : Act} {w : World} {l : List Oper}

/-- What is the world w with new memory. -/
def Up (w w' : World) : Prop := Below w.heap.size w w'
theorem Up.refl (w : World) : Up w w := Below.refl _ _
theorem Up.drew (w : World) : Up w w.drew := (Below.refl _ _).drew
theorem Up.step {w w1 w2 : World} (h : Up w w1) (k : Below w1.heap.size w1 w2) : Up w w2 := Below.trans h (k.mono h.size)
theorem Up.of {w w1 : World} (h : Up w w1) : Below w.heap.size w w1 := h
theorem Up.blk {w w1 : World} {g t : Nat} {cs : Array Value} (h : Up w w1) (k : Blk w g t cs) : Blk w1 g t cs := k.later h
theorem Up.alloc {w w1 : World} (h : Up w w1) (o : Obj) : Up w (w1.alloc o) := h.step ((Below.refl _ _).alloc (Nat.le_refl _) _)

theorem below_up {w W W' : World} (h : Below w.heap.size w W) (k : Up W W') : Below w.heap.size w W' := Below.trans h (Below.mono k h.size)
theorem wp_at {P : Program} {c : Code} {Q : Exit → Act → World → Prop} {a : Act} {w0 : World} (F : World → Prop) (h0 : F w0) (h : ∀ W, F W → c.wp P Q a W) : c.wp P Q a w0 := h w0 h0

/-- In the text's order the same walk serves. -/
theorem wpList_of_B {ops : Array Oper} {T : List Oper} : ∀ (L : List Oper) (a : Act) (w w0 : World), Up w0 w → wpB P ops (Up w0) (fun a' => ∀ w', Up w0 w' → wpList P ops Q T a' w') L a → wpList P ops Q (L ++ T) a w
  | [], a, w, w0, hw, h => h w hw
  | o :: L, a, w, w0, hw, h => by
    have key : ∀ V : Value → Prop, atB P o a w V → (∀ v w', V v → Below w.heap.size w w' → wpList P ops Q (L ++ T) (a.put o.dst v) w') → o.wp P a w (wpList P ops Q (L ++ T)) Q := fun V h3 hk => by
      unfold atB at h3
      unfold Oper.wp
      generalize (execOp a.eval o).run P w = r at *
      cases r with
      | ok n w' =>
        cases n <;> simp only [uponB] at h3 <;> simp only [Oper.upon]
        case value u =>
          obtain ⟨e1, e2⟩ := h3
          rw [e1]
          exact hk _ _ e2 (Below.refl _ _)
        case skip =>
          obtain ⟨e1, e2⟩ := h3
          rw [e1]
          exact hk _ _ e2 (Below.refl _ _)
        case enter f args =>
          obtain ⟨e1, hc⟩ := h3
          rw [e1]
          exact hc.mono fun e w'' ⟨v, he, hv, hw''⟩ => by subst he; exact hk _ _ hv hw''
      | halt x w' => simp only [uponB] at h3
    show wpList P ops Q (o :: (L ++ T)) a w
    unfold wpB at h
    unfold wpList
    split
    · rename_i hwt
      rw [if_pos hwt] at h
      refine .inl ?_
      rcases h with ⟨v, h1, h2⟩ | ⟨_, V, h1, h2⟩
      · exact key (· = v) (h1 w hw) fun u w' hu hw' => by rw [hu]; exact wpList_of_B L _ w' w0 (hw.step hw') h2
      · exact key V (h1 w hw) fun u w' hu hw' => wpList_of_B L _ w' w0 (hw.step hw') (h2 u hu)
    · rename_i hwt
      rw [if_neg hwt] at h
      exact wpList_of_B L _ w w0 hw h

/-- Nothing but reads and calls. -/
theorem reg_q (hm : P.follows .mixedOrders = true) (hB : tailB l.toArray l.length 0 0 = true) (hQ : ∀ c a d v w, Q (.panic c) (a.put d v) w → Q (.panic c) a w)
    (h : wpB P l.toArray (Up w) (fun a' => ∀ w', Up w w' → Q .normal a' w') l a) : (Code.region id l.toArray true).wp P Q a w :=
  region_B (l := l) l.length (Up w) (Nat.le_refl _) hm (by rw [List.drop_length]; exact hB) (fun _ _ h k => h.step k) (Up.drew w) hQ (by rw [List.drop_length, List.take_length]; exact h)
theorem reg_qF (h : wpB P l.toArray (Up w) (fun a' => ∀ w', Up w w' → Q .normal a' w') l a) : (Code.region id l.toArray false).wp P Q a w := by
  refine wp_region_lit ?_
  have h1 := wpList_of_B (Q := Q) (T := []) l a w w (Up.refl w) h
  rwa [List.append_nil] at h1

/-- Reads and calls, then the rest of the region in its order. -/
theorem reg_tailF (n : Nat) (h : wpB P l.toArray (Up w) (fun a' => ∀ w', Up w w' → wpList P l.toArray Q (l.drop n) a' w') (l.take n) a) : (Code.region id l.toArray false).wp P Q a w := by
  refine wp_region_lit ?_
  have h1 := wpList_of_B (Q := Q) (T := l.drop n) (l.take n) a w w (Up.refl w) h
  rwa [List.take_append_drop] at h1

/-- What is asked behind the reads and calls of 'x := ..'. -/
def varEnd (P : Program) (Q : Exit → Act → World → Prop) (w : World) (t : Tmp) (ty : TypeId) (x : Operand) (n : Nat) (a' : Act) : Prop :=
  ∃ cells : Array Value, (∀ v, (a'.put (some t) v).eval (.tmp t) = v) ∧ (∀ v, (a'.put (some t) v).eval x = .agg cells) ∧ n = cells.size ∧ (P.info? ty).map (·.size) = some cells.size ∧ (∀ v ∈ cells.toList, v.oneCell' = true) ∧
    ∀ g w', w.heap.size ≤ g → Up w w' → Blk w' g ty cells → Q .normal (a'.put (some t) (.pointer (some ⟨g, 0, none⟩))) w'

theorem up_row {w w1 : World} {g : Nat} (h : Up w w1) (hg : w.heap.size ≤ g) (cs : Array Value) : Up w (w1.setRow g cs) := below_setRow h hg _

theorem var_end {ops : Array Oper} {w w1 : World} {a' : Act} {t : Tmp} {ty : TypeId} {x : Operand} {os : Oper} {zs : Array Value} (hop : os.op = .store ty (.tmp t) x) (hsg : os.guard = none) (hsd : os.dst = none)
    {g : Nat} (hg : w.heap.size ≤ g) (hw : Up w w1) (hb : Blk w1 g ty zs) (h : varEnd P Q w t ty x zs.size a') : wpList P ops Q [os] (a'.put (some t) (.pointer (some ⟨g, 0, none⟩))) w1 := by
  obtain ⟨cells, h1, h2, hz, hi, ho, hk⟩ := h
  refine wpList_store_row hsg ty (.tmp t) x hop g (h1 _) cells (h2 _) ty zs hb hi hz ho ?_
  rw [hsd]
  exact hk g _ hg (up_row hw hg _) (hb.row _)

/-- **'x := ..'**, where the order is drawn. -/
theorem reg_var {oa os : Oper} (n : Nat) (t : Tmp) (ty : TypeId) (x : Operand) (zs : Array Value) (hoa : l[n]? = some oa) (hos : l.drop (n + 1) = [os]) (hop : os.op = .store ty (.tmp t) x) (hsg : os.guard = none) (hsd : os.dst = none)
    (hag : oa.guard = none) (had : oa.dst = some t) (hm : P.follows .mixedOrders = true)
    (hB : tailB l.toArray n 1 1 = true) (hr : Region.ready .any l.toArray (marks n 0 (Array.replicate l.toArray.size false)) = [n])
    (hQ : ∀ c a d v w, Q (.panic c) (a.put d v) w → Q (.panic c) a w)
    (hrun : ∀ (a : Act) w, (execOp a.eval oa).run P w = .ok (.value (.pointer (some ⟨w.heap.size, 0, none⟩))) (w.alloc (.cells zs ty)))
    (h : wpB P l.toArray (Up w) (varEnd P Q w t ty x zs.size) (l.take n) a) : (Code.region id l.toArray true).wp P Q a w := by
  refine region_new n (Up w) w.heap.size ty zs hoa hm (by rw [hos]; exact hB) hr (fun _ _ h k => h.step k) (fun _ h => h.size) (Up.drew w) hQ hag hrun ?_
  rw [hos, had]
  exact wpB_mono (fun a' h' g w' hw' hg hb => var_end hop hsg hsd hg hw' hb h') _ _ h
theorem reg_varF {oa os : Oper} (n : Nat) (t : Tmp) (ty : TypeId) (x : Operand) (zs : Array Value) (hoa : l[n]? = some oa) (hos : l.drop (n + 1) = [os]) (hop : os.op = .store ty (.tmp t) x) (hsg : os.guard = none) (hsd : os.dst = none)
    (hag : oa.guard = none) (had : oa.dst = some t)
    (hrun : ∀ (a : Act) w, (execOp a.eval oa).run P w = .ok (.value (.pointer (some ⟨w.heap.size, 0, none⟩))) (w.alloc (.cells zs ty)))
    (h : wpB P l.toArray (Up w) (varEnd P Q w t ty x zs.size) (l.take n) a) : (Code.region id l.toArray false).wp P Q a w := by
  refine wp_region_lit ?_
  obtain ⟨e, _⟩ := cut_at hoa
  have h1 : wpList P l.toArray Q (l.take n ++ oa :: l.drop (n + 1)) a w := by
    refine wpList_of_B (l.take n) a w w (Up.refl w) (wpB_mono (fun a' h' w' hw' => ?_) _ _ h)
    rw [hos]
    unfold wpList
    rw [if_pos (by simp [Region.wanted, hag])]
    refine .inl ?_
    unfold Oper.wp
    rw [hrun]
    simp only [Oper.upon]
    rw [had]
    exact var_end hop hsg hsd hw'.size (hw'.alloc _) (Blk.new w' _ _) h'
  rwa [← e] at h1

/-- What is asked behind the reads and calls of 'x, y := .., ..'. -/
def varEnd2 (P : Program) (Q : Exit → Act → World → Prop) (w : World) (t t2 : Tmp) (ty ty2 : TypeId) (x x2 : Operand) (n n2 : Nat) (a' : Act) : Prop :=
  ∃ cells cells2 : Array Value, (∀ v u, ((a'.put (some t) v).put (some t2) u).eval (.tmp t) = v) ∧ (∀ v u, ((a'.put (some t) v).put (some t2) u).eval (.tmp t2) = u) ∧
    (∀ v u, ((a'.put (some t) v).put (some t2) u).eval x = .agg cells) ∧ (∀ v u, ((a'.put (some t) v).put (some t2) u).eval x2 = .agg cells2) ∧ n = cells.size ∧ n2 = cells2.size ∧
    (P.info? ty).map (·.size) = some cells.size ∧ (P.info? ty2).map (·.size) = some cells2.size ∧ (∀ v ∈ cells.toList, v.oneCell' = true) ∧ (∀ v ∈ cells2.toList, v.oneCell' = true) ∧
    ∀ g g2 w', w.heap.size ≤ g → w.heap.size ≤ g2 → Up w w' → Blk w' g ty cells → Blk w' g2 ty2 cells2 → Q .normal ((a'.put (some t) (.pointer (some ⟨g, 0, none⟩))).put (some t2) (.pointer (some ⟨g2, 0, none⟩))) w'
/-- **'x, y := .., ..'**, where the order is drawn. -/
theorem reg_var2 {oa ob os os2 : Oper} (n : Nat) (t t2 : Tmp) (ty ty2 : TypeId) (x x2 : Operand) (zs zs2 : Array Value) (hoa : l[n]? = some oa) (hob : l[n + 1]? = some ob) (hos : l.drop (n + 1 + 1) = [os, os2])
    (hop : os.op = .store ty (.tmp t) x) (hop2 : os2.op = .store ty2 (.tmp t2) x2) (hsg : os.guard = none) (hsg2 : os2.guard = none) (hsd : os.dst = none) (hsd2 : os2.dst = none)
    (hag : oa.guard = none) (hbg : ob.guard = none) (had : oa.dst = some t) (hbd : ob.dst = some t2) (htt : t ≠ t2) (hm : P.follows .mixedOrders = true)
    (hB : tailB l.toArray n 2 2 = true) (hr : Region.ready .any l.toArray (marks n 0 (Array.replicate l.toArray.size false)) = [n, n + 1])
    (hr1 : Region.ready .any l.toArray ((marks n 0 (Array.replicate l.toArray.size false)).setIfInBounds n true) = [n + 1])
    (hr2 : Region.ready .any l.toArray ((marks n 0 (Array.replicate l.toArray.size false)).setIfInBounds (n + 1) true) = [n])
    (hQ : ∀ c a d v w, Q (.panic c) (a.put d v) w → Q (.panic c) a w)
    (hrun : ∀ (a : Act) w, (execOp a.eval oa).run P w = .ok (.value (.pointer (some ⟨w.heap.size, 0, none⟩))) (w.alloc (.cells zs ty)))
    (hrun2 : ∀ (a : Act) w, (execOp a.eval ob).run P w = .ok (.value (.pointer (some ⟨w.heap.size, 0, none⟩))) (w.alloc (.cells zs2 ty2)))
    (h : wpB P l.toArray (Up w) (varEnd2 P Q w t t2 ty ty2 x x2 zs.size zs2.size) (l.take n) a) : (Code.region id l.toArray true).wp P Q a w := by
  refine region_new2 n (Up w) w.heap.size ty ty2 zs zs2 hoa hob hm (by rw [hos]; exact hB) hr hr1 hr2 (fun _ _ h k => h.step k) (fun _ h => h.size) (Up.drew w) hQ hag hrun hbg hrun2
    (fun d h1 h2 => htt (Option.some.inj (had.symm.trans (h1.trans (h2.symm.trans hbd))))) ?_
  rw [hos, had, hbd]
  refine wpB_mono (fun a' h' g g2 w' hw' hg hg2 hne hb hb2 => ?_) _ _ h
  obtain ⟨cells, cells2, h1, h2, h3, h4, z1, z2, i1, i2, o1, o2, hk⟩ := h'
  refine wpList_store_row hsg ty (.tmp t) x hop g (h1 _ _) cells (h3 _ _) ty zs hb i1 z1 o1 ?_
  rw [hsd]
  refine wpList_store_row hsg2 ty2 (.tmp t2) x2 hop2 g2 (h2 _ _) cells2 (h4 _ _) ty2 zs2 (hb2.rowFar (Ne.symm hne) _) i2 z2 o2 ?_
  rw [hsd2]
  exact hk g g2 _ hg hg2 (up_row (up_row hw' hg _) hg2 _) ((hb.row _).rowFar hne _) ((hb2.rowFar (Ne.symm hne) _).row _)

/-- What is asked behind the reads and calls of 'x = ..': the whole of a variable that is there. -/
def setEnd (P : Program) (Q : Exit → Act → World → Prop) (w : World) (p : Operand) (ty : TypeId) (x : Operand) (a' : Act) : Prop :=
  ∃ (g : Nat) (old cells : Array Value), a'.eval p = .pointer (some ⟨g, 0, none⟩) ∧ a'.eval x = .agg cells ∧ Blk w g ty old ∧ old.size = cells.size ∧ (P.info? ty).map (·.size) = some cells.size ∧ (∀ v ∈ cells.toList, v.oneCell' = true) ∧
    ∀ w', Up w w' → Q .normal a' (w'.setRow g cells)
theorem set_end {ops : Array Oper} {w w1 : World} {a' : Act} {p : Operand} {ty : TypeId} {x : Operand} {os : Oper} (hop : os.op = .store ty p x) (hsg : os.guard = none) (hsd : os.dst = none)
    (hw : Up w w1) (h : setEnd P Q w p ty x a') : wpList P ops Q [os] a' w1 := by
  obtain ⟨g, old, cells, h1, h2, hb, hz, hi, ho, hk⟩ := h
  refine wpList_store_row hsg ty p x hop g h1 cells h2 ty old (hw.blk hb) hi hz ho ?_
  rw [hsd]
  exact hk _ hw
/-- **'x = ..'** (and 'return ..'), where the order is drawn. -/
theorem reg_set {os : Oper} (n : Nat) (p : Operand) (ty : TypeId) (x : Operand) (hos : l.drop n = [os]) (hop : os.op = .store ty p x) (hsg : os.guard = none) (hsd : os.dst = none) (hm : P.follows .mixedOrders = true)
    (hB : tailB l.toArray n 0 1 = true) (hQ : ∀ c a d v w, Q (.panic c) (a.put d v) w → Q (.panic c) a w)
    (h : wpB P l.toArray (Up w) (setEnd P Q w p ty x) (l.take n) a) : (Code.region id l.toArray true).wp P Q a w := by
  have hn : n ≤ l.length := by
    have h1 := congrArg List.length hos
    simp only [List.length_drop, List.length_cons, List.length_nil] at h1
    omega
  refine region_B n (Up w) hn hm (by rw [hos]; exact hB) (fun _ _ h k => h.step k) (Up.drew w) hQ ?_
  rw [hos]
  exact wpB_mono (fun a' h' w' hw' => set_end hop hsg hsd hw' h') _ _ h
theorem reg_setF {os : Oper} (n : Nat) (p : Operand) (ty : TypeId) (x : Operand) (hos : l.drop n = [os]) (hop : os.op = .store ty p x) (hsg : os.guard = none) (hsd : os.dst = none)
    (h : wpB P l.toArray (Up w) (setEnd P Q w p ty x) (l.take n) a) : (Code.region id l.toArray false).wp P Q a w := by
  refine wp_region_lit ?_
  have h1 : wpList P l.toArray Q (l.take n ++ [os]) a w := wpList_of_B (l.take n) a w w (Up.refl w) (wpB_mono (fun a' h' w' hw' => set_end hop hsg hsd hw' h') _ _ h)
  rwa [← hos, List.take_append_drop] at h1
end

/-! ### Structs and arrays put together -/
theorem foldl_put {α : Type} (V A O Z : List α) (m k : Nat) (hm : m + k = A.length) (hl : O.length = V.length) :
    (V.zipIdx k).foldl (fun (cs : Array α) (p : α × Nat) => cs.setIfInBounds (m + p.2) p.1) (A ++ (O ++ Z)).toArray = (A ++ (V ++ Z)).toArray := by
  induction V generalizing A O k with
  | nil =>
    obtain rfl : O = [] := List.eq_nil_of_length_eq_zero hl
    rfl
  | cons c V ih =>
    obtain ⟨o, O, rfl⟩ : ∃ o O', O = o :: O' := by
      cases O with
      | nil => simp at hl
      | cons o O => exact ⟨o, O, rfl⟩
    rw [List.zipIdx_cons, List.foldl_cons]
    have e : ((A ++ (o :: O ++ Z)).toArray.setIfInBounds (m + k) c) = (A ++ [c] ++ (O ++ Z)).toArray := by
      rw [hm]
      simp
    rw [e, ih (A ++ [c]) O (k + 1) (by simp; omega) (by simpa using hl)]
    simp

/-- A part of a struct that is built. -/
theorem fill_put (place : Nat → Option (Nat × Nat)) (i n : Nat) (A O Z V : List Value) (rest : List (Nat × Value)) (hp : place i = some (A.length, n)) (hV : V.length = n) (hO : O.length = n) :
    Instr.fill place (A ++ (O ++ Z)).toArray ((i, .agg V.toArray) :: rest) = Instr.fill place (A ++ (V ++ Z)).toArray rest := by
  rw [Instr.fill]
  simp only [hp]
  rw [if_neg (by simp [Value.cells, hV, hO])]
  congr 1
  have h := foldl_put V A O Z A.length 0 rfl (by rw [hV, hO])
  rw [← h]
  simp [Value.cells, Array.zipIdx, List.mapIdx_eq_zipIdx_map]

theorem built_of {P : Program} {t : TypeId} {z : Array Value} {pl : List (Nat × Nat)} {parts : List (Nat × Value)}
    (h : (match P.info? t, P.underlying t with
      | some it, some (.struct fields) => (match it.zero, fields.toList.mapM (fun f => (P.info? f.type).map fun i => (f.offset, i.size)) with
        | some z, some places => some (z.cells, places)
        | _, _ => none)
      | _, _ => none) = some (z, pl)) : P.built t parts = Instr.fill (pl.toArray[·]?) z parts := by
  unfold Program.built
  cases hi : P.info? t with
  | none => simp [hi] at h
  | some it =>
    cases hu : P.underlying t with
    | none => simp [hi, hu] at h
    | some d =>
      cases d <;> simp only [hi, hu] at h <;> try (cases h; done)
      case struct fields =>
        simp only []
        cases hz : it.zero with
        | none => simp [hz] at h
        | some z' =>
          cases hp : fields.toList.mapM (fun f => (P.info? f.type).map fun i => (f.offset, i.size)) with
          | none => simp [hz, hp] at h
          | some places =>
            simp only [hz, hp] at h
            injection h with h
            injection h with h1 h2
            rw [← h1, ← h2]

section
variable {P : Program} {ops : Array Oper} {C0 : World → Prop} {Q : Act → Prop} {a : Act} {o : Oper} {rest : List Oper}
theorem b_build {t : TypeId} {parts : Array (Nat × Operand)} (vs : List (Nat × Value)) (cells : Array Value) (hg : Region.wanted o (yielded ops a.tmps) = true) (ho : o.op = .build t parts)
    (hv : (parts.toList.map fun (i, x) => (i, a.eval x)) = vs) (hb : P.built t vs = some cells) (hk : wpB P ops C0 Q rest (a.put o.dst (.agg cells))) : wpB P ops C0 Q (o :: rest) a :=
  b_val hg (fun w _ => by
    unfold execOp
    simp only [ho, Sem.run_bind, run_build w t _ cells (by rw [Array.toList_map, hv]; exact hb), Result.andThen_ok, Sem.run_pure]) hk
theorem b_extract {x : Operand} {i : Nat} {vs : Array Value} (v : Value) (hg : Region.wanted o (yielded ops a.tmps) = true) (ho : o.op = .extract x i) (hx : a.eval x = .tuple vs) (hv : vs[i]? = some v)
    (hk : wpB P ops C0 Q rest (a.put o.dst v)) : wpB P ops C0 Q (o :: rest) a :=
  b_val hg (fun w _ => by
    unfold execOp
    simp only [ho, hx]
    go_simp) hk
theorem b_move {x : Operand} (hg : Region.wanted o (yielded ops a.tmps) = true) (ho : o.op = .move x) (hk : wpB P ops C0 Q rest (a.put o.dst (a.eval x))) : wpB P ops C0 Q (o :: rest) a :=
  b_val hg (fun w _ => by
    unfold execOp
    simp only [ho, Sem.run_pure]) hk
/-- The address of a field. -/
theorem b_field {s : TypeId} {x : Operand} {f : Nat} (b off off' : Nat) (hg : Region.wanted o (yielded ops a.tmps) = true) (ho : o.op = .fieldAddr s x f) (hx : a.eval x = .pointer (some ⟨b, off, none⟩))
    (hr : ∀ w, (Instr.fieldAt s (.pointer (some ⟨b, off, none⟩)) f).run P w = .ok (.pointer (some ⟨b, off', none⟩)) w) (hk : wpB P ops C0 Q rest (a.put o.dst (.pointer (some ⟨b, off', none⟩)))) : wpB P ops C0 Q (o :: rest) a :=
  b_val hg (fun w _ => by
    unfold execOp
    simp only [ho, hx, Sem.run_bind, hr, Result.andThen_ok, Sem.run_pure]) hk
end

/-! ### New variables in a plain region -/
theorem run_box_agg {P : Program} (ty : TypeId) (cs : Array Value) (w : World) : (Instr.box ty (.agg cs)).run P w = .ok (.pointer (some ⟨w.heap.size, 0, none⟩)) (w.alloc (.cells cs ty)) := by
  simp [Instr.box, newVar, newRow, Value.cells]
theorem run_alloc0 {P : Program} {ty : TypeId} {zs : Array Value} (h : (P.info? ty).bind (fun i => i.zero.map (·.cells)) = some zs) (old : Value) (w : World) :
    (Instr.alloc ty true old).run P w = .ok (.pointer (some ⟨w.heap.size, 0, none⟩)) (w.alloc (.cells zs ty)) := by
  cases hi : P.info? ty with
  | none => simp [hi] at h
  | some i =>
    cases hz : i.zero with
    | none => simp [hi, hz] at h
    | some z =>
      simp only [hi, Option.bind_some, hz, Option.map_some] at h
      injection h with h
      subst h
      simp [Instr.alloc, zeroValue, typeInfo, hi, hz, newVar, newRow]
theorem exec_alloc {P : Program} {o : Oper} {ty : TypeId} {zs : Array Value} (ho : o.op = .alloc ty) (h : (P.info? ty).bind (fun i => i.zero.map (·.cells)) = some zs) (a : Act) (w : World) :
    (execOp a.eval o).run P w = .ok (.value (.pointer (some ⟨w.heap.size, 0, none⟩))) (w.alloc (.cells zs ty)) := by
  obtain ⟨dst, op, t, pos, af, gd⟩ := o
  simp only at ho
  subst ho
  unfold execOp
  simp only [Sem.run_bind, run_alloc0 h, Result.andThen_ok, Sem.run_pure]
section
variable {P : Program} {ops : Array Oper} {rest : List Oper} {o : Oper} {a : Act} {w : World} {Q : Exit → Act → World → Prop}
theorem wpl_alloc {ty : TypeId} {zs : Array Value} (hg : o.guard = none) (ho : o.op = .alloc ty) (hz : (P.info? ty).bind (fun i => i.zero.map (·.cells)) = some zs)
    (h : wpList P ops Q rest (a.put o.dst (.pointer (some ⟨w.heap.size, 0, none⟩))) (w.alloc (.cells zs ty))) : wpList P ops Q (o :: rest) a w :=
  wpList_plain hg fun _ hK => by
    unfold Oper.wp
    rw [exec_alloc ho hz]
    exact hK _ _ h
theorem wpl_box {ty : TypeId} {x : Operand} (cs : Array Value) (hg : o.guard = none) (ho : o.op = .box ty x) (hx : a.eval x = .agg cs)
    (h : wpList P ops Q rest (a.put o.dst (.pointer (some ⟨w.heap.size, 0, none⟩))) (w.alloc (.cells cs ty))) : wpList P ops Q (o :: rest) a w :=
  wpList_plain hg fun _ hK => by
    unfold Oper.wp execOp
    simp only [ho, hx, Sem.run_bind, run_box_agg, Result.andThen_ok, Sem.run_pure]
    exact hK _ _ h
theorem wpl_assign {x : Operand} (hg : o.guard = none) (ho : o.op = .assign x) (h : wpList P ops Q rest (a.put o.dst (a.eval x)) w) : wpList P ops Q (o :: rest) a w :=
  wpList_plain hg fun _ hK => by
    unfold Oper.wp execOp
    simp only [ho, Sem.run_pure]
    exact hK _ _ h
theorem wpl_val {v : Value} (hg : o.guard = none) (h : (execOp a.eval o).run P w = .ok (.value v) w) (hk : wpList P ops Q rest (a.put o.dst v) w) : wpList P ops Q (o :: rest) a w :=
  wpList_plain hg fun _ hK => by
    unfold Oper.wp
    rw [h]
    exact hK _ _ hk
theorem wpl_eq {t t' : TypeId} {x y : Operand} {q : Bool} (xs ys : Array Value) (hg : o.guard = none) (ho : o.op = .binOp .eql t x y t') (hx : a.eval x = .agg xs) (hy : a.eval y = .agg ys)
    (hd : P.eqGuardType P.depth t = false) (he : (Op.equalIn 10000 t (.agg xs) (.agg ys)).run P w = .ok q w) (hk : wpList P ops Q rest (a.put o.dst (.bool q)) w) : wpList P ops Q (o :: rest) a w :=
  wpl_val hg (by
    unfold execOp
    simp only [ho, hx, hy, Sem.run_bind, run_eqGuard_agg (hm := hd), Result.andThen_ok, binOp, Op.equal, Op.maxDepth, he, Sem.run_pure]) hk
theorem wpl_build {t : TypeId} {parts : Array (Nat × Operand)} (vs : List (Nat × Value)) (cells : Array Value) (hg : o.guard = none) (ho : o.op = .build t parts)
    (hv : (parts.toList.map fun (i, x) => (i, a.eval x)) = vs) (hb : P.built t vs = some cells) (hk : wpList P ops Q rest (a.put o.dst (.agg cells)) w) : wpList P ops Q (o :: rest) a w :=
  wpl_val hg (by
    unfold execOp
    simp only [ho, Sem.run_bind, run_build w t _ cells (by rw [Array.toList_map, hv]; exact hb), Result.andThen_ok, Sem.run_pure]) hk
/-! The same, guarded. -/
theorem wpl_valG {v : Value} (hg : Region.wanted o (yielded ops a.tmps) = true) (h : (execOp a.eval o).run P w = .ok (.value v) w) (hk : wpList P ops Q rest (a.put o.dst v) w) : wpList P ops Q (o :: rest) a w := by
  unfold wpList
  rw [if_pos hg]
  refine .inl ?_
  unfold Oper.wp
  rw [h]
  exact hk
theorem wpl_buildG {t : TypeId} {parts : Array (Nat × Operand)} (vs : List (Nat × Value)) (cells : Array Value) (hg : Region.wanted o (yielded ops a.tmps) = true) (ho : o.op = .build t parts)
    (hv : (parts.toList.map fun (i, x) => (i, a.eval x)) = vs) (hb : P.built t vs = some cells) (hk : wpList P ops Q rest (a.put o.dst (.agg cells)) w) : wpList P ops Q (o :: rest) a w :=
  wpl_valG hg (by
    unfold execOp
    simp only [ho, Sem.run_bind, run_build w t _ cells (by rw [Array.toList_map, hv]; exact hb), Result.andThen_ok, Sem.run_pure]) hk
theorem wpl_eqG {t t' : TypeId} {x y : Operand} {q : Bool} (xs ys : Array Value) (hg : Region.wanted o (yielded ops a.tmps) = true) (ho : o.op = .binOp .eql t x y t') (hx : a.eval x = .agg xs) (hy : a.eval y = .agg ys)
    (hd : P.eqGuardType P.depth t = false) (he : (Op.equalIn 10000 t (.agg xs) (.agg ys)).run P w = .ok q w) (hk : wpList P ops Q rest (a.put o.dst (.bool q)) w) : wpList P ops Q (o :: rest) a w :=
  wpl_valG hg (by
    unfold execOp
    simp only [ho, hx, hy, Sem.run_bind, run_eqGuard_agg (hm := hd), Result.andThen_ok, binOp, Op.equal, Op.maxDepth, he, Sem.run_pure]) hk
theorem wpl_rowG (hg : Region.wanted o (yielded ops a.tmps) = true) (ty : TypeId) (x : Operand) (ho : o.op = .load ty x) (g : Nat) (hx : a.eval x = .pointer (some ⟨g, 0, none⟩)) (t : TypeId) (cs : Array Value) (fr : Nat × Nat) (d : TypeDesc)
    (hb : w.heap[g]? = some (.cells cs t fr)) (hu : P.underlying ty = some d) (hd : (match d with | .struct _ | .array _ _ => true | _ => false) = true) (hi : (P.info? ty).map (·.size) = some cs.size)
    (hk : wpList P ops Q rest (a.put o.dst (.agg cs)) w) : wpList P ops Q (o :: rest) a w :=
  wpl_valG hg (by
    unfold execOp
    simp only [ho, hx, Instr.loadAt, Instr.sureAddr, Sem.run_bind, Sem.run_pure, Result.andThen_ok, run_loadVar_row w g t ty cs fr d hb hu hd hi]) hk
theorem wpl_nil (h : Q .normal a w) : wpList P ops Q [] a w := h
end
end Go.Proofs.Ythejahhhmkkhoaa
