/-
REGIONS THAT DRAW THEIR ORDER: the check of a region, quicker: each call waits for the call ahead of it, so for all of them.
REGIONS, WHOLE: calls of the program's own functions.
REGIONS, WHOLE: 'not', '!=', results of a cell and a temp.
-/
import Derived.Test.YthejahhhmkkhoaaTail
import Derived.Test.YthejahhhmkkhoaaRegs
namespace Go.Proofs.Ythejahhhmkkhoaa
open Go.RowKit Go.IntWalk

section
variable {md : Region.Mode} {ops : Array Oper}

/-- Has the operation an edge to number i? -/
def edgeTo (md : Region.Mode) (o : Oper) (i : Nat) : Bool := o.after.any fun e => Region.binds md e && e.on == i

theorem waitsT_edge {f j i : Nat} {o : Oper} (hj : ops[j]? = some o) (h : edgeTo md o i = true) : waitsT md ops (f + 1) j i = true := by
  unfold waitsT
  rw [hj]
  unfold edgeTo at h
  obtain ⟨e, he, hb⟩ := Array.any_eq_true'.1 h
  simp only [Bool.and_eq_true, beq_iff_eq] at hb
  exact Array.any_eq_true'.2 ⟨e, he, by simp [hb.1, hb.2]⟩
theorem waitsT_via {f j m i : Nat} {o : Oper} (hj : ops[j]? = some o) (h : edgeTo md o m = true) (hm : waitsT md ops f m i = true) : waitsT md ops (f + 1) j i = true := by
  unfold waitsT
  rw [hj]
  unfold edgeTo at h
  obtain ⟨e, he, hb⟩ := Array.any_eq_true'.1 h
  simp only [Bool.and_eq_true, beq_iff_eq] at hb
  exact Array.any_eq_true'.2 ⟨e, he, by simp [hb.1, hb.2, hm]⟩
theorem waitsT_mono : ∀ {f g j i : Nat}, f ≤ g → waitsT md ops f j i = true → waitsT md ops g j i = true
  | 0, _, _, _, _, h => by cases h
  | f + 1, 0, _, _, hle, _ => absurd hle (by omega)
  | f + 1, g + 1, j, i, hle, h => by
    unfold waitsT at h ⊢
    cases ho : ops[j]? with
    | none => rw [ho] at h; cases h
    | some o =>
      rw [ho] at h
      obtain ⟨e, he, hb⟩ := Array.any_eq_true'.1 h
      refine Array.any_eq_true'.2 ⟨e, he, ?_⟩
      simp only [Bool.and_eq_true, Bool.or_eq_true, beq_iff_eq] at hb ⊢
      exact ⟨hb.1, hb.2.imp id (waitsT_mono (by omega))⟩

/-- Has the operation an edge of the calls' order to number i? -/
def linkTo (md : Region.Mode) (o : Oper) (i : Nat) : Bool := o.after.any fun e => (match e.ground with
  | .chain => true
  | _ => false) && (Region.binds md e && e.on == i)
theorem edge_of_link {o : Oper} {i : Nat} (h : linkTo md o i = true) : edgeTo md o i = true := by
  unfold linkTo at h
  obtain ⟨e, he, hb⟩ := Array.any_eq_true'.1 h
  simp only [Bool.and_eq_true] at hb
  exact Array.any_eq_true'.2 ⟨e, he, by simp only [Bool.and_eq_true]; exact hb.2⟩

/-- Each call has an edge to what ends the row of calls ahead of it. -/
def chainB (md : Region.Mode) : List Oper → Nat → Option Nat → Bool
  | [], _, _ => true
  | o :: l, k, prev => if plainB o.op then chainB md l (k + 1) (match prev with
      | none => none
      | some i => if linkTo md o i then some k else some i)
    else (match prev with
    | none => true
    | some i => edgeTo md o i) && chainB md l (k + 1) (some k)

/-- A call. -/
def CallAt (ops : Array Oper) (i : Nat) : Prop := ∃ o, ops[i]? = some o ∧ plainB o.op = false
/-- Number p waits for all calls below it. -/
def WaitsAll (md : Region.Mode) (ops : Array Oper) (p : Nat) : Prop := ∀ i, i < p → CallAt ops i → waitsT md ops (p - i) p i = true

theorem waitsAll_edge {p k : Nat} {o : Oper} (hk : ops[k]? = some o) (he : edgeTo md o p = true) (hp : p < k) (hW : WaitsAll md ops p) (hall : ∀ i, i < k → CallAt ops i → i ≤ p) : WaitsAll md ops k := by
  intro i hi hc
  by_cases hip : i = p
  · subst hip
    exact waitsT_mono (f := 1) (by omega) (waitsT_edge hk he)
  · have h1 := hall i hi hc
    exact waitsT_mono (by omega) (waitsT_via hk he (hW i (by omega) hc))

theorem chain_all : ∀ (l : List Oper) (k : Nat) (prev : Option Nat), (∀ j, j < l.length → l[j]? = ops[k + j]?) → chainB md l k prev = true →
    (∀ p, prev = some p → p < k ∧ WaitsAll md ops p) → (∀ i, i < k → CallAt ops i → ∃ p, prev = some p ∧ i ≤ p) →
    ∀ j, k ≤ j → j < k + l.length → CallAt ops j → WaitsAll md ops j
  | [], k, _, _, _, _, _, j, h1, h2, _ => absurd h2 (by simp; omega)
  | x :: l, k, prev, hl, hB, hp, hq, j, h1, h2, hj => by
    have h0 : ops[k]? = some x := by simpa using (hl 0 (by simp)).symm
    have hl' : ∀ j, j < l.length → l[j]? = ops[k + 1 + j]? := fun j hj => by have := hl (j + 1) (by simpa using hj); simpa [Nat.add_assoc, Nat.add_comm 1 j] using this
    simp only [List.length_cons] at h2
    unfold chainB at hB
    by_cases hx : plainB x.op = true
    · rw [if_pos hx] at hB
      have hno : ¬ CallAt ops k := by
        rintro ⟨o', ho', hpo⟩
        rw [h0] at ho'
        cases ho'
        rw [hx] at hpo
        cases hpo
      have hjk : j ≠ k := by
        rintro rfl
        exact hno hj
      have hbel : ∀ i, i < k + 1 → CallAt ops i → i < k := fun i hi hc => by
        by_cases hik : i = k
        · subst hik
          exact absurd hc hno
        · omega
      cases prev with
      | none => exact chain_all l (k + 1) none hl' hB (fun p h => by cases h) (fun i hi hc => hq i (hbel i hi hc) hc) j (by omega) (by omega) hj
      | some p =>
        simp only at hB
        obtain ⟨hpk, hWp⟩ := hp p rfl
        have hall : ∀ i, i < k → CallAt ops i → i ≤ p := fun i hi hc => by
          obtain ⟨p', e, h⟩ := hq i hi hc
          cases e
          exact h
        by_cases hlk : linkTo md x p = true
        · rw [if_pos hlk] at hB
          refine chain_all l (k + 1) (some k) hl' hB (fun p' h => ?_) (fun i hi _ => ⟨k, rfl, by omega⟩) j (by omega) (by omega) hj
          cases h
          exact ⟨by omega, waitsAll_edge h0 (edge_of_link hlk) hpk hWp hall⟩
        · rw [if_neg hlk] at hB
          refine chain_all l (k + 1) (some p) hl' hB (fun p' h => ?_) (fun i hi hc => ⟨p, rfl, hall i (hbel i hi hc) hc⟩) j (by omega) (by omega) hj
          cases h
          exact ⟨by omega, hWp⟩
    · rw [if_neg hx] at hB
      simp only [Bool.and_eq_true] at hB
      have hWk : WaitsAll md ops k := by
        cases prev with
        | none =>
          intro i hi hc
          obtain ⟨p, e, _⟩ := hq i hi hc
          cases e
        | some p =>
          obtain ⟨hpk, hWp⟩ := hp p rfl
          refine waitsAll_edge h0 hB.1 hpk hWp (fun i hi hc => ?_)
          obtain ⟨p', e, h⟩ := hq i hi hc
          cases e
          exact h
      by_cases hjk : j = k
      · subst hjk
        exact hWk
      · refine chain_all l (k + 1) (some k) hl' hB.2 (fun p' h => ?_) (fun i hi _ => ⟨k, rfl, by omega⟩) j (by omega) (by omega) hj
        cases h
        exact ⟨by omega, hWk⟩

theorem chain_waits (hB : chainB md ops.toList 0 none = true) (j : Nat) (o : Oper) (hj : ops[j]? = some o) (hpl : plainB o.op = false) (i : Nat) (hij : i < j) (hi : CallAt ops i) : waitsT md ops (j - i) j i = true :=
  chain_all ops.toList 0 none (fun j _ => by simp) hB (fun p h => by cases h) (fun i hi => absurd hi (by omega)) j (by omega) (by simpa using (Array.getElem?_eq_some_iff.1 hj).1) ⟨o, hj, hpl⟩ i hij hi

/-! ### The head -/
def othersB (md : Region.Mode) (ops : Array Oper) (o : Oper) (k : Nat) : List Oper → Bool
  | [] => true
  | x :: l => (edgeTo md x k || o.apart ops x) && othersB md ops o k l
def headC (md : Region.Mode) (ops : Array Oper) : Nat → List Oper → Nat → Bool
  | 0, _, _ => true
  | _ + 1, [], _ => false
  | n + 1, o :: l, k => o.after.all (fun e => !Region.binds md e || decide (e.on < k)) && othersB md ops o k l && headC md ops n l (k + 1)

/-- Marked are just those below k. -/
def Inv (ops : Array Oper) (k : Nat) (listed : Array Bool) : Prop := ∀ j, j < ops.size → listed[j]? = some (decide (j < k))
theorem Inv.set {k : Nat} {listed : Array Bool} (h : Inv ops k listed) : Inv ops (k + 1) (listed.setIfInBounds k true) := by
  intro j hj
  rw [Array.getElem?_setIfInBounds]
  by_cases hjk : k = j
  · subst hjk
    have h1 := h k hj
    have hlt := (Array.getElem?_eq_some_iff.1 h1).1
    rw [if_pos rfl, if_pos hlt]
    simp
  · rw [if_neg hjk, h j hj]
    congr 1
    simp only [decide_eq_decide]
    omega
theorem Inv.start : Inv ops 0 (Array.replicate ops.size false) := by
  intro j hj
  simp [hj]
theorem Inv.marks {listed : Array Bool} : ∀ (n : Nat) {k : Nat} {listed : Array Bool}, Inv ops k listed → Inv ops (k + n) (marks n k listed)
  | 0, _, _, h => h
  | n + 1, k, _, h => by
    have := Inv.marks (listed := listed) n h.set
    rwa [show k + 1 + n = k + (n + 1) by omega] at this
theorem Inv.in_ {k : Nat} {listed : Array Bool} (h : Inv ops k listed) {j : Nat} (hj : j < ops.size) (hk : j < k) (d : Bool) : listed.getD j d = true := by
  have h1 := h j hj
  rw [Array.getD_eq_getD_getElem?, h1]
  simp [hk]
theorem Inv.out {k : Nat} {listed : Array Bool} (h : Inv ops k listed) {j : Nat} (hj : j < ops.size) (hk : k ≤ j) (d : Bool) : listed.getD j d = false := by
  have h1 := h j hj
  rw [Array.getD_eq_getD_getElem?, h1]
  simp
  omega

theorem others_spec {o : Oper} {k : Nat} : ∀ {l : List Oper}, othersB md ops o k l = true → ∀ x ∈ l, edgeTo md x k = true ∨ o.apart ops x = true
  | [], _, _, hx => absurd hx (by simp)
  | y :: l, h, x, hx => by
    simp only [othersB, Bool.and_eq_true, Bool.or_eq_true] at h
    rcases List.mem_cons.1 hx with rfl | hx
    · exact h.1
    · exact others_spec h.2 x hx

theorem headB_of (hch : chainB md ops.toList 0 none = true) : ∀ (n : Nat) (l : List Oper) (k : Nat) (listed : Array Bool), Inv ops k listed → l = ops.toList.drop k → headC md ops n l k = true → headB md ops n k listed = true
  | 0, _, _, _, _, _, _ => rfl
  | n + 1, [], _, _, _, _, h => by cases h
  | n + 1, o :: l, k, listed, hI, hl, h => by
    simp only [headC, Bool.and_eq_true] at h
    obtain ⟨⟨hr, ho⟩, hn⟩ := h
    have hk : k < ops.size := by
      have h1 := congrArg List.length hl
      simp only [List.length_cons, List.length_drop, Array.length_toList] at h1
      omega
    have h2 : ops.toList.drop k = ops.toList[k]'(by simpa using hk) :: ops.toList.drop (k + 1) := List.drop_eq_getElem_cons (by simpa using hk)
    rw [← hl] at h2
    injection h2 with h3 h4
    have hko : ops[k]? = some o := by
      rw [Array.getElem?_eq_getElem hk, h3]
      simp
    unfold headB
    simp only [Bool.and_eq_true]
    refine ⟨⟨⟨?_, ?_⟩, ?_⟩, headB_of hch n l (k + 1) _ hI.set h4 hn⟩
    · rw [List.contains_iff_mem]
      refine mem_ready.2 ⟨by rw [Array.getD_eq_getD_getElem?, hI k hk]; simp, o, hko, fun e he hb => ?_⟩
      have h5 := Array.all_eq_true'.1 hr e he
      simp only [hb, Bool.not_true, Bool.false_or, decide_eq_true_eq] at h5
      exact hI.in_ (by omega) h5 false
    · unfold Region.free
      simp only [hko]
      rw [List.all_eq_true]
      intro j hj
      have hj' : j < ops.size := by simpa using hj
      simp only [Bool.or_eq_true, beq_iff_eq]
      by_cases hjk : j = k
      · exact .inl (.inl hjk)
      · by_cases hlt : j < k
        · exact .inl (.inr (hI.in_ hj' hlt true))
        · right
          have hx : ops[j]? = some ops[j] := Array.getElem?_eq_getElem hj'
          rw [hx]
          have hm : ops[j] ∈ l := by
            rw [h4]
            rw [List.mem_iff_getElem?]
            exact ⟨j - (k + 1), by rw [List.getElem?_drop, show k + 1 + (j - (k + 1)) = j by omega]; simp [hj']⟩
          rcases others_spec ho _ hm with h6 | h6
          · simp only [Bool.or_eq_true]
            exact .inl h6
          · simp only [Bool.or_eq_true]
            exact .inr h6
    · unfold setFree
      simp only [hko, Bool.or_eq_true]
      by_cases hp : plainB o.op = true
      · exact .inl hp
      · right
        rw [List.all_eq_true]
        intro j hj
        have hj' : j < ops.size := by simpa using hj
        simp only [Bool.or_eq_true, beq_iff_eq]
        by_cases hjk : j = k
        · exact .inl (.inl (.inl hjk))
        · by_cases hlt : j < k
          · exact .inl (.inl (.inr (hI.in_ hj' hlt true)))
          · have hx : ops[j]? = some ops[j] := Array.getElem?_eq_getElem hj'
            by_cases hpj : plainB ops[j].op = true
            · right
              rw [hx]
              exact hpj
            · left
              right
              exact waitsT_mono (by omega) (chain_waits hch j _ hx (by simpa using hpj) k (by omega) ⟨o, hko, by simpa using hp⟩)

/-- Has the first of what is left to wait, within few steps, for all that stand ahead? -/
def sinksC (md : Region.Mode) (ops : Array Oper) (N : Nat) : Bool := match ops[N]? with
  | none => true
  | some o => (List.range N).all fun i => edgeTo md o i || waitsT md ops (min 4 ops.size) N i

/-- The quicker check. -/
def tailC (ops : Array Oper) (n k m : Nat) : Bool :=
  Region.noSelect ops && headC .any ops n ops.toList 0 && chainB .any ops.toList 0 none && decide (ops.size = m + k + n) && sinksC .any ops (k + n) &&
    forcedB .any ops m (k + n) (marks k n (marks n 0 (Array.replicate ops.size false)))

theorem tail_ok {n k m : Nat} (h : tailC ops n k m = true) : tailB ops n k m = true := by
  simp only [tailC, Bool.and_eq_true, decide_eq_true_eq] at h
  obtain ⟨⟨⟨⟨⟨h1, h2⟩, h3⟩, h4⟩, h5⟩, h6⟩ := h
  have hI1 : Inv ops n (marks n 0 (Array.replicate ops.size false)) := by
    have := Inv.marks (listed := #[]) n (Inv.start (ops := ops))
    rwa [Nat.zero_add] at this
  have hI2 : Inv ops (k + n) (marks k n (marks n 0 (Array.replicate ops.size false))) := by
    have := Inv.marks (listed := #[]) k hI1
    rwa [Nat.add_comm n k] at this
  have hr : ∀ j ∈ Region.ready .any ops (marks k n (marks n 0 (Array.replicate ops.size false))), j = k + n := by
    intro j hj
    cases m with
    | zero =>
      simp only [forcedB, List.isEmpty_iff] at h6
      rw [h6] at hj
      cases hj
    | succ m =>
      simp only [forcedB, Bool.and_eq_true, decide_eq_true_eq] at h6
      rw [h6.1] at hj
      simpa using hj
  simp only [tailB, Bool.and_eq_true, decide_eq_true_eq]
  refine ⟨⟨⟨⟨h1, headB_of h3 n ops.toList 0 _ Inv.start rfl h2⟩, h4⟩, ?_⟩, h6⟩
  unfold sinksB
  rw [List.all_eq_true]
  intro j hj
  have hjk := hr j hj
  subst hjk
  obtain ⟨_, o, ho, _⟩ := mem_ready.1 hj
  unfold sinksC at h5
  rw [ho] at h5
  simp only [List.all_eq_true, List.mem_range] at h5 ⊢
  intro i hi
  have hz : 0 < ops.size := Nat.lt_of_le_of_lt (Nat.zero_le _) (Array.getElem?_eq_some_iff.1 ho).1
  obtain ⟨f, hf⟩ : ∃ f, ops.size = f + 1 := ⟨ops.size - 1, by omega⟩
  have h7 := h5 i hi
  simp only [Bool.or_eq_true] at h7
  rcases h7 with h7 | h7
  · rw [hf]
    exact waitsT_edge ho h7
  · exact waitsT_mono (Nat.min_le_right _ _) h7
end
end Go.Proofs.Ythejahhhmkkhoaa

namespace Go.Proofs.Ythejahhhmkkhoaa
open Go.RowKit Go.IntWalk

/-- The function is the program's own. -/
def Own (f : FuncId) : Prop := ∀ (args : Array Value) (w : World), (callFunc f args).run Try.prog w = .ok (.enter f args) w
theorem run_call_fn {a : Act} {o : Oper} {f : FuncId} {xs : Array Operand} {ats : Array TypeId} (hf : Own f) (ho : o.op = .call { callee := .value (.func f), args := xs, argTypes := ats }) (w : World) :
    (execOp a.eval o).run Try.prog w = .ok (.enter f (xs.map a.eval)) w := by
  obtain ⟨dst, op, ty, pos, af, gd⟩ := o
  simp only at ho
  subst ho
  have h := hf (xs.map a.eval) w
  go_simp
theorem map_eval {a : Act} {xs : Array Operand} {args : Array Value} (h : xs.toList.map a.eval = args.toList) : xs.map a.eval = args := by
  apply Array.toList_inj.1
  rw [Array.toList_map, h]

section
variable {ops : Array Oper} {C0 : World → Prop} {Q : Act → Prop} {a : Act} {o : Oper} {rest : List Oper}
/-- A call that hands back one value. -/
theorem b_one {f : FuncId} {xs : Array Operand} {ats : Array TypeId} {args : Array Value} {v : Value} (hg : Region.wanted o (yielded ops a.tmps) = true)
    (hf : Own f) (hc : ∀ w, Calls Try.prog f args w (fun e w' => e = .returned v ∧ Below w.heap.size w w'))
    (ho : o.op = .call { callee := .value (.func f), args := xs, argTypes := ats }) (hx : xs.toList.map a.eval = args.toList) (hk : wpB Try.prog ops C0 Q rest (a.put o.dst v)) : wpB Try.prog ops C0 Q (o :: rest) a :=
  b_call1 (f := f) (args := args) hg (fun w _ => hc w) (fun w => by rw [run_call_fn hf ho, map_eval hx]) hk
end
end Go.Proofs.Ythejahhhmkkhoaa

namespace Go.Proofs.Ythejahhhmkkhoaa
open Go.RowKit Go.IntWalk

theorem results_cell_tmp {P : Program} {fn : Func} {p q : Tmp} {ty : TypeId} (h : fn.results = #[.cell p ty, .tmp q]) (tmps : Array Value) (w : World) (g : Nat) (t : TypeId) (cs : Array Value) (fr : Nat × Nat) (d : TypeDesc) (v : Value)
    (hp : tmps.getD p undef = .pointer (some ⟨g, 0, none⟩)) (hq : tmps.getD q undef = v) (hg : w.heap[g]? = some (.cells cs t fr))
    (hu : P.underlying ty = some d) (hd : (match d with | .struct _ | .array _ _ => true | _ => false) = true) (hi : (P.info? ty).map (·.size) = some cs.size) :
    (results fn tmps).run P w = .ok (.tuple #[.agg cs, v]) w := by
  have hp' : tmps[p]?.getD undef = .pointer (some ⟨g, 0, none⟩) := by simpa using hp
  have hq' : tmps[q]?.getD undef = v := by simpa using hq
  simp [results, h, hp', hq', asAddr, run_loadVar_row w g t ty cs fr d hg hu hd hi]

section
variable {ops : Array Oper} {C0 : World → Prop} {Q : Act → Prop} {a : Act} {o : Oper} {rest : List Oper}
theorem b_not {t : TypeId} {x : Operand} (q : Bool) (hg : Region.wanted o (yielded ops a.tmps) = true) (ho : o.op = .unOp .not t x) (hx : a.eval x = .bool q)
    (hk : wpB Try.prog ops C0 Q rest (a.put o.dst (.bool (!q)))) : wpB Try.prog ops C0 Q (o :: rest) a :=
  b_val hg (fun w _ => by
    unfold execOp
    simp only [ho, hx]
    go_simp) hk
/-- Two rows, by '!='. -/
theorem b_neq {t t' : TypeId} {x y : Operand} {q : Bool} (xs ys : Array Value) (hg : Region.wanted o (yielded ops a.tmps) = true) (ho : o.op = .binOp .neq t x y t') (hx : a.eval x = .agg xs) (hy : a.eval y = .agg ys)
    (hd : Try.prog.eqGuardType Try.prog.depth t = false) (he : ∀ w, (Op.equalIn 10000 t (.agg xs) (.agg ys)).run Try.prog w = .ok q w) (hk : wpB Try.prog ops C0 Q rest (a.put o.dst (.bool (!q)))) : wpB Try.prog ops C0 Q (o :: rest) a :=
  b_val hg (fun w _ => by
    unfold execOp
    simp only [ho, hx, hy, Sem.run_bind, run_eqGuard_agg (hm := hd), Result.andThen_ok, binOp, Op.equal, Op.maxDepth, he, Sem.run_pure]) hk
end

theorem b_assign {P : Program} {ops : Array Oper} {C0 : World → Prop} {Q : Act → Prop} {a : Act} {o : Oper} {rest : List Oper} {x : Operand} (hg : Region.wanted o (yielded ops a.tmps) = true) (ho : o.op = .assign x) (hk : wpB P ops C0 Q rest (a.put o.dst (a.eval x))) : wpB P ops C0 Q (o :: rest) a :=
  b_val hg (fun w _ => by
    unfold execOp
    simp only [ho, Sem.run_pure]) hk

end Go.Proofs.Ythejahhhmkkhoaa
