/-
  SEVERAL TEXTS IN ONE: Calls, RegG, Pick, Fr, RegH.
-/
import Derived.Test.YtlaikmpnijlcbaaDoorMa
/-
REGIONS THAT DRAW THEIR ORDER: the check of a region, quicker: each call waits for the call ahead of it, so for all of them.
REGIONS, WHOLE: calls of the program's own functions.
REGIONS, WHOLE: 'not', '!=', results of a cell and a temp.
-/
namespace Go.Proofs.YtlaikmpnijlcbaaDoor
open Go.RowKit Go.IntWalk

section
variable {md : Region.Mode} {ops : Array Oper}

/-- Has the operation an edge to number i? -/
def edgeTo (md : Region.Mode) (o : Oper) (i : Nat) : Bool := o.after.any fun e => Region.binds md e && e.on == i

theorem waitsT_edge {f j i : Nat} {o : Oper} (hj : ops[j]? = some o) (h : edgeTo md o i = true) : waitsT md ops (f + 1) j i = true := by
  unfold waitsT
  rw [hj]
  unfold edgeTo at h
  obtain ⟨e, he, hb⟩ := Array.any_eq_true'.1 h
  simp only [Bool.and_eq_true, beq_iff_eq] at hb
  exact Array.any_eq_true'.2 ⟨e, he, by simp [hb.1, hb.2]⟩
theorem waitsT_via {f j m i : Nat} {o : Oper} (hj : ops[j]? = some o) (h : edgeTo md o m = true) (hm : waitsT md ops f m i = true) : waitsT md ops (f + 1) j i = true := by
  unfold waitsT
  rw [hj]
  unfold edgeTo at h
  obtain ⟨e, he, hb⟩ := Array.any_eq_true'.1 h
  simp only [Bool.and_eq_true, beq_iff_eq] at hb
  exact Array.any_eq_true'.2 ⟨e, he, by simp [hb.1, hb.2, hm]⟩
theorem waitsT_mono : ∀ {f g j i : Nat}, f ≤ g → waitsT md ops f j i = true → waitsT md ops g j i = true
  | 0, _, _, _, _, h => by cases h
  | f + 1, 0, _, _, hle, _ => absurd hle (by omega)
  | f + 1, g + 1, j, i, hle, h => by
    unfold waitsT at h ⊢
    cases ho : ops[j]? with
    | none => rw [ho] at h; cases h
    | some o =>
      rw [ho] at h
      obtain ⟨e, he, hb⟩ := Array.any_eq_true'.1 h
      refine Array.any_eq_true'.2 ⟨e, he, ?_⟩
      simp only [Bool.and_eq_true, Bool.or_eq_true, beq_iff_eq] at hb ⊢
      exact ⟨hb.1, hb.2.imp id (waitsT_mono (by omega))⟩

/-- Has the operation an edge of the calls' order to number i? -/
def linkTo (md : Region.Mode) (o : Oper) (i : Nat) : Bool := o.after.any fun e => (match e.ground with
  | .chain => true
  | _ => false) && (Region.binds md e && e.on == i)
theorem edge_of_link {o : Oper} {i : Nat} (h : linkTo md o i = true) : edgeTo md o i = true := by
  unfold linkTo at h
  obtain ⟨e, he, hb⟩ := Array.any_eq_true'.1 h
  simp only [Bool.and_eq_true] at hb
  exact Array.any_eq_true'.2 ⟨e, he, by simp only [Bool.and_eq_true]; exact hb.2⟩

/-- Each call has an edge to what ends the row of calls ahead of it. -/
def chainB (md : Region.Mode) : List Oper → Nat → Option Nat → Bool
  | [], _, _ => true
  | o :: l, k, prev => if plainB o.op then chainB md l (k + 1) (match prev with
      | none => none
      | some i => if linkTo md o i then some k else some i)
    else (match prev with
    | none => true
    | some i => edgeTo md o i) && chainB md l (k + 1) (some k)

/-- A call. -/
def CallAt (ops : Array Oper) (i : Nat) : Prop := ∃ o, ops[i]? = some o ∧ plainB o.op = false
/-- Number p waits for all calls below it. -/
def WaitsAll (md : Region.Mode) (ops : Array Oper) (p : Nat) : Prop := ∀ i, i < p → CallAt ops i → waitsT md ops (p - i) p i = true

theorem waitsAll_edge {p k : Nat} {o : Oper} (hk : ops[k]? = some o) (he : edgeTo md o p = true) (hp : p < k) (hW : WaitsAll md ops p) (hall : ∀ i, i < k → CallAt ops i → i ≤ p) : WaitsAll md ops k := by
  intro i hi hc
  by_cases hip : i = p
  · subst hip
    exact waitsT_mono (f := 1) (by omega) (waitsT_edge hk he)
  · have h1 := hall i hi hc
    exact waitsT_mono (by omega) (waitsT_via hk he (hW i (by omega) hc))

theorem chain_all : ∀ (l : List Oper) (k : Nat) (prev : Option Nat), (∀ j, j < l.length → l[j]? = ops[k + j]?) → chainB md l k prev = true →
    (∀ p, prev = some p → p < k ∧ WaitsAll md ops p) → (∀ i, i < k → CallAt ops i → ∃ p, prev = some p ∧ i ≤ p) →
    ∀ j, k ≤ j → j < k + l.length → CallAt ops j → WaitsAll md ops j
  | [], k, _, _, _, _, _, j, h1, h2, _ => absurd h2 (by simp; omega)
  | x :: l, k, prev, hl, hB, hp, hq, j, h1, h2, hj => by
    have h0 : ops[k]? = some x := by simpa using (hl 0 (by simp)).symm
    have hl' : ∀ j, j < l.length → l[j]? = ops[k + 1 + j]? := fun j hj => by have := hl (j + 1) (by simpa using hj); simpa [Nat.add_assoc, Nat.add_comm 1 j] using this
    simp only [List.length_cons] at h2
    unfold chainB at hB
    by_cases hx : plainB x.op = true
    · rw [if_pos hx] at hB
      have hno : ¬ CallAt ops k := by
        rintro ⟨o', ho', hpo⟩
        rw [h0] at ho'
        cases ho'
        rw [hx] at hpo
        cases hpo
      have hjk : j ≠ k := by
        rintro rfl
        exact hno hj
      have hbel : ∀ i, i < k + 1 → CallAt ops i → i < k := fun i hi hc => by
        by_cases hik : i = k
        · subst hik
          exact absurd hc hno
        · omega
      cases prev with
      | none => exact chain_all l (k + 1) none hl' hB (fun p h => by cases h) (fun i hi hc => hq i (hbel i hi hc) hc) j (by omega) (by omega) hj
      | some p =>
        simp only at hB
        obtain ⟨hpk, hWp⟩ := hp p rfl
        have hall : ∀ i, i < k → CallAt ops i → i ≤ p := fun i hi hc => by
          obtain ⟨p', e, h⟩ := hq i hi hc
          cases e
          exact h
        by_cases hlk : linkTo md x p = true
        · rw [if_pos hlk] at hB
          refine chain_all l (k + 1) (some k) hl' hB (fun p' h => ?_) (fun i hi _ => ⟨k, rfl, by omega⟩) j (by omega) (by omega) hj
          cases h
          exact ⟨by omega, waitsAll_edge h0 (edge_of_link hlk) hpk hWp hall⟩
        · rw [if_neg hlk] at hB
          refine chain_all l (k + 1) (some p) hl' hB (fun p' h => ?_) (fun i hi hc => ⟨p, rfl, hall i (hbel i hi hc) hc⟩) j (by omega) (by omega) hj
          cases h
          exact ⟨by omega, hWp⟩
    · rw [if_neg hx] at hB
      simp only [Bool.and_eq_true] at hB
      have hWk : WaitsAll md ops k := by
        cases prev with
        | none =>
          intro i hi hc
          obtain ⟨p, e, _⟩ := hq i hi hc
          cases e
        | some p =>
          obtain ⟨hpk, hWp⟩ := hp p rfl
          refine waitsAll_edge h0 hB.1 hpk hWp (fun i hi hc => ?_)
          obtain ⟨p', e, h⟩ := hq i hi hc
          cases e
          exact h
      by_cases hjk : j = k
      · subst hjk
        exact hWk
      · refine chain_all l (k + 1) (some k) hl' hB.2 (fun p' h => ?_) (fun i hi _ => ⟨k, rfl, by omega⟩) j (by omega) (by omega) hj
        cases h
        exact ⟨by omega, hWk⟩

theorem chain_waits (hB : chainB md ops.toList 0 none = true) (j : Nat) (o : Oper) (hj : ops[j]? = some o) (hpl : plainB o.op = false) (i : Nat) (hij : i < j) (hi : CallAt ops i) : waitsT md ops (j - i) j i = true :=
  chain_all ops.toList 0 none (fun j _ => by simp) hB (fun p h => by cases h) (fun i hi => absurd hi (by omega)) j (by omega) (by simpa using (Array.getElem?_eq_some_iff.1 hj).1) ⟨o, hj, hpl⟩ i hij hi

/-! ### The head -/
def othersB (md : Region.Mode) (ops : Array Oper) (o : Oper) (k : Nat) : List Oper → Bool
  | [] => true
  | x :: l => (edgeTo md x k || o.apart ops x) && othersB md ops o k l
def headC (md : Region.Mode) (ops : Array Oper) : Nat → List Oper → Nat → Bool
  | 0, _, _ => true
  | _ + 1, [], _ => false
  | n + 1, o :: l, k => o.after.all (fun e => !Region.binds md e || decide (e.on < k)) && othersB md ops o k l && headC md ops n l (k + 1)

/-- Marked are just those below k. -/
def Inv (ops : Array Oper) (k : Nat) (listed : Array Bool) : Prop := ∀ j, j < ops.size → listed[j]? = some (decide (j < k))
theorem Inv.set {k : Nat} {listed : Array Bool} (h : Inv ops k listed) : Inv ops (k + 1) (listed.setIfInBounds k true) := by
  intro j hj
  rw [Array.getElem?_setIfInBounds]
  by_cases hjk : k = j
  · subst hjk
    have h1 := h k hj
    have hlt := (Array.getElem?_eq_some_iff.1 h1).1
    rw [if_pos rfl, if_pos hlt]
    simp
  · rw [if_neg hjk, h j hj]
    congr 1
    simp only [decide_eq_decide]
    omega
theorem Inv.start : Inv ops 0 (Array.replicate ops.size false) := by
  intro j hj
  simp [hj]
theorem Inv.marks {listed : Array Bool} : ∀ (n : Nat) {k : Nat} {listed : Array Bool}, Inv ops k listed → Inv ops (k + n) (marks n k listed)
  | 0, _, _, h => h
  | n + 1, k, _, h => by
    have := Inv.marks (listed := listed) n h.set
    rwa [show k + 1 + n = k + (n + 1) by omega] at this
theorem Inv.in_ {k : Nat} {listed : Array Bool} (h : Inv ops k listed) {j : Nat} (hj : j < ops.size) (hk : j < k) (d : Bool) : listed.getD j d = true := by
  have h1 := h j hj
  rw [Array.getD_eq_getD_getElem?, h1]
  simp [hk]
theorem Inv.out {k : Nat} {listed : Array Bool} (h : Inv ops k listed) {j : Nat} (hj : j < ops.size) (hk : k ≤ j) (d : Bool) : listed.getD j d = false := by
  have h1 := h j hj
  rw [Array.getD_eq_getD_getElem?, h1]
  simp
  omega

theorem others_spec {o : Oper} {k : Nat} : ∀ {l : List Oper}, othersB md ops o k l = true → ∀ x ∈ l, edgeTo md x k = true ∨ o.apart ops x = true
  | [], _, _, hx => absurd hx (by simp)
  | y :: l, h, x, hx => by
    simp only [othersB, Bool.and_eq_true, Bool.or_eq_true] at h
    rcases List.mem_cons.1 hx with rfl | hx
    · exact h.1
    · exact others_spec h.2 x hx

theorem headB_of (hch : chainB md ops.toList 0 none = true) : ∀ (n : Nat) (l : List Oper) (k : Nat) (listed : Array Bool), Inv ops k listed → l = ops.toList.drop k → headC md ops n l k = true → headB md ops n k listed = true
  | 0, _, _, _, _, _, _ => rfl
  | n + 1, [], _, _, _, _, h => by cases h
  | n + 1, o :: l, k, listed, hI, hl, h => by
    simp only [headC, Bool.and_eq_true] at h
    obtain ⟨⟨hr, ho⟩, hn⟩ := h
    have hk : k < ops.size := by
      have h1 := congrArg List.length hl
      simp only [List.length_cons, List.length_drop, Array.length_toList] at h1
      omega
    have h2 : ops.toList.drop k = ops.toList[k]'(by simpa using hk) :: ops.toList.drop (k + 1) := List.drop_eq_getElem_cons (by simpa using hk)
    rw [← hl] at h2
    injection h2 with h3 h4
    have hko : ops[k]? = some o := by
      rw [Array.getElem?_eq_getElem hk, h3]
      simp
    unfold headB
    simp only [Bool.and_eq_true]
    refine ⟨⟨⟨?_, ?_⟩, ?_⟩, headB_of hch n l (k + 1) _ hI.set h4 hn⟩
    · rw [List.contains_iff_mem]
      refine mem_ready.2 ⟨by rw [Array.getD_eq_getD_getElem?, hI k hk]; simp, o, hko, fun e he hb => ?_⟩
      have h5 := Array.all_eq_true'.1 hr e he
      simp only [hb, Bool.not_true, Bool.false_or, decide_eq_true_eq] at h5
      exact hI.in_ (by omega) h5 false
    · unfold Region.free
      simp only [hko]
      rw [List.all_eq_true]
      intro j hj
      have hj' : j < ops.size := by simpa using hj
      simp only [Bool.or_eq_true, beq_iff_eq]
      by_cases hjk : j = k
      · exact .inl (.inl hjk)
      · by_cases hlt : j < k
        · exact .inl (.inr (hI.in_ hj' hlt true))
        · right
          have hx : ops[j]? = some ops[j] := Array.getElem?_eq_getElem hj'
          rw [hx]
          have hm : ops[j] ∈ l := by
            rw [h4]
            rw [List.mem_iff_getElem?]
            exact ⟨j - (k + 1), by rw [List.getElem?_drop, show k + 1 + (j - (k + 1)) = j by omega]; simp [hj']⟩
          rcases others_spec ho _ hm with h6 | h6
          · simp only [Bool.or_eq_true]
            exact .inl h6
          · simp only [Bool.or_eq_true]
            exact .inr h6
    · unfold setFree
      simp only [hko, Bool.or_eq_true]
      by_cases hp : plainB o.op = true
      · exact .inl hp
      · right
        rw [List.all_eq_true]
        intro j hj
        have hj' : j < ops.size := by simpa using hj
        simp only [Bool.or_eq_true, beq_iff_eq]
        by_cases hjk : j = k
        · exact .inl (.inl (.inl hjk))
        · by_cases hlt : j < k
          · exact .inl (.inl (.inr (hI.in_ hj' hlt true)))
          · have hx : ops[j]? = some ops[j] := Array.getElem?_eq_getElem hj'
            by_cases hpj : plainB ops[j].op = true
            · right
              rw [hx]
              exact hpj
            · left
              right
              exact waitsT_mono (by omega) (chain_waits hch j _ hx (by simpa using hpj) k (by omega) ⟨o, hko, by simpa using hp⟩)

/-- Has the first of what is left to wait, within few steps, for all that stand ahead? -/
def sinksC (md : Region.Mode) (ops : Array Oper) (N : Nat) : Bool := match ops[N]? with
  | none => true
  | some o => (List.range N).all fun i => edgeTo md o i || waitsT md ops (min 4 ops.size) N i

/-- The quicker check. -/
def tailC (ops : Array Oper) (n k m : Nat) : Bool :=
  Region.noSelect ops && headC .any ops n ops.toList 0 && chainB .any ops.toList 0 none && decide (ops.size = m + k + n) && sinksC .any ops (k + n) &&
    forcedB .any ops m (k + n) (marks k n (marks n 0 (Array.replicate ops.size false)))

theorem tail_ok {n k m : Nat} (h : tailC ops n k m = true) : tailB ops n k m = true := by
  simp only [tailC, Bool.and_eq_true, decide_eq_true_eq] at h
  obtain ⟨⟨⟨⟨⟨h1, h2⟩, h3⟩, h4⟩, h5⟩, h6⟩ := h
  have hI1 : Inv ops n (marks n 0 (Array.replicate ops.size false)) := by
    have := Inv.marks (listed := #[]) n (Inv.start (ops := ops))
    rwa [Nat.zero_add] at this
  have hI2 : Inv ops (k + n) (marks k n (marks n 0 (Array.replicate ops.size false))) := by
    have := Inv.marks (listed := #[]) k hI1
    rwa [Nat.add_comm n k] at this
  have hr : ∀ j ∈ Region.ready .any ops (marks k n (marks n 0 (Array.replicate ops.size false))), j = k + n := by
    intro j hj
    cases m with
    | zero =>
      simp only [forcedB, List.isEmpty_iff] at h6
      rw [h6] at hj
      cases hj
    | succ m =>
      simp only [forcedB, Bool.and_eq_true, decide_eq_true_eq] at h6
      rw [h6.1] at hj
      simpa using hj
  simp only [tailB, Bool.and_eq_true, decide_eq_true_eq]
  refine ⟨⟨⟨⟨h1, headB_of h3 n ops.toList 0 _ Inv.start rfl h2⟩, h4⟩, ?_⟩, h6⟩
  unfold sinksB
  rw [List.all_eq_true]
  intro j hj
  have hjk := hr j hj
  subst hjk
  obtain ⟨_, o, ho, _⟩ := mem_ready.1 hj
  unfold sinksC at h5
  rw [ho] at h5
  simp only [List.all_eq_true, List.mem_range] at h5 ⊢
  intro i hi
  have hz : 0 < ops.size := Nat.lt_of_le_of_lt (Nat.zero_le _) (Array.getElem?_eq_some_iff.1 ho).1
  obtain ⟨f, hf⟩ : ∃ f, ops.size = f + 1 := ⟨ops.size - 1, by omega⟩
  have h7 := h5 i hi
  simp only [Bool.or_eq_true] at h7
  rcases h7 with h7 | h7
  · rw [hf]
    exact waitsT_edge ho h7
  · exact waitsT_mono (Nat.min_le_right _ _) h7
end
end Go.Proofs.YtlaikmpnijlcbaaDoor

namespace Go.Proofs.YtlaikmpnijlcbaaDoor
open Go.RowKit Go.IntWalk

/-- The function is the program's own. -/
def Own (f : FuncId) : Prop := ∀ (args : Array Value) (w : World), (callFunc f args).run Tryd.prog w = .ok (.enter f args) w
theorem run_call_fn {a : Act} {o : Oper} {f : FuncId} {xs : Array Operand} {ats : Array TypeId} (hf : Own f) (ho : o.op = .call { callee := .value (.func f), args := xs, argTypes := ats }) (w : World) :
    (execOp a.eval o).run Tryd.prog w = .ok (.enter f (xs.map a.eval)) w := by
  obtain ⟨dst, op, ty, pos, af, gd⟩ := o
  simp only at ho
  subst ho
  have h := hf (xs.map a.eval) w
  go_simp
theorem map_eval {a : Act} {xs : Array Operand} {args : Array Value} (h : xs.toList.map a.eval = args.toList) : xs.map a.eval = args := by
  apply Array.toList_inj.1
  rw [Array.toList_map, h]

section
variable {ops : Array Oper} {C0 : World → Prop} {Q : Act → Prop} {a : Act} {o : Oper} {rest : List Oper}
/-- A call that hands back one value. -/
theorem b_one {f : FuncId} {xs : Array Operand} {ats : Array TypeId} {args : Array Value} {v : Value} (hg : Region.wanted o (yielded ops a.tmps) = true)
    (hf : Own f) (hc : ∀ w, Calls Tryd.prog f args w (fun e w' => e = .returned v ∧ Below w.heap.size w w'))
    (ho : o.op = .call { callee := .value (.func f), args := xs, argTypes := ats }) (hx : xs.toList.map a.eval = args.toList) (hk : wpB Tryd.prog ops C0 Q rest (a.put o.dst v)) : wpB Tryd.prog ops C0 Q (o :: rest) a :=
  b_call1 (f := f) (args := args) hg (fun w _ => hc w) (fun w => by rw [run_call_fn hf ho, map_eval hx]) hk
end
end Go.Proofs.YtlaikmpnijlcbaaDoor

namespace Go.Proofs.YtlaikmpnijlcbaaDoor
open Go.RowKit Go.IntWalk

theorem results_cell_tmp {P : Program} {fn : Func} {p q : Tmp} {ty : TypeId} (h : fn.results = #[.cell p ty, .tmp q]) (tmps : Array Value) (w : World) (g : Nat) (t : TypeId) (cs : Array Value) (fr : Nat × Nat) (d : TypeDesc) (v : Value)
    (hp : tmps.getD p undef = .pointer (some ⟨g, 0, none⟩)) (hq : tmps.getD q undef = v) (hg : w.heap[g]? = some (.cells cs t fr))
    (hu : P.underlying ty = some d) (hd : (match d with | .struct _ | .array _ _ => true | _ => false) = true) (hi : (P.info? ty).map (·.size) = some cs.size) :
    (results fn tmps).run P w = .ok (.tuple #[.agg cs, v]) w := by
  have hp' : tmps[p]?.getD undef = .pointer (some ⟨g, 0, none⟩) := by simpa using hp
  have hq' : tmps[q]?.getD undef = v := by simpa using hq
  simp [results, h, hp', hq', asAddr, run_loadVar_row w g t ty cs fr d hg hu hd hi]

section
variable {ops : Array Oper} {C0 : World → Prop} {Q : Act → Prop} {a : Act} {o : Oper} {rest : List Oper}
theorem b_not {t : TypeId} {x : Operand} (q : Bool) (hg : Region.wanted o (yielded ops a.tmps) = true) (ho : o.op = .unOp .not t x) (hx : a.eval x = .bool q)
    (hk : wpB Tryd.prog ops C0 Q rest (a.put o.dst (.bool (!q)))) : wpB Tryd.prog ops C0 Q (o :: rest) a :=
  b_val hg (fun w _ => by
    unfold execOp
    simp only [ho, hx]
    go_simp) hk
/-- Two rows, by '!='. -/
theorem b_neq {t t' : TypeId} {x y : Operand} {q : Bool} (xs ys : Array Value) (hg : Region.wanted o (yielded ops a.tmps) = true) (ho : o.op = .binOp .neq t x y t') (hx : a.eval x = .agg xs) (hy : a.eval y = .agg ys)
    (hd : Tryd.prog.eqGuardType Tryd.prog.depth t = false) (he : ∀ w, (Op.equalIn 10000 t (.agg xs) (.agg ys)).run Tryd.prog w = .ok q w) (hk : wpB Tryd.prog ops C0 Q rest (a.put o.dst (.bool (!q)))) : wpB Tryd.prog ops C0 Q (o :: rest) a :=
  b_val hg (fun w _ => by
    unfold execOp
    simp only [ho, hx, hy, Sem.run_bind, run_eqGuard_agg (hm := hd), Result.andThen_ok, binOp, Op.equal, Op.maxDepth, he, Sem.run_pure]) hk
end

theorem b_assign {P : Program} {ops : Array Oper} {C0 : World → Prop} {Q : Act → Prop} {a : Act} {o : Oper} {rest : List Oper} {x : Operand} (hg : Region.wanted o (yielded ops a.tmps) = true) (ho : o.op = .assign x) (hk : wpB P ops C0 Q rest (a.put o.dst (a.eval x))) : wpB P ops C0 Q (o :: rest) a :=
  b_val hg (fun w _ => by
    unfold execOp
    simp only [ho, Sem.run_pure]) hk

end Go.Proofs.YtlaikmpnijlcbaaDoor
/-
  REGIONS THAT DRAW THEIR ORDER, AND MAKE MEMORY: each operation may leave new memory and a fact about it that later worlds keep; who has an edge to it may use the fact. The walk goes in the text's order; whatever order is drawn, it holds.
-/
namespace Go.Proofs.YtlaikmpnijlcbaaDoor
open Go.RowKit Go.IntWalk

/-- Operations that never run code. -/
def stillG : Op → Bool
  | .buildSlice .. | .makeSlice .. | .sliceToArrayPointer .. | .makeFunc .. | .nilCheck _ => true
  | .call c => match c.callee with | .builtin .len => true | _ => false
  | o => plainB o
/-- Operations of which each world may have its own answer. -/
def multiG : Op → Bool
  | .alloc _ | .box .. => true
  | o => multiB o

section
variable {P : Program}
theorem run_pureV {y : Value} {w w' : World} {n : Next} (h : (pure (Next.value y) : Sem Next).run P w = .ok n w') : ∃ v, n = .value v := by
  rw [Sem.run_pure] at h
  injection h with h1 h2
  exact ⟨_, h1.symm⟩
theorem run_panic_no {w w' : World} {n : Next} (h : (runtimePanic .nilDeref : Sem Next).run P w = .ok n w') : False := by
  simp [runtimePanic, goPanic] at h
theorem bind_ok {α β : Type} {s : Sem α} {f : α → Sem β} {n : β} {w w' : World} (h : (s >>= f).run P w = .ok n w') : ∃ a w1, (f a).run P w1 = .ok n w' := by
  rw [Sem.run_bind] at h
  cases hs : s.run P w with
  | ok v w1 =>
    rw [hs] at h
    exact ⟨v, w1, h⟩
  | halt x w1 =>
    rw [hs] at h
    cases h
theorem nil_ok {ρ : Operand → Value} {o : Oper} {x : Operand} (ho : o.op = .nilCheck x) {w w' : World} {n : Next} (h : (execOp ρ o).run P w = .ok n w') : ∃ v, n = .value v := by
  unfold execOp at h
  rw [ho] at h
  dsimp only at h
  split at h
  · exact (run_panic_no h).elim
  · exact (run_panic_no h).elim
  · exact (run_panic_no h).elim
  · split at h
    · exact (run_panic_no h).elim
    · obtain ⟨_, _, h⟩ := bind_ok h
      obtain ⟨_, _, h⟩ := bind_ok h
      split at h
      · obtain ⟨_, _, h⟩ := bind_ok h
        exact run_pureV h
      · exact run_pureV h
    · exact run_pureV h
  · exact run_pureV h
theorem still_ok {ρ : Operand → Value} {o : Oper} (hp : stillG o.op = true) {w w' : World} {n : Next} (h : (execOp ρ o).run P w = .ok n w') : (∃ v, n = .value v) ∨ n = .skip := by
  by_cases hb : plainB o.op = true
  · exact plain_ok hb h
  obtain ⟨dst, op, ty, pos, af, gd⟩ := o
  cases op <;> first
    | (exfalso; exact hb hp)
    | exact .inl (run_v h)
    | exact .inl (nil_ok rfl h)
    | skip
  next c =>
    obtain ⟨callee, args, ats⟩ := c
    cases callee with
    | builtin b =>
      cases b <;> first
        | (cases hp; done)
        | skip
      unfold execOp at h
      simp only [resolve, invoke, builtin, Sem.run_bind, Sem.run_pure, Result.andThen_ok] at h
      refine .inl ?_
      revert h
      generalize Sem.run P _ w = r
      intro h
      cases r with
      | ok v w1 =>
        simp only [Result.andThen_ok] at h
        injection h with h1 h2
        exact ⟨v, h1.symm⟩
      | halt x w1 => simp [Result.andThen] at h
    | _ => cases hp
end

/-- How worlds go on: at least new memory may come. -/
class RelOk (Rel : World → World → Prop) : Prop where
  below : ∀ w w', Below w.heap.size w w' → Rel w w'
/-- Nothing but new memory. -/
def Bel (w w' : World) : Prop := Below w.heap.size w w'
instance : RelOk Bel := ⟨fun _ _ h => h⟩
def uponG (P : Program) (Rel : World → World → Prop) (w : World) (V : Value → World → Prop) : Result Next → Prop
  | .ok (.value u) w' => Rel w w' ∧ V u w'
  | .ok .skip w' => Rel w w' ∧ V undef w'
  | .ok (.enter f args) w' => w' = w ∧ Calls P f args w (fun e w'' => ∃ v, e = .returned v ∧ Rel w w'' ∧ V v w'')
  | _ => False
/-- Later worlds keep it. -/
def Pers (Rel : World → World → Prop) (p : World → Prop) : Prop := ∀ w w', p w → Rel w w' → p w'
abbrev Facts := Nat → World → Prop
def upF (F : Facts) (k : Nat) (p : World → Prop) : Facts := fun j => if j = k then p else F j
theorem upF_same (F : Facts) (k : Nat) (p : World → Prop) : upF F k p k = p := if_pos rfl
theorem upF_ne {F : Facts} {k j : Nat} {p : World → Prop} (h : j ≠ k) : upF F k p j = F j := if_neg h

def stepG (P : Program) (Rel : World → World → Prop) (C0 : World → Prop) (F : Facts) (o : Oper) (a : Act) (next : (World → Prop) → Act → Prop) : Prop :=
  ∃ V : Value → World → Prop, (∀ v, Pers Rel (V v)) ∧ ((∃ v, ∀ u w, V u w → u = v) ∨ multiG o.op = true) ∧
    (∀ w, C0 w → (∀ e ∈ o.after, Region.binds .any e = true → F e.on w) → uponG P Rel w V ((execOp a.eval o).run P w)) ∧
    ∀ v w, C0 w → (∀ k, F k w) → V v w → next (V v) (a.put o.dst v)
/-- The walk, in the text's order. -/
def wpG (P : Program) (Rel : World → World → Prop) (ops : Array Oper) (C0 : World → Prop) (Q : Facts → Act → Prop) : List (Nat × Oper) → Facts → Act → Prop
  | [], F, a => Q F a
  | x :: l, F, a => if Region.wanted x.2 (yielded ops a.tmps) then stepG P Rel C0 F x.2 a (fun p a' => wpG P Rel ops C0 Q l (upF F x.1 p) a') else wpG P Rel ops C0 Q l (upF F x.1 fun _ => True) (a.put x.2.dst undef)

section
variable {P : Program} {Rel : World → World → Prop} {ops : Array Oper} {C0 : World → Prop} {Q : Facts → Act → Prop}
theorem wpG_mono (hQ : ∀ F F' a, (∀ k w, F' k w → F k w) → Q F a → Q F' a) : ∀ (l : List (Nat × Oper)) (F F' : Facts) (a : Act), (∀ k w, F' k w → F k w) → wpG P Rel ops C0 Q l F a → wpG P Rel ops C0 Q l F' a
  | [], F, F', a, h, hh => hQ F F' a h hh
  | x :: l, F, F', a, h, hh => by
    have hup : ∀ p, ∀ k w, upF F' x.1 p k w → upF F x.1 p k w := fun p k w h' => by
      by_cases e : k = x.1
      · subst e
        rwa [upF_same] at h' ⊢
      · rw [upF_ne e] at h' ⊢
        exact h k w h'
    unfold wpG at hh ⊢
    split
    · rename_i hw
      rw [if_pos hw] at hh
      obtain ⟨V, h1, h2, h3, h4⟩ := hh
      exact ⟨V, h1, h2, fun w hw he => h3 w hw fun e hm hb => h _ _ (he e hm hb), fun v w hw hF hV => wpG_mono hQ l _ _ _ (hup _) (h4 v w hw (fun k => h k w (hF k)) hV)⟩
    · rename_i hw
      rw [if_neg hw] at hh
      exact wpG_mono hQ l _ _ _ (hup _) hh

/-- What a good walk has behind it. -/
structure GoodF (Rel : World → World → Prop) (C0 : World → Prop) (F : Facts) (w : World) : Prop where
  pers : ∀ k, Pers Rel (F k)
  cls : C0 w
  all : ∀ k, F k w
theorem GoodF.up {F : Facts} {w w' : World} {k : Nat} {p : World → Prop} (h : GoodF Rel C0 F w) (hp : Pers Rel p) (hC : C0 w') (hF : ∀ k, F k w') (hpw : p w') : GoodF Rel C0 (upF F k p) w' := by
  refine ⟨fun j => ?_, hC, fun j => ?_⟩
  · by_cases e : j = k
    · subst e
      rw [upF_same]
      exact hp
    · rw [upF_ne e]
      exact h.pers j
  · by_cases e : j = k
    · subst e
      rw [upF_same]
      exact hpw
    · rw [upF_ne e]
      exact hF j
def Unl (l : List (Nat × Oper)) (F : Facts) : Prop := ∀ x ∈ l, ∀ w, F x.1 w
theorem Unl.up {l : List (Nat × Oper)} {F : Facts} {k : Nat} {p : World → Prop} (h : Unl l F) (hk : k ∉ l.map (·.1)) : Unl l (upF F k p) := fun x hx w => by
  have e : x.1 ≠ k := fun e => hk (List.mem_map.2 ⟨x, hx, e⟩)
  rw [upF_ne e]
  exact h x hx w

/-- Something comes of the operation. -/
theorem uponG.any {w : World} {V : Value → World → Prop} {r : Result Next} (h : uponG P Rel w V r) : ∃ v w', Rel w w' ∧ V v w' := by
  cases r with
  | ok n w' =>
    cases n <;> simp only [uponG] at h
    case value u => exact ⟨u, w', h⟩
    case skip => exact ⟨_, w', h⟩
    case enter f args =>
      obtain ⟨e, w1, fr, ⟨v, _, h1, h2⟩, _⟩ := h.2 []
      exact ⟨v, w1, h1, h2⟩
  | halt x w' => simp only [uponG] at h

theorem wpG_cons {x : Nat × Oper} {l l' : List (Nat × Oper)} {F : Facts} {a : Act} {w0 : World} (hG : GoodF Rel C0 F w0) (hU : Unl l F) (hx : x.1 ∉ l.map (·.1))
    (h : ∀ F a w, GoodF Rel C0 F w → Unl l F → wpG P Rel ops C0 Q l F a → wpG P Rel ops C0 Q l' F a) (hh : wpG P Rel ops C0 Q (x :: l) F a) : wpG P Rel ops C0 Q (x :: l') F a := by
  unfold wpG at hh ⊢
  split
  · rename_i hw
    rw [if_pos hw] at hh
    obtain ⟨V, h1, h2, h3, h4⟩ := hh
    exact ⟨V, h1, h2, h3, fun v w hw hF hV => h _ _ w (hG.up (h1 v) hw hF hV) (hU.up hx) (h4 v w hw hF hV)⟩
  · rename_i hw
    rw [if_neg hw] at hh
    exact h _ _ w0 (hG.up (fun _ _ _ _ => trivial) hG.cls hG.all trivial) (hU.up hx) hh

/-- Two operations next to each other: the second one may come first. -/
structure PairG (ops : Array Oper) (x y : Nat × Oper) : Prop where
  ne : x.1 ≠ y.1
  apart : x.2.apart ops y.2 = true
  noY : ∀ e ∈ y.2.after, Region.binds .any e = true → e.on ≠ x.1
  noX : ∀ e ∈ x.2.after, Region.binds .any e = true → e.on ≠ y.1
  kind : stillG y.2.op = true ∨ multiG x.2.op = false
  selX : ∀ cs b, x.2.op ≠ .select cs b
  selY : ∀ cs b, y.2.op ≠ .select cs b

theorem swapG (hcl : ∀ w w', C0 w → Rel w w' → C0 w') (hQ : ∀ F F' a, (∀ k w, F' k w → F k w) → Q F a → Q F' a) {x y : Nat × Oper} {l : List (Nat × Oper)} {F : Facts} {a : Act} {w0 : World} (hp : PairG ops x y) (hG : GoodF Rel C0 F w0) (hj : ∀ w, F y.1 w)
    (h : wpG P Rel ops C0 Q (x :: y :: l) F a) : wpG P Rel ops C0 Q (y :: x :: l) F a := by
  obtain ⟨i, oi⟩ := x
  obtain ⟨j, oj⟩ := y
  obtain ⟨hne, hap, hed, hed2, hkd, hsi, hsj⟩ := hp
  obtain ⟨h1, h2, h3⟩ := Oper.apart_spec hap
  dsimp only at *
  have hwj : ∀ v, Region.wanted oj (yielded ops (a.put oi.dst v).tmps) = Region.wanted oj (yielded ops a.tmps) := fun v => wanted_put oj a oi.dst v h1
  have hwi : ∀ v, Region.wanted oi (yielded ops (a.put oj.dst v).tmps) = Region.wanted oi (yielded ops a.tmps) := fun v => wanted_put oi a oj.dst v h3
  have hcomm : ∀ v u, (a.put oi.dst v).put oj.dst u = (a.put oj.dst u).put oi.dst v := fun v u => Act.put_comm a v u h2
  have hupc : ∀ (p q : World → Prop), upF (upF F i p) j q = upF (upF F j q) i p := fun p q => by
    funext k
    by_cases e : k = i
    · subst e
      rw [upF_same, upF_ne hne, upF_same]
    · by_cases e2 : k = j
      · subst e2
        rw [upF_same, upF_ne e, upF_same]
      · rw [upF_ne e2, upF_ne e, upF_ne e, upF_ne e2]
  by_cases wi : Region.wanted oi (yielded ops a.tmps) = true
  · unfold wpG at h
    rw [if_pos wi] at h
    obtain ⟨Vx, pX, kX, yX, nX⟩ := h
    by_cases wj : Region.wanted oj (yielded ops a.tmps) = true
    · obtain ⟨v0, w1, hb1, hV1⟩ := (yX w0 hG.cls (fun e _ _ => hG.all e.on)).any
      have hC1 := hcl _ _ hG.cls hb1
      have hF1 : ∀ k, F k w1 := fun k => hG.pers k _ _ (hG.all k) hb1
      have key : ∀ v, (∃ w, C0 w ∧ (∀ k, F k w) ∧ Vx v w) → stepG P Rel C0 (upF F i (Vx v)) oj (a.put oi.dst v) (fun p a' => wpG P Rel ops C0 Q l (upF (upF F i (Vx v)) j p) a') := by
        rintro v ⟨w, hw, hF, hV⟩
        have h5 := nX v w hw hF hV
        unfold wpG at h5
        rwa [hwj, if_pos wj] at h5
      have key' : ∀ v, ∃ V : Value → World → Prop, (∃ w, C0 w ∧ (∀ k, F k w) ∧ Vx v w) → (∀ v, Pers Rel (V v)) ∧ ((∃ v, ∀ u w, V u w → u = v) ∨ multiG oj.op = true) ∧
          (∀ w, C0 w → (∀ e ∈ oj.after, Region.binds .any e = true → upF F i (Vx v) e.on w) → uponG P Rel w V ((execOp (a.put oi.dst v).eval oj).run P w)) ∧
          ∀ u w, C0 w → (∀ k, upF F i (Vx v) k w) → V u w → wpG P Rel ops C0 Q l (upF (upF F i (Vx v)) j (V u)) ((a.put oi.dst v).put oj.dst u) := fun v => by
        by_cases hv : ∃ w, C0 w ∧ (∀ k, F k w) ∧ Vx v w
        · obtain ⟨V, hV⟩ := key v hv
          exact ⟨V, fun _ => hV⟩
        · exact ⟨fun _ _ => True, fun h => absurd h hv⟩
      clear key
      obtain ⟨Vy, hy⟩ := Classical.axiomOfChoice key'
      clear key'
      have hv0 : ∃ w, C0 w ∧ (∀ k, F k w) ∧ Vx v0 w := ⟨w1, hC1, hF1, hV1⟩
      unfold wpG
      rw [if_pos wj]
      refine ⟨fun u w => ∀ v, (∃ w, C0 w ∧ (∀ k, F k w) ∧ Vx v w) → Vy v u w, fun u w w' h hb v hv => (hy v hv).1 u w w' (h v hv) hb, ?_, ?_, ?_⟩
      · rcases (hy v0 hv0).2.1 with ⟨u0, hu⟩ | hm
        · exact .inl ⟨u0, fun u w h => hu u w (h v0 hv0)⟩
        · exact .inr hm
      · intro w hw hpre
        have hr : ∀ v, (∃ w, C0 w ∧ (∀ k, F k w) ∧ Vx v w) → uponG P Rel w (Vy v) ((execOp a.eval oj).run P w) := fun v hv => by
          have h5 := (hy v hv).2.2.1 w hw (fun e he hb => by rw [upF_ne (hed e he hb)]; exact hpre e he hb)
          rwa [execOp_put oj hsj a oi.dst v h1] at h5
        have hst := fun n w' => still_ok (P := P) (ρ := a.eval) (o := oj) (w := w) (w' := w') (n := n)
        generalize (execOp a.eval oj).run P w = r at *
        cases r with
        | ok n w' =>
          cases n
          case value u => exact ⟨(hr v0 hv0).1, fun v hv => (hr v hv).2⟩
          case skip => exact ⟨(hr v0 hv0).1, fun v hv => (hr v hv).2⟩
          case enter f args =>
            rcases hkd with hkd | hkd
            · rcases hst _ _ hkd rfl with ⟨v, hv⟩ | hv <;> cases hv
            · rcases kX with ⟨vv, hvv⟩ | hm
              · obtain ⟨e1, hc⟩ := hr v0 hv0
                refine ⟨e1, hc.mono fun e w'' ⟨u, he, hb, hV⟩ => ⟨u, he, hb, fun v hv => ?_⟩⟩
                obtain ⟨w3, _, _, hv3⟩ := hv
                have e2 : v = v0 := (hvv _ _ hv3).trans (hvv _ _ hV1).symm
                rw [e2]
                exact hV
              · rw [hkd] at hm
                cases hm
          all_goals exact absurd (hr v0 hv0) (by simp [uponG])
        | halt x w' => exact absurd (hr v0 hv0) (by simp [uponG])
      · intro u w hw hF hVu
        unfold wpG
        rw [hwi, if_pos wi]
        refine ⟨Vx, pX, kX, ?_, ?_⟩
        · intro w2 hw2 hpre
          rw [execOp_put oi hsi a oj.dst u h3]
          exact yX w2 hw2 (fun e he hb => by have h5 := hpre e he hb; rwa [upF_ne (hed2 e he hb)] at h5)
        · intro v w2 hw2 hF2 hV2
          have hFw2 : ∀ k, F k w2 := fun k => by
            by_cases e : k = j
            · subst e
              exact hj w2
            · have h5 := hF2 k
              rwa [upF_ne e] at h5
          have hv : ∃ w, C0 w ∧ (∀ k, F k w) ∧ Vx v w := ⟨w2, hw2, hFw2, hV2⟩
          have hVy : Vy v u w2 := by
            have h5 := hF2 j
            rw [upF_same] at h5
            exact h5 v hv
          have h6 := (hy v hv).2.2.2 u w2 hw2 (fun k => by
            by_cases e : k = i
            · subst e
              rw [upF_same]
              exact hV2
            · rw [upF_ne e]
              exact hFw2 k) hVy
          rw [hcomm, hupc] at h6
          refine wpG_mono hQ l _ _ _ (fun k w h7 => ?_) h6
          by_cases e : k = i
          · subst e
            rwa [upF_same] at h7 ⊢
          · rw [upF_ne e] at h7 ⊢
            by_cases e2 : k = j
            · subst e2
              rw [upF_same] at h7 ⊢
              exact h7 v hv
            · rwa [upF_ne e2] at h7 ⊢
    · unfold wpG
      rw [if_neg wj]
      unfold wpG
      rw [hwi, if_pos wi]
      refine ⟨Vx, pX, kX, ?_, ?_⟩
      · intro w2 hw2 hpre
        rw [execOp_put oi hsi a oj.dst undef h3]
        exact yX w2 hw2 (fun e he hb => by have h5 := hpre e he hb; rwa [upF_ne (hed2 e he hb)] at h5)
      · intro v w2 hw2 hF2 hV2
        have h5 := nX v w2 hw2 (fun k => by
          by_cases e : k = j
          · subst e
            exact hj w2
          · have h5 := hF2 k
            rwa [upF_ne e] at h5) hV2
        unfold wpG at h5
        rw [hwj, if_neg wj, hcomm, hupc] at h5
        exact h5
  · unfold wpG at h
    rw [if_neg wi] at h
    unfold wpG at h
    by_cases wj : Region.wanted oj (yielded ops a.tmps) = true
    · rw [hwj, if_pos wj] at h
      obtain ⟨Vy, pY, kY, yY, nY⟩ := h
      unfold wpG
      rw [if_pos wj]
      refine ⟨Vy, pY, kY, ?_, ?_⟩
      · intro w hw hpre
        have h5 := yY w hw (fun e he hb => by rw [upF_ne (hed e he hb)]; exact hpre e he hb)
        rwa [execOp_put oj hsj a oi.dst undef h1] at h5
      · intro u w hw hF hV
        have h5 := nY u w hw (fun k => by
          by_cases e : k = i
          · subst e
            rw [upF_same]
            trivial
          · rw [upF_ne e]
            exact hF k) hV
        unfold wpG
        rw [hwi, if_neg wi]
        rw [hcomm, hupc] at h5
        exact h5
    · rw [hwj, if_neg wj] at h
      unfold wpG
      rw [if_neg wj]
      unfold wpG
      rw [hwi, if_neg wi]
      rw [hcomm, hupc] at h
      exact h

/-- An operation may come ahead of all that stand before it. -/
theorem frontG (hcl : ∀ w w', C0 w → Rel w w' → C0 w') (hQ : ∀ F F' a, (∀ k w, F' k w → F k w) → Q F a → Q F' a) (y : Nat × Oper) (l2 : List (Nat × Oper)) : ∀ (l1 : List (Nat × Oper)) (F : Facts) (a : Act) (w0 : World), (∀ x ∈ l1, PairG ops x y) → ((l1 ++ y :: l2).map (·.1)).Nodup →
    GoodF Rel C0 F w0 → Unl (l1 ++ y :: l2) F → wpG P Rel ops C0 Q (l1 ++ y :: l2) F a → wpG P Rel ops C0 Q (y :: (l1 ++ l2)) F a
  | [], F, a, w0, _, _, _, _, h => h
  | x :: l1, F, a, w0, hp, hnd, hG, hU, h => by
    have hnd2 : x.1 ∉ (l1 ++ y :: l2).map (·.1) ∧ ((l1 ++ y :: l2).map (·.1)).Nodup := by
      simpa [List.nodup_cons] using hnd
    have h' : wpG P Rel ops C0 Q (x :: (y :: (l1 ++ l2))) F a :=
      wpG_cons (l := l1 ++ y :: l2) hG (fun z hz => hU z (List.mem_cons_of_mem _ hz)) hnd2.1
        (fun F a w hG hU h => frontG hcl hQ y l2 l1 F a w (fun z hz => hp z (List.mem_cons_of_mem _ hz)) hnd2.2 hG hU h) h
    exact swapG hcl hQ (hp x (by simp)) hG (hU y (by simp)) h'
end
end Go.Proofs.YtlaikmpnijlcbaaDoor
/-
  STEPS OF WALKS: bools, choices, rows of bytes, calls over a class of worlds; two new variables, the order forced.
-/
namespace Go.Proofs.YtlaikmpnijlcbaaDoor
open Go.RowKit Go.IntWalk

section
variable {ops : Array Oper} {C0 : World → Prop} {Q : Act → Prop} {a : Act} {o : Oper} {rest : List Oper}
/-- A call that hands back one value, over a class of worlds. -/
theorem b_oneC {f : FuncId} {xs : Array Operand} {ats : Array TypeId} {args : Array Value} {v : Value} (hg : Region.wanted o (yielded ops a.tmps) = true)
    (hf : Own f) (hc : ∀ w, C0 w → Calls Tryd.prog f args w (fun e w' => e = .returned v ∧ Below w.heap.size w w'))
    (ho : o.op = .call { callee := .value (.func f), args := xs, argTypes := ats }) (hx : xs.toList.map a.eval = args.toList) (hk : wpB Tryd.prog ops C0 Q rest (a.put o.dst v)) : wpB Tryd.prog ops C0 Q (o :: rest) a :=
  b_call1 (f := f) (args := args) hg hc (fun w => by rw [run_call_fn hf ho, map_eval hx]) hk
/-- A row of bytes is read. -/
theorem b_by {l : List UInt8} (g : Nat) (hl : l.length = 32) (x : Operand) (hg : Region.wanted o (yielded ops a.tmps) = true) (ho : o.op = .load 30 x) (hx : a.eval x = .pointer (some ⟨g, 0, none⟩))
    (hc : ∀ w, C0 w → Blk w g 30 (By l).toArray) (hk : wpB Tryd.prog ops C0 Q rest (a.put o.dst (.agg (By l).toArray))) : wpB Tryd.prog ops C0 Q (o :: rest) a :=
  b_mid hg 30 x ho g 0 hx (By l) _ (fun w h => (hc w h).range) Tryd.underlying30 rfl (size_hash (By l).toArray (len_by hl)) hk
/-- A choice whose condition is true. -/
theorem b_pick {c x y : Operand} (hg : Region.wanted o (yielded ops a.tmps) = true) (ho : o.op = .pick c x y) (hc : a.eval c = .bool true) (hk : wpB Tryd.prog ops C0 Q rest (a.put o.dst (a.eval x))) : wpB Tryd.prog ops C0 Q (o :: rest) a :=
  b_val hg (fun w _ => by
    unfold execOp
    simp only [ho, hc]
    go_simp) hk
/-- Two equal bools. -/
theorem b_eqb {x y : Operand} {t : TypeId} (q : Bool) (hg : Region.wanted o (yielded ops a.tmps) = true) (ho : o.op = .binOp .eql 4 x y t) (hx : a.eval x = .bool q) (hy : a.eval y = .bool q)
    (hk : wpB Tryd.prog ops C0 Q rest (a.put o.dst (.bool true))) : wpB Tryd.prog ops C0 Q (o :: rest) a :=
  b_val hg (fun w _ => by
    unfold execOp
    simp only [ho, hx, hy]
    go_simp) hk
/-- A choice whose condition is false. -/
theorem b_pickF {c x y : Operand} (hg : Region.wanted o (yielded ops a.tmps) = true) (ho : o.op = .pick c x y) (hc : a.eval c = .bool false) (hk : wpB Tryd.prog ops C0 Q rest (a.put o.dst (a.eval y))) : wpB Tryd.prog ops C0 Q (o :: rest) a :=
  b_val hg (fun w _ => by
    unfold execOp
    simp only [ho, hc]
    go_simp) hk
/-- Two equal bools, by '!='. -/
theorem b_neqb {x y : Operand} {t : TypeId} (q : Bool) (hg : Region.wanted o (yielded ops a.tmps) = true) (ho : o.op = .binOp .neq 4 x y t) (hx : a.eval x = .bool q) (hy : a.eval y = .bool q)
    (hk : wpB Tryd.prog ops C0 Q rest (a.put o.dst (.bool false))) : wpB Tryd.prog ops C0 Q (o :: rest) a :=
  b_val hg (fun w _ => by
    unfold execOp
    simp only [ho, hx, hy]
    go_simp) hk
/-- Two equal rows of bytes. -/
theorem b_eqh {t t' : TypeId} {x y : Operand} (l : List UInt8) (hl : l.length = 32) (hg : Region.wanted o (yielded ops a.tmps) = true) (ho : o.op = .binOp .eql t x y t') (ht : t = 30) (hx : a.eval x = .agg (By l).toArray) (hy : a.eval y = .agg (By l).toArray)
    (hk : wpB Tryd.prog ops C0 Q rest (a.put o.dst (.bool true))) : wpB Tryd.prog ops C0 Q (o :: rest) a := by
  subst ht
  exact b_eq (By l).toArray (By l).toArray hg ho hx hy (by kernel_rfl) (fun w => by rw [equal32 l l hl hl w]; simp) hk
end

section
variable {ops : Array Oper} {C0 : World → Prop} {Q : Act → Prop} {a : Act} {o : Oper} {rest : List Oper}
theorem b_index {x : Operand} (u : List UInt8) (hl : 0 < u.length) (hg : Region.wanted o (yielded ops a.tmps) = true) (ho : o.op = .index 30 x (.const (.int .i64 0))) (hx : a.eval x = .agg (By u).toArray)
    (hk : wpB Tryd.prog ops C0 Q rest (a.put o.dst (.int .u8 ((u[0]!).toNat : Int)))) : wpB Tryd.prog ops C0 Q (o :: rest) a :=
  b_val hg (fun w _ => by
    have h0 : (By u).toArray[0]? = some (.int .u8 ((u[0]!).toNat : Int)) := By_get hl
    unfold execOp
    simp only [ho, hx]
    generalize (u[0]!).toNat = c at *
    generalize (By u).toArray = cs at *
    have h1 : (Instr.index 30 (.agg cs) (.int .i64 0)).run Tryd.prog w = .ok (.int .u8 (c : Int)) w := by
      unfold Instr.index part
      go_simp
    go_simp) hk
theorem b_rem2 {x : Operand} (c : Nat) (hc : c < 256) (hg : Region.wanted o (yielded ops a.tmps) = true) (ho : o.op = .binOp .rem 5 x (.const (.int .u8 2)) 5) (hx : a.eval x = .int .u8 (c : Int))
    (hk : wpB Tryd.prog ops C0 Q rest (a.put o.dst (.int .u8 ((c % 2 : Nat) : Int)))) : wpB Tryd.prog ops C0 Q (o :: rest) a :=
  b_val hg (fun w _ => by
    unfold execOp
    simp only [ho, hx]
    go_simp
    exact Int.tmod_eq_emod_of_nonneg (by omega)) hk
theorem b_is1 {x : Operand} (c : Nat) (hg : Region.wanted o (yielded ops a.tmps) = true) (ho : o.op = .binOp .eql 5 x (.const (.int .u8 1)) 5) (hx : a.eval x = .int .u8 (c : Int))
    (hk : wpB Tryd.prog ops C0 Q rest (a.put o.dst (.bool (decide (c = 1))))) : wpB Tryd.prog ops C0 Q (o :: rest) a :=
  b_val hg (fun w _ => by
    unfold execOp
    simp only [ho, hx]
    go_simp
    rw [Bool.eq_iff_iff]
    simp
    omega) hk
end

/-! ### Two new variables, the order forced -/
theorem reg_var2F {P : Program} {Q : Exit → Act → World → Prop} {id : Nat} {a : Act} {w : World} {l : List Oper} {oa ob os os2 : Oper} (n : Nat) (t t2 : Tmp) (ty ty2 : TypeId) (x x2 : Operand) (zs zs2 : Array Value) (hoa : l[n]? = some oa) (hob : l[n + 1]? = some ob) (hos : l.drop (n + 1 + 1) = [os, os2])
    (hop : os.op = .store ty (.tmp t) x) (hop2 : os2.op = .store ty2 (.tmp t2) x2) (hsg : os.guard = none) (hsg2 : os2.guard = none) (hsd : os.dst = none) (hsd2 : os2.dst = none)
    (hag : oa.guard = none) (hbg : ob.guard = none) (had : oa.dst = some t) (hbd : ob.dst = some t2)
    (hrun : ∀ (a : Act) w, (execOp a.eval oa).run P w = .ok (.value (.pointer (some ⟨w.heap.size, 0, none⟩))) (w.alloc (.cells zs ty)))
    (hrun2 : ∀ (a : Act) w, (execOp a.eval ob).run P w = .ok (.value (.pointer (some ⟨w.heap.size, 0, none⟩))) (w.alloc (.cells zs2 ty2)))
    (h : wpB P l.toArray (Up w) (varEnd2 P Q w t t2 ty ty2 x x2 zs.size zs2.size) (l.take n) a) : (Code.region id l.toArray false).wp P Q a w := by
  have e : l.drop n = [oa, ob, os, os2] := by
    obtain ⟨h1, rfl⟩ := List.getElem?_eq_some_iff.1 hoa
    obtain ⟨h2, rfl⟩ := List.getElem?_eq_some_iff.1 hob
    rw [List.drop_eq_getElem_cons h1, List.drop_eq_getElem_cons h2, hos]
  refine reg_tailF n (wpB_mono (fun a' h' w' hw' => ?_) _ _ h)
  rw [e]
  unfold wpList
  rw [if_pos (by simp [Region.wanted, hag])]
  refine .inl ?_
  unfold Oper.wp
  rw [hrun]
  simp only [Oper.upon]
  rw [had]
  unfold wpList
  rw [if_pos (by simp [Region.wanted, hbg])]
  refine .inl ?_
  unfold Oper.wp
  rw [hrun2]
  simp only [Oper.upon]
  rw [hbd]
  obtain ⟨cells, cells2, h1, h2, h3, h4, z1, z2, i1, i2, o1, o2, hk⟩ := h'
  have hg : w.heap.size ≤ w'.heap.size := hw'.size
  have hg2 : w.heap.size ≤ (w'.alloc (.cells zs ty)).heap.size := by rw [World.size_alloc]; omega
  have hne : w'.heap.size ≠ (w'.alloc (.cells zs ty)).heap.size := by rw [World.size_alloc]; omega
  have hb : Blk ((w'.alloc (.cells zs ty)).alloc (.cells zs2 ty2)) w'.heap.size ty zs := (Blk.new w' ty zs).alloc _
  have hb2 : Blk ((w'.alloc (.cells zs ty)).alloc (.cells zs2 ty2)) (w'.alloc (.cells zs ty)).heap.size ty2 zs2 := Blk.new _ ty2 zs2
  have hU : Up w ((w'.alloc (.cells zs ty)).alloc (.cells zs2 ty2)) := (hw'.alloc _).alloc _
  refine wpList_store_row hsg ty (.tmp t) x hop w'.heap.size (h1 _ _) cells (h3 _ _) ty zs hb i1 z1 o1 ?_
  rw [hsd]
  refine wpList_store_row hsg2 ty2 (.tmp t2) x2 hop2 (w'.alloc (.cells zs ty)).heap.size (h2 _ _) cells2 (h4 _ _) ty2 zs2 (hb2.rowFar (Ne.symm hne) _) i2 z2 o2 ?_
  rw [hsd2]
  exact hk _ _ _ hg hg2 (up_row (up_row hU hg _) hg2 _) ((hb.row _).rowFar hne _) ((hb2.rowFar (Ne.symm hne) _).row _)
section
variable {ops : Array Oper} {C0 : World → Prop} {Q : Act → Prop} {a : Act} {o : Oper} {rest : List Oper}
/-- A call that hands back one of a set. -/
theorem b_callV {f : FuncId} {xs : Array Operand} {ats : Array TypeId} {args : Array Value} (V : Value → Prop) (hg : Region.wanted o (yielded ops a.tmps) = true)
    (hf : Own f) (hc : ∀ w, C0 w → Calls Tryd.prog f args w (fun e w' => ∃ v, e = .returned v ∧ V v ∧ Below w.heap.size w w'))
    (ho : o.op = .call { callee := .value (.func f), args := xs, argTypes := ats }) (hx : xs.toList.map a.eval = args.toList) (hk : ∀ v, V v → wpB Tryd.prog ops C0 Q rest (a.put o.dst v)) : wpB Tryd.prog ops C0 Q (o :: rest) a :=
  b_call (f := f) (args := args) V hg (by rw [ho]; rfl) hc (fun w => by rw [run_call_fn hf ho, map_eval hx]) hk
end

end Go.Proofs.YtlaikmpnijlcbaaDoor
/-
  FRAMES BY WHAT IS KNOWN OF THEM: the values of some slots are told, the others are not: great functions are walked over such frames.
-/
namespace Go.Proofs.YtlaikmpnijlcbaaDoor
open Go.RowKit Go.IntWalk

/-- What is told of slot j. -/
def look : List (Nat × Value) → Nat → Option Value
  | [], _ => none
  | (k, v) :: r, j => match Nat.beq k j with
    | true => some v
    | false => look r j
theorem look_cons (k j : Nat) (v : Value) (r : List (Nat × Value)) : look ((k, v) :: r) j = if k = j then some v else look r j := by
  show (match Nat.beq k j with | true => some v | false => look r j) = _
  by_cases h : k = j
  · subst h
    rw [if_pos rfl, Nat.beq_refl]
  · rw [if_neg h]
    cases e : Nat.beq k j with
    | true => exact absurd (Nat.eq_of_beq_eq_true e) h
    | false => rfl
/-- An operand's value, where it is told. -/
def ev (E : List (Nat × Value)) : Operand → Option Value
  | .tmp t => look E t
  | .const v => some v
  | .global g => some (.pointer (some ⟨g, 0, none⟩))
  | .func f => some (.func (.func f) #[] #[])
/-- Each slot that E' tells, E tells so. -/
def Sub : List (Nat × Value) → List (Nat × Value) → Prop
  | [], _ => True
  | p :: r, E => look E p.1 = some p.2 ∧ Sub r E
/-- A frame of N slots, of which E is told. -/
structure Fr (N : Nat) (E : List (Nat × Value)) (a : Act) : Prop where
  size : a.tmps.size = N
  defers : a.defers = []
  get : ∀ k v, look E k = some v → a.eval (.tmp k) = v

section
variable {N : Nat} {E E' : List (Nat × Value)} {a : Act}
theorem Fr.eval (h : Fr N E a) {x : Operand} {v : Value} (hx : ev E x = some v) : a.eval x = v := by
  cases x with
  | tmp t => exact h.get t v hx
  | const u => exact Option.some.inj hx
  | global g => exact Option.some.inj hx
  | func f => exact Option.some.inj hx
theorem Fr.put (h : Fr N E a) {k : Nat} (hk : Nat.blt k N = true) (v : Value) : Fr N ((k, v) :: E) (a.put (some k) v) := by
  have hk : k < N := by simpa using hk
  refine ⟨by simp [Act.put, h.size], h.defers, fun j u hj => ?_⟩
  rw [look_cons] at hj
  have hs : k < a.tmps.size := by rw [h.size]; exact hk
  by_cases e : k = j
  · subst e
    rw [if_pos rfl] at hj
    cases hj
    simp [Act.put, Act.eval, hs]
  · rw [if_neg e] at hj
    have h1 := h.get j u hj
    simp only [Act.put, Act.eval, Array.getD_eq_getD_getElem?] at h1 ⊢
    rw [Array.getElem?_setIfInBounds_ne (by omega)]
    exact h1
theorem Fr.sub (h : Fr N E a) (hs : Sub E' E) : Fr N E' a := by
  refine ⟨h.size, h.defers, ?_⟩
  induction E' with
  | nil => intro k v hk; cases hk
  | cons p r ih =>
    intro k v hk
    obtain ⟨j, u⟩ := p
    rw [look_cons] at hk
    by_cases e : j = k
    · subst e
      rw [if_pos rfl] at hk
      cases hk
      exact h.get _ _ hs.1
    · rw [if_neg e] at hk
      exact ih hs.2 k v hk
/-- The first frame of a call. -/
theorem Fr.start {args : Array Value} {n : Nat} (h : args.size + n = N) (E : List (Nat × Value)) (hE : ∀ k v, look E k = some v → args[k]? = some v) :
    Fr N E { tmps := args ++ Array.replicate n undef, defers := [] } := by
  refine ⟨by simp [h], rfl, fun k v hk => ?_⟩
  have h1 := hE k v hk
  have h2 := (Array.getElem?_eq_some_iff.1 h1).1
  simp only [Act.eval, Array.getD_eq_getD_getElem?]
  rw [Array.getElem?_append_left h2, h1]
  rfl
end

/-! ### Code over such frames -/
/-- Over whatever frame of which E is told. -/
def cF (P : Program) (c : Code) (Q : Exit → Act → World → Prop) (N : Nat) (E : List (Nat × Value)) (w : World) : Prop := ∀ a, Fr N E a → c.wp P Q a w
def bF (P : Program) (ops : Array Oper) (C0 : World → Prop) (Q : Act → Prop) (l : List Oper) (N : Nat) (E : List (Nat × Value)) : Prop := ∀ a, Fr N E a → wpB P ops C0 Q l a
def lF (P : Program) (ops : Array Oper) (Q : Exit → Act → World → Prop) (l : List Oper) (N : Nat) (E : List (Nat × Value)) (w : World) : Prop := ∀ a, Fr N E a → wpList P ops Q l a w
/-- What is left to do at the end of something: over whatever frame of which E is told. -/
def kF (K : Act → World → Prop) (N : Nat) (E : List (Nat × Value)) (w : World) : Prop := ∀ a, Fr N E a → K a w

section
variable {P : Program} {Q : Exit → Act → World → Prop} {N : Nat} {E E' : List (Nat × Value)} {w : World}
theorem c_sub {c : Code} (hs : Sub E' E) (h : cF P c Q N E' w) : cF P c Q N E w := fun a ha => h a (ha.sub hs)
theorem k_sub {K : Act → World → Prop} (hs : Sub E' E) (h : kF K N E' w) : kF K N E w := fun a ha => h a (ha.sub hs)
theorem c_seq {x y : Code} (h : ∀ K : Act → World → Prop, (∀ E' w', cF P y Q N E' w' → kF K N E' w') → cF P x (Exit.then K Q) N E w) : cF P (.seq x y) Q N E w := fun a ha =>
  wp_seq_k fun K hK => h K (fun _ _ h' a' ha' => hK _ _ (h' a' ha')) a ha
theorem c_cond {c : Operand} {x y : Code} (t : Bool) (hc : ev E c = some (.bool t)) (h : cF P (if t then x else y) Q N E w) : cF P (.cond c x y) Q N E w := fun a ha => wp_cond (ha.eval hc) (h a ha)
theorem c_block {id : Nat} {c : Code} (h : cF P c (Exit.inBlock id Q) N E w) : cF P (.block id c) Q N E w := fun a ha => wp_block (h a ha)
theorem c_skip (h : kF (Q .normal) N E w) : cF P .skip Q N E w := fun a ha => wp_skip (h a ha)
theorem c_exit {id : Nat} (h : kF (Q (.exit id)) N E w) : cF P (.exit id) Q N E w := fun a ha => wp_exit (h a ha)
theorem c_ret (h : kF (Q .ret) N E w) : cF P .ret Q N E w := fun a ha => wp_ret (h a ha)
/-- The end of a block by its exit. -/
theorem k_exit {id : Nat} (h : kF (Q .normal) N E w) : kF (Exit.inBlock id Q (.exit id)) N E w := fun a ha => by
  simp only [Exit.inBlock, if_true]
  exact h a ha

theorem least {σ : Type} (m : σ → Nat) (p : σ → Prop) : (∃ s, p s) → ∃ s, p s ∧ ∀ s', p s' → m s ≤ m s' := by
  rintro ⟨s, hs⟩
  have key : ∀ n s, m s ≤ n → p s → ∃ s, p s ∧ ∀ s', p s' → m s ≤ m s' := by
    intro n
    induction n with
    | zero => exact fun s hn hs => ⟨s, hs, fun s' _ => by omega⟩
    | succ n ih =>
      intro s hn hs
      by_cases h : ∃ s', p s' ∧ m s' < m s
      · obtain ⟨s', h1, h2⟩ := h
        exact ih s' (by omega) h1
      · exact ⟨s, hs, fun s' h1 => by
          by_cases h2 : m s' < m s
          · exact absurd ⟨s', h1, h2⟩ h
          · omega⟩
  exact key (m s) s (Nat.le_refl _) hs
open Classical in
/-- **A loop**: its states s, what is told of the frame and of the world at each, and what gets less. -/
theorem c_loop {σ : Type} {c : Code} (m : σ → Nat) (F : σ → List (Nat × Value)) (R : σ → World → Prop)
    (round : ∀ s w, R s w → cF P c (Exit.then (fun a' w' => ∃ s', R s' w' ∧ Fr N (F s') a' ∧ m s' < m s) Q) N (F s) w) (s0 : σ) (h0 : R s0 w) : cF P (.loop c) Q N (F s0) w := fun a ha => by
  let T : Act → World → σ → Prop := fun a w s => R s w ∧ Fr N (F s) a
  let μ : Act → World → Nat := fun a w => if h : ∃ s, T a w s then m (Classical.choose (least m (T a w) h)) else 0
  have hμ : ∀ a w (h : ∃ s, T a w s), ∃ s, T a w s ∧ (∀ s', T a w s' → m s ≤ m s') ∧ μ a w = m s := fun a w h => by
    refine ⟨Classical.choose (least m (T a w) h), (Classical.choose_spec (least m (T a w) h)).1, (Classical.choose_spec (least m (T a w) h)).2, ?_⟩
    show (if h : ∃ s, T a w s then m (Classical.choose (least m (T a w) h)) else 0) = _
    rw [dif_pos h]
  refine wp_loop (fun a w => ∃ s, T a w s) μ ⟨s0, h0, ha⟩ fun a w hI => ?_
  obtain ⟨s, hs, _, e⟩ := hμ a w hI
  refine wp_mono (round s w hs.1 a hs.2) fun x a' w' hx => ?_
  cases x with
  | normal =>
    obtain ⟨s', h1, h2, h3⟩ := hx
    have hI' : ∃ s, T a' w' s := ⟨s', h1, h2⟩
    obtain ⟨s2, hs2, hm2, e2⟩ := hμ a' w' hI'
    refine ⟨hI', ?_⟩
    rw [e, e2]
    exact Nat.lt_of_le_of_lt (hm2 s' ⟨h1, h2⟩) h3
  | exit _ => exact hx
  | goto _ => exact hx
  | ret => exact hx
  | panic _ => exact hx
  | outgrown => exact hx
/-- The end of a loop's round. -/
theorem k_round {σ : Type} {m : σ → Nat} {F : σ → List (Nat × Value)} {R : σ → World → Prop} {s : σ} (s' : σ) (hs : Sub (F s') E) (hR : R s' w) (hm : m s' < m s) :
    kF (fun a' w' => ∃ s', R s' w' ∧ Fr N (F s') a' ∧ m s' < m s) N E w := fun _ ha => ⟨s', hR, ha.sub hs, hm⟩
end

/-! ### Regions -/
section
variable {P : Program} {Q : Exit → Act → World → Prop} {N : Nat} {E : List (Nat × Value)} {w : World} {id : Nat} {l : List Oper}
theorem c_q (hm : P.follows .mixedOrders = true) (hB : tailB l.toArray l.length 0 0 = true) (hQ : ∀ c a d v w, Q (.panic c) (a.put d v) w → Q (.panic c) a w)
    (h : bF P l.toArray (Up w) (fun a' => ∀ w', Up w w' → Q .normal a' w') l N E) : cF P (.region id l.toArray true) Q N E w := fun a ha => reg_q hm hB hQ (h a ha)
theorem c_qF (h : bF P l.toArray (Up w) (fun a' => ∀ w', Up w w' → Q .normal a' w') l N E) : cF P (.region id l.toArray false) Q N E w := fun a ha => reg_qF (h a ha)
/-- Reads and calls, then the rest of the region in its order. -/
theorem c_t (n : Nat) (hn : n ≤ l.length) (hm : P.follows .mixedOrders = true) (hB : tailB l.toArray n 0 (l.drop n).length = true) (hQ : ∀ c a d v w, Q (.panic c) (a.put d v) w → Q (.panic c) a w)
    (h : bF P l.toArray (Up w) (fun a' => ∀ w', Up w w' → wpList P l.toArray Q (l.drop n) a' w') (l.take n) N E) : cF P (.region id l.toArray true) Q N E w := fun a ha =>
  region_B n (Up w) hn hm hB (fun _ _ h k => h.step k) (Up.drew w) hQ (h a ha)
theorem c_tF (n : Nat) (h : bF P l.toArray (Up w) (fun a' => ∀ w', Up w w' → wpList P l.toArray Q (l.drop n) a' w') (l.take n) N E) : cF P (.region id l.toArray false) Q N E w := fun a ha => reg_tailF n (h a ha)
theorem c_lit (h : lF P l.toArray Q l N E w) : cF P (.region id l.toArray false) Q N E w := fun a ha => wp_region_lit (h a ha)
end

/-! ### Steps -/
section
variable {P : Program} {ops : Array Oper} {C0 : World → Prop} {Q : Act → Prop} {N : Nat} {E : List (Nat × Value)} {o : Oper} {rest : List Oper} {k : Nat}
theorem f_val (v : Value) (hg : o.guard = none) (hd : o.dst = some k) (hk : Nat.blt k N = true) (h : ∀ a, Fr N E a → ∀ w, C0 w → (execOp a.eval o).run P w = .ok (.value v) w) (hn : bF P ops C0 Q rest N ((k, v) :: E)) :
    bF P ops C0 Q (o :: rest) N E := fun a ha => b_val (by simp [Region.wanted, hg]) (h a ha) (by rw [hd]; exact hn _ (ha.put hk v))
theorem f_move {x : Operand} (v : Value) (hg : o.guard = none) (hd : o.dst = some k) (hk : Nat.blt k N = true) (ho : o.op = .move x) (hx : ev E x = some v) (hn : bF P ops C0 Q rest N ((k, v) :: E)) : bF P ops C0 Q (o :: rest) N E :=
  f_val v hg hd hk (fun a ha w _ => by
    have h1 := ha.eval hx
    unfold execOp
    simp only [ho, h1, Sem.run_pure]) hn
theorem f_assign {x : Operand} (v : Value) (hg : o.guard = none) (hd : o.dst = some k) (hk : Nat.blt k N = true) (ho : o.op = .assign x) (hx : ev E x = some v) (hn : bF P ops C0 Q rest N ((k, v) :: E)) : bF P ops C0 Q (o :: rest) N E :=
  f_val v hg hd hk (fun a ha w _ => by
    have h1 := ha.eval hx
    unfold execOp
    simp only [ho, h1, Sem.run_pure]) hn
/-- What is told by one reckoning of two values, in every world. -/
theorem f_bin {b : BinOp} {t t2 : TypeId} {x y : Operand} (vx vy v : Value) (hg : o.guard = none) (hd : o.dst = some k) (hk : Nat.blt k N = true) (ho : o.op = .binOp b t x y t2) (hx : ev E x = some vx) (hy : ev E y = some vy)
    (hr : ∀ a : Act, ∀ o : Oper, o.op = .binOp b t x y t2 → a.eval x = vx → a.eval y = vy → ∀ w, (execOp a.eval o).run P w = .ok (.value v) w) (hn : bF P ops C0 Q rest N ((k, v) :: E)) : bF P ops C0 Q (o :: rest) N E :=
  f_val v hg hd hk (fun a ha w _ => hr a o ho (ha.eval hx) (ha.eval hy) w) hn
theorem f_nil (h : ∀ a, Fr N E a → Q a) : bF P ops C0 Q [] N E := fun a ha => wpB_nil (h a ha)
end
/-- The end of a region of reads and calls. -/
theorem f_end {P : Program} {ops : Array Oper} {Q : Exit → Act → World → Prop} {N : Nat} {E : List (Nat × Value)} {w : World} (h : ∀ w', Up w w' → kF (Q .normal) N E w') :
    bF P ops (Up w) (fun a' => ∀ w', Up w w' → Q .normal a' w') [] N E := fun a ha => wpB_nil fun w' hw' => h w' hw' a ha

section
variable {ops : Array Oper} {C0 : World → Prop} {Q : Act → Prop} {N : Nat} {E : List (Nat × Value)} {o : Oper} {rest : List Oper} {k : Nat}
/-- A call that hands back one value. -/
theorem f_call {f : FuncId} {xs : Array Operand} {ats : Array TypeId} (args : Array Value) (v : Value) (hg : o.guard = none) (hd : o.dst = some k) (hk : Nat.blt k N = true)
    (hf : Own f) (hc : ∀ w, C0 w → Calls Tryd.prog f args w (fun e w' => e = .returned v ∧ Below w.heap.size w w'))
    (ho : o.op = .call { callee := .value (.func f), args := xs, argTypes := ats }) (hx : xs.toList.map (ev E) = args.toList.map some) (hn : bF Tryd.prog ops C0 Q rest N ((k, v) :: E)) : bF Tryd.prog ops C0 Q (o :: rest) N E := fun a ha => by
  refine b_oneC (v := v) (args := args) (by simp [Region.wanted, hg]) hf hc ho ?_ (by rw [hd]; exact hn _ (ha.put hk v))
  have key : ∀ (l : List Operand) (m : List Value), l.map (ev E) = m.map some → l.map a.eval = m := by
    intro l
    induction l with
    | nil => intro m h; cases m with
      | nil => rfl
      | cons => cases h
    | cons y l ih => intro m h; cases m with
      | nil => cases h
      | cons u m =>
        simp only [List.map_cons, List.cons.injEq] at h ⊢
        exact ⟨ha.eval h.1, ih m h.2⟩
  exact key _ _ hx

/-! Numbers -/
theorem f_addI {x y : Operand} (m n r : Int) (hg : o.guard = none) (hd : o.dst = some k) (hk : Nat.blt k N = true) (ho : o.op = .binOp .add 3 x y 3) (hx : ev E x = some (.int .i64 m)) (hy : ev E y = some (.int .i64 n))
    (hr : IntKind.i64.wrap (m + n) = r) (hn : bF Tryd.prog ops C0 Q rest N ((k, .int .i64 r) :: E)) : bF Tryd.prog ops C0 Q (o :: rest) N E :=
  f_val _ hg hd hk (fun a ha w _ => by
    have h1 := ha.eval hx
    have h2 := ha.eval hy
    unfold execOp
    simp only [ho, h1, h2]
    go_simp) hn
theorem f_subI {x y : Operand} (m n r : Int) (hg : o.guard = none) (hd : o.dst = some k) (hk : Nat.blt k N = true) (ho : o.op = .binOp .sub 3 x y 3) (hx : ev E x = some (.int .i64 m)) (hy : ev E y = some (.int .i64 n))
    (hr : IntKind.i64.wrap (m - n) = r) (hn : bF Tryd.prog ops C0 Q rest N ((k, .int .i64 r) :: E)) : bF Tryd.prog ops C0 Q (o :: rest) N E :=
  f_val _ hg hd hk (fun a ha w _ => by
    have h1 := ha.eval hx
    have h2 := ha.eval hy
    unfold execOp
    simp only [ho, h1, h2]
    go_simp) hn
theorem f_mulI {x y : Operand} (m n r : Int) (hg : o.guard = none) (hd : o.dst = some k) (hk : Nat.blt k N = true) (ho : o.op = .binOp .mul 3 x y 3) (hx : ev E x = some (.int .i64 m)) (hy : ev E y = some (.int .i64 n))
    (hr : IntKind.i64.wrap (m * n) = r) (hn : bF Tryd.prog ops C0 Q rest N ((k, .int .i64 r) :: E)) : bF Tryd.prog ops C0 Q (o :: rest) N E :=
  f_val _ hg hd hk (fun a ha w _ => by
    have h1 := ha.eval hx
    have h2 := ha.eval hy
    unfold execOp
    simp only [ho, h1, h2]
    go_simp) hn
theorem f_lssI {x y : Operand} {t : TypeId} (m n : Int) (q : Bool) (hg : o.guard = none) (hd : o.dst = some k) (hk : Nat.blt k N = true) (ho : o.op = .binOp .lss 3 x y t) (hx : ev E x = some (.int .i64 m)) (hy : ev E y = some (.int .i64 n))
    (hr : decide (m < n) = q) (hn : bF Tryd.prog ops C0 Q rest N ((k, .bool q) :: E)) : bF Tryd.prog ops C0 Q (o :: rest) N E :=
  f_val _ hg hd hk (fun a ha w _ => by
    have h1 := ha.eval hx
    have h2 := ha.eval hy
    subst hr
    unfold execOp
    simp only [ho, h1, h2]
    go_simp) hn
theorem f_addU {x y : Operand} {t : TypeId} (m n r : Int) (hg : o.guard = none) (hd : o.dst = some k) (hk : Nat.blt k N = true) (ho : o.op = .binOp .add 83 x y t) (hx : ev E x = some (.int .u64 m)) (hy : ev E y = some (.int .u64 n))
    (hr : IntKind.u64.wrap (m + n) = r) (hn : bF Tryd.prog ops C0 Q rest N ((k, .int .u64 r) :: E)) : bF Tryd.prog ops C0 Q (o :: rest) N E :=
  f_val _ hg hd hk (fun a ha w _ => by
    have h1 := ha.eval hx
    have h2 := ha.eval hy
    unfold execOp
    simp only [ho, h1, h2]
    go_simp) hn
theorem f_mulU {x y : Operand} {t : TypeId} (m n r : Int) (hg : o.guard = none) (hd : o.dst = some k) (hk : Nat.blt k N = true) (ho : o.op = .binOp .mul 83 x y t) (hx : ev E x = some (.int .u64 m)) (hy : ev E y = some (.int .u64 n))
    (hr : IntKind.u64.wrap (m * n) = r) (hn : bF Tryd.prog ops C0 Q rest N ((k, .int .u64 r) :: E)) : bF Tryd.prog ops C0 Q (o :: rest) N E :=
  f_val _ hg hd hk (fun a ha w _ => by
    have h1 := ha.eval hx
    have h2 := ha.eval hy
    unfold execOp
    simp only [ho, h1, h2]
    go_simp) hn
theorem f_andU {x y : Operand} {t : TypeId} (m n r : Int) (hg : o.guard = none) (hd : o.dst = some k) (hk : Nat.blt k N = true) (ho : o.op = .binOp .and 83 x y t) (hx : ev E x = some (.int .u64 m)) (hy : ev E y = some (.int .u64 n))
    (hr : bits .and .u64 m n = r) (hn : bF Tryd.prog ops C0 Q rest N ((k, .int .u64 r) :: E)) : bF Tryd.prog ops C0 Q (o :: rest) N E :=
  f_val _ hg hd hk (fun a ha w _ => by
    have h1 := ha.eval hx
    have h2 := ha.eval hy
    unfold execOp
    simp only [ho, h1, h2]
    go_simp) hn
theorem f_orU {x y : Operand} {t : TypeId} (m n r : Int) (hg : o.guard = none) (hd : o.dst = some k) (hk : Nat.blt k N = true) (ho : o.op = .binOp .or 83 x y t) (hx : ev E x = some (.int .u64 m)) (hy : ev E y = some (.int .u64 n))
    (hr : bits .or .u64 m n = r) (hn : bF Tryd.prog ops C0 Q rest N ((k, .int .u64 r) :: E)) : bF Tryd.prog ops C0 Q (o :: rest) N E :=
  f_val _ hg hd hk (fun a ha w _ => by
    have h1 := ha.eval hx
    have h2 := ha.eval hy
    unfold execOp
    simp only [ho, h1, h2]
    go_simp) hn
theorem f_notU {x : Operand} {t : TypeId} (m r : Int) (hg : o.guard = none) (hd : o.dst = some k) (hk : Nat.blt k N = true) (ho : o.op = .unOp .xor t x) (hx : ev E x = some (.int .u64 m))
    (hr : bits .xor .u64 (if IntKind.u64.signed = true then -1 else IntKind.u64.max) m = r) (hn : bF Tryd.prog ops C0 Q rest N ((k, .int .u64 r) :: E)) : bF Tryd.prog ops C0 Q (o :: rest) N E :=
  f_val _ hg hd hk (fun a ha w _ => by
    have h1 := ha.eval hx
    subst hr
    unfold execOp
    simp only [ho, h1]
    go_simp) hn
theorem f_load {x : Operand} {t : TypeId} (p : Addr) (v : Value) (ht : t = 83 ∨ t = 41 ∨ t = 5 ∨ t = 3) (hg : o.guard = none) (hd : o.dst = some k) (hk : Nat.blt k N = true) (ho : o.op = .load t x) (hx : ev E x = some (.pointer (some p)))
    (hc : ∀ w, C0 w → w.cell? p = some v) (hn : bF Tryd.prog ops C0 Q rest N ((k, v) :: E)) : bF Tryd.prog ops C0 Q (o :: rest) N E :=
  f_val _ hg hd hk (fun a ha w hw => by
    have h1 := ha.eval hx
    have h2 := hc w hw
    unfold execOp
    simp only [ho, h1]
    rcases ht with rfl | rfl | rfl | rfl <;> go_simp) hn
end
end Go.Proofs.YtlaikmpnijlcbaaDoor
/-
  REGIONS THAT DRAW THEIR ORDER, AND MAKE MEMORY: from the walk in the text's order to every order; the check of a region; walks over frames by what is known of them.
-/
namespace Go.Proofs.YtlaikmpnijlcbaaDoor
open Go.RowKit Go.IntWalk

/-! ### Who waits for whom -/
inductive Waits (ops : Array Oper) : Nat → Nat → Prop
  | edge {j i : Nat} {o : Oper} (hj : ops[j]? = some o) (h : edgeTo .any o i = true) : Waits ops j i
  | via {j m i : Nat} {o : Oper} (hj : ops[j]? = some o) (h : edgeTo .any o m = true) (hm : Waits ops m i) : Waits ops j i
theorem edgeTo_spec {o : Oper} {i : Nat} (h : edgeTo .any o i = true) : ∃ e ∈ o.after, Region.binds .any e = true ∧ e.on = i := by
  unfold edgeTo at h
  obtain ⟨e, he, hb⟩ := Array.any_eq_true'.1 h
  simp only [Bool.and_eq_true, beq_iff_eq] at hb
  exact ⟨e, he, hb.1, hb.2⟩
theorem Closed.waits' {ops : Array Oper} {listed : Array Bool} (hc : Closed .any ops listed) {j i : Nat} (h : Waits ops j i) : ∀ o, ops[j]? = some o → (∀ e ∈ o.after, Region.binds .any e = true → listed.getD e.on false = true) → listed.getD i false = true := by
  induction h with
  | edge hj h =>
    intro o ho hl
    obtain rfl := Option.some.inj (hj.symm.trans ho)
    obtain ⟨e, he, hb, rfl⟩ := edgeTo_spec h
    exact hl e he hb
  | @via j m i o' hj h hm ih =>
    intro o ho hl
    obtain rfl := Option.some.inj (hj.symm.trans ho)
    obtain ⟨e, he, hb, rfl⟩ := edgeTo_spec h
    have h1 := hl e he hb
    obtain ⟨om, hom⟩ : ∃ om, ops[e.on]? = some om := by cases hm with
      | edge hj _ => exact ⟨_, hj⟩
      | via hj _ _ => exact ⟨_, hj⟩
    exact ih om hom (hc _ om hom h1)

def maskE (ms : List Nat) : List Edge → Nat
  | [] => 0
  | e :: l => if Region.binds .any e then (2 ^ e.on ||| ms.getD e.on 0) ||| maskE ms l else maskE ms l
def maskL : List Oper → List Nat → List Nat
  | [], ms => ms
  | o :: l, ms => maskL l (ms ++ [maskE ms o.after.toList])
theorem maskE_spec {ms : List Nat} {i : Nat} : ∀ {l : List Edge}, (maskE ms l).testBit i = true → ∃ e ∈ l, Region.binds .any e = true ∧ (e.on = i ∨ ∃ b, ms[e.on]? = some b ∧ b.testBit i = true)
  | [], h => by simp [maskE] at h
  | e :: l, h => by
    unfold maskE at h
    split at h
    · rename_i hb
      rw [Nat.testBit_or, Nat.testBit_or] at h
      simp only [Bool.or_eq_true] at h
      rcases h with (h | h) | h
      · refine ⟨e, by simp, hb, .inl ?_⟩
        rw [Nat.testBit_two_pow] at h
        simpa using h
      · refine ⟨e, by simp, hb, .inr ?_⟩
        rw [List.getD_eq_getElem?_getD] at h
        cases hm : ms[e.on]? with
        | none => rw [hm] at h; simp at h
        | some b => rw [hm] at h; exact ⟨b, rfl, h⟩
      · obtain ⟨e', he, h'⟩ := maskE_spec h
        exact ⟨e', List.mem_cons_of_mem _ he, h'⟩
    · obtain ⟨e', he, h'⟩ := maskE_spec h
      exact ⟨e', List.mem_cons_of_mem _ he, h'⟩
def OkM (ops : Array Oper) (ms : List Nat) : Prop := ∀ j b i : Nat, ms[j]? = some b → b.testBit i = true → Waits ops j i
theorem maskL_ok {ops : Array Oper} : ∀ (l : List Oper) (ms : List Nat), (∀ j, j < l.length → l[j]? = ops[ms.length + j]?) → OkM ops ms → OkM ops (maskL l ms)
  | [], _, _, h => h
  | o :: l, ms, hl, h => by
    unfold maskL
    refine maskL_ok l _ (fun j hj => ?_) ?_
    · have := hl (j + 1) (by simpa using hj)
      simpa [Nat.add_assoc, Nat.add_comm 1 j] using this
    · intro j b i hj hb
      rw [List.getElem?_append] at hj
      split at hj
      · exact h j b i hj hb
      · rename_i hlt
        have h0 : j - ms.length = 0 := by
          by_cases e : j - ms.length = 0
          · exact e
          · exfalso
            obtain ⟨k, hk⟩ : ∃ k, j - ms.length = k + 1 := ⟨j - ms.length - 1, by omega⟩
            rw [hk] at hj
            simp at hj
        obtain rfl : j = ms.length := by omega
        rw [h0] at hj
        simp only [List.getElem?_cons_zero, Option.some.injEq] at hj
        subst hj
        have ho : ops[ms.length]? = some o := by simpa using (hl 0 (by simp)).symm
        obtain ⟨e, he, hbd, h5⟩ := maskE_spec hb
        have he' : e ∈ o.after := by simpa using he
        have hed : edgeTo .any o e.on = true := by
          unfold edgeTo
          exact Array.any_eq_true'.2 ⟨e, he', by simp [hbd]⟩
        rcases h5 with rfl | ⟨b, hb1, hb2⟩
        · exact .edge ho hed
        · exact .via ho hed (h _ b i hb1 hb2)

/-! ### The check of a region -/
def othersH (ops : Array Oper) (o : Oper) (k : Nat) : List Oper → List Nat → Bool
  | [], _ => true
  | _ :: _, [] => false
  | x :: l, m :: ms => (m.testBit k || (o.apart ops x && (stillG x.op || !multiG o.op))) && othersH ops o k l ms
def headH (ops : Array Oper) : List Oper → List Nat → Nat → Bool
  | [], _, _ => true
  | _ :: _, [], _ => false
  | o :: l, _ :: ms, k => o.after.all (fun e => !Region.binds .any e || decide (e.on < k)) && othersH ops o k l ms && headH ops l ms (k + 1)
/-- n operations are walked in the text's order; the m others, forced, wait for all of them. -/
def tailH (ops : Array Oper) (n m : Nat) : Bool :=
  Region.noSelect ops && headH ops (ops.toList.take n) (maskL ops.toList []) 0 && (match (maskL ops.toList [])[n]? with | none => true | some b => (List.range n).all b.testBit) &&
    decide (ops.size = m + n) && forcedB .any ops m n (marks n 0 (Array.replicate ops.size false))
theorem others_ok {ops : Array Oper} {o : Oper} {k : Nat} : ∀ {l : List Oper} {ms : List Nat}, othersH ops o k l ms = true → ∀ (j : Nat) (x : Oper), l[j]? = some x → ∃ m, ms[j]? = some m ∧ (m.testBit k = true ∨ (o.apart ops x = true ∧ (stillG x.op = true ∨ multiG o.op = false)))
  | [], _, _, j, x, hx => by simp at hx
  | _ :: _, [], h, _, _, _ => by cases h
  | y :: l, m :: ms, h, 0, x, hx => by
    simp only [List.getElem?_cons_zero, Option.some.injEq] at hx
    subst hx
    simp only [othersH, Bool.and_eq_true, Bool.or_eq_true, Bool.not_eq_true'] at h
    exact ⟨m, rfl, h.1⟩
  | y :: l, m :: ms, h, j + 1, x, hx => by
    simp only [othersH, Bool.and_eq_true] at h
    obtain ⟨m', h1, h2⟩ := others_ok h.2 j x (by simpa using hx)
    exact ⟨m', by simpa using h1, h2⟩
theorem head_ok {ops : Array Oper} : ∀ {l : List Oper} {ms : List Nat} {k : Nat}, headH ops l ms k = true → ∀ (i j : Nat) (x y : Oper), i < j → l[i]? = some x → l[j]? = some y → ∃ m, ms[j]? = some m ∧ (m.testBit (k + i) = true ∨ (x.apart ops y = true ∧ (stillG y.op = true ∨ multiG x.op = false)))
  | [], _, _, _, i, _, x, _, _, hx, _ => by simp at hx
  | _ :: _, [], _, h, _, _, _, _, _, _, _ => by cases h
  | o :: l, m :: ms, k, h, 0, 0, x, y, hij, _, _ => absurd hij (by omega)
  | o :: l, m :: ms, k, h, 0, j + 1, x, y, _, hx, hy => by
    simp only [headH, Bool.and_eq_true] at h
    simp only [List.getElem?_cons_zero, Option.some.injEq] at hx
    subst hx
    obtain ⟨m', h1, h2⟩ := others_ok h.1.2 j y (by simpa using hy)
    exact ⟨m', by simpa using h1, h2⟩
  | o :: l, m :: ms, k, h, i + 1, 0, x, y, hij, _, _ => absurd hij (by omega)
  | o :: l, m :: ms, k, h, i + 1, j + 1, x, y, hij, hx, hy => by
    simp only [headH, Bool.and_eq_true] at h
    obtain ⟨m', h1, h2⟩ := head_ok h.2 i j x y (by omega) (by simpa using hx) (by simpa using hy)
    exact ⟨m', by simpa using h1, by rwa [show k + (i + 1) = k + 1 + i by omega]⟩
theorem head_low {ops : Array Oper} : ∀ {l : List Oper} {ms : List Nat} {k : Nat}, headH ops l ms k = true → ∀ (i : Nat) (x : Oper), l[i]? = some x → ∀ e ∈ x.after, Region.binds .any e = true → e.on < k + i
  | [], _, _, _, i, x, hx => by simp at hx
  | _ :: _, [], _, h, _, _, _ => by cases h
  | o :: l, m :: ms, k, h, 0, x, hx => fun e he hb => by
    simp only [headH, Bool.and_eq_true] at h
    simp only [List.getElem?_cons_zero, Option.some.injEq] at hx
    subst hx
    have h5 := Array.all_eq_true'.1 h.1.1 e he
    simpa [hb] using h5
  | o :: l, m :: ms, k, h, i + 1, x, hx => fun e he hb => by
    simp only [headH, Bool.and_eq_true] at h
    have := head_low h.2 i x (by simpa using hx) e he hb
    omega

/-! ### Every order -/
/-- What is left: the operations l of the first n. -/
structure Pend (ops : Array Oper) (n : Nat) (l : List (Nat × Oper)) (listed : Array Bool) : Prop where
  size : listed.size = ops.size
  mem : ∀ x ∈ l, ops[x.1]? = some x.2 ∧ x.1 < n ∧ listed.getD x.1 true = false
  out : ∀ j o, j < n → ops[j]? = some o → listed.getD j true = false → (j, o) ∈ l
  tail : ∀ j, n ≤ j → j < ops.size → listed.getD j true = false
  sort : l.Pairwise fun x y => x.1 < y.1
  closed : Closed .any ops listed
theorem getD_in {listed : Array Bool} {j : Nat} (h : j < listed.size) : listed.getD j true = listed.getD j false := by
  simp only [Array.getD_eq_getD_getElem?]
  rw [Array.getElem?_eq_getElem h]
  rfl
theorem Pend.step {ops : Array Oper} {n i : Nat} {o : Oper} {l1 l2 : List (Nat × Oper)} {listed : Array Bool} (h : Pend ops n (l1 ++ (i, o) :: l2) listed) (hr : i ∈ Region.ready .any ops listed) : Pend ops n (l1 ++ l2) (listed.setIfInBounds i true) := by
  have hs := h.sort
  rw [List.pairwise_append, List.pairwise_cons] at hs
  have hm := h.mem (i, o) (by simp)
  have hil : i < listed.size := by rw [h.size]; exact (Array.getElem?_eq_some_iff.1 hm.1).1
  refine ⟨by rw [Array.size_setIfInBounds, h.size], fun x hx => ?_, fun j o' hj ho hl => ?_, fun j hj hjs => ?_, ?_, h.closed.set hr⟩
  · have hne : i ≠ x.1 := by
      rcases List.mem_append.1 hx with h1 | h1
      · have := hs.2.2 x h1 (i, o) (by simp)
        dsimp only at this
        omega
      · have := hs.2.1.1 x h1
        dsimp only at this
        omega
    obtain ⟨h1, h2, h3⟩ := h.mem x (by
      rcases List.mem_append.1 hx with h1 | h1
      · exact List.mem_append_left _ h1
      · exact List.mem_append_right _ (List.mem_cons_of_mem _ h1))
    exact ⟨h1, h2, by rw [getD_set_ne true hne]; exact h3⟩
  · by_cases e : i = j
    · subst e
      simp [hil] at hl
    · rw [getD_set_ne true e] at hl
      have h1 := h.out j o' hj ho hl
      rcases List.mem_append.1 h1 with h2 | h2
      · exact List.mem_append_left _ h2
      · rcases List.mem_cons.1 h2 with h3 | h3
        · injection h3 with h4 h5
          exact absurd h4.symm e
        · exact List.mem_append_right _ h3
  · rw [getD_set_ne true (by have := hm.2.1; dsimp only at this; omega)]
    exact h.tail j hj hjs
  · exact h.sort.sublist (List.Sublist.append (List.Sublist.refl _) (List.sublist_cons_self _ _))

/-- What is asked where the n operations are done. -/
def endG (P : Program) (ops : Array Oper) (Q : Exit → Act → World → Prop) (C0 : World → Prop) (T : List Oper) (F : Facts) (a : Act) : Prop := ∀ w, C0 w → (∀ k, F k w) → wpList P ops Q T a w
theorem endG_mono {P : Program} {ops : Array Oper} {Q : Exit → Act → World → Prop} {C0 : World → Prop} {T : List Oper} : ∀ (F F' : Facts) (a : Act), (∀ k w, F' k w → F k w) → endG P ops Q C0 T F a → endG P ops Q C0 T F' a :=
  fun _ _ _ h hh w hw hF => hh w hw fun k => h k w (hF k)

section
variable {P : Program} {Rel : World → World → Prop} {ops : Array Oper} {Q : Exit → Act → World → Prop} {C0 : World → Prop}
theorem reg_any (hcl : ∀ w w', C0 w → Rel w w' → C0 w') {n : Nat} {T : List Oper} (hB : tailH ops n T.length = true) (hT : ∀ j, j < T.length → T[j]? = ops[n + j]?) :
    ∀ (N : Nat) (l : List (Nat × Oper)) (listed : Array Bool) (F : Facts) (a : Act) (w : World), l.length = N → Pend ops n l listed → GoodF Rel C0 F w → Unl l F →
      wpG P Rel ops C0 (endG P ops Q C0 T) l F a → wpAny P .any ops Q (T.length + N) listed a w := by
  simp only [tailH, Bool.and_eq_true, decide_eq_true_eq] at hB
  obtain ⟨⟨⟨⟨hsel, hh⟩, hsk⟩, hsz⟩, hf⟩ := hB
  have hM : OkM ops (maskL ops.toList []) := maskL_ok ops.toList [] (fun j _ => by simp) (fun j b i hj => by simp at hj)
  have htk : ∀ (j : Nat) (o : Oper), j < n → ops[j]? = some o → (ops.toList.take n)[j]? = some o := fun j o hj ho => by
    rw [List.getElem?_take, if_pos hj]
    simpa using ho
  have hI : Inv ops n (marks n 0 (Array.replicate ops.size false)) := by
    have := Inv.marks (listed := #[]) n (Inv.start (ops := ops))
    rwa [Nat.zero_add] at this
  intro N
  induction N with
  | zero =>
    intro l listed F a w hl hP hG hU h
    obtain rfl := List.eq_nil_of_length_eq_zero hl
    have e : listed = marks n 0 (Array.replicate ops.size false) := by
      have hms : ∀ (k m : Nat) (x : Array Bool), (marks k m x).size = x.size := by
        intro k
        induction k with
        | zero => intro m x; rfl
        | succ k ih => intro m x; rw [marks, ih, Array.size_setIfInBounds]
      refine Array.ext (by rw [hms, hP.size, Array.size_replicate]) fun j h1 h2 => ?_
      have hj : j < ops.size := by rw [← hP.size]; exact h1
      have h3 := hI j hj
      rw [Array.getElem?_eq_getElem h2] at h3
      injection h3 with h3
      rw [h3]
      have h4 : listed.getD j true = listed[j] := by
        simp only [Array.getD_eq_getD_getElem?]
        rw [Array.getElem?_eq_getElem h1]
        rfl
      by_cases hjn : j < n
      · rw [decide_eq_true hjn]
        cases hv : listed[j] with
        | true => rfl
        | false =>
          have h5 := hP.out j ops[j] hjn (Array.getElem?_eq_getElem hj) (h4.trans hv)
          simp at h5
      · rw [decide_eq_false hjn, ← h4]
        exact hP.tail j (by omega) hj
    exact wpAny_forced T n listed a w hT (by rw [e]; exact hf) (h w hG.cls hG.all)
  | succ N ih =>
    intro l listed F a w hl hP hG hU h
    obtain ⟨x0, l0, rfl⟩ : ∃ x l', l = x :: l' := by cases l with
      | nil => simp at hl
      | cons x l => exact ⟨x, l, rfl⟩
    have hm0 := hP.mem x0 (by simp)
    have hs0 := List.pairwise_cons.1 hP.sort
    have hx0 : x0.1 ∈ Region.ready .any ops listed := by
      refine mem_ready.2 ⟨hm0.2.2, x0.2, hm0.1, fun e he hb => ?_⟩
      have hlow := head_low hh x0.1 x0.2 (htk _ _ hm0.2.1 hm0.1) e he hb
      rw [Nat.zero_add] at hlow
      have hes : e.on < ops.size := Nat.lt_trans hlow (Array.getElem?_eq_some_iff.1 hm0.1).1
      cases hv : listed.getD e.on false with
      | true => rfl
      | false =>
        rw [← getD_in (by rw [hP.size]; exact hes)] at hv
        have h5 := hP.out e.on ops[e.on] (by omega) (Array.getElem?_eq_getElem hes) hv
        rcases List.mem_cons.1 h5 with h6 | h6
        · rw [← h6] at hlow
          exact absurd hlow (by simp)
        · have := hs0.1 _ h6
          dsimp only at this
          omega
    refine ⟨fun h0 => (by rw [h0] at hx0; cases hx0), fun i hi => ?_⟩
    obtain ⟨hiu, o, hio, hall⟩ := mem_ready.1 hi
    have his := (Array.getElem?_eq_some_iff.1 hio).1
    have hin : i < n := by
      by_cases hin : i < n
      · exact hin
      · exfalso
        have hr : i ∈ Region.ready .any ops (marks n 0 (Array.replicate ops.size false)) := mem_ready.2 ⟨hI.out his (by omega) true, o, hio, fun e he hb => by
          have h5 := hall e he hb
          have hes : e.on < ops.size := by
            rcases Nat.lt_or_ge e.on listed.size with h6 | h6
            · rw [← hP.size]; exact h6
            · simp [Array.getElem?_eq_none h6] at h5
          by_cases hen : e.on < n
          · exact hI.in_ hes hen false
          · have h6 := hP.tail e.on (by omega) hes
            rw [getD_in (by rw [hP.size]; exact hes), h5] at h6
            cases h6⟩
        have hw : Waits ops i x0.1 := by
          cases hTl : T.length with
          | zero =>
            rw [hTl] at hf
            simp only [forcedB, List.isEmpty_iff] at hf
            rw [hf] at hr
            cases hr
          | succ m =>
            rw [hTl] at hf
            simp only [forcedB, Bool.and_eq_true, decide_eq_true_eq] at hf
            rw [hf.1, List.mem_singleton] at hr
            subst hr
            cases hms : (maskL ops.toList [])[i]? with
            | none =>
              exfalso
              have hlen : ∀ (l : List Oper) (ms : List Nat), (maskL l ms).length = l.length + ms.length := by
                intro l
                induction l with
                | nil => intro ms; simp [maskL]
                | cons o l ih => intro ms; rw [maskL, ih]; simp; omega
              rw [List.getElem?_eq_none_iff, hlen] at hms
              simp at hms
              omega
            | some b =>
              rw [hms] at hsk
              simp only [List.all_eq_true, List.mem_range] at hsk
              exact hM i b x0.1 hms (hsk x0.1 hm0.2.1)
        have h7 := hP.closed.waits' hw o hio hall
        have h8 := getD_ready hx0
        rw [h7] at h8
        cases h8
    have hil : (i, o) ∈ x0 :: l0 := hP.out i o hin hio hiu
    generalize x0 :: l0 = l at *
    clear hm0 hs0 hx0
    obtain ⟨l1, l2, rfl⟩ := List.append_of_mem hil
    have hs := hP.sort
    have hs' := hs
    rw [List.pairwise_append, List.pairwise_cons] at hs'
    have hnd : ((l1 ++ (i, o) :: l2).map (·.1)).Nodup := List.Pairwise.map _ (fun _ _ h => Nat.ne_of_lt h) hs
    have hp : ∀ x ∈ l1, PairG ops x (i, o) := fun x hx => by
      have hlt := hs'.2.2 x hx (i, o) (by simp)
      dsimp only at hlt
      have hm := hP.mem x (List.mem_append_left _ hx)
      have hxu := hm.2.2
      have hxs : x.1 < listed.size := by rw [hP.size]; exact (Array.getElem?_eq_some_iff.1 hm.1).1
      rw [getD_in hxs] at hxu
      obtain ⟨m, h1, h2⟩ := head_ok hh x.1 i x.2 o hlt (htk _ _ hm.2.1 hm.1) (htk _ _ hin hio)
      rw [Nat.zero_add] at h2
      have h3 : x.2.apart ops o = true ∧ (stillG o.op = true ∨ multiG x.2.op = false) := by
        rcases h2 with h2 | h2
        · have h7 := hP.closed.waits' (hM i m x.1 h1 h2) o hio hall
          rw [h7] at hxu
          cases hxu
        · exact h2
      refine ⟨Nat.ne_of_lt hlt, h3.1, fun e he hb hon => ?_, fun e he hb hon => ?_, h3.2, fun cs b => Region.noSelect_spec hsel x.1 x.2 cs b hm.1, fun cs b => Region.noSelect_spec hsel i o cs b hio⟩
      · have h7 := hall e he hb
        rw [hon, hxu] at h7
        cases h7
      · have h7 := head_low hh x.1 x.2 (htk _ _ hm.2.1 hm.1) e he hb
        dsimp only at hon
        omega
    have h9 := frontG hcl endG_mono (i, o) l2 l1 F a w hp hnd hG hU h
    have hP' := hP.step hi
    have hU' : Unl (l1 ++ l2) F := fun x hx => hU x (by
      rcases List.mem_append.1 hx with h1 | h1
      · exact List.mem_append_left _ h1
      · exact List.mem_append_right _ (List.mem_cons_of_mem _ h1))
    have hi' : i ∉ (l1 ++ l2).map (·.1) := fun hmem => by
      obtain ⟨x, hx, hxi⟩ := List.mem_map.1 hmem
      rcases List.mem_append.1 hx with h1 | h1
      · have := hs'.2.2 x h1 (i, o) (by simp)
        dsimp only at this hxi
        omega
      · have := hs'.2.1.1 x h1
        dsimp only at this hxi
        omega
    have hlen : (l1 ++ l2).length = N := by
      simp only [List.length_append, List.length_cons] at hl ⊢
      omega
    unfold wpOp
    simp only [hio]
    unfold wpG at h9
    dsimp only at h9
    split
    · rename_i hw
      rw [if_pos hw] at h9
      obtain ⟨V, hpv, _, hy, hn⟩ := h9
      refine .inl ?_
      have h3 := hy w hG.cls (fun e _ _ => hG.all e.on)
      have fin : ∀ u w', Rel w w' → V u w' → wpAny P .any ops Q (T.length + N) (listed.setIfInBounds i true) (a.put o.dst u) w' := fun u w' hb hV => by
        have hC := hcl _ _ hG.cls hb
        have hF : ∀ k, F k w' := fun k => hG.pers k _ _ (hG.all k) hb
        exact ih (l1 ++ l2) _ _ _ w' hlen hP' (hG.up (hpv u) hC hF hV) (hU'.up hi') (hn u w' hC hF hV)
      unfold Oper.wp
      generalize (execOp a.eval o).run P w = r at *
      cases r with
      | ok n w' =>
        cases n <;> simp only [uponG] at h3 <;> simp only [Oper.upon]
        case value u => exact fin u w' h3.1 h3.2
        case skip => exact fin _ w' h3.1 h3.2
        case enter f args =>
          obtain ⟨e1, hc⟩ := h3
          rw [e1]
          exact hc.mono fun e w'' ⟨v, he, hb, hV⟩ => by subst he; exact fin v w'' hb hV
      | halt x w' => simp only [uponG] at h3
    · rename_i hw
      rw [if_neg hw] at h9
      exact ih (l1 ++ l2) _ _ _ w hlen hP' (hG.up (fun _ _ _ _ => trivial) hG.cls hG.all trivial) (hU'.up hi') h9

/-- The same where the order is the text's. -/
theorem reg_text (hcl : ∀ w w', C0 w → Rel w w' → C0 w') {T : List Oper} : ∀ (l : List (Nat × Oper)) (F : Facts) (a : Act) (w : World), GoodF Rel C0 F w → wpG P Rel ops C0 (endG P ops Q C0 T) l F a → wpList P ops Q (l.map (·.2) ++ T) a w
  | [], F, a, w, hG, h => h w hG.cls hG.all
  | x :: l, F, a, w, hG, h => by
    rw [List.map_cons, List.cons_append]
    unfold wpList
    unfold wpG at h
    split
    · rename_i hw
      rw [if_pos hw] at h
      obtain ⟨V, hpv, _, hy, hn⟩ := h
      refine .inl ?_
      have h3 := hy w hG.cls (fun e _ _ => hG.all e.on)
      have fin : ∀ u w', Rel w w' → V u w' → wpList P ops Q (l.map (·.2) ++ T) (a.put x.2.dst u) w' := fun u w' hb hV => by
        have hC := hcl _ _ hG.cls hb
        have hF : ∀ k, F k w' := fun k => hG.pers k _ _ (hG.all k) hb
        exact reg_text hcl l _ _ w' (hG.up (hpv u) hC hF hV) (hn u w' hC hF hV)
      unfold Oper.wp
      generalize (execOp a.eval x.2).run P w = r at *
      cases r with
      | ok n w' =>
        cases n <;> simp only [uponG] at h3 <;> simp only [Oper.upon]
        case value u => exact fin u w' h3.1 h3.2
        case skip => exact fin _ w' h3.1 h3.2
        case enter f args =>
          obtain ⟨e1, hc⟩ := h3
          rw [e1]
          exact hc.mono fun e w'' ⟨v, he, hb, hV⟩ => by subst he; exact fin v w'' hb hV
      | halt x w' => simp only [uponG] at h3
    · rename_i hw
      rw [if_neg hw] at h
      exact reg_text hcl l _ _ w (hG.up (fun _ _ _ _ => trivial) hG.cls hG.all trivial) h
end

/-! ### Over frames by what is known of them -/
def idx : Nat → List Oper → List (Nat × Oper)
  | _, [] => []
  | k, o :: l => (k, o) :: idx (k + 1) l
theorem idx_map : ∀ (k : Nat) (l : List Oper), (idx k l).map (·.2) = l
  | _, [] => rfl
  | k, o :: l => by rw [idx, List.map_cons, idx_map]
theorem idx_len : ∀ (k : Nat) (l : List Oper), (idx k l).length = l.length
  | _, [] => rfl
  | k, o :: l => by rw [idx, List.length_cons, idx_len, List.length_cons]
theorem idx_mem : ∀ {k : Nat} {l : List Oper} {x : Nat × Oper}, x ∈ idx k l → k ≤ x.1 ∧ l[x.1 - k]? = some x.2
  | _, [], _, h => by simp [idx] at h
  | k, o :: l, x, h => by
    rcases List.mem_cons.1 h with rfl | h
    · exact ⟨Nat.le_refl _, by simp⟩
    · obtain ⟨h1, h2⟩ := idx_mem h
      refine ⟨by omega, ?_⟩
      rw [show x.1 - k = x.1 - (k + 1) + 1 by omega]
      simpa using h2
theorem mem_idx : ∀ {k : Nat} {l : List Oper} {j : Nat} {o : Oper}, l[j]? = some o → (k + j, o) ∈ idx k l
  | _, [], _, _, h => by simp at h
  | k, x :: l, 0, o, h => by
    simp only [List.getElem?_cons_zero, Option.some.injEq] at h
    subst h
    exact List.mem_cons_self
  | k, x :: l, j + 1, o, h => by
    have h1 := mem_idx (k := k + 1) (l := l) (j := j) (o := o) (by simpa using h)
    rw [show k + (j + 1) = k + 1 + j by omega]
    exact List.mem_cons_of_mem _ h1
theorem idx_sort : ∀ (k : Nat) (l : List Oper), (idx k l).Pairwise fun x y => x.1 < y.1
  | _, [] => List.Pairwise.nil
  | k, o :: l => List.Pairwise.cons (fun x hx => by have := (idx_mem hx).1; dsimp only; omega) (idx_sort (k + 1) l)

/-- What is told of memory: by the number of the operation that left it. -/
abbrev Told := List (Nat × (World → Prop))
def lookP : Told → Nat → Option (World → Prop)
  | [], _ => none
  | (k, p) :: r, j => match Nat.beq k j with
    | true => some p
    | false => lookP r j
def farP (i : Nat) (Fa : Told) : Bool := Fa.all fun x => !Nat.beq x.1 i
/-- F says what Fa tells. -/
def Tell (Fa : Told) (F : Facts) : Prop := ∀ x ∈ Fa, ∀ w, F x.1 w → x.2 w
theorem lookP_mem : ∀ {Fa : Told} {j : Nat} {p : World → Prop}, lookP Fa j = some p → (j, p) ∈ Fa
  | [], _, _, h => by cases h
  | (k, q) :: r, j, p, h => by
    unfold lookP at h
    split at h
    · rename_i e
      obtain rfl := Nat.eq_of_beq_eq_true e
      cases h
      exact List.mem_cons_self
    · exact List.mem_cons_of_mem _ (lookP_mem h)
theorem Tell.up {Fa : Told} {F : Facts} {i : Nat} {p : World → Prop} (h : Tell Fa F) (hf : farP i Fa = true) : Tell Fa (upF F i p) := fun x hx w hw => by
  have h1 := List.all_eq_true.1 hf x hx
  have e : x.1 ≠ i := by
    rintro rfl
    simp at h1
  rw [upF_ne e] at hw
  exact h x hx w hw
theorem Tell.more {Fa : Told} {F : Facts} {i : Nat} {p : World → Prop} (h : Tell Fa F) (hf : farP i Fa = true) : Tell ((i, p) :: Fa) (upF F i p) := fun x hx w hw => by
  rcases List.mem_cons.1 hx with rfl | hx
  · rwa [upF_same] at hw
  · exact h.up hf x hx w hw

def gF (P : Program) (Rel : World → World → Prop) (ops : Array Oper) (C0 : World → Prop) (Q : Facts → Act → Prop) (l : List (Nat × Oper)) (N : Nat) (E : List (Nat × Value)) (Fa : Told) : Prop :=
  ∀ a F, Fr N E a → Tell Fa F → wpG P Rel ops C0 Q l F a
/-- What an operation may use: what those told that it waits for. -/
def Uses (o : Oper) (Fa : Told) (w : World) : Prop := ∀ j p, lookP Fa j = some p → edgeTo .any o j = true → p w

section
variable {P : Program} {Rel : World → World → Prop} {C0 : World → Prop} {Q : Exit → Act → World → Prop} {N : Nat} {E : List (Nat × Value)} {w : World} {id : Nat} {l : List Oper}
/-- Of any way for worlds to go on. -/
theorem c_gR (n : Nat) (hcl : ∀ w w', C0 w → Rel w w' → C0 w') (h0 : C0 w.drew) (hn : n ≤ l.length) (hm : P.follows .mixedOrders = true) (hB : tailH l.toArray n (l.drop n).length = true)
    (h : gF P Rel l.toArray C0 (endG P l.toArray Q C0 (l.drop n)) (idx 0 (l.take n)) N E []) : cF P (.region id l.toArray true) Q N E w := fun a ha => by
  refine wp_region_any hm ?_
  have hL : (l.take n).length = n := by rw [List.length_take]; omega
  have hG : GoodF Rel C0 (fun _ _ => True) w.drew := ⟨fun _ _ _ _ _ => trivial, h0, fun _ => trivial⟩
  have hP : Pend l.toArray n (idx 0 (l.take n)) (Array.replicate l.toArray.size false) := by
    refine ⟨by simp, fun x hx => ?_, fun j o hj ho _ => ?_, fun j _ hj => by
      have hj' : j < l.length := by simpa using hj
      simp [hj'], idx_sort _ _, Closed.none _⟩
    · obtain ⟨_, h2⟩ := idx_mem hx
      rw [Nat.sub_zero, List.getElem?_take] at h2
      split at h2
      · rename_i hlt
        have h3 : x.1 < l.length := (List.getElem?_eq_some_iff.1 h2).1
        exact ⟨by simpa using h2, hlt, by simp [h3]⟩
      · cases h2
    · have h1 := mem_idx (k := 0) (l := l.take n) (j := j) (o := o) (by rw [List.getElem?_take, if_pos hj]; simpa using ho)
      rwa [Nat.zero_add] at h1
  have h2 := reg_any (Q := Q) hcl hB (fun j _ => by simp) n (idx 0 (l.take n)) _ _ a w.drew (by rw [idx_len, hL]) hP hG (fun _ _ _ => trivial) (h a _ ha (fun x hx => by cases hx))
  have e : (l.drop n).length + n = l.toArray.size := by simp; omega
  rw [e] at h2
  exact h2
theorem c_gRF (n : Nat) (hcl : ∀ w w', C0 w → Rel w w' → C0 w') (h0 : C0 w) (h : gF P Rel l.toArray C0 (endG P l.toArray Q C0 (l.drop n)) (idx 0 (l.take n)) N E []) : cF P (.region id l.toArray false) Q N E w := fun a ha => by
  refine wp_region_lit ?_
  have hG : GoodF Rel C0 (fun _ _ => True) w := ⟨fun _ _ _ _ _ => trivial, h0, fun _ => trivial⟩
  have h2 := reg_text (Q := Q) hcl (idx 0 (l.take n)) _ a w hG (h a _ ha (fun x hx => by cases hx))
  rw [idx_map, List.take_append_drop] at h2
  exact h2
end
section
variable {P : Program} {Q : Exit → Act → World → Prop} {N : Nat} {E : List (Nat × Value)} {w : World} {id : Nat} {l : List Oper}
theorem c_g (n : Nat) (hn : n ≤ l.length) (hm : P.follows .mixedOrders = true) (hB : tailH l.toArray n (l.drop n).length = true)
    (h : gF P Bel l.toArray (Up w) (endG P l.toArray Q (Up w) (l.drop n)) (idx 0 (l.take n)) N E []) : cF P (.region id l.toArray true) Q N E w := c_gR (Rel := Bel) (C0 := Up w) n (fun _ _ h k => Up.step h k) (Up.drew w) hn hm hB h
theorem c_gF (n : Nat) (h : gF P Bel l.toArray (Up w) (endG P l.toArray Q (Up w) (l.drop n)) (idx 0 (l.take n)) N E []) : cF P (.region id l.toArray false) Q N E w := c_gRF (Rel := Bel) (C0 := Up w) n (fun _ _ h k => Up.step h k) (Up.refl w) h
end

section
variable {P : Program} {Rel : World → World → Prop} {ops : Array Oper} {C0 : World → Prop} {Q : Facts → Act → Prop} {N : Nat} {E : List (Nat × Value)} {Fa : Told} {o : Oper} {rest : List (Nat × Oper)} {i k : Nat}
/-- An operation that leaves memory. -/
theorem g_mem (V : Value → World → Prop) (hg : o.guard = none) (hd : o.dst = some k) (hk : Nat.blt k N = true) (hf : farP i Fa = true) (hm : multiG o.op = true) (hp : ∀ v, Pers Rel (V v))
    (h : ∀ a, Fr N E a → ∀ w, C0 w → Uses o Fa w → uponG P Rel w V ((execOp a.eval o).run P w)) (hn : ∀ v w, C0 w → V v w → gF P Rel ops C0 Q rest N ((k, v) :: E) ((i, V v) :: Fa)) : gF P Rel ops C0 Q ((i, o) :: rest) N E Fa := fun a F ha hF => by
  unfold wpG
  rw [if_pos (by simp [Region.wanted, hg])]
  refine ⟨V, hp, .inr hm, fun w hw he => h a ha w hw fun j p hj hed => ?_, fun v w hw _ hV => hn v w hw hV _ _ (by dsimp only; rw [hd]; exact ha.put hk v) (hF.more hf)⟩
  obtain ⟨e, h1, h2, rfl⟩ := edgeTo_spec hed
  exact hF _ (lookP_mem hj) w (he e h1 h2)
/-- An operation of the usual kind; it may use what is told. -/
theorem g_op [hR : RelOk Rel] (hf : farP i Fa = true) (h : bF P ops (fun w => C0 w ∧ Uses o Fa w) (fun a' => ∀ F, Tell Fa F → wpG P Rel ops C0 Q rest F a') [o] N E) : gF P Rel ops C0 Q ((i, o) :: rest) N E Fa := fun a F ha hF => by
  have h1 := h a ha
  unfold wpB at h1
  unfold wpG
  split
  · rename_i hw
    rw [if_pos hw] at h1
    have huse : ∀ w, (∀ e ∈ o.after, Region.binds .any e = true → F e.on w) → Uses o Fa w := fun w he j p hj hed => by
      obtain ⟨e, h1, h2, rfl⟩ := edgeTo_spec hed
      exact hF _ (lookP_mem hj) w (he e h1 h2)
    have hup : ∀ (V : Value → Prop) (w : World) (r : Result Next), uponB P w V r → uponG P Rel w (fun u _ => V u) r := fun V w r hr => by
      cases r with
      | ok n w' =>
        cases n <;> simp only [uponB] at hr <;> simp only [uponG]
        case value u => obtain ⟨rfl, h⟩ := hr; exact ⟨hR.below _ _ (Below.refl _ _), h⟩
        case skip => obtain ⟨rfl, h⟩ := hr; exact ⟨hR.below _ _ (Below.refl _ _), h⟩
        case enter f args =>
          obtain ⟨rfl, h⟩ := hr
          exact ⟨rfl, h.mono fun e w'' ⟨v, h1, h2, h3⟩ => ⟨v, h1, hR.below _ _ h3, h2⟩⟩
      | halt x w' => simp only [uponB] at hr
    rcases h1 with ⟨v, h2, h3⟩ | ⟨hp, V, h2, h3⟩
    · exact ⟨fun u _ => u = v, fun _ _ _ h _ => h, .inl ⟨v, fun _ _ h => h⟩, fun w hw he => hup (· = v) _ _ (h2 w ⟨hw, huse w he⟩), fun u w _ _ hu => by
        rw [hu]
        exact h3 _ (hF.up hf)⟩
    · refine ⟨fun u _ => V u, fun _ _ _ h _ => h, .inr ?_, fun w hw he => hup V _ _ (h2 w ⟨hw, huse w he⟩), fun u w _ _ hu => h3 u hu _ (hF.up hf)⟩
      unfold multiG
      split <;> first | rfl | exact hp
  · rename_i hw
    rw [if_neg hw] at h1
    exact h1 _ (hF.up hf)
theorem g_go (h : gF P Rel ops C0 Q rest N E Fa) : bF P ops (fun w => C0 w ∧ Uses o Fa w) (fun a' => ∀ F, Tell Fa F → wpG P Rel ops C0 Q rest F a') [] N E := fun a ha => wpB_nil fun F hF => h a F ha hF
theorem g_end {Q : Exit → Act → World → Prop} {T : List Oper} (h : ∀ w, C0 w → (∀ j p, lookP Fa j = some p → p w) → lF P ops Q T N E w) : gF P Rel ops C0 (endG P ops Q C0 T) [] N E Fa := fun a _ ha hF w hw hFw =>
  h w hw (fun j _ hj => hF _ (lookP_mem hj) w (hFw j)) a ha
end
end Go.Proofs.YtlaikmpnijlcbaaDoor
