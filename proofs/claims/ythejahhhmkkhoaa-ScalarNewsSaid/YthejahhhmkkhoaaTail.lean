/-
  REGIONS THAT DRAW THEIR ORDER: operations that read, and calls that only write new memory, may be taken first, whatever they hand back; what is left (new variables, stores) is walked as it comes.
-/
import Derived.Test.YthejahhhmkkhoaaQuiet
import Derived.StillTail
import Derived.Deep.MidRow
namespace Go.Proofs.Ythejahhhmkkhoaa
open Go.RowKit Go.IntWalk

/-- Operations that never enter a function. -/
def plainB : Op → Bool
  | .move _ | .assign _ | .pick .. | .alloc _ | .box .. | .build .. | .load .. | .store .. | .binOp .. | .unOp .. | .convert .. | .fieldAddr .. | .field .. | .indexAddr .. | .index .. | .extract .. | .slice .. | .makeInterface .. => true
  | _ => false

section
variable {P : Program}
theorem run_v {s : Sem Value} {w w' : World} {n : Next} (h : (do pure (Next.value (← s)) : Sem Next).run P w = .ok n w') : ∃ v, n = .value v := by
  rw [Sem.run_bind] at h
  cases hs : s.run P w with
  | ok v w1 =>
    rw [hs] at h
    simp only [Result.andThen_ok, Sem.run_pure] at h
    injection h with h1 h2
    exact ⟨v, h1.symm⟩
  | halt x w1 =>
    rw [hs] at h
    cases h
theorem run_u {s : Sem Unit} {w w' : World} {n : Next} (h : (do s; pure Next.skip : Sem Next).run P w = .ok n w') : n = .skip := by
  rw [Sem.run_bind] at h
  cases hs : s.run P w with
  | ok v w1 =>
    rw [hs] at h
    simp only [Result.andThen_ok, Sem.run_pure] at h
    injection h with h1 h2
    exact h1.symm
  | halt x w1 =>
    rw [hs] at h
    cases h
theorem plain_ok {ρ : Operand → Value} {o : Oper} (hp : plainB o.op = true) {w w' : World} {n : Next} (h : (execOp ρ o).run P w = .ok n w') : (∃ v, n = .value v) ∨ n = .skip := by
  obtain ⟨dst, op, ty, pos, af, gd⟩ := o
  cases op <;> first
    | (cases hp; done)
    | exact .inl (run_v h)
    | exact .inr (run_u h)
    | (refine .inl ?_
       unfold execOp at h
       simp only [Sem.run_pure] at h
       injection h with h1 h2
       exact ⟨_, h1.symm⟩)
    | (refine .inl ?_
       unfold execOp at h
       exact run_v (s := do pure (if ← asBool _ then _ else _)) (by simpa using h))
end

section
variable {P : Program} {ops : Array Oper} {md : Region.Mode} {Q : Exit → Act → World → Prop} {C0 : World → Prop}

/-- A value of a set; a call leaves only new memory. -/
def uponB (P : Program) (w : World) (V : Value → Prop) : Result Next → Prop
  | .ok (.value u) w' => w' = w ∧ V u
  | .ok .skip w' => w' = w ∧ V undef
  | .ok (.enter f args) w' => w' = w ∧ Calls P f args w (fun e w'' => ∃ v, e = .returned v ∧ V v ∧ Below w.heap.size w w'')
  | _ => False
def atB (P : Program) (o : Oper) (a : Act) (w : World) (V : Value → Prop) : Prop := uponB P w V ((execOp a.eval o).run P w)

/-- One operation: one value in every world of the class, or (a call) whatever of a set. -/
def quietB (P : Program) (o : Oper) (a : Act) (C0 : World → Prop) (next : Act → Prop) : Prop :=
  (∃ v, (∀ w, C0 w → atB P o a w (· = v)) ∧ next (a.put o.dst v)) ∨ (plainB o.op = false ∧ ∃ V, (∀ w, C0 w → atB P o a w V) ∧ ∀ v, V v → next (a.put o.dst v))

/-- The walk in the text's order. -/
def wpB (P : Program) (ops : Array Oper) (C0 : World → Prop) (Q : Act → Prop) : List Oper → Act → Prop
  | [], a => Q a
  | o :: rest, a => if Region.wanted o (yielded ops a.tmps) then quietB P o a C0 (wpB P ops C0 Q rest) else wpB P ops C0 Q rest (a.put o.dst undef)

theorem wpB_nil {Q : Act → Prop} {a : Act} (h : Q a) : wpB P ops C0 Q [] a := h
theorem quietB_mono {Q Q' : Act → Prop} (h : ∀ a, Q a → Q' a) {o : Oper} {a : Act} (hh : quietB P o a C0 Q) : quietB P o a C0 Q' := by
  rcases hh with ⟨v, h1, h2⟩ | ⟨hp, V, h1, h2⟩
  · exact .inl ⟨v, h1, h _ h2⟩
  · exact .inr ⟨hp, V, h1, fun v hv => h _ (h2 v hv)⟩
theorem wpB_mono {Q Q' : Act → Prop} (h : ∀ a, Q a → Q' a) : ∀ (l : List Oper) (a : Act), wpB P ops C0 Q l a → wpB P ops C0 Q' l a
  | [], a, hh => h a hh
  | o :: l, a, hh => by
    unfold wpB at hh ⊢
    split
    · rename_i hw
      simp only [hw, if_true] at hh
      exact quietB_mono (wpB_mono h l) hh
    · rename_i hw
      simp only [hw] at hh
      exact wpB_mono h l _ (by simpa using hh)

/-- In state 'a', IN EVERY WORLD OF THE CLASS, operation 'o' leaves one of V in its temporary. -/
def YieldsB (P : Program) (ops : Array Oper) (C0 : World → Prop) (o : Oper) (V : Value → Prop) (a : Act) : Prop :=
  (Region.wanted o (yielded ops a.tmps) = true ∧ ∀ w, C0 w → atB P o a w V) ∨ (Region.wanted o (yielded ops a.tmps) = false ∧ V undef)

theorem YieldsB.of_same {o : Oper} {V : Value → Prop} {a a' : Act} (hy : YieldsB P ops C0 o V a) (he : execOp a'.eval o = execOp a.eval o)
    (hw : Region.wanted o (yielded ops a'.tmps) = Region.wanted o (yielded ops a.tmps)) : YieldsB P ops C0 o V a' := by
  unfold YieldsB atB at *
  rw [he, hw]
  exact hy

theorem YieldsB.any {o : Oper} {V : Value → Prop} {a : Act} (hy : YieldsB P ops C0 o V a) {w : World} (hC : C0 w) : ∃ v, V v := by
  rcases hy with ⟨_, h⟩ | ⟨_, h⟩
  · have h3 := h w hC
    unfold atB at h3
    generalize (execOp a.eval o).run P w = r at *
    cases r with
    | ok n w' =>
      cases n <;> simp only [uponB] at h3
      case value u => exact ⟨u, h3.2⟩
      case skip => exact ⟨_, h3.2⟩
      case enter f args =>
        obtain ⟨e, w1, fr, ⟨v, _, hv, _⟩, _⟩ := h3.2 []
        exact ⟨v, hv⟩
    | halt x w' => simp only [uponB] at h3
  · exact ⟨_, h⟩

theorem YieldsB.wpOp {i : Nat} {o : Oper} {V : Value → Prop} {a : Act} (hi : ops[i]? = some o) (hy : YieldsB P ops C0 o V a)
    {K : Act → World → Prop} {w : World} (hC : C0 w) (h : ∀ v w', V v → Below w.heap.size w w' → K (a.put o.dst v) w') : wpOp P ops Q i K a w := by
  unfold Go.wpOp
  simp only [hi]
  rcases hy with ⟨hw, hv⟩ | ⟨hw, hv⟩
  · simp only [hw, if_true]
    refine .inl ?_
    have h3 := hv w hC
    unfold atB at h3
    unfold Oper.wp
    generalize (execOp a.eval o).run P w = r at *
    cases r with
    | ok n w' =>
      cases n <;> simp only [uponB] at h3 <;> simp only [Oper.upon]
      case value u =>
        obtain ⟨e1, e2⟩ := h3
        rw [e1]
        exact h _ _ e2 (Below.refl _ _)
      case skip =>
        obtain ⟨e1, e2⟩ := h3
        rw [e1]
        exact h _ _ e2 (Below.refl _ _)
      case enter f args =>
        obtain ⟨e1, hc⟩ := h3
        rw [e1]
        exact hc.mono fun e w'' ⟨v, he, hv, hw''⟩ => by subst he; exact h _ _ hv hw''
    | halt x w' => simp only [uponB] at h3
  · simp only [hw, Bool.false_eq_true, if_false]; exact h _ _ hv (Below.refl _ _)

/-- One operation 'oj', apart from 'oi': whether 'oi''s value is already there makes no difference to it, and it makes none to 'oi'. -/
theorem wpOp_putB {j : Nat} {oi oj : Oper} {V : Value → Prop} (hj : ops[j]? = some oj) (hap : oi.apart ops oj = true)
    (hsi : ∀ cs b, oi.op ≠ .select cs b) (hsj : ∀ cs b, oj.op ≠ .select cs b) (hne : ∃ v, V v) (hpl : plainB oj.op = true ∨ ∃ v, ∀ u, V u → u = v)
    (hQ : ∀ c a d v w, Q (.panic c) (a.put d v) w → Q (.panic c) a w) {K : Act → World → Prop} {a : Act} {w : World}
    (hy : YieldsB P ops C0 oi V a) (h : ∀ v, V v → wpOp P ops Q j K (a.put oi.dst v) w) :
    wpOp P ops Q j (fun a' w' => YieldsB P ops C0 oi V a' ∧ ∀ v, V v → K (a'.put oi.dst v) w') a w := by
  obtain ⟨h1, h2, h3⟩ := Oper.apart_spec hap
  have keep : ∀ (a : Act), YieldsB P ops C0 oi V a → ∀ u, YieldsB P ops C0 oi V (a.put oj.dst u) := fun a hy u =>
    hy.of_same (execOp_put oi hsi a oj.dst u h3) (wanted_put oi a oj.dst u h3)
  have keepD : ∀ d, YieldsB P ops C0 oi V { a with defers := d :: a.defers } := fun d => hy.of_same rfl rfl
  obtain ⟨v0, hv0⟩ := hne
  unfold wpOp at *
  simp only [hj] at *
  have hwt : ∀ v, Region.wanted oj (yielded ops (a.put oi.dst v).tmps) = Region.wanted oj (yielded ops a.tmps) := fun v => wanted_put oj a oi.dst v h1
  split
  · rename_i hw
    by_cases hasks : oj.asks P a w ∧ LetsOut Q
    · exact .inr hasks
    have hl : ∀ v, V v → oj.wp P (a.put oi.dst v) w K Q := fun v hv => by
      have h5 := h v hv
      rw [hwt v] at h5
      simp only [hw, if_true] at h5
      rcases h5 with h5 | ⟨h5, h6⟩
      · exact h5
      · refine absurd ⟨?_, h6⟩ hasks
        unfold Oper.asks at *
        rw [execOp_put oj hsj a oi.dst v h1] at h5
        exact h5
    refine .inl ?_
    unfold Oper.wp at *
    have hl2 : ∀ v, V v → oj.upon P (a.put oi.dst v) K Q ((execOp a.eval oj).run P w) := fun v hv => by
      have h5 := hl v hv
      rw [execOp_put oj hsj a oi.dst v h1] at h5
      exact h5
    have hpn := fun n w' => plain_ok (P := P) (ρ := a.eval) (o := oj) (w := w) (w' := w') (n := n)
    generalize (execOp a.eval oj).run P w = r at *
    cases r with
    | ok n w' =>
      cases n
      case value u => exact ⟨keep a hy u, fun v hv => by rw [← Act.put_comm a v u h2]; exact hl2 v hv⟩
      case skip => exact ⟨keep a hy _, fun v hv => by rw [← Act.put_comm a v undef h2]; exact hl2 v hv⟩
      all_goals
        rcases hpl with hpl | ⟨vv, hvv⟩
        · rcases hpn _ _ hpl rfl with ⟨v, hv⟩ | hv <;> cases hv
      case enter.inr f args =>
        have h5 := hl2 v0 hv0
        simp only [Oper.upon] at h5 ⊢
        refine Calls.mono h5 fun e w'' he => ?_
        cases e with
        | returned u => exact ⟨keep a hy u, fun v hv => by rw [hvv v hv, ← hvv v0 hv0, ← Act.put_comm a v0 u h2]; exact he⟩
        | panicked c => exact hQ _ _ _ _ _ he
        | outgrown => exact he
      case row.inr row args =>
        have h5 := hl2 v0 hv0
        simp only [Oper.upon] at h5 ⊢
        exact Rows.mono h5 fun u w'' he => ⟨keep a hy u, fun v hv => by rw [hvv v hv, ← hvv v0 hv0, ← Act.put_comm a v0 u h2]; exact he⟩
      case defer.inr d =>
        refine ⟨keep _ (keepD d) _, fun v hv => ?_⟩
        have h5 := hl2 v hv
        simp only [Oper.upon] at h5
        rw [← Act.put_comm _ v undef h2, ← Act.put_defers]
        exact h5
      all_goals
        have h5 := hl2 v0 hv0
        simp only [Oper.upon] at h5
    | halt x w' =>
      have h5 := hl2 v0 hv0
      cases x <;> simp only [Oper.upon] at h5 ⊢
      case panic u => exact hQ _ _ _ _ _ h5
  · rename_i hw
    refine ⟨keep a hy _, fun v hv => ?_⟩
    have h5 := h v hv
    rw [hwt v] at h5
    simp only [hw] at h5
    rw [← Act.put_comm a v undef h2]
    simpa using h5

/-! ### What waits for what -/
def waitsT (md : Region.Mode) (ops : Array Oper) : Nat → Nat → Nat → Bool
  | 0, _, _ => false
  | f + 1, j, i => match ops[j]? with
    | none => false
    | some oj => oj.after.any fun e => Region.binds md e && (e.on == i || waitsT md ops f e.on i)
def Closed (md : Region.Mode) (ops : Array Oper) (listed : Array Bool) : Prop :=
  ∀ j oj, ops[j]? = some oj → listed.getD j false = true → ∀ e ∈ oj.after, Region.binds md e = true → listed.getD e.on false = true
theorem Closed.waits {listed : Array Bool} (hc : Closed md ops listed) : ∀ (f j i : Nat) (oj : Oper), ops[j]? = some oj → (∀ e ∈ oj.after, Region.binds md e = true → listed.getD e.on false = true) →
    waitsT md ops f j i = true → listed.getD i false = true
  | 0, _, _, _, _, _, h => by cases h
  | f + 1, j, i, oj, hj, hl, h => by
    unfold waitsT at h
    rw [hj] at h
    obtain ⟨e, he, hb⟩ := Array.any_eq_true'.1 h
    simp only [Bool.and_eq_true, Bool.or_eq_true, beq_iff_eq] at hb
    obtain ⟨hb1, hb2⟩ := hb
    have h1 := hl e he hb1
    rcases hb2 with hb2 | hb2
    · rw [← hb2]; exact h1
    · cases ho : ops[e.on]? with
      | none =>
        cases f with
        | zero => cases hb2
        | succ f => unfold waitsT at hb2; rw [ho] at hb2; cases hb2
      | some oe => exact Closed.waits hc f e.on i oe ho (hc e.on oe ho h1) hb2
theorem Closed.set {listed : Array Bool} (hc : Closed md ops listed) {i : Nat} (hi : i ∈ Region.ready md ops listed) : Closed md ops (listed.setIfInBounds i true) := by
  obtain ⟨_, oi, hoi, hall⟩ := mem_ready.1 hi
  intro j oj hj hl e he hb
  by_cases hij : i = j
  · subst hij
    obtain rfl : oj = oi := Option.some.inj (hj.symm.trans hoi)
    exact getD_set_true (hall e he hb)
  · rw [getD_set_ne false hij] at hl
    exact getD_set_true (hc j oj hj hl e he hb)
theorem Closed.none (n : Nat) : Closed md ops (Array.replicate n false) := fun j _ _ hl => by
  rw [getD_replicate_false] at hl
  cases hl

/-- Whatever order is picked from here on, from every world that is the world w0 with new memory. What is left in the end (m operations) waits for all n that stand ahead. -/
def wpAnyU (P : Program) (md : Region.Mode) (ops : Array Oper) (C0 : World → Prop) (Q : Exit → Act → World → Prop) (n m : Nat) : Nat → World → Array Bool → Act → Prop
  | 0, w0, listed, a => (∀ j ∈ Region.ready md ops listed, ∀ i, i < n → waitsT md ops ops.size j i = true) ∧ ∀ w, Below w0.heap.size w0 w → wpAny P md ops Q m listed a w
  | fuel + 1, w0, listed, a =>
    Region.ready md ops listed ≠ [] ∧
    ∀ i ∈ Region.ready md ops listed, ∀ w, Below w0.heap.size w0 w → wpOp P ops Q i (fun a' w' => C0 w' ∧ wpAnyU P md ops C0 Q n m fuel w' (listed.setIfInBounds i true) a') a w

theorem wpAnyU_mono {n m fuel : Nat} {w0 w1 : World} {listed : Array Bool} {a : Act} (hb : Below w0.heap.size w0 w1) (h : wpAnyU P md ops C0 Q n m fuel w0 listed a) : wpAnyU P md ops C0 Q n m fuel w1 listed a := by
  cases fuel with
  | zero => exact ⟨h.1, fun w hw => h.2 w (hb.trans (hw.mono hb.size))⟩
  | succ fuel => exact ⟨h.1, fun i hi w hw => h.2 i hi w (hb.trans (hw.mono hb.size))⟩

theorem wpAny_of_U {n m : Nat} : ∀ (fuel : Nat) (listed : Array Bool) (a : Act) (w : World), wpAnyU P md ops C0 Q n m fuel w listed a → wpAny P md ops Q (m + fuel) listed a w
  | 0, _, _, w, h => h.2 w (Below.refl _ _)
  | fuel + 1, _, _, w, h => ⟨fun h0 => absurd h0 h.1, fun i hi => wpOp_mono (fun a' w' h' => wpAny_of_U fuel _ a' w' h'.2) (h.2 i hi w (Below.refl _ _))⟩

theorem getD_ready {i : Nat} {listed : Array Bool} (hi : i ∈ Region.ready md ops listed) : listed.getD i false = false := getD_both (mem_ready.1 hi).1

theorem wpAnyU_first {n m i F : Nat} {oi : Oper} {V : Value → Prop} (hcl : ∀ w w', C0 w → Below w.heap.size w w' → C0 w') (hin : i < n) (hi : ops[i]? = some oi) (hsel : ∀ (j : Nat) (o : Oper) cs b, ops[j]? = some o → o.op ≠ .select cs b)
    (hQ : ∀ c a d v w, Q (.panic c) (a.put d v) w → Q (.panic c) a w) :
    ∀ (fuel : Nat) (w0 : World) (listed : Array Bool) (a : Act), C0 w0 → Closed md ops listed →
      (∀ j oj, ops[j]? = some oj → j ≠ i → listed.getD j true = false → (∀ e ∈ oj.after, Region.binds md e = true → e.on ≠ i) → oi.apart ops oj = true) →
      ((∃ v, ∀ u, V u → u = v) ∨ ∀ j oj, ops[j]? = some oj → j ≠ i → listed.getD j true = false → plainB oj.op = true ∨ waitsT md ops F j i = true) →
      i ∈ Region.ready md ops listed → YieldsB P ops C0 oi V a →
      (∀ v, V v → wpAnyU P md ops C0 Q n m fuel w0 (listed.setIfInBounds i true) (a.put oi.dst v)) → wpAnyU P md ops C0 Q n m (fuel + 1) w0 listed a := by
  intro fuel
  induction fuel with
  | zero =>
    intro w0 listed a hC hcs _ _ hr hy H
    refine ⟨fun h => (by rw [h] at hr; cases hr), fun j hj w hw => ?_⟩
    by_cases hji : j = i
    · subst hji; exact hy.wpOp hi (hcl w0 w hC hw) fun v w' hv hw' => ⟨hcl w w' (hcl w0 w hC hw) hw', wpAnyU_mono (hw.trans (hw'.mono hw.size)) (H v hv)⟩
    · obtain ⟨v, hv⟩ := hy.any hC
      have h1 := (H v hv).1 j (ready_mono hj hji) i hin
      obtain ⟨_, oj, hoj, hall⟩ := mem_ready.1 hj
      have h6 := hcs.waits _ j i oj hoj hall h1
      rw [getD_ready hr] at h6
      cases h6
  | succ fuel ih =>
    intro w0 listed a hC hcs hfree hpl hr hy H
    refine ⟨fun h => (by rw [h] at hr; cases hr), fun j hj w hw => ?_⟩
    by_cases hji : j = i
    · subst hji; exact hy.wpOp hi (hcl w0 w hC hw) fun v w' hv hw' => ⟨hcl w w' (hcl w0 w hC hw) hw', wpAnyU_mono (hw.trans (hw'.mono hw.size)) (H v hv)⟩
    · obtain ⟨hjun, oj, hoj, hall⟩ := mem_ready.1 hj
      have hnot : ∀ e ∈ oj.after, Region.binds md e = true → e.on ≠ i := fun e he hb heq => by
        have h1 := hall e he hb
        rw [heq, getD_ready hr] at h1
        cases h1
      have hpj : plainB oj.op = true ∨ ∃ v, ∀ u, V u → u = v := by
        rcases hpl with hpl | hpl
        · exact .inr hpl
        · rcases hpl j oj hoj hji hjun with h5 | h5
          · exact .inl h5
          · have h6 := hcs.waits F j i oj hoj hall h5
            rw [getD_ready hr] at h6
            cases h6
      have h2 := wpOp_putB hoj (hfree j oj hoj hji hjun hnot) (fun cs b => hsel i oi cs b hi) (fun cs b => hsel j oj cs b hoj) (hy.any hC) hpj hQ hy
        (fun v hv => (H v hv).2 j (ready_mono hj hji) w hw)
      have hun' : ∀ k, (listed.setIfInBounds j true).getD k true = false → listed.getD k true = false := fun k hun => by
        by_cases hjk : j = k
        · subst hjk; exact hjun
        · rw [getD_set_ne true hjk] at hun; exact hun
      refine wpOp_mono (fun a' w' h3 => ?_) h2
      obtain ⟨hy', h4⟩ := h3
      obtain ⟨v0, hv0⟩ := hy.any hC
      have hC' := (h4 v0 hv0).1
      refine ⟨hC', ih w' (listed.setIfInBounds j true) a' hC' (hcs.set hj) (fun k ok hk hki hun hno => hfree k ok hk hki (hun' k hun) hno) (hpl.imp id fun hpl k ok hk hki hun => hpl k ok hk hki (hun' k hun)) (ready_mono hr (Ne.symm hji)) hy' fun v hv => ?_⟩
      rw [Array.setIfInBounds_comm _ _ hji]
      exact (h4 v hv).2

/-! ### The walk's head, and what is left -/
/-- The marks behind the first n operations from k on. -/
def marks : Nat → Nat → Array Bool → Array Bool
  | 0, _, listed => listed
  | n + 1, k, listed => marks n (k + 1) (listed.setIfInBounds k true)
/-- Has everything that has not come up yet to wait for number k, or is it plain? -/
def setFree (md : Region.Mode) (ops : Array Oper) (listed : Array Bool) (k : Nat) : Bool :=
  match ops[k]? with
  | none => true
  | some ok => plainB ok.op || (List.range ops.size).all fun j => j == k || listed.getD j true || waitsT md ops ops.size j k || match ops[j]? with
    | some oj => plainB oj.op
    | none => true
theorem setFree_spec {listed : Array Bool} {k : Nat} {ok : Oper} (hk : ops[k]? = some ok) (hp : plainB ok.op = false) (h : setFree md ops listed k = true) (j : Nat) (oj : Oper) (hj : ops[j]? = some oj) (hne : j ≠ k)
    (hun : listed.getD j true = false) : plainB oj.op = true ∨ waitsT md ops ops.size j k = true := by
  unfold setFree at h
  simp only [hk, hp, Bool.false_or, List.all_eq_true, List.mem_range] at h
  have h1 := h j (Array.getElem?_eq_some_iff.1 hj).1
  simp only [hj, Bool.or_eq_true, beq_iff_eq, hne, false_or, hun, Bool.false_eq_true] at h1
  exact h1.symm
/-- May each of n operations be taken first, in the text's order? -/
def headB (md : Region.Mode) (ops : Array Oper) : Nat → Nat → Array Bool → Bool
  | 0, _, _ => true
  | fuel + 1, k, listed => (Region.ready md ops listed).contains k && Region.free md ops listed k && setFree md ops listed k && headB md ops fuel (k + 1) (listed.setIfInBounds k true)
/-- Is the order forced from here on? -/
def forcedB (md : Region.Mode) (ops : Array Oper) : Nat → Nat → Array Bool → Bool
  | 0, _, listed => (Region.ready md ops listed).isEmpty
  | fuel + 1, k, listed => decide (Region.ready md ops listed = [k]) && forcedB md ops fuel (k + 1) (listed.setIfInBounds k true)
/-- Does what may come up wait for all n that stand ahead? -/
def sinksB (md : Region.Mode) (ops : Array Oper) (n : Nat) (listed : Array Bool) : Bool :=
  (Region.ready md ops listed).all fun j => (List.range n).all fun i => waitsT md ops ops.size j i

theorem wpAnyU_head {n m : Nat} (hcl : ∀ w w', C0 w → Below w.heap.size w w' → C0 w') (hs : Region.noSelect ops = true) (hQ : ∀ c a d v w, Q (.panic c) (a.put d v) w → Q (.panic c) a w) (fuel : Nat) (w0 : World) (hC : C0 w0) :
    ∀ (l : List Oper) (k : Nat) (listed : Array Bool) (a : Act), Closed md ops listed → k + l.length ≤ n → (∀ j, j < l.length → l[j]? = ops[k + j]?) → headB md ops l.length k listed = true →
    wpB P ops C0 (fun a' => wpAnyU P md ops C0 Q n m fuel w0 (marks l.length k listed) a') l a → wpAnyU P md ops C0 Q n m (fuel + l.length) w0 listed a
  | [], _, _, _, _, _, _, _, h => h
  | o :: l, k, listed, a, hcs, hn, hl, hB, h => by
    have h0 : ops[k]? = some o := by simpa using (hl 0 (by simp)).symm
    simp only [List.length_cons] at hn
    simp only [List.length_cons, headB, Bool.and_eq_true] at hB
    obtain ⟨⟨⟨hr, hf⟩, hsf⟩, hB'⟩ := hB
    have hr' : k ∈ Region.ready md ops listed := by simpa using hr
    have hy : ∃ V, YieldsB P ops C0 o V a ∧ ((∃ v, ∀ u, V u → u = v) ∨ plainB o.op = false) ∧ ∀ v, V v → wpB P ops C0 (fun a' => wpAnyU P md ops C0 Q n m fuel w0 (marks (l.length + 1) k listed) a') l (a.put o.dst v) := by
      by_cases hw : Region.wanted o (yielded ops a.tmps) = true
      · simp only [wpB, hw, if_true, List.length_cons] at h
        rcases h with ⟨v, h1, h2⟩ | ⟨hp, V, h1, h2⟩
        · exact ⟨(· = v), .inl ⟨hw, h1⟩, .inl ⟨v, fun _ hu => hu⟩, fun u hu => by rw [hu]; exact h2⟩
        · exact ⟨V, .inl ⟨hw, h1⟩, .inr hp, h2⟩
      · simp only [wpB, hw, List.length_cons] at h
        exact ⟨(· = undef), .inr ⟨by simpa using hw, rfl⟩, .inl ⟨undef, fun _ hu => hu⟩, fun u hu => by rw [hu]; simpa using h⟩
    obtain ⟨V, hy, hV, hK⟩ := hy
    rw [List.length_cons, ← Nat.add_assoc]
    exact wpAnyU_first hcl (by omega) h0 (Region.noSelect_spec hs) hQ (fuel + l.length) w0 listed a hC hcs (Region.free_spec h0 hf) (hV.imp id fun hp => setFree_spec h0 hp hsf) hr' hy fun v hv =>
      wpAnyU_head hcl hs hQ fuel w0 hC l (k + 1) _ _ (hcs.set hr') (by omega) (fun j hj => by have := hl (j + 1) (by simpa using hj); simpa [Nat.add_assoc, Nat.add_comm 1 j] using this) hB' (hK v hv)

theorem wpAny_forced : ∀ (l : List Oper) (k : Nat) (listed : Array Bool) (a : Act) (w : World), (∀ j, j < l.length → l[j]? = ops[k + j]?) → forcedB md ops l.length k listed = true →
    wpList P ops Q l a w → wpAny P md ops Q l.length listed a w
  | [], _, _, _, _, _, hB, h => ⟨by simpa [forcedB] using hB, h⟩
  | o :: l, k, listed, a, w, hl, hB, h => by
    have h0 : ops[k]? = some o := by simpa using (hl 0 (by simp)).symm
    simp only [List.length_cons, forcedB, Bool.and_eq_true, decide_eq_true_eq] at hB
    obtain ⟨hr, hB'⟩ := hB
    refine ⟨fun e => (by rw [hr] at e; cases e), fun i hi => ?_⟩
    rw [hr, List.mem_singleton] at hi
    subst hi
    have hl' : ∀ j, j < l.length → l[j]? = ops[i + 1 + j]? := fun j hj => by have := hl (j + 1) (by simpa using hj); simpa [Nat.add_assoc, Nat.add_comm 1 j] using this
    unfold wpOp
    simp only [h0]
    unfold wpList at h
    split
    · rename_i hw
      simp only [hw, if_true] at h
      exact h.imp (Oper.wp_mono fun a' w' h' => wpAny_forced l (i + 1) _ a' w' hl' hB' h') id
    · rename_i hw
      simp only [hw] at h
      exact wpAny_forced l (i + 1) _ _ _ hl' hB' (by simpa using h)

/-- The check of a region: n operations that may be taken first, k new variables in whatever order, the rest forced behind all of them. -/
def tailB (ops : Array Oper) (n : Nat) (k : Nat) (m : Nat) : Bool :=
  Region.noSelect ops && headB .any ops n 0 (Array.replicate ops.size false) && decide (ops.size = m + k + n) &&
    sinksB .any ops (k + n) (marks k n (marks n 0 (Array.replicate ops.size false))) && forcedB .any ops m (k + n) (marks k n (marks n 0 (Array.replicate ops.size false)))

/-- **No new variable**: the operations L may be taken first; then T, in its order. -/
theorem wp_region_B {id : Nat} {a : Act} {w : World} {L T : List Oper} (C0 : World → Prop) (hm : P.follows .mixedOrders = true) (hB : tailB (L ++ T).toArray L.length 0 T.length = true)
    (hcl : ∀ w w', C0 w → Below w.heap.size w w' → C0 w') (hC : C0 w.drew) (hQ : ∀ c a d v w, Q (.panic c) (a.put d v) w → Q (.panic c) a w)
    (h : wpB P (L ++ T).toArray C0 (fun a' => ∀ w', C0 w' → wpList P (L ++ T).toArray Q T a' w') L a) : (Code.region id (L ++ T).toArray true).wp P Q a w := by
  simp only [tailB, Bool.and_eq_true, decide_eq_true_eq, Nat.zero_add, Nat.add_zero, marks] at hB
  obtain ⟨⟨⟨⟨hs, hh⟩, hz⟩, hsk⟩, hf⟩ := hB
  refine wp_region_any hm ?_
  have hG : wpAnyU P .any (L ++ T).toArray C0 Q L.length T.length (0 + L.length) w.drew (Array.replicate (L ++ T).toArray.size false) a := by
    refine wpAnyU_head hcl hs hQ 0 w.drew hC L 0 _ a (Closed.none _) (by omega) (fun j hj => by simp [List.getElem?_append_left hj]) hh ?_
    refine wpB_mono (fun a' h' => ⟨fun j hj i hi => ?_, fun w' hw' => ?_⟩) L a h
    · have h1 := List.all_eq_true.1 hsk j hj
      exact List.all_eq_true.1 h1 i (List.mem_range.2 hi)
    · exact wpAny_forced T L.length _ a' w' (fun j _ => by simp [List.getElem?_append_right]) hf (h' w' (hcl _ _ hC hw'))
  have h2 := wpAny_of_U (0 + L.length) _ a w.drew hG
  rw [Nat.zero_add, ← hz] at h2
  exact h2

/-- A new variable comes. -/
theorem wpAnyU_new {n m ia base fuel ty : Nat} {zs : Array Value} {w0 : World} {listed : Array Bool} {a : Act} {oa : Oper} (ho : ops[ia]? = some oa) (hg : oa.guard = none)
    (hrun : ∀ (a : Act) w, (execOp a.eval oa).run P w = .ok (.value (.pointer (some ⟨w.heap.size, 0, none⟩))) (w.alloc (.cells zs ty)))
    (hcl : ∀ w w', C0 w → Below w.heap.size w w' → C0 w') (hb : ∀ w, C0 w → base ≤ w.heap.size) (hC : C0 w0)
    (h : ∀ w, Below w0.heap.size w0 w → C0 w → base ≤ w.heap.size → wpAnyU P md ops C0 Q n m fuel (w.alloc (.cells zs ty)) (listed.setIfInBounds ia true) (a.put oa.dst (.pointer (some ⟨w.heap.size, 0, none⟩)))) :
    ∀ w, Below w0.heap.size w0 w → wpOp P ops Q ia (fun a' w' => C0 w' ∧ wpAnyU P md ops C0 Q n m fuel w' (listed.setIfInBounds ia true) a') a w := by
  intro w hw
  unfold wpOp
  simp only [ho]
  rw [if_pos (by simp [Region.wanted, hg])]
  refine .inl ?_
  unfold Oper.wp
  rw [hrun]
  have hC1 := hcl w0 w hC hw
  exact ⟨hcl w _ hC1 ((Below.refl w.heap.size w).alloc (Nat.le_refl _) (.cells zs ty)), h w hw hC1 (hb w hC1)⟩

theorem Blk.later {w w' : World} {g t : Nat} {cs : Array Value} (h : Blk w g t cs) (hb : Below w.heap.size w w') : Blk w' g t cs := h.below hb h.lt

/-- **One new variable**: L may be taken first, the variable comes when it comes; then T, in its order. -/
theorem wp_region_new {id : Nat} {a : Act} {w : World} {L T : List Oper} {oa : Oper} (C0 : World → Prop) (base ty : Nat) (zs : Array Value) (hm : P.follows .mixedOrders = true)
    (hB : tailB (L ++ oa :: T).toArray L.length 1 T.length = true) (hr : Region.ready .any (L ++ oa :: T).toArray (marks L.length 0 (Array.replicate (L ++ oa :: T).toArray.size false)) = [L.length])
    (hcl : ∀ w w', C0 w → Below w.heap.size w w' → C0 w') (hb : ∀ w, C0 w → base ≤ w.heap.size) (hC : C0 w.drew) (hQ : ∀ c a d v w, Q (.panic c) (a.put d v) w → Q (.panic c) a w)
    (hg : oa.guard = none) (hrun : ∀ (a : Act) w, (execOp a.eval oa).run P w = .ok (.value (.pointer (some ⟨w.heap.size, 0, none⟩))) (w.alloc (.cells zs ty)))
    (h : wpB P (L ++ oa :: T).toArray C0 (fun a' => ∀ p w', C0 w' → base ≤ p → Blk w' p ty zs → wpList P (L ++ oa :: T).toArray Q T (a'.put oa.dst (.pointer (some ⟨p, 0, none⟩))) w') L a) :
    (Code.region id (L ++ oa :: T).toArray true).wp P Q a w := by
  simp only [tailB, Bool.and_eq_true, decide_eq_true_eq] at hB
  obtain ⟨⟨⟨⟨hs, hh⟩, hz⟩, hsk⟩, hf⟩ := hB
  refine wp_region_any hm ?_
  have hG : wpAnyU P .any (L ++ oa :: T).toArray C0 Q (1 + L.length) T.length (1 + L.length) w.drew (Array.replicate (L ++ oa :: T).toArray.size false) a := by
    refine wpAnyU_head hcl hs hQ 1 w.drew hC L 0 _ a (Closed.none _) (by omega) (fun j hj => by simp [List.getElem?_append_left hj]) hh ?_
    refine wpB_mono (fun a' h' => ⟨by rw [hr]; exact List.cons_ne_nil _ _, fun i hi => ?_⟩) L a h
    rw [hr, List.mem_singleton] at hi
    subst hi
    refine wpAnyU_new (base := base) (by simp) hg hrun hcl hb hC fun w1 hw1 hC1 hp => ⟨fun j hj i hi => ?_, fun w' hw' => ?_⟩
    · have h1 := List.all_eq_true.1 hsk j hj
      exact List.all_eq_true.1 h1 i (List.mem_range.2 hi)
    · have hal := (Below.refl w1.heap.size w1).alloc (Nat.le_refl _) (.cells zs ty)
      exact wpAny_forced T (1 + L.length) _ _ w' (fun j _ => by simp [List.getElem?_append_right, Nat.add_comm 1, Nat.add_assoc]) hf (h' _ w' (hcl _ _ (hcl _ _ hC1 hal) hw') hp ((Blk.new w1 _ _).later hw'))
  have h2 := wpAny_of_U (1 + L.length) _ a w.drew hG
  rw [← Nat.add_assoc, ← hz] at h2
  exact h2

/-- **Two new variables.** -/
theorem wp_region_new2 {id : Nat} {a : Act} {w : World} {L T : List Oper} {oa ob : Oper} (C0 : World → Prop) (base ty ty2 : Nat) (zs zs2 : Array Value) (hm : P.follows .mixedOrders = true)
    (hB : tailB (L ++ oa :: ob :: T).toArray L.length 2 T.length = true)
    (hr : Region.ready .any (L ++ oa :: ob :: T).toArray (marks L.length 0 (Array.replicate (L ++ oa :: ob :: T).toArray.size false)) = [L.length, L.length + 1])
    (hr1 : Region.ready .any (L ++ oa :: ob :: T).toArray ((marks L.length 0 (Array.replicate (L ++ oa :: ob :: T).toArray.size false)).setIfInBounds L.length true) = [L.length + 1])
    (hr2 : Region.ready .any (L ++ oa :: ob :: T).toArray ((marks L.length 0 (Array.replicate (L ++ oa :: ob :: T).toArray.size false)).setIfInBounds (L.length + 1) true) = [L.length])
    (hcl : ∀ w w', C0 w → Below w.heap.size w w' → C0 w') (hb : ∀ w, C0 w → base ≤ w.heap.size) (hC : C0 w.drew) (hQ : ∀ c a d v w, Q (.panic c) (a.put d v) w → Q (.panic c) a w)
    (hg : oa.guard = none) (hrun : ∀ (a : Act) w, (execOp a.eval oa).run P w = .ok (.value (.pointer (some ⟨w.heap.size, 0, none⟩))) (w.alloc (.cells zs ty)))
    (hg2 : ob.guard = none) (hrun2 : ∀ (a : Act) w, (execOp a.eval ob).run P w = .ok (.value (.pointer (some ⟨w.heap.size, 0, none⟩))) (w.alloc (.cells zs2 ty2)))
    (hd : ∀ d, oa.dst = some d → ob.dst ≠ some d)
    (h : wpB P (L ++ oa :: ob :: T).toArray C0 (fun a' => ∀ p q w', C0 w' → base ≤ p → base ≤ q → p ≠ q → Blk w' p ty zs → Blk w' q ty2 zs2 →
      wpList P (L ++ oa :: ob :: T).toArray Q T ((a'.put oa.dst (.pointer (some ⟨p, 0, none⟩))).put ob.dst (.pointer (some ⟨q, 0, none⟩))) w') L a) :
    (Code.region id (L ++ oa :: ob :: T).toArray true).wp P Q a w := by
  simp only [tailB, Bool.and_eq_true, decide_eq_true_eq] at hB
  obtain ⟨⟨⟨⟨hs, hh⟩, hz⟩, hsk⟩, hf⟩ := hB
  refine wp_region_any hm ?_
  have hoa : (L ++ oa :: ob :: T).toArray[L.length]? = some oa := by simp
  have hob : (L ++ oa :: ob :: T).toArray[L.length + 1]? = some ob := by simp
  have hT : ∀ j, j < T.length → T[j]? = (L ++ oa :: ob :: T).toArray[2 + L.length + j]? := fun j _ => by
    have e : 2 + L.length + j = L.length + (j + 2) := by omega
    rw [e]
    simp [List.getElem?_append_right]
  have hal := fun (w : World) t (zs : Array Value) => (Below.refl w.heap.size w).alloc (Nat.le_refl _) (.cells zs t)
  have hG : wpAnyU P .any (L ++ oa :: ob :: T).toArray C0 Q (2 + L.length) T.length (2 + L.length) w.drew (Array.replicate (L ++ oa :: ob :: T).toArray.size false) a := by
    refine wpAnyU_head hcl hs hQ 2 w.drew hC L 0 _ a (Closed.none _) (by omega) (fun j hj => by simp [List.getElem?_append_left hj]) hh ?_
    refine wpB_mono (fun a' h' => ⟨by rw [hr]; exact List.cons_ne_nil _ _, fun i hi => ?_⟩) L a h
    have hfin : ∀ p q w0 a2, C0 w0 → base ≤ p → base ≤ q → p ≠ q → Blk w0 p ty zs → Blk w0 q ty2 zs2 → a2 = (a'.put oa.dst (.pointer (some ⟨p, 0, none⟩))).put ob.dst (.pointer (some ⟨q, 0, none⟩)) →
        wpAnyU P .any (L ++ oa :: ob :: T).toArray C0 Q (2 + L.length) T.length 0 w0 (((marks L.length 0 (Array.replicate (L ++ oa :: ob :: T).toArray.size false)).setIfInBounds L.length true).setIfInBounds (L.length + 1) true) a2 := by
      rintro p q w0 a2 hC0 hp hq hpq h1 h2 rfl
      refine ⟨fun j hj i hi => ?_, fun w' hw' => ?_⟩
      · have h1 := List.all_eq_true.1 hsk j hj
        exact List.all_eq_true.1 h1 i (List.mem_range.2 hi)
      · exact wpAny_forced T (2 + L.length) _ _ w' hT hf (h' p q w' (hcl _ _ hC0 hw') hp hq hpq (h1.later hw') (h2.later hw'))
    rw [hr] at hi
    rcases List.mem_cons.1 hi with rfl | hi
    · refine wpAnyU_new (base := base) hoa hg hrun hcl hb hC fun w1 hw1 hC1 hp => ⟨by rw [hr1]; exact List.cons_ne_nil _ _, fun i hi => ?_⟩
      rw [hr1, List.mem_singleton] at hi
      subst hi
      have hb1 : Blk (w1.alloc (.cells zs ty)) w1.heap.size ty zs := Blk.new w1 _ _
      refine wpAnyU_new (base := base) hob hg2 hrun2 hcl hb (hcl _ _ hC1 (hal _ _ _)) fun w2 hw2 hC2 hq => ?_
      have hb2 := hb1.later hw2
      exact hfin w1.heap.size w2.heap.size _ _ (hcl _ _ hC2 (hal _ _ _)) hp hq (Nat.ne_of_lt hb2.lt) (hb2.later (hal _ _ _)) (Blk.new w2 _ _) rfl
    · rw [List.mem_singleton] at hi
      subst hi
      refine wpAnyU_new (base := base) hob hg2 hrun2 hcl hb hC fun w1 hw1 hC1 hq => ⟨by rw [hr2]; exact List.cons_ne_nil _ _, fun i hi => ?_⟩
      rw [hr2, List.mem_singleton] at hi
      subst hi
      have hb1 : Blk (w1.alloc (.cells zs2 ty2)) w1.heap.size ty2 zs2 := Blk.new w1 _ _
      refine wpAnyU_new (base := base) hoa hg hrun hcl hb (hcl _ _ hC1 (hal _ _ _)) fun w2 hw2 hC2 hp => ?_
      have hb2 := hb1.later hw2
      rw [Array.setIfInBounds_comm _ _ (by omega)]
      exact hfin w2.heap.size w1.heap.size _ _ (hcl _ _ hC2 (hal _ _ _)) hp hq (Nat.ne_of_gt hb2.lt) (Blk.new w2 _ _) (hb2.later (hal _ _ _)) (Act.put_comm a' _ _ hd).symm
  have h2 := wpAny_of_U (2 + L.length) _ a w.drew hG
  rw [← Nat.add_assoc, ← hz] at h2
  exact h2
end

/-! ### The steps of a walk -/
section
variable {P : Program} {ops : Array Oper} {C0 : World → Prop} {Q : Act → Prop} {a : Act} {o : Oper} {rest : List Oper}
theorem wpB_step (h : ∀ K : Act → Prop, (∀ a, wpB P ops C0 Q rest a → K a) → if Region.wanted o (yielded ops a.tmps) then ∃ v, (∀ w, C0 w → uponB P w (· = v) ((execOp a.eval o).run P w)) ∧ K (a.put o.dst v) else K (a.put o.dst undef)) : wpB P ops C0 Q (o :: rest) a := by
  have h1 := h _ (fun _ h => h)
  unfold wpB
  split
  · rename_i hw
    rw [if_pos hw] at h1
    exact .inl h1
  · rename_i hw
    rw [if_neg hw] at h1
    exact h1
theorem b_go (hg : o.guard = none) {v : Value} (h : ∀ w, C0 w → atB P o a w (· = v)) (hk : wpB P ops C0 Q rest (a.put o.dst v)) : wpB P ops C0 Q (o :: rest) a :=
  wpB_step fun K hK => by
    rw [if_pos (by simp [Region.wanted, hg])]
    exact ⟨v, h, hK _ hk⟩
theorem b_want (hg : Region.wanted o (yielded ops a.tmps) = true) {v : Value} (h : ∀ w, C0 w → atB P o a w (· = v)) (hk : wpB P ops C0 Q rest (a.put o.dst v)) : wpB P ops C0 Q (o :: rest) a :=
  wpB_step fun K hK => by
    rw [if_pos hg]
    exact ⟨v, h, hK _ hk⟩
theorem b_skip (hg : Region.wanted o (yielded ops a.tmps) = false) (hk : wpB P ops C0 Q rest (a.put o.dst undef)) : wpB P ops C0 Q (o :: rest) a :=
  wpB_step fun K hK => by
    rw [if_neg (by rw [hg]; exact Bool.false_ne_true)]
    exact hK _ hk
theorem b_val {v : Value} (hg : Region.wanted o (yielded ops a.tmps) = true) (h : ∀ w, C0 w → (execOp a.eval o).run P w = .ok (.value v) w) (hk : wpB P ops C0 Q rest (a.put o.dst v)) : wpB P ops C0 Q (o :: rest) a :=
  b_want hg (fun w hw => by
    unfold atB
    rw [h w hw]
    exact ⟨rfl, rfl⟩) hk
/-- Two rows, by '=='. -/
theorem b_eq {t t' : TypeId} {x y : Operand} {q : Bool} (xs ys : Array Value) (hg : Region.wanted o (yielded ops a.tmps) = true) (ho : o.op = .binOp .eql t x y t') (hx : a.eval x = .agg xs) (hy : a.eval y = .agg ys)
    (hd : P.eqGuardType P.depth t = false) (he : ∀ w, (Op.equalIn 10000 t (.agg xs) (.agg ys)).run P w = .ok q w) (hk : wpB P ops C0 Q rest (a.put o.dst (.bool q))) : wpB P ops C0 Q (o :: rest) a :=
  b_val hg (fun w _ => by
    unfold execOp
    simp only [ho, hx, hy, Sem.run_bind, run_eqGuard_agg (hm := hd), Result.andThen_ok, binOp, Op.equal, Op.maxDepth, he, Sem.run_pure]) hk
/-- A call, whatever it hands back of a set. -/
theorem b_call {f : FuncId} {args : Array Value} (V : Value → Prop) (hg : Region.wanted o (yielded ops a.tmps) = true) (hp : plainB o.op = false)
    (hc : ∀ w, C0 w → Calls P f args w (fun e w' => ∃ v, e = .returned v ∧ V v ∧ Below w.heap.size w w')) (he : ∀ w, (execOp a.eval o).run P w = .ok (.enter f args) w) (hk : ∀ v, V v → wpB P ops C0 Q rest (a.put o.dst v)) : wpB P ops C0 Q (o :: rest) a := by
  unfold wpB
  rw [if_pos hg]
  refine .inr ⟨hp, V, fun w hw => ?_, hk⟩
  unfold atB
  rw [he]
  exact ⟨rfl, hc w hw⟩
/-- A call that hands back one value. -/
theorem b_call1 {f : FuncId} {args : Array Value} {v : Value} (hg : Region.wanted o (yielded ops a.tmps) = true)
    (hc : ∀ w, C0 w → Calls P f args w (fun e w' => e = .returned v ∧ Below w.heap.size w w')) (he : ∀ w, (execOp a.eval o).run P w = .ok (.enter f args) w) (hk : wpB P ops C0 Q rest (a.put o.dst v)) : wpB P ops C0 Q (o :: rest) a :=
  b_want hg (fun w hw => by
    unfold atB
    rw [he]
    exact ⟨rfl, (hc w hw).mono fun e w' ⟨h1, h2⟩ => ⟨v, h1, rfl, h2⟩⟩) hk
/-- A row (or a struct) is read, from the middle of a block as well. -/
theorem b_mid (hg : Region.wanted o (yielded ops a.tmps) = true) (ty : TypeId) (x : Operand) (ho : o.op = .load ty x) (b off : Nat) (hx : a.eval x = .pointer (some ⟨b, off, none⟩)) (cs : List Value) (d : TypeDesc)
    (hc : ∀ w, C0 w → w.rangeAt b off cs) (hu : P.underlying ty = some d) (hd : d.isRow = true) (hi : (P.info? ty).map (·.size) = some cs.length)
    (hk : wpB P ops C0 Q rest (a.put o.dst (.agg cs.toArray))) : wpB P ops C0 Q (o :: rest) a :=
  b_want hg (fun w hw => by
    unfold atB execOp
    simp only [ho, hx, Instr.loadAt, Instr.sureAddr, Sem.run_bind, Sem.run_pure, Result.andThen_ok, run_loadVar_mid w b off ty cs d (hc w hw) hu hd hi]
    exact ⟨rfl, rfl⟩) hk
end

/-- A whole block as a range. -/
theorem Blk.range {w : World} {g t : Nat} {l : List Value} (h : Blk w g t l.toArray) : w.rangeAt g 0 l := fun j v hv => by
  rw [Nat.zero_add, h.cell j]
  simpa using hv
/-- A part of a block as a range. -/
theorem Blk.part {w : World} {g t : Nat} {l : List Value} (h : Blk w g t l.toArray) (o n : Nat) : w.rangeAt g o ((l.drop o).take n) := fun j v hv => by
  rw [h.cell (o + j)]
  rw [List.getElem?_take] at hv
  split at hv
  · rw [List.getElem?_drop] at hv
    simpa using hv
  · cases hv

/-! ### The same over a list that is written out -/
section
variable {P : Program} {Q : Exit → Act → World → Prop} {id : Nat} {a : Act} {w : World} {l : List Oper}
theorem cut_at {oa : Oper} {n : Nat} (h : l[n]? = some oa) : l = l.take n ++ oa :: l.drop (n + 1) ∧ (l.take n).length = n := by
  obtain ⟨hn, rfl⟩ := List.getElem?_eq_some_iff.1 h
  refine ⟨?_, by rw [List.length_take]; omega⟩
  rw [← List.drop_eq_getElem_cons hn, List.take_append_drop]

theorem region_B (n : Nat) (C0 : World → Prop) (hn : n ≤ l.length) (hm : P.follows .mixedOrders = true) (hB : tailB l.toArray n 0 (l.drop n).length = true)
    (hcl : ∀ w w', C0 w → Below w.heap.size w w' → C0 w') (hC : C0 w.drew) (hQ : ∀ c a d v w, Q (.panic c) (a.put d v) w → Q (.panic c) a w)
    (h : wpB P l.toArray C0 (fun a' => ∀ w', C0 w' → wpList P l.toArray Q (l.drop n) a' w') (l.take n) a) : (Code.region id l.toArray true).wp P Q a w := by
  have e : l = l.take n ++ l.drop n := (List.take_append_drop n l).symm
  have hL : (l.take n).length = n := by rw [List.length_take]; omega
  generalize l.take n = L at *
  generalize l.drop n = T at *
  subst e
  exact wp_region_B C0 hm (by rw [hL]; exact hB) hcl hC hQ h

theorem region_new {oa : Oper} (n : Nat) (C0 : World → Prop) (base ty : Nat) (zs : Array Value) (hoa : l[n]? = some oa) (hm : P.follows .mixedOrders = true)
    (hB : tailB l.toArray n 1 (l.drop (n + 1)).length = true) (hr : Region.ready .any l.toArray (marks n 0 (Array.replicate l.toArray.size false)) = [n])
    (hcl : ∀ w w', C0 w → Below w.heap.size w w' → C0 w') (hb : ∀ w, C0 w → base ≤ w.heap.size) (hC : C0 w.drew) (hQ : ∀ c a d v w, Q (.panic c) (a.put d v) w → Q (.panic c) a w)
    (hg : oa.guard = none) (hrun : ∀ (a : Act) w, (execOp a.eval oa).run P w = .ok (.value (.pointer (some ⟨w.heap.size, 0, none⟩))) (w.alloc (.cells zs ty)))
    (h : wpB P l.toArray C0 (fun a' => ∀ p w', C0 w' → base ≤ p → Blk w' p ty zs → wpList P l.toArray Q (l.drop (n + 1)) (a'.put oa.dst (.pointer (some ⟨p, 0, none⟩))) w') (l.take n) a) :
    (Code.region id l.toArray true).wp P Q a w := by
  obtain ⟨e, hL⟩ := cut_at hoa
  clear hoa
  generalize l.take n = L at *
  generalize l.drop (n + 1) = T at *
  subst e
  subst hL
  exact wp_region_new C0 base ty zs hm hB hr hcl hb hC hQ hg hrun h

theorem region_new2 {oa ob : Oper} (n : Nat) (C0 : World → Prop) (base ty ty2 : Nat) (zs zs2 : Array Value) (hoa : l[n]? = some oa) (hob : l[n + 1]? = some ob) (hm : P.follows .mixedOrders = true)
    (hB : tailB l.toArray n 2 (l.drop (n + 1 + 1)).length = true)
    (hr : Region.ready .any l.toArray (marks n 0 (Array.replicate l.toArray.size false)) = [n, n + 1])
    (hr1 : Region.ready .any l.toArray ((marks n 0 (Array.replicate l.toArray.size false)).setIfInBounds n true) = [n + 1])
    (hr2 : Region.ready .any l.toArray ((marks n 0 (Array.replicate l.toArray.size false)).setIfInBounds (n + 1) true) = [n])
    (hcl : ∀ w w', C0 w → Below w.heap.size w w' → C0 w') (hb : ∀ w, C0 w → base ≤ w.heap.size) (hC : C0 w.drew) (hQ : ∀ c a d v w, Q (.panic c) (a.put d v) w → Q (.panic c) a w)
    (hg : oa.guard = none) (hrun : ∀ (a : Act) w, (execOp a.eval oa).run P w = .ok (.value (.pointer (some ⟨w.heap.size, 0, none⟩))) (w.alloc (.cells zs ty)))
    (hg2 : ob.guard = none) (hrun2 : ∀ (a : Act) w, (execOp a.eval ob).run P w = .ok (.value (.pointer (some ⟨w.heap.size, 0, none⟩))) (w.alloc (.cells zs2 ty2)))
    (hd : ∀ d, oa.dst = some d → ob.dst ≠ some d)
    (h : wpB P l.toArray C0 (fun a' => ∀ p q w', C0 w' → base ≤ p → base ≤ q → p ≠ q → Blk w' p ty zs → Blk w' q ty2 zs2 →
      wpList P l.toArray Q (l.drop (n + 1 + 1)) ((a'.put oa.dst (.pointer (some ⟨p, 0, none⟩))).put ob.dst (.pointer (some ⟨q, 0, none⟩))) w') (l.take n) a) :
    (Code.region id l.toArray true).wp P Q a w := by
  obtain ⟨e, hL⟩ := cut_at hoa
  have e2 : l.drop (n + 1) = ob :: l.drop (n + 1 + 1) := by
    obtain ⟨hn, rfl⟩ := List.getElem?_eq_some_iff.1 hob
    exact List.drop_eq_getElem_cons hn
  rw [e2] at e
  clear hoa hob e2
  generalize l.take n = L at *
  generalize l.drop (n + 1 + 1) = T at *
  subst e
  subst hL
  exact wp_region_new2 C0 base ty ty2 zs zs2 hm hB hr hr1 hr2 hcl hb hC hQ hg hrun hg2 hrun2 hd h
end
end Go.Proofs.Ythejahhhmkkhoaa
