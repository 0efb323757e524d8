/-
  SEVERAL TEXTS IN ONE: RegG, Pick, Fr, RegH, Us, FrV, FrN.
-/
import Derived.Test.YthkbejheedffjaaMa
import Derived.Laws.Bits64b
import Derived.Laws.BitsAllLaws
import Derived.Laws.Externs
/-
  REGIONS THAT DRAW THEIR ORDER, AND MAKE MEMORY: each operation may leave new memory and a fact about it that later worlds keep; who has an edge to it may use the fact. The walk goes in the text's order; whatever order is drawn, it holds.
-/
namespace Go.Proofs.Ythkbejheedffjaa
open Go.RowKit Go.IntWalk

/-- Operations that never run code. -/
def stillG : Op → Bool
  | .buildSlice .. | .makeSlice .. | .sliceToArrayPointer .. | .makeFunc .. | .nilCheck _ => true
  | .call c => match c.callee with | .builtin .len => true | .builtin .min => true | .builtin .max => true | _ => false
  | o => plainB o
/-- Operations of which each world may have its own answer. -/
def multiG : Op → Bool
  | .alloc _ | .box .. => true
  | o => multiB o

section
variable {P : Program}
theorem run_pureV {y : Value} {w w' : World} {n : Next} (h : (pure (Next.value y) : Sem Next).run P w = .ok n w') : ∃ v, n = .value v := by
  rw [Sem.run_pure] at h
  injection h with h1 h2
  exact ⟨_, h1.symm⟩
theorem run_panic_no {w w' : World} {n : Next} (h : (runtimePanic .nilDeref : Sem Next).run P w = .ok n w') : False := by
  simp [runtimePanic, goPanic] at h
theorem bind_ok {α β : Type} {s : Sem α} {f : α → Sem β} {n : β} {w w' : World} (h : (s >>= f).run P w = .ok n w') : ∃ a w1, (f a).run P w1 = .ok n w' := by
  rw [Sem.run_bind] at h
  cases hs : s.run P w with
  | ok v w1 =>
    rw [hs] at h
    exact ⟨v, w1, h⟩
  | halt x w1 =>
    rw [hs] at h
    cases h
theorem nil_ok {ρ : Operand → Value} {o : Oper} {x : Operand} (ho : o.op = .nilCheck x) {w w' : World} {n : Next} (h : (execOp ρ o).run P w = .ok n w') : ∃ v, n = .value v := by
  unfold execOp at h
  rw [ho] at h
  dsimp only at h
  split at h
  · exact (run_panic_no h).elim
  · exact (run_panic_no h).elim
  · exact (run_panic_no h).elim
  · split at h
    · exact (run_panic_no h).elim
    · obtain ⟨_, _, h⟩ := bind_ok h
      obtain ⟨_, _, h⟩ := bind_ok h
      split at h
      · obtain ⟨_, _, h⟩ := bind_ok h
        exact run_pureV h
      · exact run_pureV h
    · exact run_pureV h
  · exact run_pureV h
theorem still_ok {ρ : Operand → Value} {o : Oper} (hp : stillG o.op = true) {w w' : World} {n : Next} (h : (execOp ρ o).run P w = .ok n w') : (∃ v, n = .value v) ∨ n = .skip := by
  by_cases hb : plainB o.op = true
  · exact plain_ok hb h
  obtain ⟨dst, op, ty, pos, af, gd⟩ := o
  cases op <;> first
    | (exfalso; exact hb hp)
    | exact .inl (run_v h)
    | exact .inl (nil_ok rfl h)
    | skip
  next c =>
    obtain ⟨callee, args, ats⟩ := c
    cases callee with
    | builtin b =>
      cases b <;> first
        | (cases hp; done)
        | skip
      all_goals
        unfold execOp at h
        simp only [resolve, invoke, builtin, Sem.run_bind, Sem.run_pure, Result.andThen_ok] at h
        refine .inl ?_
        revert h
        generalize Sem.run P _ w = r
        intro h
        cases r with
        | ok v w1 =>
          simp only [Result.andThen_ok] at h
          injection h with h1 h2
          exact ⟨v, h1.symm⟩
        | halt x w1 => simp [Result.andThen] at h
    | _ => cases hp
end

/-- How worlds go on: at least new memory may come. -/
class RelOk (Rel : World → World → Prop) : Prop where
  below : ∀ w w', Below w.heap.size w w' → Rel w w'
/-- Nothing but new memory. -/
def Bel (w w' : World) : Prop := Below w.heap.size w w'
instance : RelOk Bel := ⟨fun _ _ h => h⟩
def uponG (P : Program) (Rel : World → World → Prop) (w : World) (V : Value → World → Prop) : Result Next → Prop
  | .ok (.value u) w' => Rel w w' ∧ V u w'
  | .ok .skip w' => Rel w w' ∧ V undef w'
  | .ok (.enter f args) w' => w' = w ∧ Calls P f args w (fun e w'' => ∃ v, e = .returned v ∧ Rel w w'' ∧ V v w'')
  | _ => False
/-- Later worlds keep it. -/
def Pers (Rel : World → World → Prop) (p : World → Prop) : Prop := ∀ w w', p w → Rel w w' → p w'
abbrev Facts := Nat → World → Prop
def upF (F : Facts) (k : Nat) (p : World → Prop) : Facts := fun j => if j = k then p else F j
theorem upF_same (F : Facts) (k : Nat) (p : World → Prop) : upF F k p k = p := if_pos rfl
theorem upF_ne {F : Facts} {k j : Nat} {p : World → Prop} (h : j ≠ k) : upF F k p j = F j := if_neg h

def stepG (P : Program) (Rel : World → World → Prop) (C0 : World → Prop) (F : Facts) (o : Oper) (a : Act) (next : (World → Prop) → Act → Prop) : Prop :=
  ∃ V : Value → World → Prop, (∀ v, Pers Rel (V v)) ∧ ((∃ v, ∀ u w, V u w → u = v) ∨ multiG o.op = true) ∧
    (∀ w, C0 w → (∀ e ∈ o.after, Region.binds .any e = true → F e.on w) → uponG P Rel w V ((execOp a.eval o).run P w)) ∧
    ∀ v w, C0 w → (∀ k, F k w) → V v w → next (V v) (a.put o.dst v)
/-- The walk, in the text's order. -/
def wpG (P : Program) (Rel : World → World → Prop) (ops : Array Oper) (C0 : World → Prop) (Q : Facts → Act → Prop) : List (Nat × Oper) → Facts → Act → Prop
  | [], F, a => Q F a
  | x :: l, F, a => if Region.wanted x.2 (yielded ops a.tmps) then stepG P Rel C0 F x.2 a (fun p a' => wpG P Rel ops C0 Q l (upF F x.1 p) a') else wpG P Rel ops C0 Q l (upF F x.1 fun _ => True) (a.put x.2.dst undef)

section
variable {P : Program} {Rel : World → World → Prop} {ops : Array Oper} {C0 : World → Prop} {Q : Facts → Act → Prop}
theorem wpG_mono (hQ : ∀ F F' a, (∀ k w, F' k w → F k w) → Q F a → Q F' a) : ∀ (l : List (Nat × Oper)) (F F' : Facts) (a : Act), (∀ k w, F' k w → F k w) → wpG P Rel ops C0 Q l F a → wpG P Rel ops C0 Q l F' a
  | [], F, F', a, h, hh => hQ F F' a h hh
  | x :: l, F, F', a, h, hh => by
    have hup : ∀ p, ∀ k w, upF F' x.1 p k w → upF F x.1 p k w := fun p k w h' => by
      by_cases e : k = x.1
      · subst e
        rwa [upF_same] at h' ⊢
      · rw [upF_ne e] at h' ⊢
        exact h k w h'
    unfold wpG at hh ⊢
    split
    · rename_i hw
      rw [if_pos hw] at hh
      obtain ⟨V, h1, h2, h3, h4⟩ := hh
      exact ⟨V, h1, h2, fun w hw he => h3 w hw fun e hm hb => h _ _ (he e hm hb), fun v w hw hF hV => wpG_mono hQ l _ _ _ (hup _) (h4 v w hw (fun k => h k w (hF k)) hV)⟩
    · rename_i hw
      rw [if_neg hw] at hh
      exact wpG_mono hQ l _ _ _ (hup _) hh

/-- What a good walk has behind it. -/
structure GoodF (Rel : World → World → Prop) (C0 : World → Prop) (F : Facts) (w : World) : Prop where
  pers : ∀ k, Pers Rel (F k)
  cls : C0 w
  all : ∀ k, F k w
theorem GoodF.up {F : Facts} {w w' : World} {k : Nat} {p : World → Prop} (h : GoodF Rel C0 F w) (hp : Pers Rel p) (hC : C0 w') (hF : ∀ k, F k w') (hpw : p w') : GoodF Rel C0 (upF F k p) w' := by
  refine ⟨fun j => ?_, hC, fun j => ?_⟩
  · by_cases e : j = k
    · subst e
      rw [upF_same]
      exact hp
    · rw [upF_ne e]
      exact h.pers j
  · by_cases e : j = k
    · subst e
      rw [upF_same]
      exact hpw
    · rw [upF_ne e]
      exact hF j
def Unl (l : List (Nat × Oper)) (F : Facts) : Prop := ∀ x ∈ l, ∀ w, F x.1 w
theorem Unl.up {l : List (Nat × Oper)} {F : Facts} {k : Nat} {p : World → Prop} (h : Unl l F) (hk : k ∉ l.map (·.1)) : Unl l (upF F k p) := fun x hx w => by
  have e : x.1 ≠ k := fun e => hk (List.mem_map.2 ⟨x, hx, e⟩)
  rw [upF_ne e]
  exact h x hx w

/-- Something comes of the operation. -/
theorem uponG.any {w : World} {V : Value → World → Prop} {r : Result Next} (h : uponG P Rel w V r) : ∃ v w', Rel w w' ∧ V v w' := by
  cases r with
  | ok n w' =>
    cases n <;> simp only [uponG] at h
    case value u => exact ⟨u, w', h⟩
    case skip => exact ⟨_, w', h⟩
    case enter f args =>
      obtain ⟨e, w1, fr, ⟨v, _, h1, h2⟩, _⟩ := h.2 []
      exact ⟨v, w1, h1, h2⟩
  | halt x w' => simp only [uponG] at h

theorem wpG_cons {x : Nat × Oper} {l l' : List (Nat × Oper)} {F : Facts} {a : Act} {w0 : World} (hG : GoodF Rel C0 F w0) (hU : Unl l F) (hx : x.1 ∉ l.map (·.1))
    (h : ∀ F a w, GoodF Rel C0 F w → Unl l F → wpG P Rel ops C0 Q l F a → wpG P Rel ops C0 Q l' F a) (hh : wpG P Rel ops C0 Q (x :: l) F a) : wpG P Rel ops C0 Q (x :: l') F a := by
  unfold wpG at hh ⊢
  split
  · rename_i hw
    rw [if_pos hw] at hh
    obtain ⟨V, h1, h2, h3, h4⟩ := hh
    exact ⟨V, h1, h2, h3, fun v w hw hF hV => h _ _ w (hG.up (h1 v) hw hF hV) (hU.up hx) (h4 v w hw hF hV)⟩
  · rename_i hw
    rw [if_neg hw] at hh
    exact h _ _ w0 (hG.up (fun _ _ _ _ => trivial) hG.cls hG.all trivial) (hU.up hx) hh

/-- Two operations next to each other: the second one may come first. -/
structure PairG (ops : Array Oper) (x y : Nat × Oper) : Prop where
  ne : x.1 ≠ y.1
  apart : x.2.apart ops y.2 = true
  noY : ∀ e ∈ y.2.after, Region.binds .any e = true → e.on ≠ x.1
  noX : ∀ e ∈ x.2.after, Region.binds .any e = true → e.on ≠ y.1
  kind : stillG y.2.op = true ∨ multiG x.2.op = false
  selX : ∀ cs b, x.2.op ≠ .select cs b
  selY : ∀ cs b, y.2.op ≠ .select cs b

theorem swapG (hcl : ∀ w w', C0 w → Rel w w' → C0 w') (hQ : ∀ F F' a, (∀ k w, F' k w → F k w) → Q F a → Q F' a) {x y : Nat × Oper} {l : List (Nat × Oper)} {F : Facts} {a : Act} {w0 : World} (hp : PairG ops x y) (hG : GoodF Rel C0 F w0) (hj : ∀ w, F y.1 w)
    (h : wpG P Rel ops C0 Q (x :: y :: l) F a) : wpG P Rel ops C0 Q (y :: x :: l) F a := by
  obtain ⟨i, oi⟩ := x
  obtain ⟨j, oj⟩ := y
  obtain ⟨hne, hap, hed, hed2, hkd, hsi, hsj⟩ := hp
  obtain ⟨h1, h2, h3⟩ := Oper.apart_spec hap
  dsimp only at *
  have hwj : ∀ v, Region.wanted oj (yielded ops (a.put oi.dst v).tmps) = Region.wanted oj (yielded ops a.tmps) := fun v => wanted_put oj a oi.dst v h1
  have hwi : ∀ v, Region.wanted oi (yielded ops (a.put oj.dst v).tmps) = Region.wanted oi (yielded ops a.tmps) := fun v => wanted_put oi a oj.dst v h3
  have hcomm : ∀ v u, (a.put oi.dst v).put oj.dst u = (a.put oj.dst u).put oi.dst v := fun v u => Act.put_comm a v u h2
  have hupc : ∀ (p q : World → Prop), upF (upF F i p) j q = upF (upF F j q) i p := fun p q => by
    funext k
    by_cases e : k = i
    · subst e
      rw [upF_same, upF_ne hne, upF_same]
    · by_cases e2 : k = j
      · subst e2
        rw [upF_same, upF_ne e, upF_same]
      · rw [upF_ne e2, upF_ne e, upF_ne e, upF_ne e2]
  by_cases wi : Region.wanted oi (yielded ops a.tmps) = true
  · unfold wpG at h
    rw [if_pos wi] at h
    obtain ⟨Vx, pX, kX, yX, nX⟩ := h
    by_cases wj : Region.wanted oj (yielded ops a.tmps) = true
    · obtain ⟨v0, w1, hb1, hV1⟩ := (yX w0 hG.cls (fun e _ _ => hG.all e.on)).any
      have hC1 := hcl _ _ hG.cls hb1
      have hF1 : ∀ k, F k w1 := fun k => hG.pers k _ _ (hG.all k) hb1
      have key : ∀ v, (∃ w, C0 w ∧ (∀ k, F k w) ∧ Vx v w) → stepG P Rel C0 (upF F i (Vx v)) oj (a.put oi.dst v) (fun p a' => wpG P Rel ops C0 Q l (upF (upF F i (Vx v)) j p) a') := by
        rintro v ⟨w, hw, hF, hV⟩
        have h5 := nX v w hw hF hV
        unfold wpG at h5
        rwa [hwj, if_pos wj] at h5
      have key' : ∀ v, ∃ V : Value → World → Prop, (∃ w, C0 w ∧ (∀ k, F k w) ∧ Vx v w) → (∀ v, Pers Rel (V v)) ∧ ((∃ v, ∀ u w, V u w → u = v) ∨ multiG oj.op = true) ∧
          (∀ w, C0 w → (∀ e ∈ oj.after, Region.binds .any e = true → upF F i (Vx v) e.on w) → uponG P Rel w V ((execOp (a.put oi.dst v).eval oj).run P w)) ∧
          ∀ u w, C0 w → (∀ k, upF F i (Vx v) k w) → V u w → wpG P Rel ops C0 Q l (upF (upF F i (Vx v)) j (V u)) ((a.put oi.dst v).put oj.dst u) := fun v => by
        by_cases hv : ∃ w, C0 w ∧ (∀ k, F k w) ∧ Vx v w
        · obtain ⟨V, hV⟩ := key v hv
          exact ⟨V, fun _ => hV⟩
        · exact ⟨fun _ _ => True, fun h => absurd h hv⟩
      clear key
      obtain ⟨Vy, hy⟩ := Classical.axiomOfChoice key'
      clear key'
      have hv0 : ∃ w, C0 w ∧ (∀ k, F k w) ∧ Vx v0 w := ⟨w1, hC1, hF1, hV1⟩
      unfold wpG
      rw [if_pos wj]
      refine ⟨fun u w => ∀ v, (∃ w, C0 w ∧ (∀ k, F k w) ∧ Vx v w) → Vy v u w, fun u w w' h hb v hv => (hy v hv).1 u w w' (h v hv) hb, ?_, ?_, ?_⟩
      · rcases (hy v0 hv0).2.1 with ⟨u0, hu⟩ | hm
        · exact .inl ⟨u0, fun u w h => hu u w (h v0 hv0)⟩
        · exact .inr hm
      · intro w hw hpre
        have hr : ∀ v, (∃ w, C0 w ∧ (∀ k, F k w) ∧ Vx v w) → uponG P Rel w (Vy v) ((execOp a.eval oj).run P w) := fun v hv => by
          have h5 := (hy v hv).2.2.1 w hw (fun e he hb => by rw [upF_ne (hed e he hb)]; exact hpre e he hb)
          rwa [execOp_put oj hsj a oi.dst v h1] at h5
        have hst := fun n w' => still_ok (P := P) (ρ := a.eval) (o := oj) (w := w) (w' := w') (n := n)
        generalize (execOp a.eval oj).run P w = r at *
        cases r with
        | ok n w' =>
          cases n
          case value u => exact ⟨(hr v0 hv0).1, fun v hv => (hr v hv).2⟩
          case skip => exact ⟨(hr v0 hv0).1, fun v hv => (hr v hv).2⟩
          case enter f args =>
            rcases hkd with hkd | hkd
            · rcases hst _ _ hkd rfl with ⟨v, hv⟩ | hv <;> cases hv
            · rcases kX with ⟨vv, hvv⟩ | hm
              · obtain ⟨e1, hc⟩ := hr v0 hv0
                refine ⟨e1, hc.mono fun e w'' ⟨u, he, hb, hV⟩ => ⟨u, he, hb, fun v hv => ?_⟩⟩
                obtain ⟨w3, _, _, hv3⟩ := hv
                have e2 : v = v0 := (hvv _ _ hv3).trans (hvv _ _ hV1).symm
                rw [e2]
                exact hV
              · rw [hkd] at hm
                cases hm
          all_goals exact absurd (hr v0 hv0) (by simp [uponG])
        | halt x w' => exact absurd (hr v0 hv0) (by simp [uponG])
      · intro u w hw hF hVu
        unfold wpG
        rw [hwi, if_pos wi]
        refine ⟨Vx, pX, kX, ?_, ?_⟩
        · intro w2 hw2 hpre
          rw [execOp_put oi hsi a oj.dst u h3]
          exact yX w2 hw2 (fun e he hb => by have h5 := hpre e he hb; rwa [upF_ne (hed2 e he hb)] at h5)
        · intro v w2 hw2 hF2 hV2
          have hFw2 : ∀ k, F k w2 := fun k => by
            by_cases e : k = j
            · subst e
              exact hj w2
            · have h5 := hF2 k
              rwa [upF_ne e] at h5
          have hv : ∃ w, C0 w ∧ (∀ k, F k w) ∧ Vx v w := ⟨w2, hw2, hFw2, hV2⟩
          have hVy : Vy v u w2 := by
            have h5 := hF2 j
            rw [upF_same] at h5
            exact h5 v hv
          have h6 := (hy v hv).2.2.2 u w2 hw2 (fun k => by
            by_cases e : k = i
            · subst e
              rw [upF_same]
              exact hV2
            · rw [upF_ne e]
              exact hFw2 k) hVy
          rw [hcomm, hupc] at h6
          refine wpG_mono hQ l _ _ _ (fun k w h7 => ?_) h6
          by_cases e : k = i
          · subst e
            rwa [upF_same] at h7 ⊢
          · rw [upF_ne e] at h7 ⊢
            by_cases e2 : k = j
            · subst e2
              rw [upF_same] at h7 ⊢
              exact h7 v hv
            · rwa [upF_ne e2] at h7 ⊢
    · unfold wpG
      rw [if_neg wj]
      unfold wpG
      rw [hwi, if_pos wi]
      refine ⟨Vx, pX, kX, ?_, ?_⟩
      · intro w2 hw2 hpre
        rw [execOp_put oi hsi a oj.dst undef h3]
        exact yX w2 hw2 (fun e he hb => by have h5 := hpre e he hb; rwa [upF_ne (hed2 e he hb)] at h5)
      · intro v w2 hw2 hF2 hV2
        have h5 := nX v w2 hw2 (fun k => by
          by_cases e : k = j
          · subst e
            exact hj w2
          · have h5 := hF2 k
            rwa [upF_ne e] at h5) hV2
        unfold wpG at h5
        rw [hwj, if_neg wj, hcomm, hupc] at h5
        exact h5
  · unfold wpG at h
    rw [if_neg wi] at h
    unfold wpG at h
    by_cases wj : Region.wanted oj (yielded ops a.tmps) = true
    · rw [hwj, if_pos wj] at h
      obtain ⟨Vy, pY, kY, yY, nY⟩ := h
      unfold wpG
      rw [if_pos wj]
      refine ⟨Vy, pY, kY, ?_, ?_⟩
      · intro w hw hpre
        have h5 := yY w hw (fun e he hb => by rw [upF_ne (hed e he hb)]; exact hpre e he hb)
        rwa [execOp_put oj hsj a oi.dst undef h1] at h5
      · intro u w hw hF hV
        have h5 := nY u w hw (fun k => by
          by_cases e : k = i
          · subst e
            rw [upF_same]
            trivial
          · rw [upF_ne e]
            exact hF k) hV
        unfold wpG
        rw [hwi, if_neg wi]
        rw [hcomm, hupc] at h5
        exact h5
    · rw [hwj, if_neg wj] at h
      unfold wpG
      rw [if_neg wj]
      unfold wpG
      rw [hwi, if_neg wi]
      rw [hcomm, hupc] at h
      exact h

/-- An operation may come ahead of all that stand before it. -/
theorem frontG (hcl : ∀ w w', C0 w → Rel w w' → C0 w') (hQ : ∀ F F' a, (∀ k w, F' k w → F k w) → Q F a → Q F' a) (y : Nat × Oper) (l2 : List (Nat × Oper)) : ∀ (l1 : List (Nat × Oper)) (F : Facts) (a : Act) (w0 : World), (∀ x ∈ l1, PairG ops x y) → ((l1 ++ y :: l2).map (·.1)).Nodup →
    GoodF Rel C0 F w0 → Unl (l1 ++ y :: l2) F → wpG P Rel ops C0 Q (l1 ++ y :: l2) F a → wpG P Rel ops C0 Q (y :: (l1 ++ l2)) F a
  | [], F, a, w0, _, _, _, _, h => h
  | x :: l1, F, a, w0, hp, hnd, hG, hU, h => by
    have hnd2 : x.1 ∉ (l1 ++ y :: l2).map (·.1) ∧ ((l1 ++ y :: l2).map (·.1)).Nodup := by
      simpa [List.nodup_cons] using hnd
    have h' : wpG P Rel ops C0 Q (x :: (y :: (l1 ++ l2))) F a :=
      wpG_cons (l := l1 ++ y :: l2) hG (fun z hz => hU z (List.mem_cons_of_mem _ hz)) hnd2.1
        (fun F a w hG hU h => frontG hcl hQ y l2 l1 F a w (fun z hz => hp z (List.mem_cons_of_mem _ hz)) hnd2.2 hG hU h) h
    exact swapG hcl hQ (hp x (by simp)) hG (hU y (by simp)) h'
end
end Go.Proofs.Ythkbejheedffjaa
/-
  STEPS OF WALKS: bools, choices, rows of bytes, calls over a class of worlds; two new variables, the order forced.
-/
namespace Go.Proofs.Ythkbejheedffjaa
open Go.RowKit Go.IntWalk

section
variable {ops : Array Oper} {C0 : World → Prop} {Q : Act → Prop} {a : Act} {o : Oper} {rest : List Oper}
/-- A call that hands back one value, over a class of worlds. -/
theorem b_oneC {f : FuncId} {xs : Array Operand} {ats : Array TypeId} {args : Array Value} {v : Value} (hg : Region.wanted o (yielded ops a.tmps) = true)
    (hf : Own f) (hc : ∀ w, C0 w → Calls Try.prog f args w (fun e w' => e = .returned v ∧ Below w.heap.size w w'))
    (ho : o.op = .call { callee := .value (.func f), args := xs, argTypes := ats }) (hx : xs.toList.map a.eval = args.toList) (hk : wpB Try.prog ops C0 Q rest (a.put o.dst v)) : wpB Try.prog ops C0 Q (o :: rest) a :=
  b_call1 (f := f) (args := args) hg hc (fun w => by rw [run_call_fn hf ho, map_eval hx]) hk
/-- A choice whose condition is true. -/
theorem b_pick {c x y : Operand} (hg : Region.wanted o (yielded ops a.tmps) = true) (ho : o.op = .pick c x y) (hc : a.eval c = .bool true) (hk : wpB Try.prog ops C0 Q rest (a.put o.dst (a.eval x))) : wpB Try.prog ops C0 Q (o :: rest) a :=
  b_val hg (fun w _ => by
    unfold execOp
    simp only [ho, hc]
    go_simp) hk
/-- Two equal bools. -/
theorem b_eqb {x y : Operand} {t : TypeId} (q : Bool) (hg : Region.wanted o (yielded ops a.tmps) = true) (ho : o.op = .binOp .eql 4 x y t) (hx : a.eval x = .bool q) (hy : a.eval y = .bool q)
    (hk : wpB Try.prog ops C0 Q rest (a.put o.dst (.bool true))) : wpB Try.prog ops C0 Q (o :: rest) a :=
  b_val hg (fun w _ => by
    unfold execOp
    simp only [ho, hx, hy]
    go_simp) hk
/-- A choice whose condition is false. -/
theorem b_pickF {c x y : Operand} (hg : Region.wanted o (yielded ops a.tmps) = true) (ho : o.op = .pick c x y) (hc : a.eval c = .bool false) (hk : wpB Try.prog ops C0 Q rest (a.put o.dst (a.eval y))) : wpB Try.prog ops C0 Q (o :: rest) a :=
  b_val hg (fun w _ => by
    unfold execOp
    simp only [ho, hc]
    go_simp) hk
/-- Two equal bools, by '!='. -/
theorem b_neqb {x y : Operand} {t : TypeId} (q : Bool) (hg : Region.wanted o (yielded ops a.tmps) = true) (ho : o.op = .binOp .neq 4 x y t) (hx : a.eval x = .bool q) (hy : a.eval y = .bool q)
    (hk : wpB Try.prog ops C0 Q rest (a.put o.dst (.bool false))) : wpB Try.prog ops C0 Q (o :: rest) a :=
  b_val hg (fun w _ => by
    unfold execOp
    simp only [ho, hx, hy]
    go_simp) hk
end

section
variable {ops : Array Oper} {C0 : World → Prop} {Q : Act → Prop} {a : Act} {o : Oper} {rest : List Oper}
theorem b_rem2 {x : Operand} (c : Nat) (hc : c < 256) (hg : Region.wanted o (yielded ops a.tmps) = true) (ho : o.op = .binOp .rem 5 x (.const (.int .u8 2)) 5) (hx : a.eval x = .int .u8 (c : Int))
    (hk : wpB Try.prog ops C0 Q rest (a.put o.dst (.int .u8 ((c % 2 : Nat) : Int)))) : wpB Try.prog ops C0 Q (o :: rest) a :=
  b_val hg (fun w _ => by
    unfold execOp
    simp only [ho, hx]
    go_simp
    exact Int.tmod_eq_emod_of_nonneg (by omega)) hk
theorem b_is1 {x : Operand} (c : Nat) (hg : Region.wanted o (yielded ops a.tmps) = true) (ho : o.op = .binOp .eql 5 x (.const (.int .u8 1)) 5) (hx : a.eval x = .int .u8 (c : Int))
    (hk : wpB Try.prog ops C0 Q rest (a.put o.dst (.bool (decide (c = 1))))) : wpB Try.prog ops C0 Q (o :: rest) a :=
  b_val hg (fun w _ => by
    unfold execOp
    simp only [ho, hx]
    go_simp
    rw [Bool.eq_iff_iff]
    simp
    omega) hk
end

/-! ### Two new variables, the order forced -/
theorem reg_var2F {P : Program} {Q : Exit → Act → World → Prop} {id : Nat} {a : Act} {w : World} {l : List Oper} {oa ob os os2 : Oper} (n : Nat) (t t2 : Tmp) (ty ty2 : TypeId) (x x2 : Operand) (zs zs2 : Array Value) (hoa : l[n]? = some oa) (hob : l[n + 1]? = some ob) (hos : l.drop (n + 1 + 1) = [os, os2])
    (hop : os.op = .store ty (.tmp t) x) (hop2 : os2.op = .store ty2 (.tmp t2) x2) (hsg : os.guard = none) (hsg2 : os2.guard = none) (hsd : os.dst = none) (hsd2 : os2.dst = none)
    (hag : oa.guard = none) (hbg : ob.guard = none) (had : oa.dst = some t) (hbd : ob.dst = some t2)
    (hrun : ∀ (a : Act) w, (execOp a.eval oa).run P w = .ok (.value (.pointer (some ⟨w.heap.size, 0, none⟩))) (w.alloc (.cells zs ty)))
    (hrun2 : ∀ (a : Act) w, (execOp a.eval ob).run P w = .ok (.value (.pointer (some ⟨w.heap.size, 0, none⟩))) (w.alloc (.cells zs2 ty2)))
    (h : wpB P l.toArray (Up w) (varEnd2 P Q w t t2 ty ty2 x x2 zs.size zs2.size) (l.take n) a) : (Code.region id l.toArray false).wp P Q a w := by
  have e : l.drop n = [oa, ob, os, os2] := by
    obtain ⟨h1, rfl⟩ := List.getElem?_eq_some_iff.1 hoa
    obtain ⟨h2, rfl⟩ := List.getElem?_eq_some_iff.1 hob
    rw [List.drop_eq_getElem_cons h1, List.drop_eq_getElem_cons h2, hos]
  refine reg_tailF n (wpB_mono (fun a' h' w' hw' => ?_) _ _ h)
  rw [e]
  unfold wpList
  rw [if_pos (by simp [Region.wanted, hag])]
  refine .inl ?_
  unfold Oper.wp
  rw [hrun]
  simp only [Oper.upon]
  rw [had]
  unfold wpList
  rw [if_pos (by simp [Region.wanted, hbg])]
  refine .inl ?_
  unfold Oper.wp
  rw [hrun2]
  simp only [Oper.upon]
  rw [hbd]
  obtain ⟨cells, cells2, h1, h2, h3, h4, z1, z2, i1, i2, o1, o2, hk⟩ := h'
  have hg : w.heap.size ≤ w'.heap.size := hw'.size
  have hg2 : w.heap.size ≤ (w'.alloc (.cells zs ty)).heap.size := by rw [World.size_alloc]; omega
  have hne : w'.heap.size ≠ (w'.alloc (.cells zs ty)).heap.size := by rw [World.size_alloc]; omega
  have hb : Blk ((w'.alloc (.cells zs ty)).alloc (.cells zs2 ty2)) w'.heap.size ty zs := (Blk.new w' ty zs).alloc _
  have hb2 : Blk ((w'.alloc (.cells zs ty)).alloc (.cells zs2 ty2)) (w'.alloc (.cells zs ty)).heap.size ty2 zs2 := Blk.new _ ty2 zs2
  have hU : Up w ((w'.alloc (.cells zs ty)).alloc (.cells zs2 ty2)) := (hw'.alloc _).alloc _
  refine wpList_store_row hsg ty (.tmp t) x hop w'.heap.size (h1 _ _) cells (h3 _ _) ty zs hb i1 z1 o1 ?_
  rw [hsd]
  refine wpList_store_row hsg2 ty2 (.tmp t2) x2 hop2 (w'.alloc (.cells zs ty)).heap.size (h2 _ _) cells2 (h4 _ _) ty2 zs2 (hb2.rowFar (Ne.symm hne) _) i2 z2 o2 ?_
  rw [hsd2]
  exact hk _ _ _ hg hg2 (up_row (up_row hU hg _) hg2 _) ((hb.row _).rowFar hne _) ((hb2.rowFar (Ne.symm hne) _).row _)
section
variable {ops : Array Oper} {C0 : World → Prop} {Q : Act → Prop} {a : Act} {o : Oper} {rest : List Oper}
/-- A call that hands back one of a set. -/
theorem b_callV {f : FuncId} {xs : Array Operand} {ats : Array TypeId} {args : Array Value} (V : Value → Prop) (hg : Region.wanted o (yielded ops a.tmps) = true)
    (hf : Own f) (hc : ∀ w, C0 w → Calls Try.prog f args w (fun e w' => ∃ v, e = .returned v ∧ V v ∧ Below w.heap.size w w'))
    (ho : o.op = .call { callee := .value (.func f), args := xs, argTypes := ats }) (hx : xs.toList.map a.eval = args.toList) (hk : ∀ v, V v → wpB Try.prog ops C0 Q rest (a.put o.dst v)) : wpB Try.prog ops C0 Q (o :: rest) a :=
  b_call (f := f) (args := args) V hg (by rw [ho]; rfl) hc (fun w => by rw [run_call_fn hf ho, map_eval hx]) hk
end

end Go.Proofs.Ythkbejheedffjaa
/-
  FRAMES BY WHAT IS KNOWN OF THEM: the values of some slots are told, the others are not: great functions are walked over such frames.
-/
namespace Go.Proofs.Ythkbejheedffjaa
open Go.RowKit Go.IntWalk

/-- What is told of slot j. -/
def look : List (Nat × Value) → Nat → Option Value
  | [], _ => none
  | (k, v) :: r, j => match Nat.beq k j with
    | true => some v
    | false => look r j
theorem look_cons (k j : Nat) (v : Value) (r : List (Nat × Value)) : look ((k, v) :: r) j = if k = j then some v else look r j := by
  show (match Nat.beq k j with | true => some v | false => look r j) = _
  by_cases h : k = j
  · subst h
    rw [if_pos rfl, Nat.beq_refl]
  · rw [if_neg h]
    cases e : Nat.beq k j with
    | true => exact absurd (Nat.eq_of_beq_eq_true e) h
    | false => rfl
/-- An operand's value, where it is told. -/
def ev (E : List (Nat × Value)) : Operand → Option Value
  | .tmp t => look E t
  | .const v => some v
  | .global g => some (.pointer (some ⟨g, 0, none⟩))
  | .func f => some (.func (.func f) #[] #[])
/-- Each slot that E' tells, E tells so. -/
def Sub : List (Nat × Value) → List (Nat × Value) → Prop
  | [], _ => True
  | p :: r, E => look E p.1 = some p.2 ∧ Sub r E
/-- A frame of N slots, of which E is told. -/
structure Fr (N : Nat) (E : List (Nat × Value)) (a : Act) : Prop where
  size : a.tmps.size = N
  defers : a.defers = []
  get : ∀ k v, look E k = some v → a.eval (.tmp k) = v

section
variable {N : Nat} {E E' : List (Nat × Value)} {a : Act}
theorem Fr.eval (h : Fr N E a) {x : Operand} {v : Value} (hx : ev E x = some v) : a.eval x = v := by
  cases x with
  | tmp t => exact h.get t v hx
  | const u => exact Option.some.inj hx
  | global g => exact Option.some.inj hx
  | func f => exact Option.some.inj hx
theorem Fr.put (h : Fr N E a) {k : Nat} (hk : Nat.blt k N = true) (v : Value) : Fr N ((k, v) :: E) (a.put (some k) v) := by
  have hk : k < N := by simpa using hk
  refine ⟨by simp [Act.put, h.size], h.defers, fun j u hj => ?_⟩
  rw [look_cons] at hj
  have hs : k < a.tmps.size := by rw [h.size]; exact hk
  by_cases e : k = j
  · subst e
    rw [if_pos rfl] at hj
    cases hj
    simp [Act.put, Act.eval, hs]
  · rw [if_neg e] at hj
    have h1 := h.get j u hj
    simp only [Act.put, Act.eval, Array.getD_eq_getD_getElem?] at h1 ⊢
    rw [Array.getElem?_setIfInBounds_ne (by omega)]
    exact h1
theorem Fr.sub (h : Fr N E a) (hs : Sub E' E) : Fr N E' a := by
  refine ⟨h.size, h.defers, ?_⟩
  induction E' with
  | nil => intro k v hk; cases hk
  | cons p r ih =>
    intro k v hk
    obtain ⟨j, u⟩ := p
    rw [look_cons] at hk
    by_cases e : j = k
    · subst e
      rw [if_pos rfl] at hk
      cases hk
      exact h.get _ _ hs.1
    · rw [if_neg e] at hk
      exact ih hs.2 k v hk
/-- The first frame of a call. -/
theorem Fr.start {args : Array Value} {n : Nat} (h : args.size + n = N) (E : List (Nat × Value)) (hE : ∀ k v, look E k = some v → args[k]? = some v) :
    Fr N E { tmps := args ++ Array.replicate n undef, defers := [] } := by
  refine ⟨by simp [h], rfl, fun k v hk => ?_⟩
  have h1 := hE k v hk
  have h2 := (Array.getElem?_eq_some_iff.1 h1).1
  simp only [Act.eval, Array.getD_eq_getD_getElem?]
  rw [Array.getElem?_append_left h2, h1]
  rfl
end

/-! ### Code over such frames -/
/-- Over whatever frame of which E is told. -/
def cF (P : Program) (c : Code) (Q : Exit → Act → World → Prop) (N : Nat) (E : List (Nat × Value)) (w : World) : Prop := ∀ a, Fr N E a → c.wp P Q a w
def bF (P : Program) (ops : Array Oper) (C0 : World → Prop) (Q : Act → Prop) (l : List Oper) (N : Nat) (E : List (Nat × Value)) : Prop := ∀ a, Fr N E a → wpB P ops C0 Q l a
def lF (P : Program) (ops : Array Oper) (Q : Exit → Act → World → Prop) (l : List Oper) (N : Nat) (E : List (Nat × Value)) (w : World) : Prop := ∀ a, Fr N E a → wpList P ops Q l a w
/-- What is left to do at the end of something: over whatever frame of which E is told. -/
def kF (K : Act → World → Prop) (N : Nat) (E : List (Nat × Value)) (w : World) : Prop := ∀ a, Fr N E a → K a w

section
variable {P : Program} {Q : Exit → Act → World → Prop} {N : Nat} {E E' : List (Nat × Value)} {w : World}
theorem c_sub {c : Code} (hs : Sub E' E) (h : cF P c Q N E' w) : cF P c Q N E w := fun a ha => h a (ha.sub hs)
theorem k_sub {K : Act → World → Prop} (hs : Sub E' E) (h : kF K N E' w) : kF K N E w := fun a ha => h a (ha.sub hs)
theorem c_seq {x y : Code} (h : ∀ K : Act → World → Prop, (∀ E' w', cF P y Q N E' w' → kF K N E' w') → cF P x (Exit.then K Q) N E w) : cF P (.seq x y) Q N E w := fun a ha =>
  wp_seq_k fun K hK => h K (fun _ _ h' a' ha' => hK _ _ (h' a' ha')) a ha
theorem c_cond {c : Operand} {x y : Code} (t : Bool) (hc : ev E c = some (.bool t)) (h : cF P (if t then x else y) Q N E w) : cF P (.cond c x y) Q N E w := fun a ha => wp_cond (ha.eval hc) (h a ha)
theorem c_block {id : Nat} {c : Code} (h : cF P c (Exit.inBlock id Q) N E w) : cF P (.block id c) Q N E w := fun a ha => wp_block (h a ha)
theorem c_skip (h : kF (Q .normal) N E w) : cF P .skip Q N E w := fun a ha => wp_skip (h a ha)
theorem c_exit {id : Nat} (h : kF (Q (.exit id)) N E w) : cF P (.exit id) Q N E w := fun a ha => wp_exit (h a ha)
theorem c_ret (h : kF (Q .ret) N E w) : cF P .ret Q N E w := fun a ha => wp_ret (h a ha)
/-- The end of a block by its exit. -/
theorem k_exit {id : Nat} (h : kF (Q .normal) N E w) : kF (Exit.inBlock id Q (.exit id)) N E w := fun a ha => by
  simp only [Exit.inBlock, if_true]
  exact h a ha

theorem least {σ : Type} (m : σ → Nat) (p : σ → Prop) : (∃ s, p s) → ∃ s, p s ∧ ∀ s', p s' → m s ≤ m s' := by
  rintro ⟨s, hs⟩
  have key : ∀ n s, m s ≤ n → p s → ∃ s, p s ∧ ∀ s', p s' → m s ≤ m s' := by
    intro n
    induction n with
    | zero => exact fun s hn hs => ⟨s, hs, fun s' _ => by omega⟩
    | succ n ih =>
      intro s hn hs
      by_cases h : ∃ s', p s' ∧ m s' < m s
      · obtain ⟨s', h1, h2⟩ := h
        exact ih s' (by omega) h1
      · exact ⟨s, hs, fun s' h1 => by
          by_cases h2 : m s' < m s
          · exact absurd ⟨s', h1, h2⟩ h
          · omega⟩
  exact key (m s) s (Nat.le_refl _) hs
open Classical in
/-- **A loop**: its states s, what is told of the frame and of the world at each, and what gets less. -/
theorem c_loop {σ : Type} {c : Code} (m : σ → Nat) (F : σ → List (Nat × Value)) (R : σ → World → Prop)
    (round : ∀ s w, R s w → cF P c (Exit.then (fun a' w' => ∃ s', R s' w' ∧ Fr N (F s') a' ∧ m s' < m s) Q) N (F s) w) (s0 : σ) (h0 : R s0 w) : cF P (.loop c) Q N (F s0) w := fun a ha => by
  let T : Act → World → σ → Prop := fun a w s => R s w ∧ Fr N (F s) a
  let μ : Act → World → Nat := fun a w => if h : ∃ s, T a w s then m (Classical.choose (least m (T a w) h)) else 0
  have hμ : ∀ a w (h : ∃ s, T a w s), ∃ s, T a w s ∧ (∀ s', T a w s' → m s ≤ m s') ∧ μ a w = m s := fun a w h => by
    refine ⟨Classical.choose (least m (T a w) h), (Classical.choose_spec (least m (T a w) h)).1, (Classical.choose_spec (least m (T a w) h)).2, ?_⟩
    show (if h : ∃ s, T a w s then m (Classical.choose (least m (T a w) h)) else 0) = _
    rw [dif_pos h]
  refine wp_loop (fun a w => ∃ s, T a w s) μ ⟨s0, h0, ha⟩ fun a w hI => ?_
  obtain ⟨s, hs, _, e⟩ := hμ a w hI
  refine wp_mono (round s w hs.1 a hs.2) fun x a' w' hx => ?_
  cases x with
  | normal =>
    obtain ⟨s', h1, h2, h3⟩ := hx
    have hI' : ∃ s, T a' w' s := ⟨s', h1, h2⟩
    obtain ⟨s2, hs2, hm2, e2⟩ := hμ a' w' hI'
    refine ⟨hI', ?_⟩
    rw [e, e2]
    exact Nat.lt_of_le_of_lt (hm2 s' ⟨h1, h2⟩) h3
  | exit _ => exact hx
  | goto _ => exact hx
  | ret => exact hx
  | panic _ => exact hx
  | outgrown => exact hx
/-- The end of a loop's round. -/
theorem k_round {σ : Type} {m : σ → Nat} {F : σ → List (Nat × Value)} {R : σ → World → Prop} {s : σ} (s' : σ) (hs : Sub (F s') E) (hR : R s' w) (hm : m s' < m s) :
    kF (fun a' w' => ∃ s', R s' w' ∧ Fr N (F s') a' ∧ m s' < m s) N E w := fun _ ha => ⟨s', hR, ha.sub hs, hm⟩
end

/-! ### Regions -/
section
variable {P : Program} {Q : Exit → Act → World → Prop} {N : Nat} {E : List (Nat × Value)} {w : World} {id : Nat} {l : List Oper}
theorem c_q (hm : P.follows .mixedOrders = true) (hB : tailB l.toArray l.length 0 0 = true) (hQ : ∀ c a d v w, Q (.panic c) (a.put d v) w → Q (.panic c) a w)
    (h : bF P l.toArray (Up w) (fun a' => ∀ w', Up w w' → Q .normal a' w') l N E) : cF P (.region id l.toArray true) Q N E w := fun a ha => reg_q hm hB hQ (h a ha)
theorem c_qF (h : bF P l.toArray (Up w) (fun a' => ∀ w', Up w w' → Q .normal a' w') l N E) : cF P (.region id l.toArray false) Q N E w := fun a ha => reg_qF (h a ha)
/-- Reads and calls, then the rest of the region in its order. -/
theorem c_t (n : Nat) (hn : n ≤ l.length) (hm : P.follows .mixedOrders = true) (hB : tailB l.toArray n 0 (l.drop n).length = true) (hQ : ∀ c a d v w, Q (.panic c) (a.put d v) w → Q (.panic c) a w)
    (h : bF P l.toArray (Up w) (fun a' => ∀ w', Up w w' → wpList P l.toArray Q (l.drop n) a' w') (l.take n) N E) : cF P (.region id l.toArray true) Q N E w := fun a ha =>
  region_B n (Up w) hn hm hB (fun _ _ h k => h.step k) (Up.drew w) hQ (h a ha)
theorem c_tF (n : Nat) (h : bF P l.toArray (Up w) (fun a' => ∀ w', Up w w' → wpList P l.toArray Q (l.drop n) a' w') (l.take n) N E) : cF P (.region id l.toArray false) Q N E w := fun a ha => reg_tailF n (h a ha)
theorem c_lit (h : lF P l.toArray Q l N E w) : cF P (.region id l.toArray false) Q N E w := fun a ha => wp_region_lit (h a ha)
end

/-! ### Steps -/
section
variable {P : Program} {ops : Array Oper} {C0 : World → Prop} {Q : Act → Prop} {N : Nat} {E : List (Nat × Value)} {o : Oper} {rest : List Oper} {k : Nat}
theorem f_val (v : Value) (hg : o.guard = none) (hd : o.dst = some k) (hk : Nat.blt k N = true) (h : ∀ a, Fr N E a → ∀ w, C0 w → (execOp a.eval o).run P w = .ok (.value v) w) (hn : bF P ops C0 Q rest N ((k, v) :: E)) :
    bF P ops C0 Q (o :: rest) N E := fun a ha => b_val (by simp [Region.wanted, hg]) (h a ha) (by rw [hd]; exact hn _ (ha.put hk v))
theorem f_move {x : Operand} (v : Value) (hg : o.guard = none) (hd : o.dst = some k) (hk : Nat.blt k N = true) (ho : o.op = .move x) (hx : ev E x = some v) (hn : bF P ops C0 Q rest N ((k, v) :: E)) : bF P ops C0 Q (o :: rest) N E :=
  f_val v hg hd hk (fun a ha w _ => by
    have h1 := ha.eval hx
    unfold execOp
    simp only [ho, h1, Sem.run_pure]) hn
theorem f_assign {x : Operand} (v : Value) (hg : o.guard = none) (hd : o.dst = some k) (hk : Nat.blt k N = true) (ho : o.op = .assign x) (hx : ev E x = some v) (hn : bF P ops C0 Q rest N ((k, v) :: E)) : bF P ops C0 Q (o :: rest) N E :=
  f_val v hg hd hk (fun a ha w _ => by
    have h1 := ha.eval hx
    unfold execOp
    simp only [ho, h1, Sem.run_pure]) hn
/-- What is told by one reckoning of two values, in every world. -/
theorem f_bin {b : BinOp} {t t2 : TypeId} {x y : Operand} (vx vy v : Value) (hg : o.guard = none) (hd : o.dst = some k) (hk : Nat.blt k N = true) (ho : o.op = .binOp b t x y t2) (hx : ev E x = some vx) (hy : ev E y = some vy)
    (hr : ∀ a : Act, ∀ o : Oper, o.op = .binOp b t x y t2 → a.eval x = vx → a.eval y = vy → ∀ w, (execOp a.eval o).run P w = .ok (.value v) w) (hn : bF P ops C0 Q rest N ((k, v) :: E)) : bF P ops C0 Q (o :: rest) N E :=
  f_val v hg hd hk (fun a ha w _ => hr a o ho (ha.eval hx) (ha.eval hy) w) hn
theorem f_nil (h : ∀ a, Fr N E a → Q a) : bF P ops C0 Q [] N E := fun a ha => wpB_nil (h a ha)
end
/-- The end of a region of reads and calls. -/
theorem f_end {P : Program} {ops : Array Oper} {Q : Exit → Act → World → Prop} {N : Nat} {E : List (Nat × Value)} {w : World} (h : ∀ w', Up w w' → kF (Q .normal) N E w') :
    bF P ops (Up w) (fun a' => ∀ w', Up w w' → Q .normal a' w') [] N E := fun a ha => wpB_nil fun w' hw' => h w' hw' a ha

section
variable {ops : Array Oper} {C0 : World → Prop} {Q : Act → Prop} {N : Nat} {E : List (Nat × Value)} {o : Oper} {rest : List Oper} {k : Nat}
/-- A call that hands back one value. -/
theorem f_call {f : FuncId} {xs : Array Operand} {ats : Array TypeId} (args : Array Value) (v : Value) (hg : o.guard = none) (hd : o.dst = some k) (hk : Nat.blt k N = true)
    (hf : Own f) (hc : ∀ w, C0 w → Calls Try.prog f args w (fun e w' => e = .returned v ∧ Below w.heap.size w w'))
    (ho : o.op = .call { callee := .value (.func f), args := xs, argTypes := ats }) (hx : xs.toList.map (ev E) = args.toList.map some) (hn : bF Try.prog ops C0 Q rest N ((k, v) :: E)) : bF Try.prog ops C0 Q (o :: rest) N E := fun a ha => by
  refine b_oneC (v := v) (args := args) (by simp [Region.wanted, hg]) hf hc ho ?_ (by rw [hd]; exact hn _ (ha.put hk v))
  have key : ∀ (l : List Operand) (m : List Value), l.map (ev E) = m.map some → l.map a.eval = m := by
    intro l
    induction l with
    | nil => intro m h; cases m with
      | nil => rfl
      | cons => cases h
    | cons y l ih => intro m h; cases m with
      | nil => cases h
      | cons u m =>
        simp only [List.map_cons, List.cons.injEq] at h ⊢
        exact ⟨ha.eval h.1, ih m h.2⟩
  exact key _ _ hx

/-! Numbers -/
theorem f_addI {x y : Operand} (m n r : Int) (hg : o.guard = none) (hd : o.dst = some k) (hk : Nat.blt k N = true) (ho : o.op = .binOp .add 3 x y 3) (hx : ev E x = some (.int .i64 m)) (hy : ev E y = some (.int .i64 n))
    (hr : IntKind.i64.wrap (m + n) = r) (hn : bF Try.prog ops C0 Q rest N ((k, .int .i64 r) :: E)) : bF Try.prog ops C0 Q (o :: rest) N E :=
  f_val _ hg hd hk (fun a ha w _ => by
    have h1 := ha.eval hx
    have h2 := ha.eval hy
    unfold execOp
    simp only [ho, h1, h2]
    go_simp) hn
theorem f_subI {x y : Operand} (m n r : Int) (hg : o.guard = none) (hd : o.dst = some k) (hk : Nat.blt k N = true) (ho : o.op = .binOp .sub 3 x y 3) (hx : ev E x = some (.int .i64 m)) (hy : ev E y = some (.int .i64 n))
    (hr : IntKind.i64.wrap (m - n) = r) (hn : bF Try.prog ops C0 Q rest N ((k, .int .i64 r) :: E)) : bF Try.prog ops C0 Q (o :: rest) N E :=
  f_val _ hg hd hk (fun a ha w _ => by
    have h1 := ha.eval hx
    have h2 := ha.eval hy
    unfold execOp
    simp only [ho, h1, h2]
    go_simp) hn
theorem f_mulI {x y : Operand} (m n r : Int) (hg : o.guard = none) (hd : o.dst = some k) (hk : Nat.blt k N = true) (ho : o.op = .binOp .mul 3 x y 3) (hx : ev E x = some (.int .i64 m)) (hy : ev E y = some (.int .i64 n))
    (hr : IntKind.i64.wrap (m * n) = r) (hn : bF Try.prog ops C0 Q rest N ((k, .int .i64 r) :: E)) : bF Try.prog ops C0 Q (o :: rest) N E :=
  f_val _ hg hd hk (fun a ha w _ => by
    have h1 := ha.eval hx
    have h2 := ha.eval hy
    unfold execOp
    simp only [ho, h1, h2]
    go_simp) hn
theorem f_lssI {x y : Operand} {t : TypeId} (m n : Int) (q : Bool) (hg : o.guard = none) (hd : o.dst = some k) (hk : Nat.blt k N = true) (ho : o.op = .binOp .lss 3 x y t) (hx : ev E x = some (.int .i64 m)) (hy : ev E y = some (.int .i64 n))
    (hr : decide (m < n) = q) (hn : bF Try.prog ops C0 Q rest N ((k, .bool q) :: E)) : bF Try.prog ops C0 Q (o :: rest) N E :=
  f_val _ hg hd hk (fun a ha w _ => by
    have h1 := ha.eval hx
    have h2 := ha.eval hy
    subst hr
    unfold execOp
    simp only [ho, h1, h2]
    go_simp) hn
theorem f_notU {x : Operand} {t : TypeId} (m r : Int) (hg : o.guard = none) (hd : o.dst = some k) (hk : Nat.blt k N = true) (ho : o.op = .unOp .xor t x) (hx : ev E x = some (.int .u64 m))
    (hr : bits .xor .u64 (if IntKind.u64.signed = true then -1 else IntKind.u64.max) m = r) (hn : bF Try.prog ops C0 Q rest N ((k, .int .u64 r) :: E)) : bF Try.prog ops C0 Q (o :: rest) N E :=
  f_val _ hg hd hk (fun a ha w _ => by
    have h1 := ha.eval hx
    subst hr
    unfold execOp
    simp only [ho, h1]
    go_simp) hn
end
end Go.Proofs.Ythkbejheedffjaa
/-
  REGIONS THAT DRAW THEIR ORDER, AND MAKE MEMORY: from the walk in the text's order to every order; the check of a region; walks over frames by what is known of them.
-/
namespace Go.Proofs.Ythkbejheedffjaa
open Go.RowKit Go.IntWalk

/-! ### Who waits for whom -/
inductive Waits (ops : Array Oper) : Nat → Nat → Prop
  | edge {j i : Nat} {o : Oper} (hj : ops[j]? = some o) (h : edgeTo .any o i = true) : Waits ops j i
  | via {j m i : Nat} {o : Oper} (hj : ops[j]? = some o) (h : edgeTo .any o m = true) (hm : Waits ops m i) : Waits ops j i
theorem edgeTo_spec {o : Oper} {i : Nat} (h : edgeTo .any o i = true) : ∃ e ∈ o.after, Region.binds .any e = true ∧ e.on = i := by
  unfold edgeTo at h
  obtain ⟨e, he, hb⟩ := Array.any_eq_true'.1 h
  simp only [Bool.and_eq_true, beq_iff_eq] at hb
  exact ⟨e, he, hb.1, hb.2⟩
theorem Closed.waits' {ops : Array Oper} {listed : Array Bool} (hc : Closed .any ops listed) {j i : Nat} (h : Waits ops j i) : ∀ o, ops[j]? = some o → (∀ e ∈ o.after, Region.binds .any e = true → listed.getD e.on false = true) → listed.getD i false = true := by
  induction h with
  | edge hj h =>
    intro o ho hl
    obtain rfl := Option.some.inj (hj.symm.trans ho)
    obtain ⟨e, he, hb, rfl⟩ := edgeTo_spec h
    exact hl e he hb
  | @via j m i o' hj h hm ih =>
    intro o ho hl
    obtain rfl := Option.some.inj (hj.symm.trans ho)
    obtain ⟨e, he, hb, rfl⟩ := edgeTo_spec h
    have h1 := hl e he hb
    obtain ⟨om, hom⟩ : ∃ om, ops[e.on]? = some om := by cases hm with
      | edge hj _ => exact ⟨_, hj⟩
      | via hj _ _ => exact ⟨_, hj⟩
    exact ih om hom (hc _ om hom h1)

def maskE (ms : List Nat) : List Edge → Nat
  | [] => 0
  | e :: l => if Region.binds .any e then (2 ^ e.on ||| ms.getD e.on 0) ||| maskE ms l else maskE ms l
def maskL : List Oper → List Nat → List Nat
  | [], ms => ms
  | o :: l, ms => maskL l (ms ++ [maskE ms o.after.toList])
theorem maskE_spec {ms : List Nat} {i : Nat} : ∀ {l : List Edge}, (maskE ms l).testBit i = true → ∃ e ∈ l, Region.binds .any e = true ∧ (e.on = i ∨ ∃ b, ms[e.on]? = some b ∧ b.testBit i = true)
  | [], h => by simp [maskE] at h
  | e :: l, h => by
    unfold maskE at h
    split at h
    · rename_i hb
      rw [Nat.testBit_or, Nat.testBit_or] at h
      simp only [Bool.or_eq_true] at h
      rcases h with (h | h) | h
      · refine ⟨e, by simp, hb, .inl ?_⟩
        rw [Nat.testBit_two_pow] at h
        simpa using h
      · refine ⟨e, by simp, hb, .inr ?_⟩
        rw [List.getD_eq_getElem?_getD] at h
        cases hm : ms[e.on]? with
        | none => rw [hm] at h; simp at h
        | some b => rw [hm] at h; exact ⟨b, rfl, h⟩
      · obtain ⟨e', he, h'⟩ := maskE_spec h
        exact ⟨e', List.mem_cons_of_mem _ he, h'⟩
    · obtain ⟨e', he, h'⟩ := maskE_spec h
      exact ⟨e', List.mem_cons_of_mem _ he, h'⟩
def OkM (ops : Array Oper) (ms : List Nat) : Prop := ∀ j b i : Nat, ms[j]? = some b → b.testBit i = true → Waits ops j i
theorem maskL_ok {ops : Array Oper} : ∀ (l : List Oper) (ms : List Nat), (∀ j, j < l.length → l[j]? = ops[ms.length + j]?) → OkM ops ms → OkM ops (maskL l ms)
  | [], _, _, h => h
  | o :: l, ms, hl, h => by
    unfold maskL
    refine maskL_ok l _ (fun j hj => ?_) ?_
    · have := hl (j + 1) (by simpa using hj)
      simpa [Nat.add_assoc, Nat.add_comm 1 j] using this
    · intro j b i hj hb
      rw [List.getElem?_append] at hj
      split at hj
      · exact h j b i hj hb
      · rename_i hlt
        have h0 : j - ms.length = 0 := by
          by_cases e : j - ms.length = 0
          · exact e
          · exfalso
            obtain ⟨k, hk⟩ : ∃ k, j - ms.length = k + 1 := ⟨j - ms.length - 1, by omega⟩
            rw [hk] at hj
            simp at hj
        obtain rfl : j = ms.length := by omega
        rw [h0] at hj
        simp only [List.getElem?_cons_zero, Option.some.injEq] at hj
        subst hj
        have ho : ops[ms.length]? = some o := by simpa using (hl 0 (by simp)).symm
        obtain ⟨e, he, hbd, h5⟩ := maskE_spec hb
        have he' : e ∈ o.after := by simpa using he
        have hed : edgeTo .any o e.on = true := by
          unfold edgeTo
          exact Array.any_eq_true'.2 ⟨e, he', by simp [hbd]⟩
        rcases h5 with rfl | ⟨b, hb1, hb2⟩
        · exact .edge ho hed
        · exact .via ho hed (h _ b i hb1 hb2)

/-! ### The check of a region -/
def othersH (ops : Array Oper) (o : Oper) (k : Nat) : List Oper → List Nat → Bool
  | [], _ => true
  | _ :: _, [] => false
  | x :: l, m :: ms => (m.testBit k || (o.apart ops x && (stillG x.op || !multiG o.op))) && othersH ops o k l ms
def headH (ops : Array Oper) : List Oper → List Nat → Nat → Bool
  | [], _, _ => true
  | _ :: _, [], _ => false
  | o :: l, _ :: ms, k => o.after.all (fun e => !Region.binds .any e || decide (e.on < k)) && othersH ops o k l ms && headH ops l ms (k + 1)
/-- n operations are walked in the text's order; the m others, forced, wait for all of them. -/
def tailH (ops : Array Oper) (n m : Nat) : Bool :=
  Region.noSelect ops && headH ops (ops.toList.take n) (maskL ops.toList []) 0 && (match (maskL ops.toList [])[n]? with | none => true | some b => (List.range n).all b.testBit) &&
    decide (ops.size = m + n) && forcedB .any ops m n (marks n 0 (Array.replicate ops.size false))
theorem others_ok {ops : Array Oper} {o : Oper} {k : Nat} : ∀ {l : List Oper} {ms : List Nat}, othersH ops o k l ms = true → ∀ (j : Nat) (x : Oper), l[j]? = some x → ∃ m, ms[j]? = some m ∧ (m.testBit k = true ∨ (o.apart ops x = true ∧ (stillG x.op = true ∨ multiG o.op = false)))
  | [], _, _, j, x, hx => by simp at hx
  | _ :: _, [], h, _, _, _ => by cases h
  | y :: l, m :: ms, h, 0, x, hx => by
    simp only [List.getElem?_cons_zero, Option.some.injEq] at hx
    subst hx
    simp only [othersH, Bool.and_eq_true, Bool.or_eq_true, Bool.not_eq_true'] at h
    exact ⟨m, rfl, h.1⟩
  | y :: l, m :: ms, h, j + 1, x, hx => by
    simp only [othersH, Bool.and_eq_true] at h
    obtain ⟨m', h1, h2⟩ := others_ok h.2 j x (by simpa using hx)
    exact ⟨m', by simpa using h1, h2⟩
theorem head_ok {ops : Array Oper} : ∀ {l : List Oper} {ms : List Nat} {k : Nat}, headH ops l ms k = true → ∀ (i j : Nat) (x y : Oper), i < j → l[i]? = some x → l[j]? = some y → ∃ m, ms[j]? = some m ∧ (m.testBit (k + i) = true ∨ (x.apart ops y = true ∧ (stillG y.op = true ∨ multiG x.op = false)))
  | [], _, _, _, i, _, x, _, _, hx, _ => by simp at hx
  | _ :: _, [], _, h, _, _, _, _, _, _, _ => by cases h
  | o :: l, m :: ms, k, h, 0, 0, x, y, hij, _, _ => absurd hij (by omega)
  | o :: l, m :: ms, k, h, 0, j + 1, x, y, _, hx, hy => by
    simp only [headH, Bool.and_eq_true] at h
    simp only [List.getElem?_cons_zero, Option.some.injEq] at hx
    subst hx
    obtain ⟨m', h1, h2⟩ := others_ok h.1.2 j y (by simpa using hy)
    exact ⟨m', by simpa using h1, h2⟩
  | o :: l, m :: ms, k, h, i + 1, 0, x, y, hij, _, _ => absurd hij (by omega)
  | o :: l, m :: ms, k, h, i + 1, j + 1, x, y, hij, hx, hy => by
    simp only [headH, Bool.and_eq_true] at h
    obtain ⟨m', h1, h2⟩ := head_ok h.2 i j x y (by omega) (by simpa using hx) (by simpa using hy)
    exact ⟨m', by simpa using h1, by rwa [show k + (i + 1) = k + 1 + i by omega]⟩
theorem head_low {ops : Array Oper} : ∀ {l : List Oper} {ms : List Nat} {k : Nat}, headH ops l ms k = true → ∀ (i : Nat) (x : Oper), l[i]? = some x → ∀ e ∈ x.after, Region.binds .any e = true → e.on < k + i
  | [], _, _, _, i, x, hx => by simp at hx
  | _ :: _, [], _, h, _, _, _ => by cases h
  | o :: l, m :: ms, k, h, 0, x, hx => fun e he hb => by
    simp only [headH, Bool.and_eq_true] at h
    simp only [List.getElem?_cons_zero, Option.some.injEq] at hx
    subst hx
    have h5 := Array.all_eq_true'.1 h.1.1 e he
    simpa [hb] using h5
  | o :: l, m :: ms, k, h, i + 1, x, hx => fun e he hb => by
    simp only [headH, Bool.and_eq_true] at h
    have := head_low h.2 i x (by simpa using hx) e he hb
    omega

/-! ### Every order -/
/-- What is left: the operations l of the first n. -/
structure Pend (ops : Array Oper) (n : Nat) (l : List (Nat × Oper)) (listed : Array Bool) : Prop where
  size : listed.size = ops.size
  mem : ∀ x ∈ l, ops[x.1]? = some x.2 ∧ x.1 < n ∧ listed.getD x.1 true = false
  out : ∀ j o, j < n → ops[j]? = some o → listed.getD j true = false → (j, o) ∈ l
  tail : ∀ j, n ≤ j → j < ops.size → listed.getD j true = false
  sort : l.Pairwise fun x y => x.1 < y.1
  closed : Closed .any ops listed
theorem getD_in {listed : Array Bool} {j : Nat} (h : j < listed.size) : listed.getD j true = listed.getD j false := by
  simp only [Array.getD_eq_getD_getElem?]
  rw [Array.getElem?_eq_getElem h]
  rfl
theorem Pend.step {ops : Array Oper} {n i : Nat} {o : Oper} {l1 l2 : List (Nat × Oper)} {listed : Array Bool} (h : Pend ops n (l1 ++ (i, o) :: l2) listed) (hr : i ∈ Region.ready .any ops listed) : Pend ops n (l1 ++ l2) (listed.setIfInBounds i true) := by
  have hs := h.sort
  rw [List.pairwise_append, List.pairwise_cons] at hs
  have hm := h.mem (i, o) (by simp)
  have hil : i < listed.size := by rw [h.size]; exact (Array.getElem?_eq_some_iff.1 hm.1).1
  refine ⟨by rw [Array.size_setIfInBounds, h.size], fun x hx => ?_, fun j o' hj ho hl => ?_, fun j hj hjs => ?_, ?_, h.closed.set hr⟩
  · have hne : i ≠ x.1 := by
      rcases List.mem_append.1 hx with h1 | h1
      · have := hs.2.2 x h1 (i, o) (by simp)
        dsimp only at this
        omega
      · have := hs.2.1.1 x h1
        dsimp only at this
        omega
    obtain ⟨h1, h2, h3⟩ := h.mem x (by
      rcases List.mem_append.1 hx with h1 | h1
      · exact List.mem_append_left _ h1
      · exact List.mem_append_right _ (List.mem_cons_of_mem _ h1))
    exact ⟨h1, h2, by rw [getD_set_ne true hne]; exact h3⟩
  · by_cases e : i = j
    · subst e
      simp [hil] at hl
    · rw [getD_set_ne true e] at hl
      have h1 := h.out j o' hj ho hl
      rcases List.mem_append.1 h1 with h2 | h2
      · exact List.mem_append_left _ h2
      · rcases List.mem_cons.1 h2 with h3 | h3
        · injection h3 with h4 h5
          exact absurd h4.symm e
        · exact List.mem_append_right _ h3
  · rw [getD_set_ne true (by have := hm.2.1; dsimp only at this; omega)]
    exact h.tail j hj hjs
  · exact h.sort.sublist (List.Sublist.append (List.Sublist.refl _) (List.sublist_cons_self _ _))

/-- What is asked where the n operations are done. -/
def endG (P : Program) (ops : Array Oper) (Q : Exit → Act → World → Prop) (C0 : World → Prop) (T : List Oper) (F : Facts) (a : Act) : Prop := ∀ w, C0 w → (∀ k, F k w) → wpList P ops Q T a w
theorem endG_mono {P : Program} {ops : Array Oper} {Q : Exit → Act → World → Prop} {C0 : World → Prop} {T : List Oper} : ∀ (F F' : Facts) (a : Act), (∀ k w, F' k w → F k w) → endG P ops Q C0 T F a → endG P ops Q C0 T F' a :=
  fun _ _ _ h hh w hw hF => hh w hw fun k => h k w (hF k)

section
variable {P : Program} {Rel : World → World → Prop} {ops : Array Oper} {Q : Exit → Act → World → Prop} {C0 : World → Prop}
theorem reg_any (hcl : ∀ w w', C0 w → Rel w w' → C0 w') {n : Nat} {T : List Oper} (hB : tailH ops n T.length = true) (hT : ∀ j, j < T.length → T[j]? = ops[n + j]?) :
    ∀ (N : Nat) (l : List (Nat × Oper)) (listed : Array Bool) (F : Facts) (a : Act) (w : World), l.length = N → Pend ops n l listed → GoodF Rel C0 F w → Unl l F →
      wpG P Rel ops C0 (endG P ops Q C0 T) l F a → wpAny P .any ops Q (T.length + N) listed a w := by
  simp only [tailH, Bool.and_eq_true, decide_eq_true_eq] at hB
  obtain ⟨⟨⟨⟨hsel, hh⟩, hsk⟩, hsz⟩, hf⟩ := hB
  have hM : OkM ops (maskL ops.toList []) := maskL_ok ops.toList [] (fun j _ => by simp) (fun j b i hj => by simp at hj)
  have htk : ∀ (j : Nat) (o : Oper), j < n → ops[j]? = some o → (ops.toList.take n)[j]? = some o := fun j o hj ho => by
    rw [List.getElem?_take, if_pos hj]
    simpa using ho
  have hI : Inv ops n (marks n 0 (Array.replicate ops.size false)) := by
    have := Inv.marks (listed := #[]) n (Inv.start (ops := ops))
    rwa [Nat.zero_add] at this
  intro N
  induction N with
  | zero =>
    intro l listed F a w hl hP hG hU h
    obtain rfl := List.eq_nil_of_length_eq_zero hl
    have e : listed = marks n 0 (Array.replicate ops.size false) := by
      have hms : ∀ (k m : Nat) (x : Array Bool), (marks k m x).size = x.size := by
        intro k
        induction k with
        | zero => intro m x; rfl
        | succ k ih => intro m x; rw [marks, ih, Array.size_setIfInBounds]
      refine Array.ext (by rw [hms, hP.size, Array.size_replicate]) fun j h1 h2 => ?_
      have hj : j < ops.size := by rw [← hP.size]; exact h1
      have h3 := hI j hj
      rw [Array.getElem?_eq_getElem h2] at h3
      injection h3 with h3
      rw [h3]
      have h4 : listed.getD j true = listed[j] := by
        simp only [Array.getD_eq_getD_getElem?]
        rw [Array.getElem?_eq_getElem h1]
        rfl
      by_cases hjn : j < n
      · rw [decide_eq_true hjn]
        cases hv : listed[j] with
        | true => rfl
        | false =>
          have h5 := hP.out j ops[j] hjn (Array.getElem?_eq_getElem hj) (h4.trans hv)
          simp at h5
      · rw [decide_eq_false hjn, ← h4]
        exact hP.tail j (by omega) hj
    exact wpAny_forced T n listed a w hT (by rw [e]; exact hf) (h w hG.cls hG.all)
  | succ N ih =>
    intro l listed F a w hl hP hG hU h
    obtain ⟨x0, l0, rfl⟩ : ∃ x l', l = x :: l' := by cases l with
      | nil => simp at hl
      | cons x l => exact ⟨x, l, rfl⟩
    have hm0 := hP.mem x0 (by simp)
    have hs0 := List.pairwise_cons.1 hP.sort
    have hx0 : x0.1 ∈ Region.ready .any ops listed := by
      refine mem_ready.2 ⟨hm0.2.2, x0.2, hm0.1, fun e he hb => ?_⟩
      have hlow := head_low hh x0.1 x0.2 (htk _ _ hm0.2.1 hm0.1) e he hb
      rw [Nat.zero_add] at hlow
      have hes : e.on < ops.size := Nat.lt_trans hlow (Array.getElem?_eq_some_iff.1 hm0.1).1
      cases hv : listed.getD e.on false with
      | true => rfl
      | false =>
        rw [← getD_in (by rw [hP.size]; exact hes)] at hv
        have h5 := hP.out e.on ops[e.on] (by omega) (Array.getElem?_eq_getElem hes) hv
        rcases List.mem_cons.1 h5 with h6 | h6
        · rw [← h6] at hlow
          exact absurd hlow (by simp)
        · have := hs0.1 _ h6
          dsimp only at this
          omega
    refine ⟨fun h0 => (by rw [h0] at hx0; cases hx0), fun i hi => ?_⟩
    obtain ⟨hiu, o, hio, hall⟩ := mem_ready.1 hi
    have his := (Array.getElem?_eq_some_iff.1 hio).1
    have hin : i < n := by
      by_cases hin : i < n
      · exact hin
      · exfalso
        have hr : i ∈ Region.ready .any ops (marks n 0 (Array.replicate ops.size false)) := mem_ready.2 ⟨hI.out his (by omega) true, o, hio, fun e he hb => by
          have h5 := hall e he hb
          have hes : e.on < ops.size := by
            rcases Nat.lt_or_ge e.on listed.size with h6 | h6
            · rw [← hP.size]; exact h6
            · simp [Array.getElem?_eq_none h6] at h5
          by_cases hen : e.on < n
          · exact hI.in_ hes hen false
          · have h6 := hP.tail e.on (by omega) hes
            rw [getD_in (by rw [hP.size]; exact hes), h5] at h6
            cases h6⟩
        have hw : Waits ops i x0.1 := by
          cases hTl : T.length with
          | zero =>
            rw [hTl] at hf
            simp only [forcedB, List.isEmpty_iff] at hf
            rw [hf] at hr
            cases hr
          | succ m =>
            rw [hTl] at hf
            simp only [forcedB, Bool.and_eq_true, decide_eq_true_eq] at hf
            rw [hf.1, List.mem_singleton] at hr
            subst hr
            cases hms : (maskL ops.toList [])[i]? with
            | none =>
              exfalso
              have hlen : ∀ (l : List Oper) (ms : List Nat), (maskL l ms).length = l.length + ms.length := by
                intro l
                induction l with
                | nil => intro ms; simp [maskL]
                | cons o l ih => intro ms; rw [maskL, ih]; simp; omega
              rw [List.getElem?_eq_none_iff, hlen] at hms
              simp at hms
              omega
            | some b =>
              rw [hms] at hsk
              simp only [List.all_eq_true, List.mem_range] at hsk
              exact hM i b x0.1 hms (hsk x0.1 hm0.2.1)
        have h7 := hP.closed.waits' hw o hio hall
        have h8 := getD_ready hx0
        rw [h7] at h8
        cases h8
    have hil : (i, o) ∈ x0 :: l0 := hP.out i o hin hio hiu
    generalize x0 :: l0 = l at *
    clear hm0 hs0 hx0
    obtain ⟨l1, l2, rfl⟩ := List.append_of_mem hil
    have hs := hP.sort
    have hs' := hs
    rw [List.pairwise_append, List.pairwise_cons] at hs'
    have hnd : ((l1 ++ (i, o) :: l2).map (·.1)).Nodup := List.Pairwise.map _ (fun _ _ h => Nat.ne_of_lt h) hs
    have hp : ∀ x ∈ l1, PairG ops x (i, o) := fun x hx => by
      have hlt := hs'.2.2 x hx (i, o) (by simp)
      dsimp only at hlt
      have hm := hP.mem x (List.mem_append_left _ hx)
      have hxu := hm.2.2
      have hxs : x.1 < listed.size := by rw [hP.size]; exact (Array.getElem?_eq_some_iff.1 hm.1).1
      rw [getD_in hxs] at hxu
      obtain ⟨m, h1, h2⟩ := head_ok hh x.1 i x.2 o hlt (htk _ _ hm.2.1 hm.1) (htk _ _ hin hio)
      rw [Nat.zero_add] at h2
      have h3 : x.2.apart ops o = true ∧ (stillG o.op = true ∨ multiG x.2.op = false) := by
        rcases h2 with h2 | h2
        · have h7 := hP.closed.waits' (hM i m x.1 h1 h2) o hio hall
          rw [h7] at hxu
          cases hxu
        · exact h2
      refine ⟨Nat.ne_of_lt hlt, h3.1, fun e he hb hon => ?_, fun e he hb hon => ?_, h3.2, fun cs b => Region.noSelect_spec hsel x.1 x.2 cs b hm.1, fun cs b => Region.noSelect_spec hsel i o cs b hio⟩
      · have h7 := hall e he hb
        rw [hon, hxu] at h7
        cases h7
      · have h7 := head_low hh x.1 x.2 (htk _ _ hm.2.1 hm.1) e he hb
        dsimp only at hon
        omega
    have h9 := frontG hcl endG_mono (i, o) l2 l1 F a w hp hnd hG hU h
    have hP' := hP.step hi
    have hU' : Unl (l1 ++ l2) F := fun x hx => hU x (by
      rcases List.mem_append.1 hx with h1 | h1
      · exact List.mem_append_left _ h1
      · exact List.mem_append_right _ (List.mem_cons_of_mem _ h1))
    have hi' : i ∉ (l1 ++ l2).map (·.1) := fun hmem => by
      obtain ⟨x, hx, hxi⟩ := List.mem_map.1 hmem
      rcases List.mem_append.1 hx with h1 | h1
      · have := hs'.2.2 x h1 (i, o) (by simp)
        dsimp only at this hxi
        omega
      · have := hs'.2.1.1 x h1
        dsimp only at this hxi
        omega
    have hlen : (l1 ++ l2).length = N := by
      simp only [List.length_append, List.length_cons] at hl ⊢
      omega
    unfold wpOp
    simp only [hio]
    unfold wpG at h9
    dsimp only at h9
    split
    · rename_i hw
      rw [if_pos hw] at h9
      obtain ⟨V, hpv, _, hy, hn⟩ := h9
      refine .inl ?_
      have h3 := hy w hG.cls (fun e _ _ => hG.all e.on)
      have fin : ∀ u w', Rel w w' → V u w' → wpAny P .any ops Q (T.length + N) (listed.setIfInBounds i true) (a.put o.dst u) w' := fun u w' hb hV => by
        have hC := hcl _ _ hG.cls hb
        have hF : ∀ k, F k w' := fun k => hG.pers k _ _ (hG.all k) hb
        exact ih (l1 ++ l2) _ _ _ w' hlen hP' (hG.up (hpv u) hC hF hV) (hU'.up hi') (hn u w' hC hF hV)
      unfold Oper.wp
      generalize (execOp a.eval o).run P w = r at *
      cases r with
      | ok n w' =>
        cases n <;> simp only [uponG] at h3 <;> simp only [Oper.upon]
        case value u => exact fin u w' h3.1 h3.2
        case skip => exact fin _ w' h3.1 h3.2
        case enter f args =>
          obtain ⟨e1, hc⟩ := h3
          rw [e1]
          exact hc.mono fun e w'' ⟨v, he, hb, hV⟩ => by subst he; exact fin v w'' hb hV
      | halt x w' => simp only [uponG] at h3
    · rename_i hw
      rw [if_neg hw] at h9
      exact ih (l1 ++ l2) _ _ _ w hlen hP' (hG.up (fun _ _ _ _ => trivial) hG.cls hG.all trivial) (hU'.up hi') h9

/-- The same where the order is the text's. -/
theorem reg_text (hcl : ∀ w w', C0 w → Rel w w' → C0 w') {T : List Oper} : ∀ (l : List (Nat × Oper)) (F : Facts) (a : Act) (w : World), GoodF Rel C0 F w → wpG P Rel ops C0 (endG P ops Q C0 T) l F a → wpList P ops Q (l.map (·.2) ++ T) a w
  | [], F, a, w, hG, h => h w hG.cls hG.all
  | x :: l, F, a, w, hG, h => by
    rw [List.map_cons, List.cons_append]
    unfold wpList
    unfold wpG at h
    split
    · rename_i hw
      rw [if_pos hw] at h
      obtain ⟨V, hpv, _, hy, hn⟩ := h
      refine .inl ?_
      have h3 := hy w hG.cls (fun e _ _ => hG.all e.on)
      have fin : ∀ u w', Rel w w' → V u w' → wpList P ops Q (l.map (·.2) ++ T) (a.put x.2.dst u) w' := fun u w' hb hV => by
        have hC := hcl _ _ hG.cls hb
        have hF : ∀ k, F k w' := fun k => hG.pers k _ _ (hG.all k) hb
        exact reg_text hcl l _ _ w' (hG.up (hpv u) hC hF hV) (hn u w' hC hF hV)
      unfold Oper.wp
      generalize (execOp a.eval x.2).run P w = r at *
      cases r with
      | ok n w' =>
        cases n <;> simp only [uponG] at h3 <;> simp only [Oper.upon]
        case value u => exact fin u w' h3.1 h3.2
        case skip => exact fin _ w' h3.1 h3.2
        case enter f args =>
          obtain ⟨e1, hc⟩ := h3
          rw [e1]
          exact hc.mono fun e w'' ⟨v, he, hb, hV⟩ => by subst he; exact fin v w'' hb hV
      | halt x w' => simp only [uponG] at h3
    · rename_i hw
      rw [if_neg hw] at h
      exact reg_text hcl l _ _ w (hG.up (fun _ _ _ _ => trivial) hG.cls hG.all trivial) h
end

/-! ### Over frames by what is known of them -/
def idx : Nat → List Oper → List (Nat × Oper)
  | _, [] => []
  | k, o :: l => (k, o) :: idx (k + 1) l
theorem idx_map : ∀ (k : Nat) (l : List Oper), (idx k l).map (·.2) = l
  | _, [] => rfl
  | k, o :: l => by rw [idx, List.map_cons, idx_map]
theorem idx_len : ∀ (k : Nat) (l : List Oper), (idx k l).length = l.length
  | _, [] => rfl
  | k, o :: l => by rw [idx, List.length_cons, idx_len, List.length_cons]
theorem idx_mem : ∀ {k : Nat} {l : List Oper} {x : Nat × Oper}, x ∈ idx k l → k ≤ x.1 ∧ l[x.1 - k]? = some x.2
  | _, [], _, h => by simp [idx] at h
  | k, o :: l, x, h => by
    rcases List.mem_cons.1 h with rfl | h
    · exact ⟨Nat.le_refl _, by simp⟩
    · obtain ⟨h1, h2⟩ := idx_mem h
      refine ⟨by omega, ?_⟩
      rw [show x.1 - k = x.1 - (k + 1) + 1 by omega]
      simpa using h2
theorem mem_idx : ∀ {k : Nat} {l : List Oper} {j : Nat} {o : Oper}, l[j]? = some o → (k + j, o) ∈ idx k l
  | _, [], _, _, h => by simp at h
  | k, x :: l, 0, o, h => by
    simp only [List.getElem?_cons_zero, Option.some.injEq] at h
    subst h
    exact List.mem_cons_self
  | k, x :: l, j + 1, o, h => by
    have h1 := mem_idx (k := k + 1) (l := l) (j := j) (o := o) (by simpa using h)
    rw [show k + (j + 1) = k + 1 + j by omega]
    exact List.mem_cons_of_mem _ h1
theorem idx_sort : ∀ (k : Nat) (l : List Oper), (idx k l).Pairwise fun x y => x.1 < y.1
  | _, [] => List.Pairwise.nil
  | k, o :: l => List.Pairwise.cons (fun x hx => by have := (idx_mem hx).1; dsimp only; omega) (idx_sort (k + 1) l)

/-- What is told of memory: by the number of the operation that left it. -/
abbrev Told := List (Nat × (World → Prop))
def lookP : Told → Nat → Option (World → Prop)
  | [], _ => none
  | (k, p) :: r, j => match Nat.beq k j with
    | true => some p
    | false => lookP r j
def farP (i : Nat) (Fa : Told) : Bool := Fa.all fun x => !Nat.beq x.1 i
/-- F says what Fa tells. -/
def Tell (Fa : Told) (F : Facts) : Prop := ∀ x ∈ Fa, ∀ w, F x.1 w → x.2 w
theorem lookP_mem : ∀ {Fa : Told} {j : Nat} {p : World → Prop}, lookP Fa j = some p → (j, p) ∈ Fa
  | [], _, _, h => by cases h
  | (k, q) :: r, j, p, h => by
    unfold lookP at h
    split at h
    · rename_i e
      obtain rfl := Nat.eq_of_beq_eq_true e
      cases h
      exact List.mem_cons_self
    · exact List.mem_cons_of_mem _ (lookP_mem h)
theorem Tell.up {Fa : Told} {F : Facts} {i : Nat} {p : World → Prop} (h : Tell Fa F) (hf : farP i Fa = true) : Tell Fa (upF F i p) := fun x hx w hw => by
  have h1 := List.all_eq_true.1 hf x hx
  have e : x.1 ≠ i := by
    rintro rfl
    simp at h1
  rw [upF_ne e] at hw
  exact h x hx w hw
theorem Tell.more {Fa : Told} {F : Facts} {i : Nat} {p : World → Prop} (h : Tell Fa F) (hf : farP i Fa = true) : Tell ((i, p) :: Fa) (upF F i p) := fun x hx w hw => by
  rcases List.mem_cons.1 hx with rfl | hx
  · rwa [upF_same] at hw
  · exact h.up hf x hx w hw

def gF (P : Program) (Rel : World → World → Prop) (ops : Array Oper) (C0 : World → Prop) (Q : Facts → Act → Prop) (l : List (Nat × Oper)) (N : Nat) (E : List (Nat × Value)) (Fa : Told) : Prop :=
  ∀ a F, Fr N E a → Tell Fa F → wpG P Rel ops C0 Q l F a
/-- What an operation may use: what those told that it waits for. -/
def Uses (o : Oper) (Fa : Told) (w : World) : Prop := ∀ j p, lookP Fa j = some p → edgeTo .any o j = true → p w

section
variable {P : Program} {Rel : World → World → Prop} {C0 : World → Prop} {Q : Exit → Act → World → Prop} {N : Nat} {E : List (Nat × Value)} {w : World} {id : Nat} {l : List Oper}
/-- Of any way for worlds to go on. -/
theorem c_gR (n : Nat) (hcl : ∀ w w', C0 w → Rel w w' → C0 w') (h0 : C0 w.drew) (hn : n ≤ l.length) (hm : P.follows .mixedOrders = true) (hB : tailH l.toArray n (l.drop n).length = true)
    (h : gF P Rel l.toArray C0 (endG P l.toArray Q C0 (l.drop n)) (idx 0 (l.take n)) N E []) : cF P (.region id l.toArray true) Q N E w := fun a ha => by
  refine wp_region_any hm ?_
  have hL : (l.take n).length = n := by rw [List.length_take]; omega
  have hG : GoodF Rel C0 (fun _ _ => True) w.drew := ⟨fun _ _ _ _ _ => trivial, h0, fun _ => trivial⟩
  have hP : Pend l.toArray n (idx 0 (l.take n)) (Array.replicate l.toArray.size false) := by
    refine ⟨by simp, fun x hx => ?_, fun j o hj ho _ => ?_, fun j _ hj => by
      have hj' : j < l.length := by simpa using hj
      simp [hj'], idx_sort _ _, Closed.none _⟩
    · obtain ⟨_, h2⟩ := idx_mem hx
      rw [Nat.sub_zero, List.getElem?_take] at h2
      split at h2
      · rename_i hlt
        have h3 : x.1 < l.length := (List.getElem?_eq_some_iff.1 h2).1
        exact ⟨by simpa using h2, hlt, by simp [h3]⟩
      · cases h2
    · have h1 := mem_idx (k := 0) (l := l.take n) (j := j) (o := o) (by rw [List.getElem?_take, if_pos hj]; simpa using ho)
      rwa [Nat.zero_add] at h1
  have h2 := reg_any (Q := Q) hcl hB (fun j _ => by simp) n (idx 0 (l.take n)) _ _ a w.drew (by rw [idx_len, hL]) hP hG (fun _ _ _ => trivial) (h a _ ha (fun x hx => by cases hx))
  have e : (l.drop n).length + n = l.toArray.size := by simp; omega
  rw [e] at h2
  exact h2
theorem c_gRF (n : Nat) (hcl : ∀ w w', C0 w → Rel w w' → C0 w') (h0 : C0 w) (h : gF P Rel l.toArray C0 (endG P l.toArray Q C0 (l.drop n)) (idx 0 (l.take n)) N E []) : cF P (.region id l.toArray false) Q N E w := fun a ha => by
  refine wp_region_lit ?_
  have hG : GoodF Rel C0 (fun _ _ => True) w := ⟨fun _ _ _ _ _ => trivial, h0, fun _ => trivial⟩
  have h2 := reg_text (Q := Q) hcl (idx 0 (l.take n)) _ a w hG (h a _ ha (fun x hx => by cases hx))
  rw [idx_map, List.take_append_drop] at h2
  exact h2
end
section
variable {P : Program} {Q : Exit → Act → World → Prop} {N : Nat} {E : List (Nat × Value)} {w : World} {id : Nat} {l : List Oper}
theorem c_g (n : Nat) (hn : n ≤ l.length) (hm : P.follows .mixedOrders = true) (hB : tailH l.toArray n (l.drop n).length = true)
    (h : gF P Bel l.toArray (Up w) (endG P l.toArray Q (Up w) (l.drop n)) (idx 0 (l.take n)) N E []) : cF P (.region id l.toArray true) Q N E w := c_gR (Rel := Bel) (C0 := Up w) n (fun _ _ h k => Up.step h k) (Up.drew w) hn hm hB h
theorem c_gF (n : Nat) (h : gF P Bel l.toArray (Up w) (endG P l.toArray Q (Up w) (l.drop n)) (idx 0 (l.take n)) N E []) : cF P (.region id l.toArray false) Q N E w := c_gRF (Rel := Bel) (C0 := Up w) n (fun _ _ h k => Up.step h k) (Up.refl w) h
end

section
variable {P : Program} {Rel : World → World → Prop} {ops : Array Oper} {C0 : World → Prop} {Q : Facts → Act → Prop} {N : Nat} {E : List (Nat × Value)} {Fa : Told} {o : Oper} {rest : List (Nat × Oper)} {i k : Nat}
/-- An operation that leaves memory. -/
theorem g_mem (V : Value → World → Prop) (hg : o.guard = none) (hd : o.dst = some k) (hk : Nat.blt k N = true) (hf : farP i Fa = true) (hm : multiG o.op = true) (hp : ∀ v, Pers Rel (V v))
    (h : ∀ a, Fr N E a → ∀ w, C0 w → Uses o Fa w → uponG P Rel w V ((execOp a.eval o).run P w)) (hn : ∀ v w, C0 w → V v w → gF P Rel ops C0 Q rest N ((k, v) :: E) ((i, V v) :: Fa)) : gF P Rel ops C0 Q ((i, o) :: rest) N E Fa := fun a F ha hF => by
  unfold wpG
  rw [if_pos (by simp [Region.wanted, hg])]
  refine ⟨V, hp, .inr hm, fun w hw he => h a ha w hw fun j p hj hed => ?_, fun v w hw _ hV => hn v w hw hV _ _ (by dsimp only; rw [hd]; exact ha.put hk v) (hF.more hf)⟩
  obtain ⟨e, h1, h2, rfl⟩ := edgeTo_spec hed
  exact hF _ (lookP_mem hj) w (he e h1 h2)
/-- An operation of the usual kind; it may use what is told. -/
theorem g_op [hR : RelOk Rel] (hf : farP i Fa = true) (h : bF P ops (fun w => C0 w ∧ Uses o Fa w) (fun a' => ∀ F, Tell Fa F → wpG P Rel ops C0 Q rest F a') [o] N E) : gF P Rel ops C0 Q ((i, o) :: rest) N E Fa := fun a F ha hF => by
  have h1 := h a ha
  unfold wpB at h1
  unfold wpG
  split
  · rename_i hw
    rw [if_pos hw] at h1
    have huse : ∀ w, (∀ e ∈ o.after, Region.binds .any e = true → F e.on w) → Uses o Fa w := fun w he j p hj hed => by
      obtain ⟨e, h1, h2, rfl⟩ := edgeTo_spec hed
      exact hF _ (lookP_mem hj) w (he e h1 h2)
    have hup : ∀ (V : Value → Prop) (w : World) (r : Result Next), uponB P w V r → uponG P Rel w (fun u _ => V u) r := fun V w r hr => by
      cases r with
      | ok n w' =>
        cases n <;> simp only [uponB] at hr <;> simp only [uponG]
        case value u => obtain ⟨rfl, h⟩ := hr; exact ⟨hR.below _ _ (Below.refl _ _), h⟩
        case skip => obtain ⟨rfl, h⟩ := hr; exact ⟨hR.below _ _ (Below.refl _ _), h⟩
        case enter f args =>
          obtain ⟨rfl, h⟩ := hr
          exact ⟨rfl, h.mono fun e w'' ⟨v, h1, h2, h3⟩ => ⟨v, h1, hR.below _ _ h3, h2⟩⟩
      | halt x w' => simp only [uponB] at hr
    rcases h1 with ⟨v, h2, h3⟩ | ⟨hp, V, h2, h3⟩
    · exact ⟨fun u _ => u = v, fun _ _ _ h _ => h, .inl ⟨v, fun _ _ h => h⟩, fun w hw he => hup (· = v) _ _ (h2 w ⟨hw, huse w he⟩), fun u w _ _ hu => by
        rw [hu]
        exact h3 _ (hF.up hf)⟩
    · refine ⟨fun u _ => V u, fun _ _ _ h _ => h, .inr ?_, fun w hw he => hup V _ _ (h2 w ⟨hw, huse w he⟩), fun u w _ _ hu => h3 u hu _ (hF.up hf)⟩
      unfold multiG
      split <;> first | rfl | exact hp
  · rename_i hw
    rw [if_neg hw] at h1
    exact h1 _ (hF.up hf)
theorem g_go (h : gF P Rel ops C0 Q rest N E Fa) : bF P ops (fun w => C0 w ∧ Uses o Fa w) (fun a' => ∀ F, Tell Fa F → wpG P Rel ops C0 Q rest F a') [] N E := fun a ha => wpB_nil fun F hF => h a F ha hF
theorem g_end {Q : Exit → Act → World → Prop} {T : List Oper} (h : ∀ w, C0 w → (∀ j p, lookP Fa j = some p → p w) → lF P ops Q T N E w) : gF P Rel ops C0 (endG P ops Q C0 T) [] N E Fa := fun a _ ha hF w hw hFw =>
  h w hw (fun j _ hj => hF _ (lookP_mem hj) w (hFw j)) a ha
end
end Go.Proofs.Ythkbejheedffjaa
/-
  WORDS OF 64 BITS: rows of words, the walk's numbers made natural; a number's words and bytes.
-/
namespace Go.Proofs.Ythkbejheedffjaa
open Go.RowKit Go.IntWalk

/-- Words as the cells of a row. -/
def Us (l : List Nat) : List Value := l.map fun x : Nat => .int .u64 (x : Int)
theorem Us_len (l : List Nat) : (Us l).length = l.length := by simp [Us]
theorem Us_one (l : List Nat) : ∀ u ∈ Us l, u.oneCell' = true := by
  intro u hu
  obtain ⟨x, _, rfl⟩ := List.mem_map.1 hu
  rfl
theorem Us_at {l : List Nat} {j : Nat} (h : j < l.length) : (Us l).toArray[j]? = some (.int .u64 (l[j]! : Nat)) := by
  simp [Us, h]
theorem Us_set (l : List Nat) (k x : Nat) : (Us l).toArray.setIfInBounds k (.int .u64 (x : Int)) = (Us (l.set k x)).toArray := by
  simp [Us, List.map_set]

theorem maskW (a : Nat) (ha : a < 18446744073709551616) : bits .and .u64 (a : Int) 2251799813685247 = ((a % 2251799813685248 : Nat) : Int) := by
  have h := u64_and_nat a 2251799813685247 ha (by omega)
  have e : a &&& 2251799813685247 = a % 2251799813685248 := Nat.and_two_pow_sub_one_eq_mod a 51
  rw [e] at h
  exact h

theorem orW (i x y : Nat) (hx : x % 2 ^ i = 0) (hy : y < 2 ^ i) (h1 : x < 18446744073709551616) (h2 : y < 18446744073709551616) : bits .or .u64 (x : Int) (y : Int) = ((x + y : Nat) : Int) := by
  rw [u64_or_nat x y h1 h2, nat_join i x y hx hy]
/-! ### The numbers of a walk, made natural -/
theorem mask32 (a : Nat) (ha : a < 18446744073709551616) : bits .and .u64 (a : Int) 4294967295 = ((a % 4294967296 : Nat) : Int) := by
  have h := u64_and_nat a 4294967295 ha (by omega)
  have e : a &&& 4294967295 = a % 4294967296 := Nat.and_two_pow_sub_one_eq_mod a 32
  rw [e] at h
  exact h
theorem div32 (a : Nat) : (a : Int) / 4294967296 = ((a / 4294967296 : Nat) : Int) := by omega
theorem div51 (a : Nat) : (a : Int) / 2251799813685248 = ((a / 2251799813685248 : Nat) : Int) := by omega
theorem mulN (a b : Nat) : (a : Int) * (b : Int) = ((a * b : Nat) : Int) := (Int.natCast_mul a b).symm
theorem addN (a b : Nat) : (a : Int) + (b : Int) = ((a + b : Nat) : Int) := (Int.natCast_add a b).symm
theorem wrapN (a : Nat) (ha : a < 18446744073709551616) : IntKind.u64.wrap (a : Int) = (a : Int) := by rw [IntKind.wrap_u64]; omega
theorem wrapM (a : Nat) : IntKind.u64.wrap (a : Int) = ((a % 18446744073709551616 : Nat) : Int) := by rw [IntKind.wrap_u64]; omega

/-- The model's row for math/bits.Sub64. -/
def subEntry : Array Value → Sem Value := fun args => do
  let (x, y, b) ← Extern.MathBitsCarry.three "Sub64" args
  pure (Extern.MathBitsCarry.pair ((x + Extern.MathBitsCarry.m64 - y - b) % Extern.MathBitsCarry.m64) (if x < y + b then 1 else 0))
theorem run_sub {P : Program} (x y b : Nat) (hb : b ≤ 1) (w : World) :
    (subEntry #[.int .u64 x, .int .u64 y, .int .u64 b]).run P w =
      .ok (.tuple #[.int .u64 (((x + 18446744073709551616 - y - b) % 18446744073709551616 : Nat) : Int), .int .u64 ((if x < y + b then 1 else 0 : Nat) : Int)]) w := by
  have : b = 0 ∨ b = 1 := by omega
  rcases this with rfl | rfl <;> rfl

/-! ### Bytes and words -/
/-- The bytes when n of them are there. -/
def fb (l : List UInt8) (n : Nat) : List UInt8 := (List.range 32).map fun m => if m < n then l[m]! else 0
theorem fb_len (l : List UInt8) (n : Nat) : (fb l n).length = 32 := by simp [fb]
theorem fb_zero (l : List UInt8) : fb l 0 = List.replicate 32 0 := by
  apply List.ext_getElem (by simp [fb])
  intro i h1 h2
  rw [List.getElem_replicate]
  simp [fb]
theorem fb_all {l : List UInt8} (h : l.length = 32) : fb l 32 = l := by
  apply List.ext_getElem (by simp [fb, h])
  intro i h1 h2
  have h3 : i < 32 := by simpa [fb] using h1
  simp [fb, h3, h2]
theorem fb_set (l : List UInt8) {n : Nat} : (fb l n).set n l[n]! = fb l (n + 1) := by
  apply List.ext_getElem (by simp [fb])
  intro j h1 h2
  rw [List.getElem_set]
  simp only [fb, List.getElem_map, List.getElem_range]
  by_cases hjk : n = j
  · subst hjk
    simp
  · rw [if_neg hjk]
    by_cases hlt : j < n
    · rw [if_pos hlt, if_pos (by omega)]
    · rw [if_neg hlt, if_neg (by omega)]

/-- The word of 64 bits from 64 k on. -/
def wd (L k : Nat) : Nat := L / 18446744073709551616 ^ k % 18446744073709551616

theorem wd_byte (L k j : Nat) (hj : j < 8) : wd L k / 2 ^ (8 * j) % 256 = L / 256 ^ (8 * k + j) % 256 := by
  have e1 : (256 : Nat) ^ (8 * k + j) = 18446744073709551616 ^ k * 256 ^ j := by
    rw [Nat.pow_add, Nat.pow_mul]
  have e2 : (2 : Nat) ^ (8 * j) = 256 ^ j := by rw [Nat.pow_mul]
  rw [e1, e2, ← Nat.div_div_eq_div_mul]
  unfold wd
  generalize L / 18446744073709551616 ^ k = z
  have h8 : j = 0 ∨ j = 1 ∨ j = 2 ∨ j = 3 ∨ j = 4 ∨ j = 5 ∨ j = 6 ∨ j = 7 := by omega
  rcases h8 with rfl | rfl | rfl | rfl | rfl | rfl | rfl | rfl <;> simp only [Nat.reducePow] <;> omega

end Go.Proofs.Ythkbejheedffjaa
/-
  ROWS OF CELLS, AND STORES OVER FRAMES BY WHAT IS KNOWN OF THEM.
-/
namespace Go.Proofs.Ythkbejheedffjaa
open Go.RowKit Go.IntWalk

/-- The values l lie in block g from its head on, and may be written. -/
structure VL (w : World) (g : Nat) (l : List Value) : Prop where
  lt : g < w.heap.size
  cell : ∀ j v, l[j]? = some v → w.cell? ⟨g, j, none⟩ = some v
  free : ∀ j, j < l.length → w.frozen? ⟨g, j, none⟩ = false
section
variable {w w' : World} {g B : Nat} {l : List Value}
theorem VL.below (h : VL w g l) (hb : Below B w w') (hg : g < B) : VL w' g l :=
  ⟨Nat.lt_of_lt_of_le h.lt hb.size, fun j v hj => (hb.cell (p := ⟨g, j, none⟩) hg).trans (h.cell j v hj), fun j hj => (hb.frozen (p := ⟨g, j, none⟩) hg).trans (h.free j hj)⟩
theorem VL.up (h : VL w g l) (hb : Up w w') : VL w' g l := h.below hb h.lt
theorem VL.set (h : VL w g l) (k : Nat) (x : Value) : VL (w.setCell ⟨g, k, none⟩ x) g (l.set k x) := by
  refine ⟨by simpa [World.setCell] using h.lt, fun j v hj => ?_, fun j hj => ?_⟩
  · rw [List.getElem?_set] at hj
    by_cases e : k = j
    · subst e
      rw [if_pos rfl] at hj
      split at hj
      · rename_i hk
        cases hj
        exact World.cell?_setCell_same _ _ _ (h.cell k l[k] (List.getElem?_eq_getElem hk))
      · cases hj
    · rw [if_neg e] at hj
      rw [World.cell?_setCell_other _ _ _ _ (by intro he; injection he with _ he _; omega), h.cell j v hj]
  · rw [List.length_set] at hj
    rw [World.frozen?_setCell]
    exact h.free j hj
theorem VL.far (h : VL w g l) {p : Addr} (hp : g ≠ p.block) (u : Value) : VL (w.setCell p u) g l :=
  ⟨by simpa [World.setCell] using h.lt, fun j v hj => by rw [World.cell?_setCell_other _ _ _ _ (fun e => hp (by rw [e]))]; exact h.cell j v hj, fun j hj => by rw [World.frozen?_setCell]; exact h.free j hj⟩
end
theorem Us_at? {l : List Nat} {j : Nat} (h : j < l.length) : (Us l)[j]? = some (.int .u64 (l[j]! : Nat)) := by
  simp [Us, h]
theorem Us_put (l : List Nat) (k x : Nat) : (Us l).set k (.int .u64 (x : Int)) = Us (l.set k x) := by
  simp [Us, List.map_set]
theorem By_at? {l : List UInt8} {j : Nat} (h : j < l.length) : (By l)[j]? = some (.int .u8 ((l[j]!).toNat : Int)) := by
  have h1 := By_get h
  simpa using h1
theorem VL.byte {w : World} {g : Nat} {l : List UInt8} (h : VL w g (By l)) {j : Nat} (hj : j < l.length) : w.cell? ⟨g, j, none⟩ = some (.int .u8 ((l[j]!).toNat : Int)) := h.cell j _ (By_at? hj)
theorem VL.word {w : World} {g : Nat} {l : List Nat} (h : VL w g (Us l)) {j : Nat} (hj : j < l.length) : w.cell? ⟨g, j, none⟩ = some (.int .u64 (l[j]! : Nat)) := h.cell j _ (Us_at? hj)

section
variable {ops : Array Oper} {Q : Exit → Act → World → Prop} {N : Nat} {E : List (Nat × Value)} {w : World}
end
section
variable {ops : Array Oper} {C0 : World → Prop} {Q : Act → Prop} {N : Nat} {E : List (Nat × Value)} {o : Oper} {rest : List Oper} {k : Nat}
theorem f_subV {x y : Operand} {t : TypeId} (m n r : Int) (hg : o.guard = none) (hd : o.dst = some k) (hk : Nat.blt k N = true) (ho : o.op = .binOp .sub 35 x y t) (hx : ev E x = some (.int .u64 m)) (hy : ev E y = some (.int .u64 n))
    (hr : IntKind.u64.wrap (m - n) = r) (hn : bF Try.prog ops C0 Q rest N ((k, .int .u64 r) :: E)) : bF Try.prog ops C0 Q (o :: rest) N E :=
  f_val _ hg hd hk (fun a ha w _ => by
    have h1 := ha.eval hx
    have h2 := ha.eval hy
    unfold execOp
    simp only [ho, h1, h2]
    go_simp) hn
end
theorem VL.new (w : World) (l : List Value) (t : TypeId) : VL (w.alloc (.cells l.toArray t)) w.heap.size l := by
  have hb := Blk.new w t l.toArray
  exact ⟨by rw [World.size_alloc]; omega, fun j v hj => by rw [hb.cell j]; simpa using hj, fun j _ => hb.free j⟩
section
variable {ops : Array Oper} {C0 : World → Prop} {Q : Act → Prop} {N : Nat} {E : List (Nat × Value)} {o : Oper} {rest : List Oper} {k : Nat}
/-- An int as a uint, or as a word. -/
theorem f_uintI {x : Operand} (m r : Int) (hg : o.guard = none) (hd : o.dst = some k) (hk : Nat.blt k N = true) (ho : o.op = .convert 3 35 x) (hx : ev E x = some (.int .i64 m))
    (hr : IntKind.u64.wrap m = r) (hn : bF Try.prog ops C0 Q rest N ((k, .int .u64 r) :: E)) : bF Try.prog ops C0 Q (o :: rest) N E :=
  f_val _ hg hd hk (fun a ha w _ => by
    have h1 := ha.eval hx
    unfold execOp
    simp only [ho, h1]
    go_simp) hn
theorem f_geqI {x y : Operand} {t : TypeId} (m n : Int) (q : Bool) (hg : o.guard = none) (hd : o.dst = some k) (hk : Nat.blt k N = true) (ho : o.op = .binOp .geq 3 x y t) (hx : ev E x = some (.int .i64 m)) (hy : ev E y = some (.int .i64 n))
    (hr : decide (n ≤ m) = q) (hn : bF Try.prog ops C0 Q rest N ((k, .bool q) :: E)) : bF Try.prog ops C0 Q (o :: rest) N E :=
  f_val _ hg hd hk (fun a ha w _ => by
    have h1 := ha.eval hx
    have h2 := ha.eval hy
    subst hr
    unfold execOp
    simp only [ho, h1, h2]
    go_simp) hn
theorem f_neqI {x y : Operand} {t : TypeId} (m n : Int) (q : Bool) (hg : o.guard = none) (hd : o.dst = some k) (hk : Nat.blt k N = true) (ho : o.op = .binOp .neq 3 x y t) (hx : ev E x = some (.int .i64 m)) (hy : ev E y = some (.int .i64 n))
    (hr : decide (m ≠ n) = q) (hn : bF Try.prog ops C0 Q rest N ((k, .bool q) :: E)) : bF Try.prog ops C0 Q (o :: rest) N E :=
  f_val _ hg hd hk (fun a ha w _ => by
    have h1 := ha.eval hx
    have h2 := ha.eval hy
    subst hr
    unfold execOp
    simp only [ho, h1, h2]
    by_cases e : m = n <;> go_simp) hn
theorem f_remI {x y : Operand} {t : TypeId} (m n r : Int) (hz : n ≠ 0) (hg : o.guard = none) (hd : o.dst = some k) (hk : Nat.blt k N = true) (ho : o.op = .binOp .rem 3 x y t) (hx : ev E x = some (.int .i64 m)) (hy : ev E y = some (.int .i64 n))
    (hr : m.tmod n = r) (hn : bF Try.prog ops C0 Q rest N ((k, .int .i64 r) :: E)) : bF Try.prog ops C0 Q (o :: rest) N E :=
  f_val _ hg hd hk (fun a ha w _ => by
    have h1 := ha.eval hx
    have h2 := ha.eval hy
    subst hr
    unfold execOp
    simp only [ho, h1, h2]
    go_simp) hn
end
/-! ### The check of a region whose first forced operation waits for some by more than four steps -/
section
variable {ops : Array Oper}
def sinksD (f : Nat) (md : Region.Mode) (ops : Array Oper) (N : Nat) : Bool := match ops[N]? with
  | none => true
  | some o => (List.range N).all fun i => edgeTo md o i || waitsT md ops (min f ops.size) N i
def tailD (f : Nat) (ops : Array Oper) (n k m : Nat) : Bool :=
  Region.noSelect ops && headC .any ops n ops.toList 0 && chainB .any ops.toList 0 none && decide (ops.size = m + k + n) && sinksD f .any ops (k + n) &&
    forcedB .any ops m (k + n) (marks k n (marks n 0 (Array.replicate ops.size false)))
theorem tail_okD (f : Nat) {n k m : Nat} (h : tailD f ops n k m = true) : tailB ops n k m = true := by
  simp only [tailD, Bool.and_eq_true, decide_eq_true_eq] at h
  obtain ⟨⟨⟨⟨⟨h1, h2⟩, h3⟩, h4⟩, h5⟩, h6⟩ := h
  have hr : ∀ j ∈ Region.ready .any ops (marks k n (marks n 0 (Array.replicate ops.size false))), j = k + n := by
    intro j hj
    cases m with
    | zero =>
      simp only [forcedB, List.isEmpty_iff] at h6
      rw [h6] at hj
      cases hj
    | succ m =>
      simp only [forcedB, Bool.and_eq_true, decide_eq_true_eq] at h6
      rw [h6.1] at hj
      simpa using hj
  simp only [tailB, Bool.and_eq_true, decide_eq_true_eq]
  refine ⟨⟨⟨⟨h1, headB_of h3 n ops.toList 0 _ Inv.start rfl h2⟩, h4⟩, ?_⟩, h6⟩
  unfold sinksB
  rw [List.all_eq_true]
  intro j hj
  have hjk := hr j hj
  subst hjk
  obtain ⟨_, o, ho, _⟩ := mem_ready.1 hj
  unfold sinksD at h5
  rw [ho] at h5
  simp only [List.all_eq_true, List.mem_range] at h5 ⊢
  intro i hi
  have hz : 0 < ops.size := Nat.lt_of_le_of_lt (Nat.zero_le _) (Array.getElem?_eq_some_iff.1 ho).1
  obtain ⟨g, hg⟩ : ∃ g, ops.size = g + 1 := ⟨ops.size - 1, by omega⟩
  have h7 := h5 i hi
  simp only [Bool.or_eq_true] at h7
  rcases h7 with h7 | h7
  · rw [hg]
    exact waitsT_edge ho h7
  · exact waitsT_mono (Nat.min_le_right _ _) h7
end
theorem f_tail {P : Program} {ops : Array Oper} {Q : Exit → Act → World → Prop} {T : List Oper} {N : Nat} {E : List (Nat × Value)} {w : World} (h : ∀ w', Up w w' → lF P ops Q T N E w') :
    bF P ops (Up w) (fun a' => ∀ w', Up w w' → wpList P ops Q T a' w') [] N E := fun a ha => wpB_nil fun w' hw' => h w' hw' a ha
section
variable {P : Program} {ops : Array Oper} {Q : Exit → Act → World → Prop} {N : Nat} {E : List (Nat × Value)} {w : World} {o : Oper} {rest : List Oper} {k : Nat}
theorem l_nil (h : kF (Q .normal) N E w) : lF P ops Q [] N E w := fun a ha => wpl_nil (h a ha)
/-- One operation that hands back a value, whatever becomes of the world. -/
theorem l_val {w' : World} (v : Value) (hg : o.guard = none) (hd : o.dst = some k) (hk : Nat.blt k N = true) (h : ∀ a, Fr N E a → (execOp a.eval o).run P w = .ok (.value v) w') (hn : lF P ops Q rest N ((k, v) :: E) w') : lF P ops Q (o :: rest) N E w := fun a ha => by
  have h1 := h a ha
  have h2 := hn _ (ha.put hk v)
  unfold wpList
  rw [if_pos (by simp [Region.wanted, hg])]
  refine .inl ?_
  unfold Oper.wp
  rw [h1]
  simp only [Oper.upon, hd]
  exact h2
theorem l_move {x : Operand} (v : Value) (hg : o.guard = none) (hd : o.dst = some k) (hk : Nat.blt k N = true) (ho : o.op = .move x) (hx : ev E x = some v) (hn : lF P ops Q rest N ((k, v) :: E) w) : lF P ops Q (o :: rest) N E w :=
  l_val v hg hd hk (fun a ha => by
    have h1 := ha.eval hx
    unfold execOp
    simp only [ho, h1, Sem.run_pure]) hn
theorem l_assign {x : Operand} (v : Value) (hg : o.guard = none) (hd : o.dst = some k) (hk : Nat.blt k N = true) (ho : o.op = .assign x) (hx : ev E x = some v) (hn : lF P ops Q rest N ((k, v) :: E) w) : lF P ops Q (o :: rest) N E w :=
  l_val v hg hd hk (fun a ha => by
    have h1 := ha.eval hx
    unfold execOp
    simp only [ho, h1, Sem.run_pure]) hn
end
theorem calls_still {f : FuncId} {args : Array Value} {v : Value} {w : World} (h : Calls Try.prog f args w fun e w' => e = .returned v ∧ w' = w) : Calls Try.prog f args w fun e w' => e = .returned v ∧ Below w.heap.size w w' :=
  h.mono fun _ _ ⟨h1, h2⟩ => ⟨h1, by rw [h2]; exact Below.refl _ _⟩
end Go.Proofs.Ythkbejheedffjaa
/-
  NEW VARIABLES OVER FRAMES BY WHAT IS KNOWN OF THEM: 'x, y, .. := .., ..', as many as there are, in whatever order they come.
-/
namespace Go.Proofs.Ythkbejheedffjaa
open Go.RowKit Go.IntWalk

/-- A new variable: its slot, its type, its noughts. -/
structure NV where
  t : Nat
  ty : TypeId
  zs : Array Value

section
variable {P : Program} {N : Nat}
def nvOne (P : Program) (N : Nat) (o : Oper) (v : NV) : Prop := o.guard = none ∧ o.dst = some v.t ∧ Nat.blt v.t N = true ∧ o.op = .alloc v.ty ∧ (P.info? v.ty).bind (fun i => i.zero.map (·.cells)) = some v.zs
def nvOk (P : Program) (N : Nat) : List Oper → List NV → Prop
  | _, [] => True
  | [], _ :: _ => False
  | o :: l, v :: vs => nvOne P N o v ∧ nvOk P N l vs
theorem nvOk_get : ∀ {l : List Oper} {vs : List NV}, nvOk P N l vs → ∀ (j : Nat) (v : NV), vs[j]? = some v → ∃ o : Oper, l[j]? = some o ∧ nvOne P N o v
  | _, [], _, j, v, hv => by simp at hv
  | [], _ :: _, h, _, _, _ => h.elim
  | o :: l, v0 :: vs, h, 0, v, hv => by
    simp only [List.getElem?_cons_zero, Option.some.injEq] at hv
    subst hv
    exact ⟨o, rfl, h.1⟩
  | o :: l, v0 :: vs, h, j + 1, v, hv => by
    simp only [List.getElem?_cons_succ] at hv
    obtain ⟨o', h1, h2⟩ := nvOk_get h.2 j v hv
    exact ⟨o', by simpa using h1, h2⟩
end

def ptrs : List NV → Nat → (Nat → Nat) → List (Nat × Value) → List (Nat × Value)
  | [], _, _, E => E
  | v :: vs, j, gs, E => (v.t, .pointer (some ⟨gs j, 0, none⟩)) :: ptrs vs (j + 1) gs E
def far (E : List (Nat × Value)) : List NV → Prop
  | [] => True
  | v :: vs => look E v.t = none ∧ far E vs
theorem far_cons {E : List (Nat × Value)} {k : Nat} {x : Value} : ∀ {vs : List NV}, (∀ v ∈ vs, k ≠ v.t) → far E vs → far ((k, x) :: E) vs
  | [], _, _ => trivial
  | v :: vs, h, hE => ⟨by rw [look_cons, if_neg (h v (by simp))]; exact hE.1, far_cons (fun u hu => h u (by simp [hu])) hE.2⟩
theorem far_mem {E : List (Nat × Value)} : ∀ {vs : List NV}, far E vs → ∀ (j : Nat) (v : NV), vs[j]? = some v → look E v.t = none
  | [], _, j, v, hv => by simp at hv
  | v0 :: vs, h, 0, v, hv => by
    simp only [List.getElem?_cons_zero, Option.some.injEq] at hv
    subst hv
    exact h.1
  | v0 :: vs, h, j + 1, v, hv => far_mem h.2 j v (by simpa using hv)

section
variable {N : Nat} {E : List (Nat × Value)} {a : Act}
theorem Fr.putFar (h : Fr N E a) {k : Nat} (hk : look E k = none) (v : Value) : Fr N E (a.put (some k) v) := by
  refine ⟨by simp [Act.put, h.size], h.defers, fun j u hj => ?_⟩
  have e : k ≠ j := by
    rintro rfl
    rw [hk] at hj
    cases hj
  have h1 := h.get j u hj
  simp only [Act.put, Act.eval, Array.getD_eq_getD_getElem?] at h1 ⊢
  rw [Array.getElem?_setIfInBounds_ne (by omega)]
  exact h1
theorem Fr.more (h : Fr N E a) {k : Nat} {v : Value} (hv : a.eval (.tmp k) = v) : Fr N ((k, v) :: E) a := by
  refine ⟨h.size, h.defers, fun j u hj => ?_⟩
  rw [look_cons] at hj
  by_cases e : k = j
  · subst e
    rw [if_pos rfl] at hj
    cases hj
    exact hv
  · rw [if_neg e] at hj
    exact h.get j u hj
theorem Fr.tail {k : Nat} {v : Value} (h : Fr N ((k, v) :: E) a) (hk : look E k = none) : Fr N E a := by
  refine ⟨h.size, h.defers, fun j u hj => h.get j u ?_⟩
  rw [look_cons, if_neg]
  · exact hj
  · rintro rfl
    rw [hk] at hj
    cases hj
theorem eval_put_same (h : Fr N E a) {k : Nat} (hk : Nat.blt k N = true) (v : Value) : (a.put (some k) v).eval (.tmp k) = v := (h.put hk v).get k v (by rw [look_cons, if_pos rfl])
theorem eval_put_ne {k j : Nat} (hk : k ≠ j) (v : Value) : (a.put (some k) v).eval (.tmp j) = a.eval (.tmp j) := by
  simp only [Act.put, Act.eval, Array.getD_eq_getD_getElem?]
  rw [Array.getElem?_setIfInBounds_ne (by omega)]
theorem Fr.ptrs (h : Fr N E a) (gs : Nat → Nat) : ∀ (vs : List NV) (j0 : Nat), (∀ (j : Nat) (v : NV), vs[j]? = some v → a.eval (.tmp v.t) = .pointer (some ⟨gs (j0 + j), 0, none⟩)) → Fr N (ptrs vs j0 gs E) a
  | [], _, _ => h
  | v :: vs, j0, hv => by
    refine Fr.more (Fr.ptrs h gs vs (j0 + 1) fun j u hu => ?_) (hv 0 v rfl)
    have := hv (j + 1) u (by simpa using hu)
    rwa [← Nat.add_assoc, Nat.add_right_comm] at this
end

/-- Which variables are left (numbers from n on) are just what may come next, in whatever order they come. -/
def newC (ops : Array Oper) (n : Nat) (lend : Array Bool) : Nat → List Nat → Array Bool → Bool
  | 0, _, listed => decide (listed = lend)
  | f + 1, rem, listed => decide (Region.ready .any ops listed = rem.map (n + ·)) && rem.all fun j => newC ops n lend f (rem.erase j) (listed.setIfInBounds (n + j) true)

def tsApart : List NV → Bool
  | [] => true
  | v :: vs => (vs.all fun u => !(v.t == u.t)) && tsApart vs
theorem tsApart_lt : ∀ {vs : List NV}, tsApart vs = true → ∀ (i j : Nat) (vi vj : NV), i < j → vs[i]? = some vi → vs[j]? = some vj → vi.t ≠ vj.t
  | [], _, i, j, vi, vj, _, hi, _ => by simp at hi
  | v :: vs, h, 0, j + 1, vi, vj, _, hi, hj => by
    simp only [tsApart, Bool.and_eq_true, List.all_eq_true] at h
    simp only [List.getElem?_cons_zero, Option.some.injEq, List.getElem?_cons_succ] at hi hj
    subst hi
    have := h.1 vj (List.mem_of_getElem? hj)
    simpa using this
  | v :: vs, h, i + 1, j + 1, vi, vj, hij, hi, hj => by
    simp only [tsApart, Bool.and_eq_true] at h
    exact tsApart_lt h.2 i j vi vj (by omega) (by simpa using hi) (by simpa using hj)
theorem tsApart_ne {vs : List NV} (h : tsApart vs = true) {i j : Nat} {vi vj : NV} (hij : i ≠ j) (hi : vs[i]? = some vi) (hj : vs[j]? = some vj) : vi.t ≠ vj.t := by
  rcases Nat.lt_or_gt_of_ne hij with h1 | h1
  · exact tsApart_lt h i j vi vj h1 hi hj
  · exact (tsApart_lt h j i vj vi h1 hj hi).symm

section
variable {P : Program} {Q : Exit → Act → World → Prop} {N : Nat} {E : List (Nat × Value)} {w : World}
/-- What is asked where the variables have come. -/
def newEnd (P : Program) (ops : Array Oper) (Q : Exit → Act → World → Prop) (w : World) (vs : List NV) (T : List Oper) (N : Nat) (E : List (Nat × Value)) : Prop :=
  ∀ gs w', (∀ j, j < vs.length → w.heap.size ≤ gs j) → (∀ i j, i < vs.length → j < vs.length → i ≠ j → gs i ≠ gs j) → Up w w' → (∀ (j : Nat) (v : NV), vs[j]? = some v → Blk w' (gs j) v.ty v.zs) → lF P ops Q T N (ptrs vs 0 gs E) w'
def newPost (P : Program) (ops : Array Oper) (Q : Exit → Act → World → Prop) (w : World) (vs : List NV) (T : List Oper) (N : Nat) (a' : Act) : Prop :=
  ∃ E', Fr N E' a' ∧ far E' vs ∧ newEnd P ops Q w vs T N E'

theorem news_any {ops : Array Oper} {n m M : Nat} {lend : Array Bool} (vs : List NV) (hap : tsApart vs = true) (hnv : ∀ j v, vs[j]? = some v → ∃ o, ops[n + j]? = some o ∧ nvOne P N o v) (hE : far E vs)
    (fin : ∀ gs w0 a, Up w w0 → Fr N (ptrs vs 0 gs E) a → (∀ j, j < vs.length → w.heap.size ≤ gs j) → (∀ i j, i < vs.length → j < vs.length → i ≠ j → gs i ≠ gs j) → (∀ (j : Nat) (v : NV), vs[j]? = some v → Blk w0 (gs j) v.ty v.zs) →
      wpAnyU P .any ops (Up w) Q M m 0 w0 lend a) :
    ∀ (f : Nat) (rem : List Nat) (listed : Array Bool) (w0 : World) (a : Act) (gs : Nat → Nat), newC ops n lend f rem listed = true → rem.Nodup → f = rem.length → (∀ j ∈ rem, j < vs.length) → Up w w0 → Fr N E a →
      (∀ (j : Nat) (v : NV), j ∉ rem → vs[j]? = some v → w.heap.size ≤ gs j ∧ Blk w0 (gs j) v.ty v.zs ∧ a.eval (.tmp v.t) = .pointer (some ⟨gs j, 0, none⟩)) →
      (∀ i j, i < vs.length → j < vs.length → i ∉ rem → j ∉ rem → i ≠ j → gs i ≠ gs j) → wpAnyU P .any ops (Up w) Q M m f w0 listed a
  | 0, rem, listed, w0, a, gs, hc, _, hf, _, hU, hF, hd, hg => by
    obtain rfl : rem = [] := List.eq_nil_of_length_eq_zero hf.symm
    simp only [newC, decide_eq_true_eq] at hc
    subst hc
    refine fin gs w0 a hU (hF.ptrs gs vs 0 fun j v hv => ?_) (fun j hj => ?_) (fun i j hi hj hij => hg i j hi hj (by simp) (by simp) hij) (fun j v hv => (hd j v (by simp) hv).2.1)
    · rw [Nat.zero_add]
      exact (hd j v (by simp) hv).2.2
    · exact (hd j vs[j] (by simp) (List.getElem?_eq_getElem hj)).1
  | f + 1, rem, listed, w0, a, gs, hc, hnd, hf, hlt, hU, hF, hd, hg => by
    simp only [newC, Bool.and_eq_true, decide_eq_true_eq, List.all_eq_true] at hc
    obtain ⟨hr, hc⟩ := hc
    refine ⟨?_, fun i hi => ?_⟩
    · rw [hr]
      cases rem with
      | nil => cases hf
      | cons j rem => exact List.cons_ne_nil _ _
    · rw [hr] at hi
      obtain ⟨j, hj, rfl⟩ := List.mem_map.1 hi
      have hjl := hlt j hj
      have hv : vs[j]? = some vs[j] := List.getElem?_eq_getElem hjl
      generalize vs[j] = v at hv
      obtain ⟨o, ho, hgd, hds, hb, hop, hz⟩ := hnv j v hv
      refine wpAnyU_new (base := w.heap.size) ho hgd (exec_alloc hop hz) (fun _ _ h k => h.step k) (fun _ h => h.size) hU fun w1 hw1 hC1 hp => ?_
      rw [hds]
      have hfar := far_mem hE j v hv
      have hal := (Below.refl w1.heap.size w1).alloc (Nat.le_refl _) (.cells v.zs v.ty)
      have hem : ∀ i, i ∉ rem.erase j → i = j ∨ i ∉ rem := fun i hi => by
        by_cases e : i = j
        · exact .inl e
        · exact .inr fun hm => hi ((List.mem_erase_of_ne e).2 hm)
      refine news_any vs hap hnv hE fin f (rem.erase j) _ _ _ (fun i => if i = j then w1.heap.size else gs i) (hc j hj) (hnd.erase j) (by rw [List.length_erase_of_mem hj]; omega) (fun i hi => hlt i (List.mem_of_mem_erase hi)) (hC1.step hal) (hF.putFar hfar _) ?_ ?_
      · intro i u hi hu
        by_cases e : i = j
        · subst e
          obtain rfl : u = v := Option.some.inj (hu.symm.trans hv)
          rw [if_pos rfl]
          exact ⟨hp, Blk.new w1 _ _, eval_put_same hF hb _⟩
        · rw [if_neg e]
          obtain ⟨h1, h2, h3⟩ := hd i u ((hem i hi).resolve_left e) hu
          exact ⟨h1, (h2.later hw1).later hal, by rw [eval_put_ne (tsApart_ne hap (Ne.symm e) hv hu)]; exact h3⟩
      · intro i k hi hk hir hkr hik
        have hlt1 : ∀ i, i < vs.length → i ∉ rem → gs i < w1.heap.size := fun i hi hir => ((hd i vs[i] hir (List.getElem?_eq_getElem hi)).2.1.later hw1).lt
        by_cases e : i = j
        · rw [if_pos e, if_neg (fun h => hik (e.trans h.symm))]
          have := hlt1 k hk ((hem k hkr).resolve_left (fun h => hik (e.trans h.symm)))
          omega
        · rw [if_neg e]
          by_cases e2 : k = j
          · rw [if_pos e2]
            have := hlt1 i hi ((hem i hir).resolve_left e)
            omega
          · rw [if_neg e2]
            exact hg i k hi hk ((hem i hir).resolve_left e) ((hem k hkr).resolve_left e2) hik

/-- **New variables**: n operations may be taken first; the variables come when they come; then the rest, in its order. -/
theorem c_new {id : Nat} {l : List Oper} (n : Nat) (vs : List NV) (hn : n + vs.length ≤ l.length) (hap : tsApart vs = true) (hnv : nvOk P N (l.drop n) vs) (hm : P.follows .mixedOrders = true)
    (hB : tailB l.toArray n vs.length (l.drop (n + vs.length)).length = true)
    (hC : newC l.toArray n (marks vs.length n (marks n 0 (Array.replicate l.toArray.size false))) vs.length (List.range vs.length) (marks n 0 (Array.replicate l.toArray.size false)) = true)
    (hQ : ∀ c a d v w, Q (.panic c) (a.put d v) w → Q (.panic c) a w)
    (h : bF P l.toArray (Up w) (newPost P l.toArray Q w vs (l.drop (n + vs.length)) N) (l.take n) N E) : cF P (.region id l.toArray true) Q N E w := fun a ha => by
  simp only [tailB, Bool.and_eq_true, decide_eq_true_eq] at hB
  obtain ⟨⟨⟨⟨hs, hh⟩, hz⟩, hsk⟩, hf⟩ := hB
  have hL : (l.take n).length = n := by rw [List.length_take]; omega
  refine wp_region_any hm ?_
  have hT : ∀ j, j < (l.drop (n + vs.length)).length → (l.drop (n + vs.length))[j]? = l.toArray[vs.length + n + j]? := fun j _ => by
    simp only [List.getElem?_drop, List.getElem?_toArray]
    congr 1
    omega
  have hG : wpAnyU P .any l.toArray (Up w) Q (vs.length + n) (l.drop (n + vs.length)).length (vs.length + (l.take n).length) w.drew (Array.replicate l.toArray.size false) a := by
    refine wpAnyU_head (fun _ _ h k => h.step k) hs hQ vs.length w.drew (Up.drew w) (l.take n) 0 _ a (Closed.none _) (by omega) (fun j hj => ?_) (by rw [hL]; exact hh) ?_
    · rw [hL] at hj
      simp [hj]
    rw [hL]
    refine wpB_mono (fun a' h' => ?_) _ a (h a ha)
    obtain ⟨E', hF, hE, hk⟩ := h'
    refine news_any (E := E') (w := w) vs hap (fun j v hv => ?_) hE (fun gs w0 a hU hF hb hd hB => ⟨fun j hj i hi => ?_, fun w' hw' => ?_⟩) vs.length (List.range vs.length) _ w.drew a' (fun _ => 0) hC List.nodup_range (by simp) (fun j hj => by simpa using hj) (Up.drew w) hF ?_ ?_
    · obtain ⟨o, h1, h2⟩ := nvOk_get hnv j v hv
      exact ⟨o, by simpa using h1, h2⟩
    · have h1 := List.all_eq_true.1 hsk j hj
      exact List.all_eq_true.1 h1 i (List.mem_range.2 hi)
    · exact wpAny_forced _ (vs.length + n) _ _ w' hT hf (hk gs w' hb hd (hU.step hw') (fun j v hv => (hB j v hv).later hw') a hF)
    · intro j v hj hv
      exact absurd (List.mem_range.2 (List.getElem?_eq_some_iff.1 hv).1) hj
    · intro i j hi hj h1
      exact absurd (List.mem_range.2 hi) h1
  have h2 := wpAny_of_U (vs.length + (l.take n).length) _ a w.drew hG
  rw [hL] at h2
  have e : l.toArray.size = (l.drop (n + vs.length)).length + (vs.length + n) := by rw [hz, Nat.add_assoc]
  rw [← e] at h2
  exact h2

/-- The same in the text's order. -/
theorem l_news {ops : Array Oper} {T : List Oper} : ∀ (vs : List NV) (l : List Oper) (j0 : Nat) (gs : Nat → Nat) (w : World) (E : List (Nat × Value)), nvOk P N l vs → l.drop vs.length = T →
    (∀ (gs' : Nat → Nat) (w' : World), (∀ j, j < j0 → gs' j = gs j) → (∀ j, j < vs.length → w.heap.size ≤ gs' (j0 + j)) → (∀ i j, i < vs.length → j < vs.length → i ≠ j → gs' (j0 + i) ≠ gs' (j0 + j)) → Up w w' → (∀ (j : Nat) (v : NV), vs[j]? = some v → Blk w' (gs' (j0 + j)) v.ty v.zs) →
      ∀ a, Fr N E a → (∀ (j : Nat) (v : NV), vs[j]? = some v → a.eval (.tmp v.t) = .pointer (some ⟨gs' (j0 + j), 0, none⟩)) → wpList P ops Q T a w') →
    far E vs → tsApart vs = true → ∀ a, Fr N E a → wpList P ops Q l a w
  | [], l, j0, gs, w, E, _, hT, h, _, _, a, ha => by
    obtain rfl : l = T := by simpa using hT
    exact h gs w (fun _ _ => rfl) (fun _ h => absurd h (by simp)) (fun _ _ h => absurd h (by simp)) (Up.refl w) (fun _ _ h => by simp at h) a ha (fun _ _ h => by simp at h)
  | _ :: _, [], _, _, _, _, hnv, _, _, _, _, _, _ => hnv.elim
  | v :: vs, o :: l, j0, gs, w, E, hnv, hT, h, hE, hap, a, ha => by
    obtain ⟨⟨hgd, hds, hb, hop, hz⟩, hnv⟩ := hnv
    have hap' : tsApart vs = true := by
      simp only [tsApart, Bool.and_eq_true] at hap
      exact hap.2
    refine wpl_alloc hgd hop hz ?_
    rw [hds]
    have hF := ha.putFar hE.1 (.pointer (some ⟨w.heap.size, 0, none⟩))
    have hal := (Below.refl w.heap.size w).alloc (Nat.le_refl _) (.cells v.zs v.ty)
    refine l_news (T := T) vs l (j0 + 1) (fun j => if j = j0 then w.heap.size else gs j) _ ((v.t, .pointer (some ⟨w.heap.size, 0, none⟩)) :: E) hnv (by simpa using hT) (fun gs' w' hg hge hd hU hB a' ha' hp => ?_) ?_ hap' _ (ha.put hb _)
    · have hsz : (w.alloc (.cells v.zs v.ty)).heap.size = w.heap.size + 1 := World.size_alloc _ _
      rw [hsz] at hge
      have e0 : gs' j0 = w.heap.size := by rw [hg j0 (by omega), if_pos rfl]
      refine h gs' w' (fun j hj => by rw [hg j (by omega), if_neg (by omega)]) (fun j hj => ?_) (fun i j hi hj hij => ?_) ((Up.refl w).alloc _ |>.step hU) (fun j u hu => ?_) a' (ha'.tail hE.1) (fun j u hu => ?_)
      · cases j with
        | zero => rw [Nat.add_zero, e0]; exact Nat.le_refl _
        | succ j =>
          have := hge j (by simpa using hj)
          rw [Nat.add_right_comm] at this
          rw [← Nat.add_assoc]
          omega
      · have hge' : ∀ j, j < vs.length → w.heap.size + 1 ≤ gs' (j0 + (j + 1)) := fun j hj => by
          have := hge j hj
          rw [Nat.add_right_comm, Nat.add_assoc] at this
          exact this
        cases i with
        | zero =>
          cases j with
          | zero => exact absurd rfl hij
          | succ j =>
            have := hge' j (by simpa using hj)
            have e1 : gs' (j0 + 0) = w.heap.size := by rw [Nat.add_zero, e0]
            rw [e1]
            omega
        | succ i =>
          cases j with
          | zero =>
            have := hge' i (by simpa using hi)
            have e1 : gs' (j0 + 0) = w.heap.size := by rw [Nat.add_zero, e0]
            rw [e1]
            omega
          | succ j =>
            have := hd i j (by simpa using hi) (by simpa using hj) (by omega)
            rwa [Nat.add_right_comm, Nat.add_right_comm j0 1 j] at this
      · cases j with
        | zero =>
          simp only [List.getElem?_cons_zero, Option.some.injEq] at hu
          subst hu
          rw [Nat.add_zero, e0]
          exact (Blk.new w _ _).later hU
        | succ j =>
          have := hB j u (by simpa using hu)
          rwa [Nat.add_right_comm] at this
      · cases j with
        | zero =>
          simp only [List.getElem?_cons_zero, Option.some.injEq] at hu
          subst hu
          rw [Nat.add_zero, e0]
          exact ha'.get _ _ (by rw [look_cons, if_pos rfl])
        | succ j =>
          have := hp j u (by simpa using hu)
          rwa [Nat.add_right_comm] at this
    · refine far_cons (fun u hu => ?_) hE.2
      simp only [tsApart, Bool.and_eq_true, List.all_eq_true] at hap
      have := hap.1 u hu
      simpa using this
theorem c_newF {id : Nat} {l : List Oper} (n : Nat) (vs : List NV) (hap : tsApart vs = true) (hnv : nvOk P N (l.drop n) vs)
    (h : bF P l.toArray (Up w) (newPost P l.toArray Q w vs (l.drop (n + vs.length)) N) (l.take n) N E) : cF P (.region id l.toArray false) Q N E w := fun a ha => by
  refine reg_tailF n (wpB_mono (fun a' h' w' hw' => ?_) _ _ (h a ha))
  obtain ⟨E', hF, hE, hk⟩ := h'
  refine l_news vs (l.drop n) 0 (fun _ => 0) w' E' hnv (by rw [List.drop_drop]) (fun gs w2 _ hge hd hU hB a2 ha2 hp => ?_) hE hap a' hF
  simp only [Nat.zero_add] at hge hd hB hp
  exact hk gs w2 (fun j hj => Nat.le_trans hw'.size (hge j hj)) hd (hw'.step hU) hB a2 (ha2.ptrs gs vs 0 (by simpa using hp))

/-! ### What they hold at first -/
def stOk : List NV → List Operand → List Oper → List Oper → Prop
  | [], [], T, T' => T = T'
  | v :: vs, x :: xs, o :: T, T' => (o.guard = none ∧ o.dst = none ∧ o.op = .store v.ty (.tmp v.t) x) ∧ stOk vs xs T T'
  | _, _, _, _ => False
def valOk (P : Program) (E : List (Nat × Value)) : List NV → List Operand → List (Array Value) → Prop
  | [], [], [] => True
  | v :: vs, x :: xs, c :: cs => (ev E x = some (.agg c) ∧ v.zs.size = c.size ∧ (P.info? v.ty).map (·.size) = some c.size ∧ ∀ u ∈ c.toList, u.oneCell' = true) ∧ valOk P E vs xs cs
  | _, _, _ => False
def blks (w : World) : List NV → List (Array Value) → Nat → (Nat → Nat) → Prop
  | v :: vs, c :: cs, j, gs => Blk w (gs j) v.ty c ∧ blks w vs cs (j + 1) gs
  | _, _, _, _ => True
theorem blks_row {w : World} {gs : Nat → Nat} {g : Nat} (c : Array Value) : ∀ (vs : List NV) (cs : List (Array Value)) (j : Nat), (∀ i, i < vs.length → gs (j + i) ≠ g) → blks w vs cs j gs → blks (w.setRow g c) vs cs j gs
  | [], _, _, _, _ => by unfold blks; trivial
  | _ :: _, [], _, _, _ => by unfold blks; trivial
  | v :: vs, c0 :: cs, j, hg, h => ⟨h.1.rowFar (hg 0 (by simp)) _, blks_row c vs cs (j + 1) (fun i hi => by have := hg (i + 1) (by simpa using hi); rwa [← Nat.add_assoc, Nat.add_right_comm] at this) h.2⟩
theorem l_stores {ops : Array Oper} {T' : List Oper} {W : World} {gs : Nat → Nat} : ∀ (vs : List NV) (xs : List Operand) (cs : List (Array Value)) (T : List Oper) (j0 : Nat) (w : World), stOk vs xs T T' → valOk P E vs xs cs →
    (∀ (j : Nat) (v : NV), vs[j]? = some v → look E v.t = some (.pointer (some ⟨gs (j0 + j), 0, none⟩))) → (∀ j, j < vs.length → W.heap.size ≤ gs (j0 + j)) → (∀ i j, i < vs.length → j < vs.length → i ≠ j → gs (j0 + i) ≠ gs (j0 + j)) → Up W w → (∀ (j : Nat) (v : NV), vs[j]? = some v → Blk w (gs (j0 + j)) v.ty v.zs) →
    (∀ w', Up W w' → (∀ g t c, (∀ j, j < vs.length → gs (j0 + j) ≠ g) → Blk w g t c → Blk w' g t c) → blks w' vs cs j0 gs → lF P ops Q T' N E w') → lF P ops Q T N E w
  | [], xs, cs, T, j0, w, hst, hv, _, _, _, hU, _, h => by
    cases xs with
    | cons => exact hst.elim
    | nil =>
      obtain rfl : T = T' := hst
      exact h w hU (fun _ _ _ _ h => h) (by unfold blks; trivial)
  | v :: vs, xs, cs, T, j0, w, hst, hv, hl, hge, hd, hU, hB, h => by
    cases xs with
    | nil => exact hst.elim
    | cons x xs =>
      cases T with
      | nil => exact hst.elim
      | cons o T =>
        cases cs with
        | nil => exact hv.elim
        | cons c cs =>
          obtain ⟨⟨hgd, hds, hop⟩, hst⟩ := hst
          obtain ⟨⟨hx, hz, hi, ho⟩, hv⟩ := hv
          intro a ha
          have h0 := hB 0 v rfl
          have hd0 : ∀ j, j < vs.length → gs (j0 + 1 + j) ≠ gs j0 := fun j hj => by
            have := hd (j + 1) 0 (by simpa using hj) (by simp) (by omega)
            rwa [← Nat.add_assoc, Nat.add_right_comm, Nat.add_zero] at this
          rw [Nat.add_zero] at h0
          refine wpList_store_row hgd v.ty (.tmp v.t) x hop (gs j0) (ha.get _ _ (hl 0 v rfl)) c (ha.eval hx) v.ty v.zs h0 hi hz ho ?_
          rw [hds]
          refine l_stores (gs := gs) (W := W) vs xs cs T (j0 + 1) (w.setRow (gs j0) c) hst hv (fun j u hu => ?_) (fun j hj => ?_) (fun i j hi hj hij => ?_) (up_row hU (hge 0 (by simp)) _) (fun j u hu => ?_) (fun w' hU' hK hb => ?_) a ha
          · have := hl (j + 1) u (by simpa using hu)
            rwa [← Nat.add_assoc, Nat.add_right_comm] at this
          · have := hge (j + 1) (by simpa using hj)
            rwa [← Nat.add_assoc, Nat.add_right_comm] at this
          · have := hd (i + 1) (j + 1) (by simpa using hi) (by simpa using hj) (by omega)
            rwa [← Nat.add_assoc, ← Nat.add_assoc, Nat.add_right_comm, Nat.add_right_comm j0 j 1] at this
          · have := hB (j + 1) u (by simpa using hu)
            rw [← Nat.add_assoc, Nat.add_right_comm] at this
            exact this.rowFar (hd0 j (List.getElem?_eq_some_iff.1 hu).1) _
          · refine h w' hU' (fun g t c' hg hb' => hK g t c' (fun j hj => ?_) (hb'.rowFar (Ne.symm (by have := hg 0 (by simp); rwa [Nat.add_zero] at this)) _)) ⟨hK _ _ _ hd0 (h0.row _), hb⟩
            have := hg (j + 1) (by simpa using hj)
            rwa [← Nat.add_assoc, Nat.add_right_comm] at this
theorem look_ptrs {gs : Nat → Nat} {E : List (Nat × Value)} {k : Nat} : ∀ (vs : List NV) (j0 : Nat), (∀ v ∈ vs, v.t ≠ k) → look (ptrs vs j0 gs E) k = look E k
  | [], _, _ => rfl
  | v :: vs, j0, h => by
    rw [ptrs, look_cons, if_neg (h v (by simp))]
    exact look_ptrs vs (j0 + 1) fun u hu => h u (by simp [hu])
theorem look_ptr {gs : Nat → Nat} {E : List (Nat × Value)} : ∀ (vs : List NV) (j0 : Nat), tsApart vs = true → ∀ (j : Nat) (v : NV), vs[j]? = some v → look (ptrs vs j0 gs E) v.t = some (.pointer (some ⟨gs (j0 + j), 0, none⟩))
  | [], _, _, _, _, hv => by simp at hv
  | v0 :: vs, j0, hap, 0, v, hv => by
    simp only [List.getElem?_cons_zero, Option.some.injEq] at hv
    subst hv
    rw [ptrs, look_cons, if_pos rfl, Nat.add_zero]
  | v0 :: vs, j0, hap, j + 1, v, hv => by
    have hne : v0.t ≠ v.t := tsApart_ne hap (i := 0) (j := j + 1) (by omega) rfl hv
    simp only [tsApart, Bool.and_eq_true] at hap
    rw [ptrs, look_cons, if_neg hne, look_ptr vs (j0 + 1) hap.2 j v (by simpa using hv), ← Nat.add_assoc, Nat.add_right_comm]
theorem ev_far {gs : Nat → Nat} {E : List (Nat × Value)} {vs : List NV} (hE : far E vs) {x : Operand} {v : Value} (hx : ev E x = some v) : ev (ptrs vs 0 gs E) x = some v := by
  cases x with
  | tmp t =>
    show look (ptrs vs 0 gs E) t = some v
    rw [look_ptrs vs 0 fun u hu => ?_]
    · exact hx
    · rintro rfl
      obtain ⟨j, hj⟩ := List.getElem?_of_mem hu
      have h1 := far_mem hE j u hj
      have h2 : look E u.t = some v := hx
      rw [h1] at h2
      cases h2
  | const u => exact hx
  | global g => exact hx
  | func f => exact hx
theorem valOk_far {gs : Nat → Nat} {E : List (Nat × Value)} {ws : List NV} (hE : far E ws) : ∀ (vs : List NV) (xs : List Operand) (cs : List (Array Value)), valOk P E vs xs cs → valOk P (ptrs ws 0 gs E) vs xs cs
  | [], [], [], _ => trivial
  | _ :: vs, _ :: xs, _ :: cs, h => ⟨⟨ev_far hE h.1.1, h.1.2⟩, valOk_far hE vs xs cs h.2⟩
  | [], [], _ :: _, h => h.elim
  | [], _ :: _, _, h => h.elim
  | _ :: _, [], _, h => h.elim
  | _ :: _, _ :: _, [], h => h.elim
/-- **'x, y, .. := u, v, ..'**, behind the reads and calls. -/
theorem f_new {ops : Array Oper} {vs : List NV} {T T' : List Oper} (xs : List Operand) (cs : List (Array Value)) (hE : far E vs) (hap : tsApart vs = true) (hst : stOk vs xs T T') (hv : valOk P E vs xs cs)
    (h : ∀ gs w', (∀ j, j < vs.length → w.heap.size ≤ gs j) → (∀ i j, i < vs.length → j < vs.length → i ≠ j → gs i ≠ gs j) → Up w w' → blks w' vs cs 0 gs → lF P ops Q T' N (ptrs vs 0 gs E) w') :
    bF P ops (Up w) (newPost P ops Q w vs T N) [] N E := fun a ha => wpB_nil ⟨E, ha, hE, fun gs w' hge hd hU hB => by
  refine l_stores (W := w) (gs := gs) vs xs cs T 0 w' hst (valOk_far hE _ _ _ hv) (fun j v hv => look_ptr vs 0 hap j v hv) (by simpa using hge) (by simpa using hd) hU (by simpa using hB) fun w2 hU2 _ hb => ?_
  exact h gs w2 hge hd hU2 hb⟩
end
end Go.Proofs.Ythkbejheedffjaa
