/-
  SEVERAL TEXTS IN ONE: Fr, RegH, Us, FrV, FrN, FrP, FrM, Copy, RegI, RegJ, FrW, FrA, RegK, Auto, FrC.
-/
import Derived.Test.YtlaikmpnijlcbaaDoorMa
import Derived.Laws.Bits64b
import Derived.Laws.BitsAllLaws
import Derived.Laws.Externs
import Derived.Maps.AppendAt
import Derived.Deep.OwnRows
import Derived.Great.BuildSlice
import Derived.Lib.SlBytesConst
/-
  FRAMES BY WHAT IS KNOWN OF THEM: the values of some slots are told, the others are not: great functions are walked over such frames.
-/
namespace Go.Proofs.YtlaikmpnijlcbaaDoor
open Go.RowKit Go.IntWalk

/-- What is told of slot j. -/
def look : List (Nat × Value) → Nat → Option Value
  | [], _ => none
  | (k, v) :: r, j => match Nat.beq k j with
    | true => some v
    | false => look r j
theorem look_cons (k j : Nat) (v : Value) (r : List (Nat × Value)) : look ((k, v) :: r) j = if k = j then some v else look r j := by
  show (match Nat.beq k j with | true => some v | false => look r j) = _
  by_cases h : k = j
  · subst h
    rw [if_pos rfl, Nat.beq_refl]
  · rw [if_neg h]
    cases e : Nat.beq k j with
    | true => exact absurd (Nat.eq_of_beq_eq_true e) h
    | false => rfl
/-- An operand's value, where it is told. -/
def ev (E : List (Nat × Value)) : Operand → Option Value
  | .tmp t => look E t
  | .const v => some v
  | .global g => some (.pointer (some ⟨g, 0, none⟩))
  | .func f => some (.func (.func f) #[] #[])
/-- Each slot that E' tells, E tells so. -/
def Sub : List (Nat × Value) → List (Nat × Value) → Prop
  | [], _ => True
  | p :: r, E => look E p.1 = some p.2 ∧ Sub r E
/-- A frame of N slots, of which E is told. -/
structure Fr (N : Nat) (E : List (Nat × Value)) (a : Act) : Prop where
  size : a.tmps.size = N
  defers : a.defers = []
  get : ∀ k v, look E k = some v → a.eval (.tmp k) = v

section
variable {N : Nat} {E E' : List (Nat × Value)} {a : Act}
theorem Fr.eval (h : Fr N E a) {x : Operand} {v : Value} (hx : ev E x = some v) : a.eval x = v := by
  cases x with
  | tmp t => exact h.get t v hx
  | const u => exact Option.some.inj hx
  | global g => exact Option.some.inj hx
  | func f => exact Option.some.inj hx
theorem Fr.put (h : Fr N E a) {k : Nat} (hk : Nat.blt k N = true) (v : Value) : Fr N ((k, v) :: E) (a.put (some k) v) := by
  have hk : k < N := by simpa using hk
  refine ⟨by simp [Act.put, h.size], h.defers, fun j u hj => ?_⟩
  rw [look_cons] at hj
  have hs : k < a.tmps.size := by rw [h.size]; exact hk
  by_cases e : k = j
  · subst e
    rw [if_pos rfl] at hj
    cases hj
    simp [Act.put, Act.eval, hs]
  · rw [if_neg e] at hj
    have h1 := h.get j u hj
    simp only [Act.put, Act.eval, Array.getD_eq_getD_getElem?] at h1 ⊢
    rw [Array.getElem?_setIfInBounds_ne (by omega)]
    exact h1
theorem Fr.sub (h : Fr N E a) (hs : Sub E' E) : Fr N E' a := by
  refine ⟨h.size, h.defers, ?_⟩
  induction E' with
  | nil => intro k v hk; cases hk
  | cons p r ih =>
    intro k v hk
    obtain ⟨j, u⟩ := p
    rw [look_cons] at hk
    by_cases e : j = k
    · subst e
      rw [if_pos rfl] at hk
      cases hk
      exact h.get _ _ hs.1
    · rw [if_neg e] at hk
      exact ih hs.2 k v hk
/-- The first frame of a call. -/
theorem Fr.start {args : Array Value} {n : Nat} (h : args.size + n = N) (E : List (Nat × Value)) (hE : ∀ k v, look E k = some v → args[k]? = some v) :
    Fr N E { tmps := args ++ Array.replicate n undef, defers := [] } := by
  refine ⟨by simp [h], rfl, fun k v hk => ?_⟩
  have h1 := hE k v hk
  have h2 := (Array.getElem?_eq_some_iff.1 h1).1
  simp only [Act.eval, Array.getD_eq_getD_getElem?]
  rw [Array.getElem?_append_left h2, h1]
  rfl
end

/-! ### Code over such frames -/
/-- Over whatever frame of which E is told. -/
def cF (P : Program) (c : Code) (Q : Exit → Act → World → Prop) (N : Nat) (E : List (Nat × Value)) (w : World) : Prop := ∀ a, Fr N E a → c.wp P Q a w
def bF (P : Program) (ops : Array Oper) (C0 : World → Prop) (Q : Act → Prop) (l : List Oper) (N : Nat) (E : List (Nat × Value)) : Prop := ∀ a, Fr N E a → wpB P ops C0 Q l a
def lF (P : Program) (ops : Array Oper) (Q : Exit → Act → World → Prop) (l : List Oper) (N : Nat) (E : List (Nat × Value)) (w : World) : Prop := ∀ a, Fr N E a → wpList P ops Q l a w
section
variable {P : Program} {Q : Exit → Act → World → Prop} {N : Nat} {E E' : List (Nat × Value)} {w : World}
theorem least {σ : Type} (m : σ → Nat) (p : σ → Prop) : (∃ s, p s) → ∃ s, p s ∧ ∀ s', p s' → m s ≤ m s' := by
  rintro ⟨s, hs⟩
  have key : ∀ n s, m s ≤ n → p s → ∃ s, p s ∧ ∀ s', p s' → m s ≤ m s' := by
    intro n
    induction n with
    | zero => exact fun s hn hs => ⟨s, hs, fun s' _ => by omega⟩
    | succ n ih =>
      intro s hn hs
      by_cases h : ∃ s', p s' ∧ m s' < m s
      · obtain ⟨s', h1, h2⟩ := h
        exact ih s' (by omega) h1
      · exact ⟨s, hs, fun s' h1 => by
          by_cases h2 : m s' < m s
          · exact absurd ⟨s', h1, h2⟩ h
          · omega⟩
  exact key (m s) s (Nat.le_refl _) hs
open Classical in
/-- **A loop**: its states s, what is told of the frame and of the world at each, and what gets less. -/
theorem c_loop {σ : Type} {c : Code} (m : σ → Nat) (F : σ → List (Nat × Value)) (R : σ → World → Prop)
    (round : ∀ s w, R s w → cF P c (Exit.then (fun a' w' => ∃ s', R s' w' ∧ Fr N (F s') a' ∧ m s' < m s) Q) N (F s) w) (s0 : σ) (h0 : R s0 w) : cF P (.loop c) Q N (F s0) w := fun a ha => by
  let T : Act → World → σ → Prop := fun a w s => R s w ∧ Fr N (F s) a
  let μ : Act → World → Nat := fun a w => if h : ∃ s, T a w s then m (Classical.choose (least m (T a w) h)) else 0
  have hμ : ∀ a w (h : ∃ s, T a w s), ∃ s, T a w s ∧ (∀ s', T a w s' → m s ≤ m s') ∧ μ a w = m s := fun a w h => by
    refine ⟨Classical.choose (least m (T a w) h), (Classical.choose_spec (least m (T a w) h)).1, (Classical.choose_spec (least m (T a w) h)).2, ?_⟩
    show (if h : ∃ s, T a w s then m (Classical.choose (least m (T a w) h)) else 0) = _
    rw [dif_pos h]
  refine wp_loop (fun a w => ∃ s, T a w s) μ ⟨s0, h0, ha⟩ fun a w hI => ?_
  obtain ⟨s, hs, _, e⟩ := hμ a w hI
  refine wp_mono (round s w hs.1 a hs.2) fun x a' w' hx => ?_
  cases x with
  | normal =>
    obtain ⟨s', h1, h2, h3⟩ := hx
    have hI' : ∃ s, T a' w' s := ⟨s', h1, h2⟩
    obtain ⟨s2, hs2, hm2, e2⟩ := hμ a' w' hI'
    refine ⟨hI', ?_⟩
    rw [e, e2]
    exact Nat.lt_of_le_of_lt (hm2 s' ⟨h1, h2⟩) h3
  | exit _ => exact hx
  | goto _ => exact hx
  | ret => exact hx
  | panic _ => exact hx
  | outgrown => exact hx
end

/-! ### Regions -/

/-! ### Steps -/
section
variable {P : Program} {ops : Array Oper} {C0 : World → Prop} {Q : Act → Prop} {N : Nat} {E : List (Nat × Value)} {o : Oper} {rest : List Oper} {k : Nat}
theorem f_val (v : Value) (hg : o.guard = none) (hd : o.dst = some k) (hk : Nat.blt k N = true) (h : ∀ a, Fr N E a → ∀ w, C0 w → (execOp a.eval o).run P w = .ok (.value v) w) (hn : bF P ops C0 Q rest N ((k, v) :: E)) :
    bF P ops C0 Q (o :: rest) N E := fun a ha => b_val (by simp [Region.wanted, hg]) (h a ha) (by rw [hd]; exact hn _ (ha.put hk v))
end
section
variable {ops : Array Oper} {C0 : World → Prop} {Q : Act → Prop} {N : Nat} {E : List (Nat × Value)} {o : Oper} {rest : List Oper} {k : Nat}
/-- A call that hands back one value. -/
theorem f_call {f : FuncId} {xs : Array Operand} {ats : Array TypeId} (args : Array Value) (v : Value) (hg : o.guard = none) (hd : o.dst = some k) (hk : Nat.blt k N = true)
    (hf : Own f) (hc : ∀ w, C0 w → Calls Tryd.prog f args w (fun e w' => e = .returned v ∧ Below w.heap.size w w'))
    (ho : o.op = .call { callee := .value (.func f), args := xs, argTypes := ats }) (hx : xs.toList.map (ev E) = args.toList.map some) (hn : bF Tryd.prog ops C0 Q rest N ((k, v) :: E)) : bF Tryd.prog ops C0 Q (o :: rest) N E := fun a ha => by
  refine b_oneC (v := v) (args := args) (by simp [Region.wanted, hg]) hf hc ho ?_ (by rw [hd]; exact hn _ (ha.put hk v))
  have key : ∀ (l : List Operand) (m : List Value), l.map (ev E) = m.map some → l.map a.eval = m := by
    intro l
    induction l with
    | nil => intro m h; cases m with
      | nil => rfl
      | cons => cases h
    | cons y l ih => intro m h; cases m with
      | nil => cases h
      | cons u m =>
        simp only [List.map_cons, List.cons.injEq] at h ⊢
        exact ⟨ha.eval h.1, ih m h.2⟩
  exact key _ _ hx

/-! Numbers -/
end
end Go.Proofs.YtlaikmpnijlcbaaDoor
/-
  REGIONS THAT DRAW THEIR ORDER, AND MAKE MEMORY: from the walk in the text's order to every order; the check of a region; walks over frames by what is known of them.
-/
namespace Go.Proofs.YtlaikmpnijlcbaaDoor
open Go.RowKit Go.IntWalk

/-! ### Who waits for whom -/
inductive Waits (ops : Array Oper) : Nat → Nat → Prop
  | edge {j i : Nat} {o : Oper} (hj : ops[j]? = some o) (h : edgeTo .any o i = true) : Waits ops j i
  | via {j m i : Nat} {o : Oper} (hj : ops[j]? = some o) (h : edgeTo .any o m = true) (hm : Waits ops m i) : Waits ops j i
theorem edgeTo_spec {o : Oper} {i : Nat} (h : edgeTo .any o i = true) : ∃ e ∈ o.after, Region.binds .any e = true ∧ e.on = i := by
  unfold edgeTo at h
  obtain ⟨e, he, hb⟩ := Array.any_eq_true'.1 h
  simp only [Bool.and_eq_true, beq_iff_eq] at hb
  exact ⟨e, he, hb.1, hb.2⟩
theorem Closed.waits' {ops : Array Oper} {listed : Array Bool} (hc : Closed .any ops listed) {j i : Nat} (h : Waits ops j i) : ∀ o, ops[j]? = some o → (∀ e ∈ o.after, Region.binds .any e = true → listed.getD e.on false = true) → listed.getD i false = true := by
  induction h with
  | edge hj h =>
    intro o ho hl
    obtain rfl := Option.some.inj (hj.symm.trans ho)
    obtain ⟨e, he, hb, rfl⟩ := edgeTo_spec h
    exact hl e he hb
  | @via j m i o' hj h hm ih =>
    intro o ho hl
    obtain rfl := Option.some.inj (hj.symm.trans ho)
    obtain ⟨e, he, hb, rfl⟩ := edgeTo_spec h
    have h1 := hl e he hb
    obtain ⟨om, hom⟩ : ∃ om, ops[e.on]? = some om := by cases hm with
      | edge hj _ => exact ⟨_, hj⟩
      | via hj _ _ => exact ⟨_, hj⟩
    exact ih om hom (hc _ om hom h1)

def maskE (ms : List Nat) : List Edge → Nat
  | [] => 0
  | e :: l => if Region.binds .any e then (2 ^ e.on ||| ms.getD e.on 0) ||| maskE ms l else maskE ms l
def maskL : List Oper → List Nat → List Nat
  | [], ms => ms
  | o :: l, ms => maskL l (ms ++ [maskE ms o.after.toList])
theorem maskE_spec {ms : List Nat} {i : Nat} : ∀ {l : List Edge}, (maskE ms l).testBit i = true → ∃ e ∈ l, Region.binds .any e = true ∧ (e.on = i ∨ ∃ b, ms[e.on]? = some b ∧ b.testBit i = true)
  | [], h => by simp [maskE] at h
  | e :: l, h => by
    unfold maskE at h
    split at h
    · rename_i hb
      rw [Nat.testBit_or, Nat.testBit_or] at h
      simp only [Bool.or_eq_true] at h
      rcases h with (h | h) | h
      · refine ⟨e, by simp, hb, .inl ?_⟩
        rw [Nat.testBit_two_pow] at h
        simpa using h
      · refine ⟨e, by simp, hb, .inr ?_⟩
        rw [List.getD_eq_getElem?_getD] at h
        cases hm : ms[e.on]? with
        | none => rw [hm] at h; simp at h
        | some b => rw [hm] at h; exact ⟨b, rfl, h⟩
      · obtain ⟨e', he, h'⟩ := maskE_spec h
        exact ⟨e', List.mem_cons_of_mem _ he, h'⟩
    · obtain ⟨e', he, h'⟩ := maskE_spec h
      exact ⟨e', List.mem_cons_of_mem _ he, h'⟩
def OkM (ops : Array Oper) (ms : List Nat) : Prop := ∀ j b i : Nat, ms[j]? = some b → b.testBit i = true → Waits ops j i
theorem maskL_ok {ops : Array Oper} : ∀ (l : List Oper) (ms : List Nat), (∀ j, j < l.length → l[j]? = ops[ms.length + j]?) → OkM ops ms → OkM ops (maskL l ms)
  | [], _, _, h => h
  | o :: l, ms, hl, h => by
    unfold maskL
    refine maskL_ok l _ (fun j hj => ?_) ?_
    · have := hl (j + 1) (by simpa using hj)
      simpa [Nat.add_assoc, Nat.add_comm 1 j] using this
    · intro j b i hj hb
      rw [List.getElem?_append] at hj
      split at hj
      · exact h j b i hj hb
      · rename_i hlt
        have h0 : j - ms.length = 0 := by
          by_cases e : j - ms.length = 0
          · exact e
          · exfalso
            obtain ⟨k, hk⟩ : ∃ k, j - ms.length = k + 1 := ⟨j - ms.length - 1, by omega⟩
            rw [hk] at hj
            simp at hj
        obtain rfl : j = ms.length := by omega
        rw [h0] at hj
        simp only [List.getElem?_cons_zero, Option.some.injEq] at hj
        subst hj
        have ho : ops[ms.length]? = some o := by simpa using (hl 0 (by simp)).symm
        obtain ⟨e, he, hbd, h5⟩ := maskE_spec hb
        have he' : e ∈ o.after := by simpa using he
        have hed : edgeTo .any o e.on = true := by
          unfold edgeTo
          exact Array.any_eq_true'.2 ⟨e, he', by simp [hbd]⟩
        rcases h5 with rfl | ⟨b, hb1, hb2⟩
        · exact .edge ho hed
        · exact .via ho hed (h _ b i hb1 hb2)

/-! ### The check of a region -/
def othersH (ops : Array Oper) (o : Oper) (k : Nat) : List Oper → List Nat → Bool
  | [], _ => true
  | _ :: _, [] => false
  | x :: l, m :: ms => (m.testBit k || (o.apart ops x && (stillG x.op || !multiG o.op))) && othersH ops o k l ms
def headH (ops : Array Oper) : List Oper → List Nat → Nat → Bool
  | [], _, _ => true
  | _ :: _, [], _ => false
  | o :: l, _ :: ms, k => o.after.all (fun e => !Region.binds .any e || decide (e.on < k)) && othersH ops o k l ms && headH ops l ms (k + 1)
/-- n operations are walked in the text's order; the m others, forced, wait for all of them. -/
def tailH (ops : Array Oper) (n m : Nat) : Bool :=
  Region.noSelect ops && headH ops (ops.toList.take n) (maskL ops.toList []) 0 && (match (maskL ops.toList [])[n]? with | none => true | some b => (List.range n).all b.testBit) &&
    decide (ops.size = m + n) && forcedB .any ops m n (marks n 0 (Array.replicate ops.size false))
theorem others_ok {ops : Array Oper} {o : Oper} {k : Nat} : ∀ {l : List Oper} {ms : List Nat}, othersH ops o k l ms = true → ∀ (j : Nat) (x : Oper), l[j]? = some x → ∃ m, ms[j]? = some m ∧ (m.testBit k = true ∨ (o.apart ops x = true ∧ (stillG x.op = true ∨ multiG o.op = false)))
  | [], _, _, j, x, hx => by simp at hx
  | _ :: _, [], h, _, _, _ => by cases h
  | y :: l, m :: ms, h, 0, x, hx => by
    simp only [List.getElem?_cons_zero, Option.some.injEq] at hx
    subst hx
    simp only [othersH, Bool.and_eq_true, Bool.or_eq_true, Bool.not_eq_true'] at h
    exact ⟨m, rfl, h.1⟩
  | y :: l, m :: ms, h, j + 1, x, hx => by
    simp only [othersH, Bool.and_eq_true] at h
    obtain ⟨m', h1, h2⟩ := others_ok h.2 j x (by simpa using hx)
    exact ⟨m', by simpa using h1, h2⟩
theorem head_ok {ops : Array Oper} : ∀ {l : List Oper} {ms : List Nat} {k : Nat}, headH ops l ms k = true → ∀ (i j : Nat) (x y : Oper), i < j → l[i]? = some x → l[j]? = some y → ∃ m, ms[j]? = some m ∧ (m.testBit (k + i) = true ∨ (x.apart ops y = true ∧ (stillG y.op = true ∨ multiG x.op = false)))
  | [], _, _, _, i, _, x, _, _, hx, _ => by simp at hx
  | _ :: _, [], _, h, _, _, _, _, _, _, _ => by cases h
  | o :: l, m :: ms, k, h, 0, 0, x, y, hij, _, _ => absurd hij (by omega)
  | o :: l, m :: ms, k, h, 0, j + 1, x, y, _, hx, hy => by
    simp only [headH, Bool.and_eq_true] at h
    simp only [List.getElem?_cons_zero, Option.some.injEq] at hx
    subst hx
    obtain ⟨m', h1, h2⟩ := others_ok h.1.2 j y (by simpa using hy)
    exact ⟨m', by simpa using h1, h2⟩
  | o :: l, m :: ms, k, h, i + 1, 0, x, y, hij, _, _ => absurd hij (by omega)
  | o :: l, m :: ms, k, h, i + 1, j + 1, x, y, hij, hx, hy => by
    simp only [headH, Bool.and_eq_true] at h
    obtain ⟨m', h1, h2⟩ := head_ok h.2 i j x y (by omega) (by simpa using hx) (by simpa using hy)
    exact ⟨m', by simpa using h1, by rwa [show k + (i + 1) = k + 1 + i by omega]⟩
theorem head_low {ops : Array Oper} : ∀ {l : List Oper} {ms : List Nat} {k : Nat}, headH ops l ms k = true → ∀ (i : Nat) (x : Oper), l[i]? = some x → ∀ e ∈ x.after, Region.binds .any e = true → e.on < k + i
  | [], _, _, _, i, x, hx => by simp at hx
  | _ :: _, [], _, h, _, _, _ => by cases h
  | o :: l, m :: ms, k, h, 0, x, hx => fun e he hb => by
    simp only [headH, Bool.and_eq_true] at h
    simp only [List.getElem?_cons_zero, Option.some.injEq] at hx
    subst hx
    have h5 := Array.all_eq_true'.1 h.1.1 e he
    simpa [hb] using h5
  | o :: l, m :: ms, k, h, i + 1, x, hx => fun e he hb => by
    simp only [headH, Bool.and_eq_true] at h
    have := head_low h.2 i x (by simpa using hx) e he hb
    omega

/-! ### Every order -/
/-- What is left: the operations l of the first n. -/
structure Pend (ops : Array Oper) (n : Nat) (l : List (Nat × Oper)) (listed : Array Bool) : Prop where
  size : listed.size = ops.size
  mem : ∀ x ∈ l, ops[x.1]? = some x.2 ∧ x.1 < n ∧ listed.getD x.1 true = false
  out : ∀ j o, j < n → ops[j]? = some o → listed.getD j true = false → (j, o) ∈ l
  tail : ∀ j, n ≤ j → j < ops.size → listed.getD j true = false
  sort : l.Pairwise fun x y => x.1 < y.1
  closed : Closed .any ops listed
theorem getD_in {listed : Array Bool} {j : Nat} (h : j < listed.size) : listed.getD j true = listed.getD j false := by
  simp only [Array.getD_eq_getD_getElem?]
  rw [Array.getElem?_eq_getElem h]
  rfl
theorem Pend.step {ops : Array Oper} {n i : Nat} {o : Oper} {l1 l2 : List (Nat × Oper)} {listed : Array Bool} (h : Pend ops n (l1 ++ (i, o) :: l2) listed) (hr : i ∈ Region.ready .any ops listed) : Pend ops n (l1 ++ l2) (listed.setIfInBounds i true) := by
  have hs := h.sort
  rw [List.pairwise_append, List.pairwise_cons] at hs
  have hm := h.mem (i, o) (by simp)
  have hil : i < listed.size := by rw [h.size]; exact (Array.getElem?_eq_some_iff.1 hm.1).1
  refine ⟨by rw [Array.size_setIfInBounds, h.size], fun x hx => ?_, fun j o' hj ho hl => ?_, fun j hj hjs => ?_, ?_, h.closed.set hr⟩
  · have hne : i ≠ x.1 := by
      rcases List.mem_append.1 hx with h1 | h1
      · have := hs.2.2 x h1 (i, o) (by simp)
        dsimp only at this
        omega
      · have := hs.2.1.1 x h1
        dsimp only at this
        omega
    obtain ⟨h1, h2, h3⟩ := h.mem x (by
      rcases List.mem_append.1 hx with h1 | h1
      · exact List.mem_append_left _ h1
      · exact List.mem_append_right _ (List.mem_cons_of_mem _ h1))
    exact ⟨h1, h2, by rw [getD_set_ne true hne]; exact h3⟩
  · by_cases e : i = j
    · subst e
      simp [hil] at hl
    · rw [getD_set_ne true e] at hl
      have h1 := h.out j o' hj ho hl
      rcases List.mem_append.1 h1 with h2 | h2
      · exact List.mem_append_left _ h2
      · rcases List.mem_cons.1 h2 with h3 | h3
        · injection h3 with h4 h5
          exact absurd h4.symm e
        · exact List.mem_append_right _ h3
  · rw [getD_set_ne true (by have := hm.2.1; dsimp only at this; omega)]
    exact h.tail j hj hjs
  · exact h.sort.sublist (List.Sublist.append (List.Sublist.refl _) (List.sublist_cons_self _ _))

/-- What is asked where the n operations are done. -/
def endG (P : Program) (ops : Array Oper) (Q : Exit → Act → World → Prop) (C0 : World → Prop) (T : List Oper) (F : Facts) (a : Act) : Prop := ∀ w, C0 w → (∀ k, F k w) → wpList P ops Q T a w
theorem endG_mono {P : Program} {ops : Array Oper} {Q : Exit → Act → World → Prop} {C0 : World → Prop} {T : List Oper} : ∀ (F F' : Facts) (a : Act), (∀ k w, F' k w → F k w) → endG P ops Q C0 T F a → endG P ops Q C0 T F' a :=
  fun _ _ _ h hh w hw hF => hh w hw fun k => h k w (hF k)

section
variable {P : Program} {Rel : World → World → Prop} {ops : Array Oper} {Q : Exit → Act → World → Prop} {C0 : World → Prop}
theorem reg_any (hcl : ∀ w w', C0 w → Rel w w' → C0 w') {n : Nat} {T : List Oper} (hB : tailH ops n T.length = true) (hT : ∀ j, j < T.length → T[j]? = ops[n + j]?) :
    ∀ (N : Nat) (l : List (Nat × Oper)) (listed : Array Bool) (F : Facts) (a : Act) (w : World), l.length = N → Pend ops n l listed → GoodF Rel C0 F w → Unl l F →
      wpG P Rel ops C0 (endG P ops Q C0 T) l F a → wpAny P .any ops Q (T.length + N) listed a w := by
  simp only [tailH, Bool.and_eq_true, decide_eq_true_eq] at hB
  obtain ⟨⟨⟨⟨hsel, hh⟩, hsk⟩, hsz⟩, hf⟩ := hB
  have hM : OkM ops (maskL ops.toList []) := maskL_ok ops.toList [] (fun j _ => by simp) (fun j b i hj => by simp at hj)
  have htk : ∀ (j : Nat) (o : Oper), j < n → ops[j]? = some o → (ops.toList.take n)[j]? = some o := fun j o hj ho => by
    rw [List.getElem?_take, if_pos hj]
    simpa using ho
  have hI : Inv ops n (marks n 0 (Array.replicate ops.size false)) := by
    have := Inv.marks (listed := #[]) n (Inv.start (ops := ops))
    rwa [Nat.zero_add] at this
  intro N
  induction N with
  | zero =>
    intro l listed F a w hl hP hG hU h
    obtain rfl := List.eq_nil_of_length_eq_zero hl
    have e : listed = marks n 0 (Array.replicate ops.size false) := by
      have hms : ∀ (k m : Nat) (x : Array Bool), (marks k m x).size = x.size := by
        intro k
        induction k with
        | zero => intro m x; rfl
        | succ k ih => intro m x; rw [marks, ih, Array.size_setIfInBounds]
      refine Array.ext (by rw [hms, hP.size, Array.size_replicate]) fun j h1 h2 => ?_
      have hj : j < ops.size := by rw [← hP.size]; exact h1
      have h3 := hI j hj
      rw [Array.getElem?_eq_getElem h2] at h3
      injection h3 with h3
      rw [h3]
      have h4 : listed.getD j true = listed[j] := by
        simp only [Array.getD_eq_getD_getElem?]
        rw [Array.getElem?_eq_getElem h1]
        rfl
      by_cases hjn : j < n
      · rw [decide_eq_true hjn]
        cases hv : listed[j] with
        | true => rfl
        | false =>
          have h5 := hP.out j ops[j] hjn (Array.getElem?_eq_getElem hj) (h4.trans hv)
          simp at h5
      · rw [decide_eq_false hjn, ← h4]
        exact hP.tail j (by omega) hj
    exact wpAny_forced T n listed a w hT (by rw [e]; exact hf) (h w hG.cls hG.all)
  | succ N ih =>
    intro l listed F a w hl hP hG hU h
    obtain ⟨x0, l0, rfl⟩ : ∃ x l', l = x :: l' := by cases l with
      | nil => simp at hl
      | cons x l => exact ⟨x, l, rfl⟩
    have hm0 := hP.mem x0 (by simp)
    have hs0 := List.pairwise_cons.1 hP.sort
    have hx0 : x0.1 ∈ Region.ready .any ops listed := by
      refine mem_ready.2 ⟨hm0.2.2, x0.2, hm0.1, fun e he hb => ?_⟩
      have hlow := head_low hh x0.1 x0.2 (htk _ _ hm0.2.1 hm0.1) e he hb
      rw [Nat.zero_add] at hlow
      have hes : e.on < ops.size := Nat.lt_trans hlow (Array.getElem?_eq_some_iff.1 hm0.1).1
      cases hv : listed.getD e.on false with
      | true => rfl
      | false =>
        rw [← getD_in (by rw [hP.size]; exact hes)] at hv
        have h5 := hP.out e.on ops[e.on] (by omega) (Array.getElem?_eq_getElem hes) hv
        rcases List.mem_cons.1 h5 with h6 | h6
        · rw [← h6] at hlow
          exact absurd hlow (by simp)
        · have := hs0.1 _ h6
          dsimp only at this
          omega
    refine ⟨fun h0 => (by rw [h0] at hx0; cases hx0), fun i hi => ?_⟩
    obtain ⟨hiu, o, hio, hall⟩ := mem_ready.1 hi
    have his := (Array.getElem?_eq_some_iff.1 hio).1
    have hin : i < n := by
      by_cases hin : i < n
      · exact hin
      · exfalso
        have hr : i ∈ Region.ready .any ops (marks n 0 (Array.replicate ops.size false)) := mem_ready.2 ⟨hI.out his (by omega) true, o, hio, fun e he hb => by
          have h5 := hall e he hb
          have hes : e.on < ops.size := by
            rcases Nat.lt_or_ge e.on listed.size with h6 | h6
            · rw [← hP.size]; exact h6
            · simp [Array.getElem?_eq_none h6] at h5
          by_cases hen : e.on < n
          · exact hI.in_ hes hen false
          · have h6 := hP.tail e.on (by omega) hes
            rw [getD_in (by rw [hP.size]; exact hes), h5] at h6
            cases h6⟩
        have hw : Waits ops i x0.1 := by
          cases hTl : T.length with
          | zero =>
            rw [hTl] at hf
            simp only [forcedB, List.isEmpty_iff] at hf
            rw [hf] at hr
            cases hr
          | succ m =>
            rw [hTl] at hf
            simp only [forcedB, Bool.and_eq_true, decide_eq_true_eq] at hf
            rw [hf.1, List.mem_singleton] at hr
            subst hr
            cases hms : (maskL ops.toList [])[i]? with
            | none =>
              exfalso
              have hlen : ∀ (l : List Oper) (ms : List Nat), (maskL l ms).length = l.length + ms.length := by
                intro l
                induction l with
                | nil => intro ms; simp [maskL]
                | cons o l ih => intro ms; rw [maskL, ih]; simp; omega
              rw [List.getElem?_eq_none_iff, hlen] at hms
              simp at hms
              omega
            | some b =>
              rw [hms] at hsk
              simp only [List.all_eq_true, List.mem_range] at hsk
              exact hM i b x0.1 hms (hsk x0.1 hm0.2.1)
        have h7 := hP.closed.waits' hw o hio hall
        have h8 := getD_ready hx0
        rw [h7] at h8
        cases h8
    have hil : (i, o) ∈ x0 :: l0 := hP.out i o hin hio hiu
    generalize x0 :: l0 = l at *
    clear hm0 hs0 hx0
    obtain ⟨l1, l2, rfl⟩ := List.append_of_mem hil
    have hs := hP.sort
    have hs' := hs
    rw [List.pairwise_append, List.pairwise_cons] at hs'
    have hnd : ((l1 ++ (i, o) :: l2).map (·.1)).Nodup := List.Pairwise.map _ (fun _ _ h => Nat.ne_of_lt h) hs
    have hp : ∀ x ∈ l1, PairG ops x (i, o) := fun x hx => by
      have hlt := hs'.2.2 x hx (i, o) (by simp)
      dsimp only at hlt
      have hm := hP.mem x (List.mem_append_left _ hx)
      have hxu := hm.2.2
      have hxs : x.1 < listed.size := by rw [hP.size]; exact (Array.getElem?_eq_some_iff.1 hm.1).1
      rw [getD_in hxs] at hxu
      obtain ⟨m, h1, h2⟩ := head_ok hh x.1 i x.2 o hlt (htk _ _ hm.2.1 hm.1) (htk _ _ hin hio)
      rw [Nat.zero_add] at h2
      have h3 : x.2.apart ops o = true ∧ (stillG o.op = true ∨ multiG x.2.op = false) := by
        rcases h2 with h2 | h2
        · have h7 := hP.closed.waits' (hM i m x.1 h1 h2) o hio hall
          rw [h7] at hxu
          cases hxu
        · exact h2
      refine ⟨Nat.ne_of_lt hlt, h3.1, fun e he hb hon => ?_, fun e he hb hon => ?_, h3.2, fun cs b => Region.noSelect_spec hsel x.1 x.2 cs b hm.1, fun cs b => Region.noSelect_spec hsel i o cs b hio⟩
      · have h7 := hall e he hb
        rw [hon, hxu] at h7
        cases h7
      · have h7 := head_low hh x.1 x.2 (htk _ _ hm.2.1 hm.1) e he hb
        dsimp only at hon
        omega
    have h9 := frontG hcl endG_mono (i, o) l2 l1 F a w hp hnd hG hU h
    have hP' := hP.step hi
    have hU' : Unl (l1 ++ l2) F := fun x hx => hU x (by
      rcases List.mem_append.1 hx with h1 | h1
      · exact List.mem_append_left _ h1
      · exact List.mem_append_right _ (List.mem_cons_of_mem _ h1))
    have hi' : i ∉ (l1 ++ l2).map (·.1) := fun hmem => by
      obtain ⟨x, hx, hxi⟩ := List.mem_map.1 hmem
      rcases List.mem_append.1 hx with h1 | h1
      · have := hs'.2.2 x h1 (i, o) (by simp)
        dsimp only at this hxi
        omega
      · have := hs'.2.1.1 x h1
        dsimp only at this hxi
        omega
    have hlen : (l1 ++ l2).length = N := by
      simp only [List.length_append, List.length_cons] at hl ⊢
      omega
    unfold wpOp
    simp only [hio]
    unfold wpG at h9
    dsimp only at h9
    split
    · rename_i hw
      rw [if_pos hw] at h9
      obtain ⟨V, hpv, _, hy, hn⟩ := h9
      refine .inl ?_
      have h3 := hy w hG.cls (fun e _ _ => hG.all e.on)
      have fin : ∀ u w', Rel w w' → V u w' → wpAny P .any ops Q (T.length + N) (listed.setIfInBounds i true) (a.put o.dst u) w' := fun u w' hb hV => by
        have hC := hcl _ _ hG.cls hb
        have hF : ∀ k, F k w' := fun k => hG.pers k _ _ (hG.all k) hb
        exact ih (l1 ++ l2) _ _ _ w' hlen hP' (hG.up (hpv u) hC hF hV) (hU'.up hi') (hn u w' hC hF hV)
      unfold Oper.wp
      generalize (execOp a.eval o).run P w = r at *
      cases r with
      | ok n w' =>
        cases n <;> simp only [uponG] at h3 <;> simp only [Oper.upon]
        case value u => exact fin u w' h3.1 h3.2
        case skip => exact fin _ w' h3.1 h3.2
        case enter f args =>
          obtain ⟨e1, hc⟩ := h3
          rw [e1]
          exact hc.mono fun e w'' ⟨v, he, hb, hV⟩ => by subst he; exact fin v w'' hb hV
      | halt x w' => simp only [uponG] at h3
    · rename_i hw
      rw [if_neg hw] at h9
      exact ih (l1 ++ l2) _ _ _ w hlen hP' (hG.up (fun _ _ _ _ => trivial) hG.cls hG.all trivial) (hU'.up hi') h9

end

/-! ### Over frames by what is known of them -/
def idx : Nat → List Oper → List (Nat × Oper)
  | _, [] => []
  | k, o :: l => (k, o) :: idx (k + 1) l
theorem idx_len : ∀ (k : Nat) (l : List Oper), (idx k l).length = l.length
  | _, [] => rfl
  | k, o :: l => by rw [idx, List.length_cons, idx_len, List.length_cons]
theorem idx_mem : ∀ {k : Nat} {l : List Oper} {x : Nat × Oper}, x ∈ idx k l → k ≤ x.1 ∧ l[x.1 - k]? = some x.2
  | _, [], _, h => by simp [idx] at h
  | k, o :: l, x, h => by
    rcases List.mem_cons.1 h with rfl | h
    · exact ⟨Nat.le_refl _, by simp⟩
    · obtain ⟨h1, h2⟩ := idx_mem h
      refine ⟨by omega, ?_⟩
      rw [show x.1 - k = x.1 - (k + 1) + 1 by omega]
      simpa using h2
theorem mem_idx : ∀ {k : Nat} {l : List Oper} {j : Nat} {o : Oper}, l[j]? = some o → (k + j, o) ∈ idx k l
  | _, [], _, _, h => by simp at h
  | k, x :: l, 0, o, h => by
    simp only [List.getElem?_cons_zero, Option.some.injEq] at h
    subst h
    exact List.mem_cons_self
  | k, x :: l, j + 1, o, h => by
    have h1 := mem_idx (k := k + 1) (l := l) (j := j) (o := o) (by simpa using h)
    rw [show k + (j + 1) = k + 1 + j by omega]
    exact List.mem_cons_of_mem _ h1
theorem idx_sort : ∀ (k : Nat) (l : List Oper), (idx k l).Pairwise fun x y => x.1 < y.1
  | _, [] => List.Pairwise.nil
  | k, o :: l => List.Pairwise.cons (fun x hx => by have := (idx_mem hx).1; dsimp only; omega) (idx_sort (k + 1) l)

/-- What is told of memory: by the number of the operation that left it. -/
abbrev Told := List (Nat × (World → Prop))
def lookP : Told → Nat → Option (World → Prop)
  | [], _ => none
  | (k, p) :: r, j => match Nat.beq k j with
    | true => some p
    | false => lookP r j
def farP (i : Nat) (Fa : Told) : Bool := Fa.all fun x => !Nat.beq x.1 i
/-- F says what Fa tells. -/
def Tell (Fa : Told) (F : Facts) : Prop := ∀ x ∈ Fa, ∀ w, F x.1 w → x.2 w
theorem lookP_mem : ∀ {Fa : Told} {j : Nat} {p : World → Prop}, lookP Fa j = some p → (j, p) ∈ Fa
  | [], _, _, h => by cases h
  | (k, q) :: r, j, p, h => by
    unfold lookP at h
    split at h
    · rename_i e
      obtain rfl := Nat.eq_of_beq_eq_true e
      cases h
      exact List.mem_cons_self
    · exact List.mem_cons_of_mem _ (lookP_mem h)
theorem Tell.up {Fa : Told} {F : Facts} {i : Nat} {p : World → Prop} (h : Tell Fa F) (hf : farP i Fa = true) : Tell Fa (upF F i p) := fun x hx w hw => by
  have h1 := List.all_eq_true.1 hf x hx
  have e : x.1 ≠ i := by
    rintro rfl
    simp at h1
  rw [upF_ne e] at hw
  exact h x hx w hw
theorem Tell.more {Fa : Told} {F : Facts} {i : Nat} {p : World → Prop} (h : Tell Fa F) (hf : farP i Fa = true) : Tell ((i, p) :: Fa) (upF F i p) := fun x hx w hw => by
  rcases List.mem_cons.1 hx with rfl | hx
  · rwa [upF_same] at hw
  · exact h.up hf x hx w hw

def gF (P : Program) (Rel : World → World → Prop) (ops : Array Oper) (C0 : World → Prop) (Q : Facts → Act → Prop) (l : List (Nat × Oper)) (N : Nat) (E : List (Nat × Value)) (Fa : Told) : Prop :=
  ∀ a F, Fr N E a → Tell Fa F → wpG P Rel ops C0 Q l F a
/-- What an operation may use: what those told that it waits for. -/
def Uses (o : Oper) (Fa : Told) (w : World) : Prop := ∀ j p, lookP Fa j = some p → edgeTo .any o j = true → p w

section
variable {P : Program} {Rel : World → World → Prop} {C0 : World → Prop} {Q : Exit → Act → World → Prop} {N : Nat} {E : List (Nat × Value)} {w : World} {id : Nat} {l : List Oper}
/-- Of any way for worlds to go on. -/
theorem c_gR (n : Nat) (hcl : ∀ w w', C0 w → Rel w w' → C0 w') (h0 : C0 w.drew) (hn : n ≤ l.length) (hm : P.follows .mixedOrders = true) (hB : tailH l.toArray n (l.drop n).length = true)
    (h : gF P Rel l.toArray C0 (endG P l.toArray Q C0 (l.drop n)) (idx 0 (l.take n)) N E []) : cF P (.region id l.toArray true) Q N E w := fun a ha => by
  refine wp_region_any hm ?_
  have hL : (l.take n).length = n := by rw [List.length_take]; omega
  have hG : GoodF Rel C0 (fun _ _ => True) w.drew := ⟨fun _ _ _ _ _ => trivial, h0, fun _ => trivial⟩
  have hP : Pend l.toArray n (idx 0 (l.take n)) (Array.replicate l.toArray.size false) := by
    refine ⟨by simp, fun x hx => ?_, fun j o hj ho _ => ?_, fun j _ hj => by
      have hj' : j < l.length := by simpa using hj
      simp [hj'], idx_sort _ _, Closed.none _⟩
    · obtain ⟨_, h2⟩ := idx_mem hx
      rw [Nat.sub_zero, List.getElem?_take] at h2
      split at h2
      · rename_i hlt
        have h3 : x.1 < l.length := (List.getElem?_eq_some_iff.1 h2).1
        exact ⟨by simpa using h2, hlt, by simp [h3]⟩
      · cases h2
    · have h1 := mem_idx (k := 0) (l := l.take n) (j := j) (o := o) (by rw [List.getElem?_take, if_pos hj]; simpa using ho)
      rwa [Nat.zero_add] at h1
  have h2 := reg_any (Q := Q) hcl hB (fun j _ => by simp) n (idx 0 (l.take n)) _ _ a w.drew (by rw [idx_len, hL]) hP hG (fun _ _ _ => trivial) (h a _ ha (fun x hx => by cases hx))
  have e : (l.drop n).length + n = l.toArray.size := by simp; omega
  rw [e] at h2
  exact h2
end
section
variable {P : Program} {Q : Exit → Act → World → Prop} {N : Nat} {E : List (Nat × Value)} {w : World} {id : Nat} {l : List Oper}
theorem c_g (n : Nat) (hn : n ≤ l.length) (hm : P.follows .mixedOrders = true) (hB : tailH l.toArray n (l.drop n).length = true)
    (h : gF P Bel l.toArray (Up w) (endG P l.toArray Q (Up w) (l.drop n)) (idx 0 (l.take n)) N E []) : cF P (.region id l.toArray true) Q N E w := c_gR (Rel := Bel) (C0 := Up w) n (fun _ _ h k => Up.step h k) (Up.drew w) hn hm hB h
end

section
variable {P : Program} {Rel : World → World → Prop} {ops : Array Oper} {C0 : World → Prop} {Q : Facts → Act → Prop} {N : Nat} {E : List (Nat × Value)} {Fa : Told} {o : Oper} {rest : List (Nat × Oper)} {i k : Nat}
/-- An operation that leaves memory. -/
theorem g_mem (V : Value → World → Prop) (hg : o.guard = none) (hd : o.dst = some k) (hk : Nat.blt k N = true) (hf : farP i Fa = true) (hm : multiG o.op = true) (hp : ∀ v, Pers Rel (V v))
    (h : ∀ a, Fr N E a → ∀ w, C0 w → Uses o Fa w → uponG P Rel w V ((execOp a.eval o).run P w)) (hn : ∀ v w, C0 w → V v w → gF P Rel ops C0 Q rest N ((k, v) :: E) ((i, V v) :: Fa)) : gF P Rel ops C0 Q ((i, o) :: rest) N E Fa := fun a F ha hF => by
  unfold wpG
  rw [if_pos (by simp [Region.wanted, hg])]
  refine ⟨V, hp, .inr hm, fun w hw he => h a ha w hw fun j p hj hed => ?_, fun v w hw _ hV => hn v w hw hV _ _ (by dsimp only; rw [hd]; exact ha.put hk v) (hF.more hf)⟩
  obtain ⟨e, h1, h2, rfl⟩ := edgeTo_spec hed
  exact hF _ (lookP_mem hj) w (he e h1 h2)
/-- An operation of the usual kind; it may use what is told. -/
theorem g_op [hR : RelOk Rel] (hf : farP i Fa = true) (h : bF P ops (fun w => C0 w ∧ Uses o Fa w) (fun a' => ∀ F, Tell Fa F → wpG P Rel ops C0 Q rest F a') [o] N E) : gF P Rel ops C0 Q ((i, o) :: rest) N E Fa := fun a F ha hF => by
  have h1 := h a ha
  unfold wpB at h1
  unfold wpG
  split
  · rename_i hw
    rw [if_pos hw] at h1
    have huse : ∀ w, (∀ e ∈ o.after, Region.binds .any e = true → F e.on w) → Uses o Fa w := fun w he j p hj hed => by
      obtain ⟨e, h1, h2, rfl⟩ := edgeTo_spec hed
      exact hF _ (lookP_mem hj) w (he e h1 h2)
    have hup : ∀ (V : Value → Prop) (w : World) (r : Result Next), uponB P w V r → uponG P Rel w (fun u _ => V u) r := fun V w r hr => by
      cases r with
      | ok n w' =>
        cases n <;> simp only [uponB] at hr <;> simp only [uponG]
        case value u => obtain ⟨rfl, h⟩ := hr; exact ⟨hR.below _ _ (Below.refl _ _), h⟩
        case skip => obtain ⟨rfl, h⟩ := hr; exact ⟨hR.below _ _ (Below.refl _ _), h⟩
        case enter f args =>
          obtain ⟨rfl, h⟩ := hr
          exact ⟨rfl, h.mono fun e w'' ⟨v, h1, h2, h3⟩ => ⟨v, h1, hR.below _ _ h3, h2⟩⟩
      | halt x w' => simp only [uponB] at hr
    rcases h1 with ⟨v, h2, h3⟩ | ⟨hp, V, h2, h3⟩
    · exact ⟨fun u _ => u = v, fun _ _ _ h _ => h, .inl ⟨v, fun _ _ h => h⟩, fun w hw he => hup (· = v) _ _ (h2 w ⟨hw, huse w he⟩), fun u w _ _ hu => by
        rw [hu]
        exact h3 _ (hF.up hf)⟩
    · refine ⟨fun u _ => V u, fun _ _ _ h _ => h, .inr ?_, fun w hw he => hup V _ _ (h2 w ⟨hw, huse w he⟩), fun u w _ _ hu => h3 u hu _ (hF.up hf)⟩
      unfold multiG
      split <;> first | rfl | exact hp
  · rename_i hw
    rw [if_neg hw] at h1
    exact h1 _ (hF.up hf)
theorem g_go (h : gF P Rel ops C0 Q rest N E Fa) : bF P ops (fun w => C0 w ∧ Uses o Fa w) (fun a' => ∀ F, Tell Fa F → wpG P Rel ops C0 Q rest F a') [] N E := fun a ha => wpB_nil fun F hF => h a F ha hF
theorem g_end {Q : Exit → Act → World → Prop} {T : List Oper} (h : ∀ w, C0 w → (∀ j p, lookP Fa j = some p → p w) → lF P ops Q T N E w) : gF P Rel ops C0 (endG P ops Q C0 T) [] N E Fa := fun a _ ha hF w hw hFw =>
  h w hw (fun j _ hj => hF _ (lookP_mem hj) w (hFw j)) a ha
end
end Go.Proofs.YtlaikmpnijlcbaaDoor
/-
  WORDS OF 64 BITS: rows of words, the walk's numbers made natural; a number's words and bytes.
-/
namespace Go.Proofs.YtlaikmpnijlcbaaDoor
open Go.RowKit Go.IntWalk

/-- Words as the cells of a row. -/
def Us (l : List Nat) : List Value := l.map fun x : Nat => .int .u64 (x : Int)
theorem Us_len (l : List Nat) : (Us l).length = l.length := by simp [Us]
theorem Us_at {l : List Nat} {j : Nat} (h : j < l.length) : (Us l).toArray[j]? = some (.int .u64 (l[j]! : Nat)) := by
  simp [Us, h]
/-! ### The numbers of a walk, made natural -/
theorem wrapN (a : Nat) (ha : a < 18446744073709551616) : IntKind.u64.wrap (a : Int) = (a : Int) := by rw [IntKind.wrap_u64]; omega
/-! ### Bytes and words -/
end Go.Proofs.YtlaikmpnijlcbaaDoor
/-
  ROWS OF CELLS, AND STORES OVER FRAMES BY WHAT IS KNOWN OF THEM.
-/
namespace Go.Proofs.YtlaikmpnijlcbaaDoor
open Go.RowKit Go.IntWalk

/-- The values l lie in block g from its head on, and may be written. -/
structure VL (w : World) (g : Nat) (l : List Value) : Prop where
  lt : g < w.heap.size
  cell : ∀ j v, l[j]? = some v → w.cell? ⟨g, j, none⟩ = some v
  free : ∀ j, j < l.length → w.frozen? ⟨g, j, none⟩ = false
section
variable {w w' : World} {g B : Nat} {l : List Value}
theorem VL.below (h : VL w g l) (hb : Below B w w') (hg : g < B) : VL w' g l :=
  ⟨Nat.lt_of_lt_of_le h.lt hb.size, fun j v hj => (hb.cell (p := ⟨g, j, none⟩) hg).trans (h.cell j v hj), fun j hj => (hb.frozen (p := ⟨g, j, none⟩) hg).trans (h.free j hj)⟩
theorem VL.up (h : VL w g l) (hb : Up w w') : VL w' g l := h.below hb h.lt
theorem VL.set (h : VL w g l) (k : Nat) (x : Value) : VL (w.setCell ⟨g, k, none⟩ x) g (l.set k x) := by
  refine ⟨by simpa [World.setCell] using h.lt, fun j v hj => ?_, fun j hj => ?_⟩
  · rw [List.getElem?_set] at hj
    by_cases e : k = j
    · subst e
      rw [if_pos rfl] at hj
      split at hj
      · rename_i hk
        cases hj
        exact World.cell?_setCell_same _ _ _ (h.cell k l[k] (List.getElem?_eq_getElem hk))
      · cases hj
    · rw [if_neg e] at hj
      rw [World.cell?_setCell_other _ _ _ _ (by intro he; injection he with _ he _; omega), h.cell j v hj]
  · rw [List.length_set] at hj
    rw [World.frozen?_setCell]
    exact h.free j hj
theorem VL.far (h : VL w g l) {p : Addr} (hp : g ≠ p.block) (u : Value) : VL (w.setCell p u) g l :=
  ⟨by simpa [World.setCell] using h.lt, fun j v hj => by rw [World.cell?_setCell_other _ _ _ _ (fun e => hp (by rw [e]))]; exact h.cell j v hj, fun j hj => by rw [World.frozen?_setCell]; exact h.free j hj⟩
end
theorem Us_at? {l : List Nat} {j : Nat} (h : j < l.length) : (Us l)[j]? = some (.int .u64 (l[j]! : Nat)) := by
  simp [Us, h]
theorem Us_put (l : List Nat) (k x : Nat) : (Us l).set k (.int .u64 (x : Int)) = Us (l.set k x) := by
  simp [Us, List.map_set]
theorem By_at? {l : List UInt8} {j : Nat} (h : j < l.length) : (By l)[j]? = some (.int .u8 ((l[j]!).toNat : Int)) := by
  have h1 := By_get h
  simpa using h1
theorem VL.byte {w : World} {g : Nat} {l : List UInt8} (h : VL w g (By l)) {j : Nat} (hj : j < l.length) : w.cell? ⟨g, j, none⟩ = some (.int .u8 ((l[j]!).toNat : Int)) := h.cell j _ (By_at? hj)
theorem VL.word {w : World} {g : Nat} {l : List Nat} (h : VL w g (Us l)) {j : Nat} (hj : j < l.length) : w.cell? ⟨g, j, none⟩ = some (.int .u64 (l[j]! : Nat)) := h.cell j _ (Us_at? hj)

theorem VL.new (w : World) (l : List Value) (t : TypeId) : VL (w.alloc (.cells l.toArray t)) w.heap.size l := by
  have hb := Blk.new w t l.toArray
  exact ⟨by rw [World.size_alloc]; omega, fun j v hj => by rw [hb.cell j]; simpa using hj, fun j _ => hb.free j⟩
/-! ### The check of a region whose first forced operation waits for some by more than four steps -/
end Go.Proofs.YtlaikmpnijlcbaaDoor
/-
  NEW VARIABLES OVER FRAMES BY WHAT IS KNOWN OF THEM: 'x, y, .. := .., ..', as many as there are, in whatever order they come.
-/
namespace Go.Proofs.YtlaikmpnijlcbaaDoor
open Go.RowKit Go.IntWalk

/-- A new variable: its slot, its type, its noughts. -/
structure NV where
  t : Nat
  ty : TypeId
  zs : Array Value

section
variable {P : Program} {N : Nat}
def nvOne (P : Program) (N : Nat) (o : Oper) (v : NV) : Prop := o.guard = none ∧ o.dst = some v.t ∧ Nat.blt v.t N = true ∧ o.op = .alloc v.ty ∧ (P.info? v.ty).bind (fun i => i.zero.map (·.cells)) = some v.zs
def nvOk (P : Program) (N : Nat) : List Oper → List NV → Prop
  | _, [] => True
  | [], _ :: _ => False
  | o :: l, v :: vs => nvOne P N o v ∧ nvOk P N l vs
theorem nvOk_get : ∀ {l : List Oper} {vs : List NV}, nvOk P N l vs → ∀ (j : Nat) (v : NV), vs[j]? = some v → ∃ o : Oper, l[j]? = some o ∧ nvOne P N o v
  | _, [], _, j, v, hv => by simp at hv
  | [], _ :: _, h, _, _, _ => h.elim
  | o :: l, v0 :: vs, h, 0, v, hv => by
    simp only [List.getElem?_cons_zero, Option.some.injEq] at hv
    subst hv
    exact ⟨o, rfl, h.1⟩
  | o :: l, v0 :: vs, h, j + 1, v, hv => by
    simp only [List.getElem?_cons_succ] at hv
    obtain ⟨o', h1, h2⟩ := nvOk_get h.2 j v hv
    exact ⟨o', by simpa using h1, h2⟩
end

def ptrs : List NV → Nat → (Nat → Nat) → List (Nat × Value) → List (Nat × Value)
  | [], _, _, E => E
  | v :: vs, j, gs, E => (v.t, .pointer (some ⟨gs j, 0, none⟩)) :: ptrs vs (j + 1) gs E
def far (E : List (Nat × Value)) : List NV → Prop
  | [] => True
  | v :: vs => look E v.t = none ∧ far E vs
theorem far_mem {E : List (Nat × Value)} : ∀ {vs : List NV}, far E vs → ∀ (j : Nat) (v : NV), vs[j]? = some v → look E v.t = none
  | [], _, j, v, hv => by simp at hv
  | v0 :: vs, h, 0, v, hv => by
    simp only [List.getElem?_cons_zero, Option.some.injEq] at hv
    subst hv
    exact h.1
  | v0 :: vs, h, j + 1, v, hv => far_mem h.2 j v (by simpa using hv)

section
variable {N : Nat} {E : List (Nat × Value)} {a : Act}
theorem Fr.putFar (h : Fr N E a) {k : Nat} (hk : look E k = none) (v : Value) : Fr N E (a.put (some k) v) := by
  refine ⟨by simp [Act.put, h.size], h.defers, fun j u hj => ?_⟩
  have e : k ≠ j := by
    rintro rfl
    rw [hk] at hj
    cases hj
  have h1 := h.get j u hj
  simp only [Act.put, Act.eval, Array.getD_eq_getD_getElem?] at h1 ⊢
  rw [Array.getElem?_setIfInBounds_ne (by omega)]
  exact h1
theorem Fr.more (h : Fr N E a) {k : Nat} {v : Value} (hv : a.eval (.tmp k) = v) : Fr N ((k, v) :: E) a := by
  refine ⟨h.size, h.defers, fun j u hj => ?_⟩
  rw [look_cons] at hj
  by_cases e : k = j
  · subst e
    rw [if_pos rfl] at hj
    cases hj
    exact hv
  · rw [if_neg e] at hj
    exact h.get j u hj
theorem Fr.tail {k : Nat} {v : Value} (h : Fr N ((k, v) :: E) a) (hk : look E k = none) : Fr N E a := by
  refine ⟨h.size, h.defers, fun j u hj => h.get j u ?_⟩
  rw [look_cons, if_neg]
  · exact hj
  · rintro rfl
    rw [hk] at hj
    cases hj
theorem eval_put_same (h : Fr N E a) {k : Nat} (hk : Nat.blt k N = true) (v : Value) : (a.put (some k) v).eval (.tmp k) = v := (h.put hk v).get k v (by rw [look_cons, if_pos rfl])
theorem eval_put_ne {k j : Nat} (hk : k ≠ j) (v : Value) : (a.put (some k) v).eval (.tmp j) = a.eval (.tmp j) := by
  simp only [Act.put, Act.eval, Array.getD_eq_getD_getElem?]
  rw [Array.getElem?_setIfInBounds_ne (by omega)]
theorem Fr.ptrs (h : Fr N E a) (gs : Nat → Nat) : ∀ (vs : List NV) (j0 : Nat), (∀ (j : Nat) (v : NV), vs[j]? = some v → a.eval (.tmp v.t) = .pointer (some ⟨gs (j0 + j), 0, none⟩)) → Fr N (ptrs vs j0 gs E) a
  | [], _, _ => h
  | v :: vs, j0, hv => by
    refine Fr.more (Fr.ptrs h gs vs (j0 + 1) fun j u hu => ?_) (hv 0 v rfl)
    have := hv (j + 1) u (by simpa using hu)
    rwa [← Nat.add_assoc, Nat.add_right_comm] at this
end

/-- Which variables are left (numbers from n on) are just what may come next, in whatever order they come. -/
def newC (ops : Array Oper) (n : Nat) (lend : Array Bool) : Nat → List Nat → Array Bool → Bool
  | 0, _, listed => decide (listed = lend)
  | f + 1, rem, listed => decide (Region.ready .any ops listed = rem.map (n + ·)) && rem.all fun j => newC ops n lend f (rem.erase j) (listed.setIfInBounds (n + j) true)

def tsApart : List NV → Bool
  | [] => true
  | v :: vs => (vs.all fun u => !(v.t == u.t)) && tsApart vs
theorem tsApart_lt : ∀ {vs : List NV}, tsApart vs = true → ∀ (i j : Nat) (vi vj : NV), i < j → vs[i]? = some vi → vs[j]? = some vj → vi.t ≠ vj.t
  | [], _, i, j, vi, vj, _, hi, _ => by simp at hi
  | v :: vs, h, 0, j + 1, vi, vj, _, hi, hj => by
    simp only [tsApart, Bool.and_eq_true, List.all_eq_true] at h
    simp only [List.getElem?_cons_zero, Option.some.injEq, List.getElem?_cons_succ] at hi hj
    subst hi
    have := h.1 vj (List.mem_of_getElem? hj)
    simpa using this
  | v :: vs, h, i + 1, j + 1, vi, vj, hij, hi, hj => by
    simp only [tsApart, Bool.and_eq_true] at h
    exact tsApart_lt h.2 i j vi vj (by omega) (by simpa using hi) (by simpa using hj)
theorem tsApart_ne {vs : List NV} (h : tsApart vs = true) {i j : Nat} {vi vj : NV} (hij : i ≠ j) (hi : vs[i]? = some vi) (hj : vs[j]? = some vj) : vi.t ≠ vj.t := by
  rcases Nat.lt_or_gt_of_ne hij with h1 | h1
  · exact tsApart_lt h i j vi vj h1 hi hj
  · exact (tsApart_lt h j i vj vi h1 hj hi).symm

section
variable {P : Program} {Q : Exit → Act → World → Prop} {N : Nat} {E : List (Nat × Value)} {w : World}
/-- What is asked where the variables have come. -/
def newEnd (P : Program) (ops : Array Oper) (Q : Exit → Act → World → Prop) (w : World) (vs : List NV) (T : List Oper) (N : Nat) (E : List (Nat × Value)) : Prop :=
  ∀ gs w', (∀ j, j < vs.length → w.heap.size ≤ gs j) → (∀ i j, i < vs.length → j < vs.length → i ≠ j → gs i ≠ gs j) → Up w w' → (∀ (j : Nat) (v : NV), vs[j]? = some v → Blk w' (gs j) v.ty v.zs) → lF P ops Q T N (ptrs vs 0 gs E) w'
def newPost (P : Program) (ops : Array Oper) (Q : Exit → Act → World → Prop) (w : World) (vs : List NV) (T : List Oper) (N : Nat) (a' : Act) : Prop :=
  ∃ E', Fr N E' a' ∧ far E' vs ∧ newEnd P ops Q w vs T N E'

theorem news_any {ops : Array Oper} {n m M : Nat} {lend : Array Bool} (vs : List NV) (hap : tsApart vs = true) (hnv : ∀ j v, vs[j]? = some v → ∃ o, ops[n + j]? = some o ∧ nvOne P N o v) (hE : far E vs)
    (fin : ∀ gs w0 a, Up w w0 → Fr N (ptrs vs 0 gs E) a → (∀ j, j < vs.length → w.heap.size ≤ gs j) → (∀ i j, i < vs.length → j < vs.length → i ≠ j → gs i ≠ gs j) → (∀ (j : Nat) (v : NV), vs[j]? = some v → Blk w0 (gs j) v.ty v.zs) →
      wpAnyU P .any ops (Up w) Q M m 0 w0 lend a) :
    ∀ (f : Nat) (rem : List Nat) (listed : Array Bool) (w0 : World) (a : Act) (gs : Nat → Nat), newC ops n lend f rem listed = true → rem.Nodup → f = rem.length → (∀ j ∈ rem, j < vs.length) → Up w w0 → Fr N E a →
      (∀ (j : Nat) (v : NV), j ∉ rem → vs[j]? = some v → w.heap.size ≤ gs j ∧ Blk w0 (gs j) v.ty v.zs ∧ a.eval (.tmp v.t) = .pointer (some ⟨gs j, 0, none⟩)) →
      (∀ i j, i < vs.length → j < vs.length → i ∉ rem → j ∉ rem → i ≠ j → gs i ≠ gs j) → wpAnyU P .any ops (Up w) Q M m f w0 listed a
  | 0, rem, listed, w0, a, gs, hc, _, hf, _, hU, hF, hd, hg => by
    obtain rfl : rem = [] := List.eq_nil_of_length_eq_zero hf.symm
    simp only [newC, decide_eq_true_eq] at hc
    subst hc
    refine fin gs w0 a hU (hF.ptrs gs vs 0 fun j v hv => ?_) (fun j hj => ?_) (fun i j hi hj hij => hg i j hi hj (by simp) (by simp) hij) (fun j v hv => (hd j v (by simp) hv).2.1)
    · rw [Nat.zero_add]
      exact (hd j v (by simp) hv).2.2
    · exact (hd j vs[j] (by simp) (List.getElem?_eq_getElem hj)).1
  | f + 1, rem, listed, w0, a, gs, hc, hnd, hf, hlt, hU, hF, hd, hg => by
    simp only [newC, Bool.and_eq_true, decide_eq_true_eq, List.all_eq_true] at hc
    obtain ⟨hr, hc⟩ := hc
    refine ⟨?_, fun i hi => ?_⟩
    · rw [hr]
      cases rem with
      | nil => cases hf
      | cons j rem => exact List.cons_ne_nil _ _
    · rw [hr] at hi
      obtain ⟨j, hj, rfl⟩ := List.mem_map.1 hi
      have hjl := hlt j hj
      have hv : vs[j]? = some vs[j] := List.getElem?_eq_getElem hjl
      generalize vs[j] = v at hv
      obtain ⟨o, ho, hgd, hds, hb, hop, hz⟩ := hnv j v hv
      refine wpAnyU_new (base := w.heap.size) ho hgd (exec_alloc hop hz) (fun _ _ h k => h.step k) (fun _ h => h.size) hU fun w1 hw1 hC1 hp => ?_
      rw [hds]
      have hfar := far_mem hE j v hv
      have hal := (Below.refl w1.heap.size w1).alloc (Nat.le_refl _) (.cells v.zs v.ty)
      have hem : ∀ i, i ∉ rem.erase j → i = j ∨ i ∉ rem := fun i hi => by
        by_cases e : i = j
        · exact .inl e
        · exact .inr fun hm => hi ((List.mem_erase_of_ne e).2 hm)
      refine news_any vs hap hnv hE fin f (rem.erase j) _ _ _ (fun i => if i = j then w1.heap.size else gs i) (hc j hj) (hnd.erase j) (by rw [List.length_erase_of_mem hj]; omega) (fun i hi => hlt i (List.mem_of_mem_erase hi)) (hC1.step hal) (hF.putFar hfar _) ?_ ?_
      · intro i u hi hu
        by_cases e : i = j
        · subst e
          obtain rfl : u = v := Option.some.inj (hu.symm.trans hv)
          rw [if_pos rfl]
          exact ⟨hp, Blk.new w1 _ _, eval_put_same hF hb _⟩
        · rw [if_neg e]
          obtain ⟨h1, h2, h3⟩ := hd i u ((hem i hi).resolve_left e) hu
          exact ⟨h1, (h2.later hw1).later hal, by rw [eval_put_ne (tsApart_ne hap (Ne.symm e) hv hu)]; exact h3⟩
      · intro i k hi hk hir hkr hik
        have hlt1 : ∀ i, i < vs.length → i ∉ rem → gs i < w1.heap.size := fun i hi hir => ((hd i vs[i] hir (List.getElem?_eq_getElem hi)).2.1.later hw1).lt
        by_cases e : i = j
        · rw [if_pos e, if_neg (fun h => hik (e.trans h.symm))]
          have := hlt1 k hk ((hem k hkr).resolve_left (fun h => hik (e.trans h.symm)))
          omega
        · rw [if_neg e]
          by_cases e2 : k = j
          · rw [if_pos e2]
            have := hlt1 i hi ((hem i hir).resolve_left e)
            omega
          · rw [if_neg e2]
            exact hg i k hi hk ((hem i hir).resolve_left e) ((hem k hkr).resolve_left e2) hik

/-- **New variables**: n operations may be taken first; the variables come when they come; then the rest, in its order. -/
theorem c_new {id : Nat} {l : List Oper} (n : Nat) (vs : List NV) (hn : n + vs.length ≤ l.length) (hap : tsApart vs = true) (hnv : nvOk P N (l.drop n) vs) (hm : P.follows .mixedOrders = true)
    (hB : tailB l.toArray n vs.length (l.drop (n + vs.length)).length = true)
    (hC : newC l.toArray n (marks vs.length n (marks n 0 (Array.replicate l.toArray.size false))) vs.length (List.range vs.length) (marks n 0 (Array.replicate l.toArray.size false)) = true)
    (hQ : ∀ c a d v w, Q (.panic c) (a.put d v) w → Q (.panic c) a w)
    (h : bF P l.toArray (Up w) (newPost P l.toArray Q w vs (l.drop (n + vs.length)) N) (l.take n) N E) : cF P (.region id l.toArray true) Q N E w := fun a ha => by
  simp only [tailB, Bool.and_eq_true, decide_eq_true_eq] at hB
  obtain ⟨⟨⟨⟨hs, hh⟩, hz⟩, hsk⟩, hf⟩ := hB
  have hL : (l.take n).length = n := by rw [List.length_take]; omega
  refine wp_region_any hm ?_
  have hT : ∀ j, j < (l.drop (n + vs.length)).length → (l.drop (n + vs.length))[j]? = l.toArray[vs.length + n + j]? := fun j _ => by
    simp only [List.getElem?_drop, List.getElem?_toArray]
    congr 1
    omega
  have hG : wpAnyU P .any l.toArray (Up w) Q (vs.length + n) (l.drop (n + vs.length)).length (vs.length + (l.take n).length) w.drew (Array.replicate l.toArray.size false) a := by
    refine wpAnyU_head (fun _ _ h k => h.step k) hs hQ vs.length w.drew (Up.drew w) (l.take n) 0 _ a (Closed.none _) (by omega) (fun j hj => ?_) (by rw [hL]; exact hh) ?_
    · rw [hL] at hj
      simp [hj]
    rw [hL]
    refine wpB_mono (fun a' h' => ?_) _ a (h a ha)
    obtain ⟨E', hF, hE, hk⟩ := h'
    refine news_any (E := E') (w := w) vs hap (fun j v hv => ?_) hE (fun gs w0 a hU hF hb hd hB => ⟨fun j hj i hi => ?_, fun w' hw' => ?_⟩) vs.length (List.range vs.length) _ w.drew a' (fun _ => 0) hC List.nodup_range (by simp) (fun j hj => by simpa using hj) (Up.drew w) hF ?_ ?_
    · obtain ⟨o, h1, h2⟩ := nvOk_get hnv j v hv
      exact ⟨o, by simpa using h1, h2⟩
    · have h1 := List.all_eq_true.1 hsk j hj
      exact List.all_eq_true.1 h1 i (List.mem_range.2 hi)
    · exact wpAny_forced _ (vs.length + n) _ _ w' hT hf (hk gs w' hb hd (hU.step hw') (fun j v hv => (hB j v hv).later hw') a hF)
    · intro j v hj hv
      exact absurd (List.mem_range.2 (List.getElem?_eq_some_iff.1 hv).1) hj
    · intro i j hi hj h1
      exact absurd (List.mem_range.2 hi) h1
  have h2 := wpAny_of_U (vs.length + (l.take n).length) _ a w.drew hG
  rw [hL] at h2
  have e : l.toArray.size = (l.drop (n + vs.length)).length + (vs.length + n) := by rw [hz, Nat.add_assoc]
  rw [← e] at h2
  exact h2

/-! ### What they hold at first -/
def stOk : List NV → List Operand → List Oper → List Oper → Prop
  | [], [], T, T' => T = T'
  | v :: vs, x :: xs, o :: T, T' => (o.guard = none ∧ o.dst = none ∧ o.op = .store v.ty (.tmp v.t) x) ∧ stOk vs xs T T'
  | _, _, _, _ => False
def valOk (P : Program) (E : List (Nat × Value)) : List NV → List Operand → List (Array Value) → Prop
  | [], [], [] => True
  | v :: vs, x :: xs, c :: cs => (ev E x = some (.agg c) ∧ v.zs.size = c.size ∧ (P.info? v.ty).map (·.size) = some c.size ∧ ∀ u ∈ c.toList, u.oneCell' = true) ∧ valOk P E vs xs cs
  | _, _, _ => False
def blks (w : World) : List NV → List (Array Value) → Nat → (Nat → Nat) → Prop
  | v :: vs, c :: cs, j, gs => Blk w (gs j) v.ty c ∧ blks w vs cs (j + 1) gs
  | _, _, _, _ => True
theorem l_stores {ops : Array Oper} {T' : List Oper} {W : World} {gs : Nat → Nat} : ∀ (vs : List NV) (xs : List Operand) (cs : List (Array Value)) (T : List Oper) (j0 : Nat) (w : World), stOk vs xs T T' → valOk P E vs xs cs →
    (∀ (j : Nat) (v : NV), vs[j]? = some v → look E v.t = some (.pointer (some ⟨gs (j0 + j), 0, none⟩))) → (∀ j, j < vs.length → W.heap.size ≤ gs (j0 + j)) → (∀ i j, i < vs.length → j < vs.length → i ≠ j → gs (j0 + i) ≠ gs (j0 + j)) → Up W w → (∀ (j : Nat) (v : NV), vs[j]? = some v → Blk w (gs (j0 + j)) v.ty v.zs) →
    (∀ w', Up W w' → (∀ g t c, (∀ j, j < vs.length → gs (j0 + j) ≠ g) → Blk w g t c → Blk w' g t c) → blks w' vs cs j0 gs → lF P ops Q T' N E w') → lF P ops Q T N E w
  | [], xs, cs, T, j0, w, hst, hv, _, _, _, hU, _, h => by
    cases xs with
    | cons => exact hst.elim
    | nil =>
      obtain rfl : T = T' := hst
      exact h w hU (fun _ _ _ _ h => h) (by unfold blks; trivial)
  | v :: vs, xs, cs, T, j0, w, hst, hv, hl, hge, hd, hU, hB, h => by
    cases xs with
    | nil => exact hst.elim
    | cons x xs =>
      cases T with
      | nil => exact hst.elim
      | cons o T =>
        cases cs with
        | nil => exact hv.elim
        | cons c cs =>
          obtain ⟨⟨hgd, hds, hop⟩, hst⟩ := hst
          obtain ⟨⟨hx, hz, hi, ho⟩, hv⟩ := hv
          intro a ha
          have h0 := hB 0 v rfl
          have hd0 : ∀ j, j < vs.length → gs (j0 + 1 + j) ≠ gs j0 := fun j hj => by
            have := hd (j + 1) 0 (by simpa using hj) (by simp) (by omega)
            rwa [← Nat.add_assoc, Nat.add_right_comm, Nat.add_zero] at this
          rw [Nat.add_zero] at h0
          refine wpList_store_row hgd v.ty (.tmp v.t) x hop (gs j0) (ha.get _ _ (hl 0 v rfl)) c (ha.eval hx) v.ty v.zs h0 hi hz ho ?_
          rw [hds]
          refine l_stores (gs := gs) (W := W) vs xs cs T (j0 + 1) (w.setRow (gs j0) c) hst hv (fun j u hu => ?_) (fun j hj => ?_) (fun i j hi hj hij => ?_) (up_row hU (hge 0 (by simp)) _) (fun j u hu => ?_) (fun w' hU' hK hb => ?_) a ha
          · have := hl (j + 1) u (by simpa using hu)
            rwa [← Nat.add_assoc, Nat.add_right_comm] at this
          · have := hge (j + 1) (by simpa using hj)
            rwa [← Nat.add_assoc, Nat.add_right_comm] at this
          · have := hd (i + 1) (j + 1) (by simpa using hi) (by simpa using hj) (by omega)
            rwa [← Nat.add_assoc, ← Nat.add_assoc, Nat.add_right_comm, Nat.add_right_comm j0 j 1] at this
          · have := hB (j + 1) u (by simpa using hu)
            rw [← Nat.add_assoc, Nat.add_right_comm] at this
            exact this.rowFar (hd0 j (List.getElem?_eq_some_iff.1 hu).1) _
          · refine h w' hU' (fun g t c' hg hb' => hK g t c' (fun j hj => ?_) (hb'.rowFar (Ne.symm (by have := hg 0 (by simp); rwa [Nat.add_zero] at this)) _)) ⟨hK _ _ _ hd0 (h0.row _), hb⟩
            have := hg (j + 1) (by simpa using hj)
            rwa [← Nat.add_assoc, Nat.add_right_comm] at this
theorem look_ptrs {gs : Nat → Nat} {E : List (Nat × Value)} {k : Nat} : ∀ (vs : List NV) (j0 : Nat), (∀ v ∈ vs, v.t ≠ k) → look (ptrs vs j0 gs E) k = look E k
  | [], _, _ => rfl
  | v :: vs, j0, h => by
    rw [ptrs, look_cons, if_neg (h v (by simp))]
    exact look_ptrs vs (j0 + 1) fun u hu => h u (by simp [hu])
theorem look_ptr {gs : Nat → Nat} {E : List (Nat × Value)} : ∀ (vs : List NV) (j0 : Nat), tsApart vs = true → ∀ (j : Nat) (v : NV), vs[j]? = some v → look (ptrs vs j0 gs E) v.t = some (.pointer (some ⟨gs (j0 + j), 0, none⟩))
  | [], _, _, _, _, hv => by simp at hv
  | v0 :: vs, j0, hap, 0, v, hv => by
    simp only [List.getElem?_cons_zero, Option.some.injEq] at hv
    subst hv
    rw [ptrs, look_cons, if_pos rfl, Nat.add_zero]
  | v0 :: vs, j0, hap, j + 1, v, hv => by
    have hne : v0.t ≠ v.t := tsApart_ne hap (i := 0) (j := j + 1) (by omega) rfl hv
    simp only [tsApart, Bool.and_eq_true] at hap
    rw [ptrs, look_cons, if_neg hne, look_ptr vs (j0 + 1) hap.2 j v (by simpa using hv), ← Nat.add_assoc, Nat.add_right_comm]
theorem ev_far {gs : Nat → Nat} {E : List (Nat × Value)} {vs : List NV} (hE : far E vs) {x : Operand} {v : Value} (hx : ev E x = some v) : ev (ptrs vs 0 gs E) x = some v := by
  cases x with
  | tmp t =>
    show look (ptrs vs 0 gs E) t = some v
    rw [look_ptrs vs 0 fun u hu => ?_]
    · exact hx
    · rintro rfl
      obtain ⟨j, hj⟩ := List.getElem?_of_mem hu
      have h1 := far_mem hE j u hj
      have h2 : look E u.t = some v := hx
      rw [h1] at h2
      cases h2
  | const u => exact hx
  | global g => exact hx
  | func f => exact hx
theorem valOk_far {gs : Nat → Nat} {E : List (Nat × Value)} {ws : List NV} (hE : far E ws) : ∀ (vs : List NV) (xs : List Operand) (cs : List (Array Value)), valOk P E vs xs cs → valOk P (ptrs ws 0 gs E) vs xs cs
  | [], [], [], _ => trivial
  | _ :: vs, _ :: xs, _ :: cs, h => ⟨⟨ev_far hE h.1.1, h.1.2⟩, valOk_far hE vs xs cs h.2⟩
  | [], [], _ :: _, h => h.elim
  | [], _ :: _, _, h => h.elim
  | _ :: _, [], _, h => h.elim
  | _ :: _, _ :: _, [], h => h.elim
/-- **'x, y, .. := u, v, ..'**, behind the reads and calls. -/
theorem f_new {ops : Array Oper} {vs : List NV} {T T' : List Oper} (xs : List Operand) (cs : List (Array Value)) (hE : far E vs) (hap : tsApart vs = true) (hst : stOk vs xs T T') (hv : valOk P E vs xs cs)
    (h : ∀ gs w', (∀ j, j < vs.length → w.heap.size ≤ gs j) → (∀ i j, i < vs.length → j < vs.length → i ≠ j → gs i ≠ gs j) → Up w w' → blks w' vs cs 0 gs → lF P ops Q T' N (ptrs vs 0 gs E) w') :
    bF P ops (Up w) (newPost P ops Q w vs T N) [] N E := fun a ha => wpB_nil ⟨E, ha, hE, fun gs w' hge hd hU hB => by
  refine l_stores (W := w) (gs := gs) vs xs cs T 0 w' hst (valOk_far hE _ _ _ hv) (fun j v hv => look_ptr vs 0 hap j v hv) (by simpa using hge) (by simpa using hd) hU (by simpa using hB) fun w2 hU2 _ hb => ?_
  exact h gs w2 hge hd hU2 hb⟩
end
end Go.Proofs.YtlaikmpnijlcbaaDoor
/-
  STEPS OVER FRAMES BY WHAT IS KNOWN OF THEM: fields, rows, calls that hand back one of a set, structs put together, new cells.
-/
namespace Go.Proofs.YtlaikmpnijlcbaaDoor
open Go.RowKit Go.IntWalk

section
variable {N : Nat} {E : List (Nat × Value)} {a : Act}
theorem Fr.evals (ha : Fr N E a) : ∀ (l : List Operand) (m : List Value), l.map (ev E) = m.map some → l.map a.eval = m
  | [], [], _ => rfl
  | [], _ :: _, h => by cases h
  | _ :: _, [], h => by cases h
  | y :: l, u :: m, h => by
    simp only [List.map_cons, List.cons.injEq] at h ⊢
    exact ⟨ha.eval h.1, Fr.evals ha l m h.2⟩
theorem Fr.parts (ha : Fr N E a) : ∀ (l : List (Nat × Operand)) (m : List (Nat × Value)), l.map (fun p => (p.1, ev E p.2)) = m.map (fun p => (p.1, some p.2)) → (l.map fun (i, x) => (i, a.eval x)) = m
  | [], [], _ => rfl
  | [], _ :: _, h => by cases h
  | _ :: _, [], h => by cases h
  | y :: l, u :: m, h => by
    simp only [List.map_cons, List.cons.injEq, Prod.mk.injEq] at h ⊢
    refine ⟨?_, Fr.parts ha l m h.2⟩
    rw [ha.eval h.1.2, h.1.1]
end



/-- The world where cells of block g alone have turned. -/
structure OnlyG (w w' : World) (g : Nat) : Prop where
  size : w'.heap.size = w.heap.size
  blk : ∀ g' t c, g' ≠ g → Blk w g' t c → Blk w' g' t c
  cell : ∀ p : Addr, p.block ≠ g → w'.cell? p = w.cell? p
  up : ∀ w0, w0.heap.size ≤ g → Up w0 w → Up w0 w'
theorem OnlyG.set {w w' : World} {g : Nat} (h : OnlyG w w' g) (k : Nat) (u : Value) : OnlyG w (w'.setCell ⟨g, k, none⟩ u) g where
  size := by rw [← h.size]; simp [World.setCell]
  blk := fun g' t c hg hb => (h.blk g' t c hg hb).far hg u
  cell := fun p hp => by rw [World.cell?_setCell_other _ _ _ _ (fun e => hp (by rw [← e])), h.cell p hp]
  up := fun w0 hg hU => (h.up w0 hg hU).setCell hg u
theorem OnlyG.refl (w : World) (g : Nat) : OnlyG w w g := ⟨rfl, fun _ _ _ _ h => h, fun _ _ => rfl, fun _ _ h => h⟩
end Go.Proofs.YtlaikmpnijlcbaaDoor
/-
  MAKE AND APPEND OVER FRAMES BY WHAT IS KNOWN OF THEM.
-/
namespace Go.Proofs.YtlaikmpnijlcbaaDoor
open Go.RowKit Go.IntWalk

/-- The slice value '.slice A xs.length c' is the call's own, and holds xs. -/
def GS (w : World) (base e : Nat) (A : Option Addr) (c : Nat) (xs : List Value) : Prop := w.ownsRow base e 1 (.slice A xs.length c) xs.length xs
section
variable {w w' : World} {base e c : Nat} {A : Option Addr} {xs : List Value}
theorem GS.nil (w : World) (base e : Nat) : GS w base e none 0 [] := ⟨rfl, .inl ⟨rfl, rfl⟩⟩
theorem GS.cut (h : GS w base e A c xs) : (A = none ∧ c = 0 ∧ xs = []) ∨ ∃ g, A = some ⟨g, 0, none⟩ ∧ base ≤ g ∧ VL w g xs := by
  rcases h.2 with ⟨h1, h2⟩ | ⟨g, cap, cur, hv, hb, hg, hn, hc, hcs, htk⟩
  · injection h1 with h3 h4 h5
    exact .inl ⟨h3, h5, List.eq_nil_of_length_eq_zero h2⟩
  · injection hv with h3 h4 h5
    have hB : Blk w g e cur := hg
    refine .inr ⟨g, h3, hb, hB.lt, fun j v hj => ?_, fun j _ => hB.free j⟩
    rw [hB.cell j]
    rw [← htk, List.getElem?_take] at hj
    split at hj
    · simpa using hj
    · cases hj
theorem GS.lt (h : GS w base e A c xs) : ∀ k, A.map (·.block) = some k → base ≤ k ∧ k < w.heap.size := fun k hk => by
  rcases h.cut with ⟨h1, _, _⟩ | ⟨g, h1, h2, h3⟩
  · rw [h1] at hk
    cases hk
  · rw [h1] at hk
    cases hk
    exact ⟨h2, h3.lt⟩
theorem GS.keep (h : GS w base e A c xs) (hk : ∀ k, A.map (·.block) = some k → w'.heap[k]? = w.heap[k]?) : GS w' base e A c xs := by
  refine ⟨h.1, ?_⟩
  rcases h.2 with h1 | ⟨g, cap, cur, hv, hb, hg, hr⟩
  · exact .inl h1
  · injection hv with h3 h4 h5
    refine .inr ⟨g, cap, cur, by rw [h3, h5], hb, ?_, hr⟩
    rw [hk g (by rw [h3]; rfl)]
    exact hg
theorem GS.below {B : Nat} (h : GS w base e A c xs) (hb : Below B w w') (hB : w.heap.size ≤ B) : GS w' base e A c xs := h.keep fun k hk => hb.block k (Nat.lt_of_lt_of_le (h.lt k hk).2 hB)
theorem GS.up (h : GS w base e A c xs) (hb : Up w w') : GS w' base e A c xs := h.below hb (Nat.le_refl _)
theorem GS.far (h : GS w base e A c xs) {p : Addr} (hp : A.map (·.block) ≠ some p.block) (u : Value) : GS (w.setCell p u) base e A c xs := h.keep fun k hk => heap_setCell_other w p k u (fun he => hp (by rw [hk, he]))
end


theorem GS.new (w : World) (base e : Nat) (h : base ≤ w.heap.size) : GS (w.alloc (.cells #[] e)) base e (some ⟨w.heap.size, 0, none⟩) 0 [] :=
  ⟨rfl, .inr ⟨w.heap.size, 0, #[], rfl, h, Blk.new w _ _, Nat.le_refl _, Nat.zero_le _, rfl, rfl⟩⟩
end Go.Proofs.YtlaikmpnijlcbaaDoor
/-
  REGIONS: 'copy(a[..], b[..])', where the order of the two slices is drawn.
-/
namespace Go.Proofs.YtlaikmpnijlcbaaDoor
open Go.RowKit Go.IntWalk

/-- l laid over z from place off on. -/
def cop (z : List UInt8) (off : Nat) (l : List UInt8) : List UInt8 := z.take off ++ (l ++ z.drop (off + l.length))
theorem cop_len {z l : List UInt8} {off : Nat} (h : off + l.length ≤ z.length) : (cop z off l).length = z.length := by
  simp [cop]
  omega

theorem size_u8 : (Tryd.prog.info? 5).map (·.size) = some 1 := by kernel_rfl
/-- 'copy(a[..], b)', in the text's order. -/
theorem wpl_copy {ops : Array Oper} {rest : List Oper} {o : Oper} {a : Act} {w : World} {Q : Exit → Act → World → Prop} (d s : Operand) (hgd : o.guard = none) (ho : o.op = .call { callee := .builtin .copy, args := #[d, s], argTypes := #[45, 45] })
    (g off n c : Nat) (hd : a.eval d = .slice (some ⟨g, off, none⟩) n c) (P : Option Addr) (l : List UInt8) (c2 : Nat) (hs : a.eval s = .slice P l.length c2) (z : List UInt8) (t : Nat) (hz : Blk w g t (By z).toArray) (lo hi : Nat) (hl : BV w lo hi P l) (hn : off + n = z.length)
    (z' : List UInt8) (hz' : Go.RowKit.Hid (cop z off (l.take n) = z')) (m : Nat) (hm : Go.RowKit.Hid (min l.length n = m)) (h : wpList Tryd.prog ops Q rest (a.put o.dst (.int .i64 (m : Int))) (w.setRow g (By z').toArray)) : wpList Tryd.prog ops Q (o :: rest) a w := by
  have e0 := hz'.out
  have e1 := hm.out
  subst e0
  subst e1
  by_cases h0 : min l.length n = 0
  · have ht : l.take n = [] := by
      rw [List.take_eq_nil_iff]
      rcases Nat.min_eq_zero_iff.1 h0 with h1 | h1
      · exact .inr (List.eq_nil_of_length_eq_zero h1)
      · exact .inl h1
    have e : cop z off (l.take n) = z := by
      rw [ht]
      simp [cop]
    have e2 : w.setRow g (By z).toArray = w := setRow_self w g _ t (0, 0) hz
    rw [e, e2, h0] at h
    exact wpList_copy_nothing hgd d s 45 45 ho 5 Tryd.underlying45 size_u8 _ _ n c l.length c2 hd hs h0 h
  · have hlp : 0 < l.length := by omega
    obtain ⟨ad, rfl, _, _, hc⟩ := hl hlp
    have hlt : (By (l.take n)).length = Nat.min l.length n := by
      rw [By_len, List.length_take]
      exact Nat.min_comm _ _
    refine wpList_copy_own hgd d s 45 45 ho 5 Tryd.underlying45 size_u8 g off n c ad l.length c2 hd hs (By z).toArray t hz (By (l.take n)) hlt ?_ (by rw [hlt, List.size_toArray, By_len, ← hn]; exact Nat.add_le_add_left (Nat.min_le_right _ _) _) (By_one _) ?_
    · intro j v hv
      obtain ⟨x, hx, rfl⟩ := By_at hv
      refine hc j x ?_
      rw [List.getElem?_take] at hx
      split at hx
      · exact hx
      · cases hx
    · have e : (By z).toArray.toList.take off ++ (By (l.take n) ++ (By z).toArray.toList.drop (off + (By (l.take n)).length)) = By (cop z off (l.take n)) := by
        simp [cop, By]
      rw [e, hlt]
      exact h
end Go.Proofs.YtlaikmpnijlcbaaDoor
/-
  STEPS THAT MAKE MEMORY, over frames by what is known of them: slices of slices, calls whose answers lie in new memory, new variables; copies into a variable from any bytes.
-/
namespace Go.Proofs.YtlaikmpnijlcbaaDoor
open Go.RowKit Go.IntWalk

/-! ### Bytes that are read -/
/-- The value v is a slice that reads the bytes l. -/
def SB (w : World) (v : Value) (l : List UInt8) : Prop := ∃ A c, v = .slice A l.length c ∧ SL w 0 w.heap.size A l c
/-- The slice of slices at A reads the lists ls. -/
def PT (w : World) (A : Option Addr) (ls : List (List UInt8)) : Prop := Parts w w.heap.size A ls
theorem SB.later {w w' : World} {v : Value} {l : List UInt8} (h : SB w v l) (hb : Below w.heap.size w w') : SB w' v l := by
  obtain ⟨A, c, e, h1⟩ := h
  exact ⟨A, c, e, (h1.below hb (Nat.le_refl _)).more (Nat.le_refl _) hb.size⟩
theorem PT.later {w w' : World} {A : Option Addr} {ls : List (List UInt8)} (h : PT w A ls) (hb : Below w.heap.size w w') : PT w' A ls := fun hl => by
  obtain ⟨ad, e, h1, h2⟩ := h.below hb (Nat.le_refl _) hl
  refine ⟨ad, e, Nat.lt_of_lt_of_le h1 hb.size, fun i l hi => ?_⟩
  obtain ⟨A', c, h3, h4⟩ := h2 i l hi
  exact ⟨A', c, h3, h4.more (Nat.le_refl _) hb.size⟩
theorem SB.nil (w : World) : SB w (.slice none 0 0) [] := ⟨none, 0, rfl, SL.nil _ _ _⟩
/-- A slice of a variable's row of bytes. -/
theorem SB.arr {w : World} {g t off n c : Nat} {z l : List UInt8} (h : Blk w g t (By z).toArray) (hl : (z.drop off).take n = l) (hn : l.length = n) (hc : n ≤ c) (hc2 : c ≤ 9223372036854775807) : SB w (.slice (some ⟨g, off, none⟩) n c) l := by
  refine ⟨some ⟨g, off, none⟩, c, by rw [hn], by rw [hn]; exact hc, hc2, fun h => (by cases h), fun _ => ⟨_, rfl, Nat.zero_le _, h.lt, fun j x hx => ?_⟩⟩
  rw [← hl, List.getElem?_take] at hx
  split at hx
  · rw [List.getElem?_drop] at hx
    rw [Addr.add_mid, h.cell]
    simp [By, hx]
  · cases hx
/-- The whole of a variable's row of bytes. -/
theorem SB.all {w : World} {g t n : Nat} {l : List UInt8} (h : Blk w g t (By l).toArray) (hn : l.length = n) (hc2 : n ≤ 9223372036854775807) : SB w (.slice (some ⟨g, 0, none⟩) n n) l :=
  SB.arr h (by rw [List.drop_zero, List.take_of_length_le (by omega)]) hn (Nat.le_refl _) hc2
theorem GS.sb {w : World} {base c : Nat} {A : Option Addr} {l : List UInt8} (h : GS w base 5 A c (By l)) : SB w (.slice A l.length c) l := by
  have h2 := h.2
  rw [By_len] at h2
  rcases h2 with ⟨h1, h3⟩ | ⟨g, cap, cur, hv, _, hg, hn, hc, _, htk⟩
  · injection h1 with h4 h5 h6
    have := List.eq_nil_of_length_eq_zero h3
    subst h4 h6 this
    exact SB.nil w
  · injection hv with h4 h5 h6
    subst h4 h6
    refine ⟨_, c, rfl, hn, by unfold maxLen at hc; omega, fun h => (by cases h), fun _ => ⟨_, rfl, Nat.zero_le _, Blk.lt hg, fun j x hx => ?_⟩⟩
    have hB : Blk w g _ cur := hg
    rw [Addr.add_mid, hB.cell, Nat.zero_add]
    have h7 : (By l)[j]? = some (.int .u8 (x.toNat : Int)) := by simp [By, hx]
    rw [← htk, List.getElem?_take] at h7
    split at h7
    · simpa using h7
    · cases h7
/-- A part of such a slice. -/
theorem SL.part {w : World} {lo hi c : Nat} {A : Option Addr} {l : List UInt8} (h : SL w lo hi A l c) {k n : Nat} (hk : k ≤ l.length) : SL w lo hi (if c = k then A else A.map (·.add k)) ((l.drop k).take n) (c - k) := (h.cut hk).take n
theorem SB.len {w : World} {v : Value} {l : List UInt8} (h : SB w v l) : ∃ A c, v = .slice A l.length c := by
  obtain ⟨A, c, e, _⟩ := h
  exact ⟨A, c, e⟩

/-! ### Steps -/

theorem cells_slices : (Tryd.prog.info? 45).map (fun i => (i.zero, i.size, i.bytes)) = some (some (.slice none 0 0), 1, 24) := by kernel_rfl
theorem run_slices (vs : List Value) (n : Nat) (parts : Array (Nat × Value)) (hp : parts.toList = (vs.zipIdx 0).map fun x => (x.2, x.1)) (hn : vs.length = n) (h0 : 0 < n) (h24 : n ≤ 16777216) (h1 : ∀ v ∈ vs, v.cells = #[v]) (w : World) :
    (Instr.buildSlice 69 n parts).run Tryd.prog w = .ok (.slice (some ⟨w.heap.size, 0, none⟩) n n) (w.alloc (.cells vs.toArray 45)) := by
  obtain ⟨ie, h2, h3, h4, _⟩ := info_parts cells_slices
  refine run_buildSlice w 69 45 n parts vs.toArray ie _ Tryd.underlying69 h2 h3 (by rw [h4]; omega) (by rw [h4]; omega) ?_
  rw [hp, h4]
  exact Great.fill_flat _ _ h1 (by simp [hn])
/-- Each value reads its bytes. -/
def All2 (w : World) : List Value → List (List UInt8) → Prop
  | [], [] => True
  | v :: vs, l :: ls => SB w v l ∧ All2 w vs ls
  | _, _ => False
theorem All2.len {w : World} : ∀ {vs : List Value} {ls : List (List UInt8)}, All2 w vs ls → vs.length = ls.length
  | [], [], _ => rfl
  | _ :: _, _ :: _, h => by rw [List.length_cons, List.length_cons, All2.len h.2]
  | [], _ :: _, h => h.elim
  | _ :: _, [], h => h.elim
theorem All2.get {w : World} : ∀ {vs : List Value} {ls : List (List UInt8)}, All2 w vs ls → ∀ (i : Nat) l, ls[i]? = some l → ∃ v, vs[i]? = some v ∧ SB w v l
  | [], [], _, i, l, h => by simp at h
  | v :: vs, l0 :: ls, h, 0, l, hi => by
    simp only [List.getElem?_cons_zero, Option.some.injEq] at hi
    subst hi
    exact ⟨v, rfl, h.1⟩
  | v :: vs, l0 :: ls, h, i + 1, l, hi => by
    obtain ⟨u, h1, h2⟩ := All2.get h.2 i l (by simpa using hi)
    exact ⟨u, by simpa using h1, h2⟩
  | [], _ :: _, h, _, _, _ => h.elim
  | _ :: _, [], h, _, _, _ => h.elim
theorem All2.one {w : World} : ∀ {vs : List Value} {ls : List (List UInt8)}, All2 w vs ls → ∀ v ∈ vs, v.cells = #[v] ∧ v.oneCell' = true
  | [], _, _, v, hv => by simp at hv
  | u :: vs, l :: ls, h, v, hv => by
    rcases List.mem_cons.1 hv with rfl | hv
    · obtain ⟨A, c, rfl, _⟩ := h.1
      exact ⟨rfl, rfl⟩
    · exact All2.one h.2 v hv
  | _ :: _, [], h, _, _ => h.elim
theorem All2.later {w w' : World} (hb : Below w.heap.size w w') : ∀ {vs : List Value} {ls : List (List UInt8)}, All2 w vs ls → All2 w' vs ls
  | [], [], _ => trivial
  | _ :: _, _ :: _, h => ⟨h.1.later hb, All2.later hb h.2⟩
  | [], _ :: _, h => h.elim
  | _ :: _, [], h => h.elim
/-- A slice of slices of bytes, new: the values vs, which read the lists ls. -/
structure NewS (base : Nat) (vs : List Value) (ls : List (List UInt8)) (g : Nat) (w : World) : Prop where
  ge : base ≤ g
  blk : Blk w g 45 vs.toArray
  all : All2 w vs ls
theorem NewS.later {base g : Nat} {vs : List Value} {ls : List (List UInt8)} {w w' : World} (h : NewS base vs ls g w) (hb : Below w.heap.size w w') : NewS base vs ls g w' := ⟨h.ge, h.blk.later hb, All2.later hb h.all⟩
theorem pt_of {w : World} {g : Nat} {vs : List Value} {ls : List (List UInt8)} {cs : Array Value} {t : Nat} (hB : Blk w g t cs) (htk : ∀ (j : Nat) (v : Value), vs[j]? = some v → cs[j]? = some v) (h : All2 w vs ls) : PT w (some ⟨g, 0, none⟩) ls := fun _ => by
  refine ⟨_, rfl, hB.lt, fun i l hi => ?_⟩
  obtain ⟨v, h1, A, c, rfl, h3⟩ := h.get i l hi
  refine ⟨A, c, ?_, h3⟩
  rw [Addr.add_mid, hB.cell, Nat.zero_add]
  exact htk i _ h1
theorem NewS.pt {base g : Nat} {vs : List Value} {ls : List (List UInt8)} {w : World} (h : NewS base vs ls g w) : PT w (some ⟨g, 0, none⟩) ls := pt_of h.blk (fun j v hj => by simpa using hj) h.all
section
variable {ops : Array Oper} {C0 : World → Prop} {Q : Facts → Act → Prop} {N : Nat} {E : List (Nat × Value)} {Fa : Told} {o : Oper} {rest : List (Nat × Oper)} {i k : Nat}
theorem g_slices {n : Nat} {parts : Array (Nat × Operand)} (vs : List Value) (ls : List (List UInt8)) (base : Nat) (hg : o.guard = none) (hd : o.dst = some k) (hk : Nat.blt k N = true) (hf : farP i Fa = true) (ho : o.op = .buildSlice 69 n parts)
    (hv : parts.toList.map (fun p => (p.1, ev E p.2)) = (vs.zipIdx 0).map fun x => (x.2, some x.1)) (hn : vs.length = n) (h0 : 0 < n) (h24 : n ≤ 16777216) (hb : ∀ w, C0 w → base ≤ w.heap.size) (h : ∀ w, C0 w → Uses o Fa w → All2 w vs ls)
    (hk2 : ∀ g w, C0 w → NewS base vs ls g w → gF Tryd.prog Bel ops C0 Q rest N ((k, .slice (some ⟨g, 0, none⟩) n n) :: E) ((i, NewS base vs ls g) :: Fa)) : gF Tryd.prog Bel ops C0 Q ((i, o) :: rest) N E Fa :=
  g_mem (fun v w => ∃ g, v = .slice (some ⟨g, 0, none⟩) n n ∧ NewS base vs ls g w) hg hd hk hf (by rw [ho]; rfl) (fun v w w' ⟨g, e, h⟩ hr => ⟨g, e, h.later hr⟩) (fun a ha w hw hu => by
    have hA := h w hw hu
    have hm : ∀ (l : List (Nat × Operand)) (m : List (Value × Nat)), l.map (fun p => (p.1, ev E p.2)) = m.map (fun x => (x.2, some x.1)) → l.map (fun (i, x) => (i, a.eval x)) = m.map fun x => (x.2, x.1) := by
      intro l
      induction l with
      | nil => intro m h; cases m with
        | nil => rfl
        | cons => cases h
      | cons p l ih => intro m h; cases m with
        | nil => cases h
        | cons u m =>
          simp only [List.map_cons, List.cons.injEq, Prod.mk.injEq] at h ⊢
          exact ⟨⟨h.1.1, ha.eval h.1.2⟩, ih m h.2⟩
    have hr := run_slices vs n (parts.map fun (i, x) => (i, a.eval x)) (by rw [Array.toList_map]; exact hm _ _ hv) hn h0 h24 (fun v hv => (hA.one v hv).1) w
    have hal := (Below.refl w.heap.size w).alloc (Nat.le_refl _) (.cells vs.toArray 45)
    unfold execOp
    simp only [ho, Sem.run_bind, hr, Result.andThen_ok, Sem.run_pure]
    exact ⟨hal, w.heap.size, rfl, hb w hw, Blk.new w _ _, All2.later hal hA⟩) (fun v w hw ⟨g, e, h2⟩ => by
    subst e
    intro a F ha hF
    refine hk2 g w hw h2 a F ha fun x hx w hw => ?_
    rcases List.mem_cons.1 hx with rfl | hx
    · obtain ⟨g', e, h⟩ := hF (i, fun w => ∃ g', Value.slice (some ⟨g, 0, none⟩) n n = .slice (some ⟨g', 0, none⟩) n n ∧ NewS base vs ls g' w) List.mem_cons_self w hw
      injection e with e
      injection e with e
      injection e with e
      subst e
      exact h
    · exact hF x (List.mem_cons_of_mem _ hx) w hw)
end

/-! ### Appends of slices -/
theorem All2.app {w : World} : ∀ {vs us : List Value} {ls ms : List (List UInt8)}, All2 w vs ls → All2 w us ms → All2 w (vs ++ us) (ls ++ ms)
  | [], _, [], _, _, h => h
  | _ :: _, _, _ :: _, _, h, h' => ⟨h.1, All2.app h.2 h'⟩
  | [], _, _ :: _, _, h, _ => h.elim
  | _ :: _, _, [], _, h, _ => h.elim
theorem GS.pt {w : World} {base c : Nat} {A : Option Addr} {vs : List Value} {ls : List (List UInt8)} (h : GS w base 45 A c vs) (hA : All2 w vs ls) : PT w A ls ∧ ls.length ≤ c ∧ c ≤ 9223372036854775807 := by
  have hlen := hA.len
  rcases h.2 with ⟨h1, h3⟩ | ⟨g, cap, cur, hv, _, hg, hn, hc, _, htk⟩
  · injection h1 with h4 h5 h6
    subst h6
    exact ⟨fun h0 => absurd h0 (by omega), by omega, by omega⟩
  · injection hv with h4 h5 h6
    subst h4 h6
    refine ⟨pt_of (cs := cur) hg (fun j v hj => ?_) hA, by omega, by unfold maxLen at hc; omega⟩
    rw [← htk, List.getElem?_take] at hj
    split at hj
    · simpa using hj
    · cases hj
theorem NewS.gs {base n g : Nat} {vs : List Value} {ls : List (List UInt8)} {w : World} (h : NewS base vs ls g w) (hn : vs.length = n) (hm : n ≤ 9223372036854775807) : GS w base 45 (some ⟨g, 0, none⟩) n vs := by
  refine ⟨by simp, .inr ⟨g, n, vs.toArray, rfl, h.ge, h.blk, by omega, by unfold maxLen; omega, by simp [hn], by simp⟩⟩

/-! ### Copies -/
end Go.Proofs.YtlaikmpnijlcbaaDoor
/-
  REGIONS WITH A STORE AHEAD OF READS: a variable may go over to a value that is known; slices of arrays, arrays of slices; results in two variables.
-/
namespace Go.Proofs.YtlaikmpnijlcbaaDoor
open Go.RowKit Go.IntWalk

/-- Nothing but new memory; and the variable g may go over to the cells c. -/
structure KeepG (g : Nat) (t : TypeId) (c : Array Value) (w w' : World) : Prop where
  os : w'.os = w.os
  tape : w'.tape = w.tape
  output : w'.output = w.output
  size : w.heap.size ≤ w'.heap.size
  block : ∀ k, k < w.heap.size → k ≠ g → w'.heap[k]? = w.heap[k]?
  here : g < w.heap.size → w'.heap[g]? = w.heap[g]? ∨ Blk w' g t c
section
variable {g : Nat} {t : TypeId} {c : Array Value} {w w' w'' : World}
theorem KeepG.of (h : Below w.heap.size w w') : KeepG g t c w w' := ⟨h.os, h.tape, h.output, h.size, fun k hk _ => h.block k hk, fun hk => .inl (h.block g hk)⟩
instance : RelOk (KeepG g t c) := ⟨fun _ _ => KeepG.of⟩
theorem KeepG.trans (h : KeepG g t c w w') (k : KeepG g t c w' w'') : KeepG g t c w w'' := by
  refine ⟨k.os.trans h.os, k.tape.trans h.tape, k.output.trans h.output, Nat.le_trans h.size k.size, fun i hi hn => (k.block i (Nat.lt_of_lt_of_le hi h.size) hn).trans (h.block i hi hn), fun hg => ?_⟩
  rcases k.here (Nat.lt_of_lt_of_le hg h.size) with h1 | h1
  · rcases h.here hg with h2 | h2
    · exact .inl (h1.trans h2)
    · exact .inr (h1.trans h2)
  · exact .inr h1
theorem KeepG.far (h : KeepG g t c w w') {g' t' : Nat} {cs : Array Value} (hb : Blk w g' t' cs) (hn : g' ≠ g) : Blk w' g' t' cs := (h.block g' hb.lt hn).trans hb
theorem KeepG.up {w0 : World} (h : KeepG g t c w w') (hU : Up w0 w) (hg : w0.heap.size ≤ g) : Up w0 w' :=
  hU.trans ⟨h.os, h.tape, h.output, h.size, fun k hk => h.block k (Nat.lt_of_lt_of_le hk hU.size) (by omega)⟩
theorem KeepG.set {old : Array Value} (hb : Blk w g t old) : KeepG g t c w (w.setRow g c) := by
  have hs : (w.setRow g c).heap.size = w.heap.size := by simp [World.setRow]
  exact ⟨rfl, rfl, rfl, by rw [hs]; exact Nat.le_refl _, fun k _ hn => setRow_other w g k c hn, fun _ => .inr (hb.row c)⟩
end

/-! ### Slices of arrays, arrays of slices -/
end Go.Proofs.YtlaikmpnijlcbaaDoor
/-
  SLICES OF WORDS OVER FRAMES BY WHAT IS KNOWN OF THEM.
-/
namespace Go.Proofs.YtlaikmpnijlcbaaDoor
open Go.RowKit Go.IntWalk

end Go.Proofs.YtlaikmpnijlcbaaDoor
/-
  SLICES OF WORDS AND BYTES, NEW ONES, OVER FRAMES BY WHAT IS KNOWN OF THEM.
-/
namespace Go.Proofs.YtlaikmpnijlcbaaDoor
open Go.RowKit Go.IntWalk

end Go.Proofs.YtlaikmpnijlcbaaDoor
/-
  REGIONS WHOSE ORDER IS FORCED, operation by operation; steps: slices of bytes, new ones and parts; lengths; '==' of signatures.
-/
namespace Go.Proofs.YtlaikmpnijlcbaaDoor
open Go.RowKit Go.IntWalk


/-! ### Regions whose order is forced -/
section
variable {P : Program} {ops : Array Oper} {Q : Exit → Act → World → Prop} {N : Nat} {E : List (Nat × Value)} {w : World} {o : Oper} {rest l : List Oper} {k : Nat}
/-- The operation is wanted. -/
def WG (ops : Array Oper) (N : Nat) (E : List (Nat × Value)) (o : Oper) : Prop := o.guard = none ∨ ∃ j b t, o.guard = some (j, b) ∧ (ops[j]?).bind (·.dst) = some t ∧ Nat.blt t N = true ∧ look E t = some (.bool b)
theorem WG.wanted {a : Act} (h : WG ops N E o) (ha : Fr N E a) : Region.wanted o (yielded ops a.tmps) = true := by
  rcases h with h | ⟨j, b, t, hgd, hj, hN, ht⟩
  · simp [Region.wanted, h]
  · have htN : t < a.tmps.size := by rw [ha.size]; simpa using hN
    have h2 := ha.get t _ ht
    have h3 : a.tmps[t]? = some (.bool b) := by
      simp only [Act.eval, Array.getD_eq_getD_getElem?] at h2
      rw [Array.getElem?_eq_getElem htN] at h2 ⊢
      simpa using h2
    unfold Region.wanted
    rw [hgd]
    simp [yielded, hj, h3]
end
end Go.Proofs.YtlaikmpnijlcbaaDoor
/-
  STEPS THAT HANG ON THE FRAME ALONE, ALL AT ONCE: moves, choices, parts of tuples, 'not', guards; reckoned by a function, so one line takes as many as there are.
-/
namespace Go.Proofs.YtlaikmpnijlcbaaDoor
open Go.RowKit Go.IntWalk

/-- Is the operation wanted, as far as the frame tells? -/
def wantG (ops : Array Oper) (N : Nat) (E : List (Nat × Value)) (o : Oper) : Option Bool :=
  match o.guard with
  | none => some true
  | some (j, b) => match (ops[j]?).bind (·.dst) with
    | some t => match Nat.blt t N with
      | true => match look E t with
        | some (.bool true) => some b
        | some (.bool false) => some (!b)
        | _ => none
      | false => none
    | none => none
theorem wantG_ok {ops : Array Oper} {N : Nat} {E : List (Nat × Value)} {a : Act} {o : Oper} {q : Bool} (ha : Fr N E a) (h : wantG ops N E o = some q) : Region.wanted o (yielded ops a.tmps) = q := by
  unfold wantG at h
  split at h
  · rename_i hg
    injection h with h
    subst h
    simp [Region.wanted, hg]
  · rename_i j b hg
    split at h
    · rename_i t hj
      split at h
      · rename_i hN
        have htN : t < a.tmps.size := by rw [ha.size]; simpa using hN
        have key : ∀ c, look E t = some (.bool c) → a.tmps[t]? = some (.bool c) := fun c hc => by
          have h2 := ha.get t _ hc
          simp only [Act.eval, Array.getD_eq_getD_getElem?] at h2
          rw [Array.getElem?_eq_getElem htN] at h2 ⊢
          simpa using h2
        split at h
        · rename_i hc
          injection h with h
          subst h
          unfold Region.wanted
          rw [hg]
          simp [yielded, hj, key _ hc]
        · rename_i hc
          injection h with h
          subst h
          unfold Region.wanted
          rw [hg]
          cases b <;> simp [yielded, hj, key _ hc]
        · cases h
      · cases h
    · cases h
/-- The operation without its guard. -/
def bareO (o : Oper) : Oper := { o with guard := none }
end Go.Proofs.YtlaikmpnijlcbaaDoor
/-
  LOOPS OF A CODE; BEGIN AND END OF A CALL, over frames by what is known of them.
-/
namespace Go.Proofs.YtlaikmpnijlcbaaDoor
open Go.RowKit Go.IntWalk

/-! ### Begin and end of a call -/
def argE : Nat → List Value → List (Nat × Value)
  | _, [] => []
  | j, v :: vs => (j, v) :: argE (j + 1) vs
theorem argE_look : ∀ (vs : List Value) (j k : Nat) (v : Value), look (argE j vs) k = some v → j ≤ k ∧ vs[k - j]? = some v
  | [], _, _, _, h => by cases h
  | u :: vs, j, k, v, h => by
    rw [argE, look_cons] at h
    split at h
    · rename_i e
      subst e
      cases h
      exact ⟨Nat.le_refl _, by simp⟩
    · obtain ⟨h1, h2⟩ := argE_look vs (j + 1) k v h
      refine ⟨by omega, ?_⟩
      obtain ⟨m, rfl⟩ : ∃ m, k = j + 1 + m := ⟨k - (j + 1), by omega⟩
      rw [show j + 1 + m - (j + 1) = m from by omega] at h2
      rw [show j + 1 + m - j = m + 1 from by omega]
      simpa using h2
theorem calls_F {P : Program} {f : FuncId} {fn : Func} {c : Code} {vs : List Value} {w : World} {R : Ending → World → Prop} (N : Nat) (hf : P.funcs[f]? = some fn) (hb : fn.body = some c) (hn : vs.length + (fn.ntmps - vs.length) = N)
    (h : cF P c (bodyPost P fn R) N (argE 0 vs) w) : Calls P f vs.toArray w R := by
  refine calls_of_wp hf hb (h _ (Fr.start (by simpa using hn) _ fun k v hk => ?_))
  have := (argE_look vs 0 k v hk).2
  simpa using this
theorem Fr.at {N : Nat} {E : List (Nat × Value)} {a : Act} (h : Fr N E a) {k : Nat} {v : Value} (hk : look E k = some v) : a.tmps.getD k undef = v := h.get k v hk
end Go.Proofs.YtlaikmpnijlcbaaDoor
