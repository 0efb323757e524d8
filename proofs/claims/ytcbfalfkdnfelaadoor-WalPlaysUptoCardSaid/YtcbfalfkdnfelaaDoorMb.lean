/-
  SEVERAL TEXTS IN ONE: RegH, Us, FrV, FrN, FrP, FrM, Copy, RegI, RegJ, FrW, FrA, RegK, Auto, FrC, Vs.
-/
import Derived.Test.YtcbfalfkdnfelaaDoorMa
import Derived.Laws.Bits64b
import Derived.Laws.BitsAllLaws
import Derived.Laws.Externs
import Derived.Maps.AppendAt
import Derived.Deep.OwnRows
import Derived.Great.BuildSlice
import Derived.Lib.SlBytesConst
/-
  REGIONS THAT DRAW THEIR ORDER, AND MAKE MEMORY: from the walk in the text's order to every order; the check of a region; walks over frames by what is known of them.
-/
namespace Go.Proofs.YtcbfalfkdnfelaaDoor
open Go.RowKit Go.IntWalk

/-! ### Who waits for whom -/
inductive Waits (ops : Array Oper) : Nat → Nat → Prop
  | edge {j i : Nat} {o : Oper} (hj : ops[j]? = some o) (h : edgeTo .any o i = true) : Waits ops j i
  | via {j m i : Nat} {o : Oper} (hj : ops[j]? = some o) (h : edgeTo .any o m = true) (hm : Waits ops m i) : Waits ops j i
theorem edgeTo_spec {o : Oper} {i : Nat} (h : edgeTo .any o i = true) : ∃ e ∈ o.after, Region.binds .any e = true ∧ e.on = i := by
  unfold edgeTo at h
  obtain ⟨e, he, hb⟩ := Array.any_eq_true'.1 h
  simp only [Bool.and_eq_true, beq_iff_eq] at hb
  exact ⟨e, he, hb.1, hb.2⟩
theorem Closed.waits' {ops : Array Oper} {listed : Array Bool} (hc : Closed .any ops listed) {j i : Nat} (h : Waits ops j i) : ∀ o, ops[j]? = some o → (∀ e ∈ o.after, Region.binds .any e = true → listed.getD e.on false = true) → listed.getD i false = true := by
  induction h with
  | edge hj h =>
    intro o ho hl
    obtain rfl := Option.some.inj (hj.symm.trans ho)
    obtain ⟨e, he, hb, rfl⟩ := edgeTo_spec h
    exact hl e he hb
  | @via j m i o' hj h hm ih =>
    intro o ho hl
    obtain rfl := Option.some.inj (hj.symm.trans ho)
    obtain ⟨e, he, hb, rfl⟩ := edgeTo_spec h
    have h1 := hl e he hb
    obtain ⟨om, hom⟩ : ∃ om, ops[e.on]? = some om := by cases hm with
      | edge hj _ => exact ⟨_, hj⟩
      | via hj _ _ => exact ⟨_, hj⟩
    exact ih om hom (hc _ om hom h1)

def maskE (ms : List Nat) : List Edge → Nat
  | [] => 0
  | e :: l => if Region.binds .any e then (2 ^ e.on ||| ms.getD e.on 0) ||| maskE ms l else maskE ms l
def maskL : List Oper → List Nat → List Nat
  | [], ms => ms
  | o :: l, ms => maskL l (ms ++ [maskE ms o.after.toList])
theorem maskE_spec {ms : List Nat} {i : Nat} : ∀ {l : List Edge}, (maskE ms l).testBit i = true → ∃ e ∈ l, Region.binds .any e = true ∧ (e.on = i ∨ ∃ b, ms[e.on]? = some b ∧ b.testBit i = true)
  | [], h => by simp [maskE] at h
  | e :: l, h => by
    unfold maskE at h
    split at h
    · rename_i hb
      rw [Nat.testBit_or, Nat.testBit_or] at h
      simp only [Bool.or_eq_true] at h
      rcases h with (h | h) | h
      · refine ⟨e, by simp, hb, .inl ?_⟩
        rw [Nat.testBit_two_pow] at h
        simpa using h
      · refine ⟨e, by simp, hb, .inr ?_⟩
        rw [List.getD_eq_getElem?_getD] at h
        cases hm : ms[e.on]? with
        | none => rw [hm] at h; simp at h
        | some b => rw [hm] at h; exact ⟨b, rfl, h⟩
      · obtain ⟨e', he, h'⟩ := maskE_spec h
        exact ⟨e', List.mem_cons_of_mem _ he, h'⟩
    · obtain ⟨e', he, h'⟩ := maskE_spec h
      exact ⟨e', List.mem_cons_of_mem _ he, h'⟩
def OkM (ops : Array Oper) (ms : List Nat) : Prop := ∀ j b i : Nat, ms[j]? = some b → b.testBit i = true → Waits ops j i
theorem maskL_ok {ops : Array Oper} : ∀ (l : List Oper) (ms : List Nat), (∀ j, j < l.length → l[j]? = ops[ms.length + j]?) → OkM ops ms → OkM ops (maskL l ms)
  | [], _, _, h => h
  | o :: l, ms, hl, h => by
    unfold maskL
    refine maskL_ok l _ (fun j hj => ?_) ?_
    · have := hl (j + 1) (by simpa using hj)
      simpa [Nat.add_assoc, Nat.add_comm 1 j] using this
    · intro j b i hj hb
      rw [List.getElem?_append] at hj
      split at hj
      · exact h j b i hj hb
      · rename_i hlt
        have h0 : j - ms.length = 0 := by
          by_cases e : j - ms.length = 0
          · exact e
          · exfalso
            obtain ⟨k, hk⟩ : ∃ k, j - ms.length = k + 1 := ⟨j - ms.length - 1, by omega⟩
            rw [hk] at hj
            simp at hj
        obtain rfl : j = ms.length := by omega
        rw [h0] at hj
        simp only [List.getElem?_cons_zero, Option.some.injEq] at hj
        subst hj
        have ho : ops[ms.length]? = some o := by simpa using (hl 0 (by simp)).symm
        obtain ⟨e, he, hbd, h5⟩ := maskE_spec hb
        have he' : e ∈ o.after := by simpa using he
        have hed : edgeTo .any o e.on = true := by
          unfold edgeTo
          exact Array.any_eq_true'.2 ⟨e, he', by simp [hbd]⟩
        rcases h5 with rfl | ⟨b, hb1, hb2⟩
        · exact .edge ho hed
        · exact .via ho hed (h _ b i hb1 hb2)

/-! ### The check of a region -/
def othersH (ops : Array Oper) (o : Oper) (k : Nat) : List Oper → List Nat → Bool
  | [], _ => true
  | _ :: _, [] => false
  | x :: l, m :: ms => (m.testBit k || (o.apart ops x && (stillG x.op || !multiG o.op))) && othersH ops o k l ms
def headH (ops : Array Oper) : List Oper → List Nat → Nat → Bool
  | [], _, _ => true
  | _ :: _, [], _ => false
  | o :: l, _ :: ms, k => o.after.all (fun e => !Region.binds .any e || decide (e.on < k)) && othersH ops o k l ms && headH ops l ms (k + 1)
/-- n operations are walked in the text's order; the m others, forced, wait for all of them. -/
def tailH (ops : Array Oper) (n m : Nat) : Bool :=
  Region.noSelect ops && headH ops (ops.toList.take n) (maskL ops.toList []) 0 && (match (maskL ops.toList [])[n]? with | none => true | some b => (List.range n).all b.testBit) &&
    decide (ops.size = m + n) && forcedB .any ops m n (marks n 0 (Array.replicate ops.size false))
theorem others_ok {ops : Array Oper} {o : Oper} {k : Nat} : ∀ {l : List Oper} {ms : List Nat}, othersH ops o k l ms = true → ∀ (j : Nat) (x : Oper), l[j]? = some x → ∃ m, ms[j]? = some m ∧ (m.testBit k = true ∨ (o.apart ops x = true ∧ (stillG x.op = true ∨ multiG o.op = false)))
  | [], _, _, j, x, hx => by simp at hx
  | _ :: _, [], h, _, _, _ => by cases h
  | y :: l, m :: ms, h, 0, x, hx => by
    simp only [List.getElem?_cons_zero, Option.some.injEq] at hx
    subst hx
    simp only [othersH, Bool.and_eq_true, Bool.or_eq_true, Bool.not_eq_true'] at h
    exact ⟨m, rfl, h.1⟩
  | y :: l, m :: ms, h, j + 1, x, hx => by
    simp only [othersH, Bool.and_eq_true] at h
    obtain ⟨m', h1, h2⟩ := others_ok h.2 j x (by simpa using hx)
    exact ⟨m', by simpa using h1, h2⟩
theorem head_ok {ops : Array Oper} : ∀ {l : List Oper} {ms : List Nat} {k : Nat}, headH ops l ms k = true → ∀ (i j : Nat) (x y : Oper), i < j → l[i]? = some x → l[j]? = some y → ∃ m, ms[j]? = some m ∧ (m.testBit (k + i) = true ∨ (x.apart ops y = true ∧ (stillG y.op = true ∨ multiG x.op = false)))
  | [], _, _, _, i, _, x, _, _, hx, _ => by simp at hx
  | _ :: _, [], _, h, _, _, _, _, _, _, _ => by cases h
  | o :: l, m :: ms, k, h, 0, 0, x, y, hij, _, _ => absurd hij (by omega)
  | o :: l, m :: ms, k, h, 0, j + 1, x, y, _, hx, hy => by
    simp only [headH, Bool.and_eq_true] at h
    simp only [List.getElem?_cons_zero, Option.some.injEq] at hx
    subst hx
    obtain ⟨m', h1, h2⟩ := others_ok h.1.2 j y (by simpa using hy)
    exact ⟨m', by simpa using h1, h2⟩
  | o :: l, m :: ms, k, h, i + 1, 0, x, y, hij, _, _ => absurd hij (by omega)
  | o :: l, m :: ms, k, h, i + 1, j + 1, x, y, hij, hx, hy => by
    simp only [headH, Bool.and_eq_true] at h
    obtain ⟨m', h1, h2⟩ := head_ok h.2 i j x y (by omega) (by simpa using hx) (by simpa using hy)
    exact ⟨m', by simpa using h1, by rwa [show k + (i + 1) = k + 1 + i by omega]⟩
theorem head_low {ops : Array Oper} : ∀ {l : List Oper} {ms : List Nat} {k : Nat}, headH ops l ms k = true → ∀ (i : Nat) (x : Oper), l[i]? = some x → ∀ e ∈ x.after, Region.binds .any e = true → e.on < k + i
  | [], _, _, _, i, x, hx => by simp at hx
  | _ :: _, [], _, h, _, _, _ => by cases h
  | o :: l, m :: ms, k, h, 0, x, hx => fun e he hb => by
    simp only [headH, Bool.and_eq_true] at h
    simp only [List.getElem?_cons_zero, Option.some.injEq] at hx
    subst hx
    have h5 := Array.all_eq_true'.1 h.1.1 e he
    simpa [hb] using h5
  | o :: l, m :: ms, k, h, i + 1, x, hx => fun e he hb => by
    simp only [headH, Bool.and_eq_true] at h
    have := head_low h.2 i x (by simpa using hx) e he hb
    omega

/-! ### Every order -/
/-- What is left: the operations l of the first n. -/
structure Pend (ops : Array Oper) (n : Nat) (l : List (Nat × Oper)) (listed : Array Bool) : Prop where
  size : listed.size = ops.size
  mem : ∀ x ∈ l, ops[x.1]? = some x.2 ∧ x.1 < n ∧ listed.getD x.1 true = false
  out : ∀ j o, j < n → ops[j]? = some o → listed.getD j true = false → (j, o) ∈ l
  tail : ∀ j, n ≤ j → j < ops.size → listed.getD j true = false
  sort : l.Pairwise fun x y => x.1 < y.1
  closed : Closed .any ops listed
theorem getD_in {listed : Array Bool} {j : Nat} (h : j < listed.size) : listed.getD j true = listed.getD j false := by
  simp only [Array.getD_eq_getD_getElem?]
  rw [Array.getElem?_eq_getElem h]
  rfl
theorem Pend.step {ops : Array Oper} {n i : Nat} {o : Oper} {l1 l2 : List (Nat × Oper)} {listed : Array Bool} (h : Pend ops n (l1 ++ (i, o) :: l2) listed) (hr : i ∈ Region.ready .any ops listed) : Pend ops n (l1 ++ l2) (listed.setIfInBounds i true) := by
  have hs := h.sort
  rw [List.pairwise_append, List.pairwise_cons] at hs
  have hm := h.mem (i, o) (by simp)
  have hil : i < listed.size := by rw [h.size]; exact (Array.getElem?_eq_some_iff.1 hm.1).1
  refine ⟨by rw [Array.size_setIfInBounds, h.size], fun x hx => ?_, fun j o' hj ho hl => ?_, fun j hj hjs => ?_, ?_, h.closed.set hr⟩
  · have hne : i ≠ x.1 := by
      rcases List.mem_append.1 hx with h1 | h1
      · have := hs.2.2 x h1 (i, o) (by simp)
        dsimp only at this
        omega
      · have := hs.2.1.1 x h1
        dsimp only at this
        omega
    obtain ⟨h1, h2, h3⟩ := h.mem x (by
      rcases List.mem_append.1 hx with h1 | h1
      · exact List.mem_append_left _ h1
      · exact List.mem_append_right _ (List.mem_cons_of_mem _ h1))
    exact ⟨h1, h2, by rw [getD_set_ne true hne]; exact h3⟩
  · by_cases e : i = j
    · subst e
      simp [hil] at hl
    · rw [getD_set_ne true e] at hl
      have h1 := h.out j o' hj ho hl
      rcases List.mem_append.1 h1 with h2 | h2
      · exact List.mem_append_left _ h2
      · rcases List.mem_cons.1 h2 with h3 | h3
        · injection h3 with h4 h5
          exact absurd h4.symm e
        · exact List.mem_append_right _ h3
  · rw [getD_set_ne true (by have := hm.2.1; dsimp only at this; omega)]
    exact h.tail j hj hjs
  · exact h.sort.sublist (List.Sublist.append (List.Sublist.refl _) (List.sublist_cons_self _ _))

/-- What is asked where the n operations are done. -/
def endG (P : Program) (ops : Array Oper) (Q : Exit → Act → World → Prop) (C0 : World → Prop) (T : List Oper) (F : Facts) (a : Act) : Prop := ∀ w, C0 w → (∀ k, F k w) → wpList P ops Q T a w
theorem endG_mono {P : Program} {ops : Array Oper} {Q : Exit → Act → World → Prop} {C0 : World → Prop} {T : List Oper} : ∀ (F F' : Facts) (a : Act), (∀ k w, F' k w → F k w) → endG P ops Q C0 T F a → endG P ops Q C0 T F' a :=
  fun _ _ _ h hh w hw hF => hh w hw fun k => h k w (hF k)

section
variable {P : Program} {Rel : World → World → Prop} {ops : Array Oper} {Q : Exit → Act → World → Prop} {C0 : World → Prop}
theorem reg_any (hcl : ∀ w w', C0 w → Rel w w' → C0 w') {n : Nat} {T : List Oper} (hB : tailH ops n T.length = true) (hT : ∀ j, j < T.length → T[j]? = ops[n + j]?) :
    ∀ (N : Nat) (l : List (Nat × Oper)) (listed : Array Bool) (F : Facts) (a : Act) (w : World), l.length = N → Pend ops n l listed → GoodF Rel C0 F w → Unl l F →
      wpG P Rel ops C0 (endG P ops Q C0 T) l F a → wpAny P .any ops Q (T.length + N) listed a w := by
  simp only [tailH, Bool.and_eq_true, decide_eq_true_eq] at hB
  obtain ⟨⟨⟨⟨hsel, hh⟩, hsk⟩, hsz⟩, hf⟩ := hB
  have hM : OkM ops (maskL ops.toList []) := maskL_ok ops.toList [] (fun j _ => by simp) (fun j b i hj => by simp at hj)
  have htk : ∀ (j : Nat) (o : Oper), j < n → ops[j]? = some o → (ops.toList.take n)[j]? = some o := fun j o hj ho => by
    rw [List.getElem?_take, if_pos hj]
    simpa using ho
  have hI : Inv ops n (marks n 0 (Array.replicate ops.size false)) := by
    have := Inv.marks (listed := #[]) n (Inv.start (ops := ops))
    rwa [Nat.zero_add] at this
  intro N
  induction N with
  | zero =>
    intro l listed F a w hl hP hG hU h
    obtain rfl := List.eq_nil_of_length_eq_zero hl
    have e : listed = marks n 0 (Array.replicate ops.size false) := by
      have hms : ∀ (k m : Nat) (x : Array Bool), (marks k m x).size = x.size := by
        intro k
        induction k with
        | zero => intro m x; rfl
        | succ k ih => intro m x; rw [marks, ih, Array.size_setIfInBounds]
      refine Array.ext (by rw [hms, hP.size, Array.size_replicate]) fun j h1 h2 => ?_
      have hj : j < ops.size := by rw [← hP.size]; exact h1
      have h3 := hI j hj
      rw [Array.getElem?_eq_getElem h2] at h3
      injection h3 with h3
      rw [h3]
      have h4 : listed.getD j true = listed[j] := by
        simp only [Array.getD_eq_getD_getElem?]
        rw [Array.getElem?_eq_getElem h1]
        rfl
      by_cases hjn : j < n
      · rw [decide_eq_true hjn]
        cases hv : listed[j] with
        | true => rfl
        | false =>
          have h5 := hP.out j ops[j] hjn (Array.getElem?_eq_getElem hj) (h4.trans hv)
          simp at h5
      · rw [decide_eq_false hjn, ← h4]
        exact hP.tail j (by omega) hj
    exact wpAny_forced T n listed a w hT (by rw [e]; exact hf) (h w hG.cls hG.all)
  | succ N ih =>
    intro l listed F a w hl hP hG hU h
    obtain ⟨x0, l0, rfl⟩ : ∃ x l', l = x :: l' := by cases l with
      | nil => simp at hl
      | cons x l => exact ⟨x, l, rfl⟩
    have hm0 := hP.mem x0 (by simp)
    have hs0 := List.pairwise_cons.1 hP.sort
    have hx0 : x0.1 ∈ Region.ready .any ops listed := by
      refine mem_ready.2 ⟨hm0.2.2, x0.2, hm0.1, fun e he hb => ?_⟩
      have hlow := head_low hh x0.1 x0.2 (htk _ _ hm0.2.1 hm0.1) e he hb
      rw [Nat.zero_add] at hlow
      have hes : e.on < ops.size := Nat.lt_trans hlow (Array.getElem?_eq_some_iff.1 hm0.1).1
      cases hv : listed.getD e.on false with
      | true => rfl
      | false =>
        rw [← getD_in (by rw [hP.size]; exact hes)] at hv
        have h5 := hP.out e.on ops[e.on] (by omega) (Array.getElem?_eq_getElem hes) hv
        rcases List.mem_cons.1 h5 with h6 | h6
        · rw [← h6] at hlow
          exact absurd hlow (by simp)
        · have := hs0.1 _ h6
          dsimp only at this
          omega
    refine ⟨fun h0 => (by rw [h0] at hx0; cases hx0), fun i hi => ?_⟩
    obtain ⟨hiu, o, hio, hall⟩ := mem_ready.1 hi
    have his := (Array.getElem?_eq_some_iff.1 hio).1
    have hin : i < n := by
      by_cases hin : i < n
      · exact hin
      · exfalso
        have hr : i ∈ Region.ready .any ops (marks n 0 (Array.replicate ops.size false)) := mem_ready.2 ⟨hI.out his (by omega) true, o, hio, fun e he hb => by
          have h5 := hall e he hb
          have hes : e.on < ops.size := by
            rcases Nat.lt_or_ge e.on listed.size with h6 | h6
            · rw [← hP.size]; exact h6
            · simp [Array.getElem?_eq_none h6] at h5
          by_cases hen : e.on < n
          · exact hI.in_ hes hen false
          · have h6 := hP.tail e.on (by omega) hes
            rw [getD_in (by rw [hP.size]; exact hes), h5] at h6
            cases h6⟩
        have hw : Waits ops i x0.1 := by
          cases hTl : T.length with
          | zero =>
            rw [hTl] at hf
            simp only [forcedB, List.isEmpty_iff] at hf
            rw [hf] at hr
            cases hr
          | succ m =>
            rw [hTl] at hf
            simp only [forcedB, Bool.and_eq_true, decide_eq_true_eq] at hf
            rw [hf.1, List.mem_singleton] at hr
            subst hr
            cases hms : (maskL ops.toList [])[i]? with
            | none =>
              exfalso
              have hlen : ∀ (l : List Oper) (ms : List Nat), (maskL l ms).length = l.length + ms.length := by
                intro l
                induction l with
                | nil => intro ms; simp [maskL]
                | cons o l ih => intro ms; rw [maskL, ih]; simp; omega
              rw [List.getElem?_eq_none_iff, hlen] at hms
              simp at hms
              omega
            | some b =>
              rw [hms] at hsk
              simp only [List.all_eq_true, List.mem_range] at hsk
              exact hM i b x0.1 hms (hsk x0.1 hm0.2.1)
        have h7 := hP.closed.waits' hw o hio hall
        have h8 := getD_ready hx0
        rw [h7] at h8
        cases h8
    have hil : (i, o) ∈ x0 :: l0 := hP.out i o hin hio hiu
    generalize x0 :: l0 = l at *
    clear hm0 hs0 hx0
    obtain ⟨l1, l2, rfl⟩ := List.append_of_mem hil
    have hs := hP.sort
    have hs' := hs
    rw [List.pairwise_append, List.pairwise_cons] at hs'
    have hnd : ((l1 ++ (i, o) :: l2).map (·.1)).Nodup := List.Pairwise.map _ (fun _ _ h => Nat.ne_of_lt h) hs
    have hp : ∀ x ∈ l1, PairG ops x (i, o) := fun x hx => by
      have hlt := hs'.2.2 x hx (i, o) (by simp)
      dsimp only at hlt
      have hm := hP.mem x (List.mem_append_left _ hx)
      have hxu := hm.2.2
      have hxs : x.1 < listed.size := by rw [hP.size]; exact (Array.getElem?_eq_some_iff.1 hm.1).1
      rw [getD_in hxs] at hxu
      obtain ⟨m, h1, h2⟩ := head_ok hh x.1 i x.2 o hlt (htk _ _ hm.2.1 hm.1) (htk _ _ hin hio)
      rw [Nat.zero_add] at h2
      have h3 : x.2.apart ops o = true ∧ (stillG o.op = true ∨ multiG x.2.op = false) := by
        rcases h2 with h2 | h2
        · have h7 := hP.closed.waits' (hM i m x.1 h1 h2) o hio hall
          rw [h7] at hxu
          cases hxu
        · exact h2
      refine ⟨Nat.ne_of_lt hlt, h3.1, fun e he hb hon => ?_, fun e he hb hon => ?_, h3.2, fun cs b => Region.noSelect_spec hsel x.1 x.2 cs b hm.1, fun cs b => Region.noSelect_spec hsel i o cs b hio⟩
      · have h7 := hall e he hb
        rw [hon, hxu] at h7
        cases h7
      · have h7 := head_low hh x.1 x.2 (htk _ _ hm.2.1 hm.1) e he hb
        dsimp only at hon
        omega
    have h9 := frontG hcl endG_mono (i, o) l2 l1 F a w hp hnd hG hU h
    have hP' := hP.step hi
    have hU' : Unl (l1 ++ l2) F := fun x hx => hU x (by
      rcases List.mem_append.1 hx with h1 | h1
      · exact List.mem_append_left _ h1
      · exact List.mem_append_right _ (List.mem_cons_of_mem _ h1))
    have hi' : i ∉ (l1 ++ l2).map (·.1) := fun hmem => by
      obtain ⟨x, hx, hxi⟩ := List.mem_map.1 hmem
      rcases List.mem_append.1 hx with h1 | h1
      · have := hs'.2.2 x h1 (i, o) (by simp)
        dsimp only at this hxi
        omega
      · have := hs'.2.1.1 x h1
        dsimp only at this hxi
        omega
    have hlen : (l1 ++ l2).length = N := by
      simp only [List.length_append, List.length_cons] at hl ⊢
      omega
    unfold wpOp
    simp only [hio]
    unfold wpG at h9
    dsimp only at h9
    split
    · rename_i hw
      rw [if_pos hw] at h9
      obtain ⟨V, hpv, _, hy, hn⟩ := h9
      refine .inl ?_
      have h3 := hy w hG.cls (fun e _ _ => hG.all e.on)
      have fin : ∀ u w', Rel w w' → V u w' → wpAny P .any ops Q (T.length + N) (listed.setIfInBounds i true) (a.put o.dst u) w' := fun u w' hb hV => by
        have hC := hcl _ _ hG.cls hb
        have hF : ∀ k, F k w' := fun k => hG.pers k _ _ (hG.all k) hb
        exact ih (l1 ++ l2) _ _ _ w' hlen hP' (hG.up (hpv u) hC hF hV) (hU'.up hi') (hn u w' hC hF hV)
      unfold Oper.wp
      generalize (execOp a.eval o).run P w = r at *
      cases r with
      | ok n w' =>
        cases n <;> simp only [uponG] at h3 <;> simp only [Oper.upon]
        case value u => exact fin u w' h3.1 h3.2
        case skip => exact fin _ w' h3.1 h3.2
        case enter f args =>
          obtain ⟨e1, hc⟩ := h3
          rw [e1]
          exact hc.mono fun e w'' ⟨v, he, hb, hV⟩ => by subst he; exact fin v w'' hb hV
      | halt x w' => simp only [uponG] at h3
    · rename_i hw
      rw [if_neg hw] at h9
      exact ih (l1 ++ l2) _ _ _ w hlen hP' (hG.up (fun _ _ _ _ => trivial) hG.cls hG.all trivial) (hU'.up hi') h9

end

/-! ### Over frames by what is known of them -/
def idx : Nat → List Oper → List (Nat × Oper)
  | _, [] => []
  | k, o :: l => (k, o) :: idx (k + 1) l
theorem idx_map : ∀ (k : Nat) (l : List Oper), (idx k l).map (·.2) = l
  | _, [] => rfl
  | k, o :: l => by rw [idx, List.map_cons, idx_map]
theorem idx_len : ∀ (k : Nat) (l : List Oper), (idx k l).length = l.length
  | _, [] => rfl
  | k, o :: l => by rw [idx, List.length_cons, idx_len, List.length_cons]
theorem idx_mem : ∀ {k : Nat} {l : List Oper} {x : Nat × Oper}, x ∈ idx k l → k ≤ x.1 ∧ l[x.1 - k]? = some x.2
  | _, [], _, h => by simp [idx] at h
  | k, o :: l, x, h => by
    rcases List.mem_cons.1 h with rfl | h
    · exact ⟨Nat.le_refl _, by simp⟩
    · obtain ⟨h1, h2⟩ := idx_mem h
      refine ⟨by omega, ?_⟩
      rw [show x.1 - k = x.1 - (k + 1) + 1 by omega]
      simpa using h2
theorem mem_idx : ∀ {k : Nat} {l : List Oper} {j : Nat} {o : Oper}, l[j]? = some o → (k + j, o) ∈ idx k l
  | _, [], _, _, h => by simp at h
  | k, x :: l, 0, o, h => by
    simp only [List.getElem?_cons_zero, Option.some.injEq] at h
    subst h
    exact List.mem_cons_self
  | k, x :: l, j + 1, o, h => by
    have h1 := mem_idx (k := k + 1) (l := l) (j := j) (o := o) (by simpa using h)
    rw [show k + (j + 1) = k + 1 + j by omega]
    exact List.mem_cons_of_mem _ h1
theorem idx_sort : ∀ (k : Nat) (l : List Oper), (idx k l).Pairwise fun x y => x.1 < y.1
  | _, [] => List.Pairwise.nil
  | k, o :: l => List.Pairwise.cons (fun x hx => by have := (idx_mem hx).1; dsimp only; omega) (idx_sort (k + 1) l)

/-- What is told of memory: by the number of the operation that left it. -/
abbrev Told := List (Nat × (World → Prop))
def lookP : Told → Nat → Option (World → Prop)
  | [], _ => none
  | (k, p) :: r, j => match Nat.beq k j with
    | true => some p
    | false => lookP r j
def farP (i : Nat) (Fa : Told) : Bool := Fa.all fun x => !Nat.beq x.1 i
/-- F says what Fa tells. -/
def Tell (Fa : Told) (F : Facts) : Prop := ∀ x ∈ Fa, ∀ w, F x.1 w → x.2 w
theorem lookP_mem : ∀ {Fa : Told} {j : Nat} {p : World → Prop}, lookP Fa j = some p → (j, p) ∈ Fa
  | [], _, _, h => by cases h
  | (k, q) :: r, j, p, h => by
    unfold lookP at h
    split at h
    · rename_i e
      obtain rfl := Nat.eq_of_beq_eq_true e
      cases h
      exact List.mem_cons_self
    · exact List.mem_cons_of_mem _ (lookP_mem h)
theorem Tell.up {Fa : Told} {F : Facts} {i : Nat} {p : World → Prop} (h : Tell Fa F) (hf : farP i Fa = true) : Tell Fa (upF F i p) := fun x hx w hw => by
  have h1 := List.all_eq_true.1 hf x hx
  have e : x.1 ≠ i := by
    rintro rfl
    simp at h1
  rw [upF_ne e] at hw
  exact h x hx w hw
theorem Tell.more {Fa : Told} {F : Facts} {i : Nat} {p : World → Prop} (h : Tell Fa F) (hf : farP i Fa = true) : Tell ((i, p) :: Fa) (upF F i p) := fun x hx w hw => by
  rcases List.mem_cons.1 hx with rfl | hx
  · rwa [upF_same] at hw
  · exact h.up hf x hx w hw

def gF (P : Program) (Rel : World → World → Prop) (ops : Array Oper) (C0 : World → Prop) (Q : Facts → Act → Prop) (l : List (Nat × Oper)) (N : Nat) (E : List (Nat × Value)) (Fa : Told) : Prop :=
  ∀ a F, Fr N E a → Tell Fa F → wpG P Rel ops C0 Q l F a
/-- What an operation may use: what those told that it waits for. -/
def Uses (o : Oper) (Fa : Told) (w : World) : Prop := ∀ j p, lookP Fa j = some p → edgeTo .any o j = true → p w

section
variable {P : Program} {Rel : World → World → Prop} {C0 : World → Prop} {Q : Exit → Act → World → Prop} {N : Nat} {E : List (Nat × Value)} {w : World} {id : Nat} {l : List Oper}
/-- Of any way for worlds to go on. -/
theorem c_gR (n : Nat) (hcl : ∀ w w', C0 w → Rel w w' → C0 w') (h0 : C0 w.drew) (hn : n ≤ l.length) (hm : P.follows .mixedOrders = true) (hB : tailH l.toArray n (l.drop n).length = true)
    (h : gF P Rel l.toArray C0 (endG P l.toArray Q C0 (l.drop n)) (idx 0 (l.take n)) N E []) : cF P (.region id l.toArray true) Q N E w := fun a ha => by
  refine wp_region_any hm ?_
  have hL : (l.take n).length = n := by rw [List.length_take]; omega
  have hG : GoodF Rel C0 (fun _ _ => True) w.drew := ⟨fun _ _ _ _ _ => trivial, h0, fun _ => trivial⟩
  have hP : Pend l.toArray n (idx 0 (l.take n)) (Array.replicate l.toArray.size false) := by
    refine ⟨by simp, fun x hx => ?_, fun j o hj ho _ => ?_, fun j _ hj => by
      have hj' : j < l.length := by simpa using hj
      simp [hj'], idx_sort _ _, Closed.none _⟩
    · obtain ⟨_, h2⟩ := idx_mem hx
      rw [Nat.sub_zero, List.getElem?_take] at h2
      split at h2
      · rename_i hlt
        have h3 : x.1 < l.length := (List.getElem?_eq_some_iff.1 h2).1
        exact ⟨by simpa using h2, hlt, by simp [h3]⟩
      · cases h2
    · have h1 := mem_idx (k := 0) (l := l.take n) (j := j) (o := o) (by rw [List.getElem?_take, if_pos hj]; simpa using ho)
      rwa [Nat.zero_add] at h1
  have h2 := reg_any (Q := Q) hcl hB (fun j _ => by simp) n (idx 0 (l.take n)) _ _ a w.drew (by rw [idx_len, hL]) hP hG (fun _ _ _ => trivial) (h a _ ha (fun x hx => by cases hx))
  have e : (l.drop n).length + n = l.toArray.size := by simp; omega
  rw [e] at h2
  exact h2
end
section
variable {P : Program} {Q : Exit → Act → World → Prop} {N : Nat} {E : List (Nat × Value)} {w : World} {id : Nat} {l : List Oper}
theorem c_g (n : Nat) (hn : n ≤ l.length) (hm : P.follows .mixedOrders = true) (hB : tailH l.toArray n (l.drop n).length = true)
    (h : gF P Bel l.toArray (Up w) (endG P l.toArray Q (Up w) (l.drop n)) (idx 0 (l.take n)) N E []) : cF P (.region id l.toArray true) Q N E w := c_gR (Rel := Bel) (C0 := Up w) n (fun _ _ h k => Up.step h k) (Up.drew w) hn hm hB h
end

section
variable {P : Program} {Rel : World → World → Prop} {ops : Array Oper} {C0 : World → Prop} {Q : Facts → Act → Prop} {N : Nat} {E : List (Nat × Value)} {Fa : Told} {o : Oper} {rest : List (Nat × Oper)} {i k : Nat}
/-- An operation that leaves memory. -/
theorem g_mem (V : Value → World → Prop) (hg : o.guard = none) (hd : o.dst = some k) (hk : Nat.blt k N = true) (hf : farP i Fa = true) (hm : multiG o.op = true) (hp : ∀ v, Pers Rel (V v))
    (h : ∀ a, Fr N E a → ∀ w, C0 w → Uses o Fa w → uponG P Rel w V ((execOp a.eval o).run P w)) (hn : ∀ v w, C0 w → V v w → gF P Rel ops C0 Q rest N ((k, v) :: E) ((i, V v) :: Fa)) : gF P Rel ops C0 Q ((i, o) :: rest) N E Fa := fun a F ha hF => by
  unfold wpG
  rw [if_pos (by simp [Region.wanted, hg])]
  refine ⟨V, hp, .inr hm, fun w hw he => h a ha w hw fun j p hj hed => ?_, fun v w hw _ hV => hn v w hw hV _ _ (by dsimp only; rw [hd]; exact ha.put hk v) (hF.more hf)⟩
  obtain ⟨e, h1, h2, rfl⟩ := edgeTo_spec hed
  exact hF _ (lookP_mem hj) w (he e h1 h2)
/-- An operation of the usual kind; it may use what is told. -/
theorem g_op [hR : RelOk Rel] (hf : farP i Fa = true) (h : bF P ops (fun w => C0 w ∧ Uses o Fa w) (fun a' => ∀ F, Tell Fa F → wpG P Rel ops C0 Q rest F a') [o] N E) : gF P Rel ops C0 Q ((i, o) :: rest) N E Fa := fun a F ha hF => by
  have h1 := h a ha
  unfold wpB at h1
  unfold wpG
  split
  · rename_i hw
    rw [if_pos hw] at h1
    have huse : ∀ w, (∀ e ∈ o.after, Region.binds .any e = true → F e.on w) → Uses o Fa w := fun w he j p hj hed => by
      obtain ⟨e, h1, h2, rfl⟩ := edgeTo_spec hed
      exact hF _ (lookP_mem hj) w (he e h1 h2)
    have hup : ∀ (V : Value → Prop) (w : World) (r : Result Next), uponB P w V r → uponG P Rel w (fun u _ => V u) r := fun V w r hr => by
      cases r with
      | ok n w' =>
        cases n <;> simp only [uponB] at hr <;> simp only [uponG]
        case value u => obtain ⟨rfl, h⟩ := hr; exact ⟨hR.below _ _ (Below.refl _ _), h⟩
        case skip => obtain ⟨rfl, h⟩ := hr; exact ⟨hR.below _ _ (Below.refl _ _), h⟩
        case enter f args =>
          obtain ⟨rfl, h⟩ := hr
          exact ⟨rfl, h.mono fun e w'' ⟨v, h1, h2, h3⟩ => ⟨v, h1, hR.below _ _ h3, h2⟩⟩
      | halt x w' => simp only [uponB] at hr
    rcases h1 with ⟨v, h2, h3⟩ | ⟨hp, V, h2, h3⟩
    · exact ⟨fun u _ => u = v, fun _ _ _ h _ => h, .inl ⟨v, fun _ _ h => h⟩, fun w hw he => hup (· = v) _ _ (h2 w ⟨hw, huse w he⟩), fun u w _ _ hu => by
        rw [hu]
        exact h3 _ (hF.up hf)⟩
    · refine ⟨fun u _ => V u, fun _ _ _ h _ => h, .inr ?_, fun w hw he => hup V _ _ (h2 w ⟨hw, huse w he⟩), fun u w _ _ hu => h3 u hu _ (hF.up hf)⟩
      unfold multiG
      split <;> first | rfl | exact hp
  · rename_i hw
    rw [if_neg hw] at h1
    exact h1 _ (hF.up hf)
theorem g_go (h : gF P Rel ops C0 Q rest N E Fa) : bF P ops (fun w => C0 w ∧ Uses o Fa w) (fun a' => ∀ F, Tell Fa F → wpG P Rel ops C0 Q rest F a') [] N E := fun a ha => wpB_nil fun F hF => h a F ha hF
theorem g_end {Q : Exit → Act → World → Prop} {T : List Oper} (h : ∀ w, C0 w → (∀ j p, lookP Fa j = some p → p w) → lF P ops Q T N E w) : gF P Rel ops C0 (endG P ops Q C0 T) [] N E Fa := fun a _ ha hF w hw hFw =>
  h w hw (fun j _ hj => hF _ (lookP_mem hj) w (hFw j)) a ha
end
end Go.Proofs.YtcbfalfkdnfelaaDoor
/-
  WORDS OF 64 BITS: rows of words, the walk's numbers made natural; a number's words and bytes.
-/
namespace Go.Proofs.YtcbfalfkdnfelaaDoor
open Go.RowKit Go.IntWalk

/-- Words as the cells of a row. -/
def Us (l : List Nat) : List Value := l.map fun x : Nat => .int .u64 (x : Int)
theorem Us_len (l : List Nat) : (Us l).length = l.length := by simp [Us]
/-! ### The numbers of a walk, made natural -/
theorem wrapN (a : Nat) (ha : a < 18446744073709551616) : IntKind.u64.wrap (a : Int) = (a : Int) := by rw [IntKind.wrap_u64]; omega
theorem wrapM (a : Nat) : IntKind.u64.wrap (a : Int) = ((a % 18446744073709551616 : Nat) : Int) := by rw [IntKind.wrap_u64]; omega

/-! ### Bytes and words -/
/-- The bytes when n of them are there. -/
def fb (l : List UInt8) (n : Nat) : List UInt8 := (List.range 32).map fun m => if m < n then l[m]! else 0
theorem fb_len (l : List UInt8) (n : Nat) : (fb l n).length = 32 := by simp [fb]
theorem fb_zero (l : List UInt8) : fb l 0 = List.replicate 32 0 := by
  apply List.ext_getElem (by simp [fb])
  intro i h1 h2
  rw [List.getElem_replicate]
  simp [fb]
theorem fb_all {l : List UInt8} (h : l.length = 32) : fb l 32 = l := by
  apply List.ext_getElem (by simp [fb, h])
  intro i h1 h2
  have h3 : i < 32 := by simpa [fb] using h1
  simp [fb, h3, h2]
theorem fb_set (l : List UInt8) {n : Nat} : (fb l n).set n l[n]! = fb l (n + 1) := by
  apply List.ext_getElem (by simp [fb])
  intro j h1 h2
  rw [List.getElem_set]
  simp only [fb, List.getElem_map, List.getElem_range]
  by_cases hjk : n = j
  · subst hjk
    simp
  · rw [if_neg hjk]
    by_cases hlt : j < n
    · rw [if_pos hlt, if_pos (by omega)]
    · rw [if_neg hlt, if_neg (by omega)]

end Go.Proofs.YtcbfalfkdnfelaaDoor
/-
  ROWS OF CELLS, AND STORES OVER FRAMES BY WHAT IS KNOWN OF THEM.
-/
namespace Go.Proofs.YtcbfalfkdnfelaaDoor
open Go.RowKit Go.IntWalk

theorem By_at? {l : List UInt8} {j : Nat} (h : j < l.length) : (By l)[j]? = some (.int .u8 ((l[j]!).toNat : Int)) := by
  have h1 := By_get h
  simpa using h1
/-! ### The check of a region whose first forced operation waits for some by more than four steps -/
end Go.Proofs.YtcbfalfkdnfelaaDoor
/-
  NEW VARIABLES OVER FRAMES BY WHAT IS KNOWN OF THEM: 'x, y, .. := .., ..', as many as there are, in whatever order they come.
-/
namespace Go.Proofs.YtcbfalfkdnfelaaDoor
open Go.RowKit Go.IntWalk

/-- A new variable: its slot, its type, its noughts. -/
structure NV where
  t : Nat
  ty : TypeId
  zs : Array Value

section
variable {P : Program} {N : Nat}
def nvOne (P : Program) (N : Nat) (o : Oper) (v : NV) : Prop := o.guard = none ∧ o.dst = some v.t ∧ Nat.blt v.t N = true ∧ o.op = .alloc v.ty ∧ (P.info? v.ty).bind (fun i => i.zero.map (·.cells)) = some v.zs
def nvOk (P : Program) (N : Nat) : List Oper → List NV → Prop
  | _, [] => True
  | [], _ :: _ => False
  | o :: l, v :: vs => nvOne P N o v ∧ nvOk P N l vs
theorem nvOk_get : ∀ {l : List Oper} {vs : List NV}, nvOk P N l vs → ∀ (j : Nat) (v : NV), vs[j]? = some v → ∃ o : Oper, l[j]? = some o ∧ nvOne P N o v
  | _, [], _, j, v, hv => by simp at hv
  | [], _ :: _, h, _, _, _ => h.elim
  | o :: l, v0 :: vs, h, 0, v, hv => by
    simp only [List.getElem?_cons_zero, Option.some.injEq] at hv
    subst hv
    exact ⟨o, rfl, h.1⟩
  | o :: l, v0 :: vs, h, j + 1, v, hv => by
    simp only [List.getElem?_cons_succ] at hv
    obtain ⟨o', h1, h2⟩ := nvOk_get h.2 j v hv
    exact ⟨o', by simpa using h1, h2⟩
end

def ptrs : List NV → Nat → (Nat → Nat) → List (Nat × Value) → List (Nat × Value)
  | [], _, _, E => E
  | v :: vs, j, gs, E => (v.t, .pointer (some ⟨gs j, 0, none⟩)) :: ptrs vs (j + 1) gs E
def far (E : List (Nat × Value)) : List NV → Prop
  | [] => True
  | v :: vs => look E v.t = none ∧ far E vs
theorem far_mem {E : List (Nat × Value)} : ∀ {vs : List NV}, far E vs → ∀ (j : Nat) (v : NV), vs[j]? = some v → look E v.t = none
  | [], _, j, v, hv => by simp at hv
  | v0 :: vs, h, 0, v, hv => by
    simp only [List.getElem?_cons_zero, Option.some.injEq] at hv
    subst hv
    exact h.1
  | v0 :: vs, h, j + 1, v, hv => far_mem h.2 j v (by simpa using hv)

section
variable {N : Nat} {E : List (Nat × Value)} {a : Act}
theorem Fr.putFar (h : Fr N E a) {k : Nat} (hk : look E k = none) (v : Value) : Fr N E (a.put (some k) v) := by
  refine ⟨by simp [Act.put, h.size], h.defers, fun j u hj => ?_⟩
  have e : k ≠ j := by
    rintro rfl
    rw [hk] at hj
    cases hj
  have h1 := h.get j u hj
  simp only [Act.put, Act.eval, Array.getD_eq_getD_getElem?] at h1 ⊢
  rw [Array.getElem?_setIfInBounds_ne (by omega)]
  exact h1
theorem Fr.more (h : Fr N E a) {k : Nat} {v : Value} (hv : a.eval (.tmp k) = v) : Fr N ((k, v) :: E) a := by
  refine ⟨h.size, h.defers, fun j u hj => ?_⟩
  rw [look_cons] at hj
  by_cases e : k = j
  · subst e
    rw [if_pos rfl] at hj
    cases hj
    exact hv
  · rw [if_neg e] at hj
    exact h.get j u hj
theorem eval_put_same (h : Fr N E a) {k : Nat} (hk : Nat.blt k N = true) (v : Value) : (a.put (some k) v).eval (.tmp k) = v := (h.put hk v).get k v (by rw [look_cons, if_pos rfl])
theorem eval_put_ne {k j : Nat} (hk : k ≠ j) (v : Value) : (a.put (some k) v).eval (.tmp j) = a.eval (.tmp j) := by
  simp only [Act.put, Act.eval, Array.getD_eq_getD_getElem?]
  rw [Array.getElem?_setIfInBounds_ne (by omega)]
theorem Fr.ptrs (h : Fr N E a) (gs : Nat → Nat) : ∀ (vs : List NV) (j0 : Nat), (∀ (j : Nat) (v : NV), vs[j]? = some v → a.eval (.tmp v.t) = .pointer (some ⟨gs (j0 + j), 0, none⟩)) → Fr N (ptrs vs j0 gs E) a
  | [], _, _ => h
  | v :: vs, j0, hv => by
    refine Fr.more (Fr.ptrs h gs vs (j0 + 1) fun j u hu => ?_) (hv 0 v rfl)
    have := hv (j + 1) u (by simpa using hu)
    rwa [← Nat.add_assoc, Nat.add_right_comm] at this
end

/-- Which variables are left (numbers from n on) are just what may come next, in whatever order they come. -/
def newC (ops : Array Oper) (n : Nat) (lend : Array Bool) : Nat → List Nat → Array Bool → Bool
  | 0, _, listed => decide (listed = lend)
  | f + 1, rem, listed => decide (Region.ready .any ops listed = rem.map (n + ·)) && rem.all fun j => newC ops n lend f (rem.erase j) (listed.setIfInBounds (n + j) true)

def tsApart : List NV → Bool
  | [] => true
  | v :: vs => (vs.all fun u => !(v.t == u.t)) && tsApart vs
theorem tsApart_lt : ∀ {vs : List NV}, tsApart vs = true → ∀ (i j : Nat) (vi vj : NV), i < j → vs[i]? = some vi → vs[j]? = some vj → vi.t ≠ vj.t
  | [], _, i, j, vi, vj, _, hi, _ => by simp at hi
  | v :: vs, h, 0, j + 1, vi, vj, _, hi, hj => by
    simp only [tsApart, Bool.and_eq_true, List.all_eq_true] at h
    simp only [List.getElem?_cons_zero, Option.some.injEq, List.getElem?_cons_succ] at hi hj
    subst hi
    have := h.1 vj (List.mem_of_getElem? hj)
    simpa using this
  | v :: vs, h, i + 1, j + 1, vi, vj, hij, hi, hj => by
    simp only [tsApart, Bool.and_eq_true] at h
    exact tsApart_lt h.2 i j vi vj (by omega) (by simpa using hi) (by simpa using hj)
theorem tsApart_ne {vs : List NV} (h : tsApart vs = true) {i j : Nat} {vi vj : NV} (hij : i ≠ j) (hi : vs[i]? = some vi) (hj : vs[j]? = some vj) : vi.t ≠ vj.t := by
  rcases Nat.lt_or_gt_of_ne hij with h1 | h1
  · exact tsApart_lt h i j vi vj h1 hi hj
  · exact (tsApart_lt h j i vj vi h1 hj hi).symm

section
variable {P : Program} {Q : Exit → Act → World → Prop} {N : Nat} {E : List (Nat × Value)} {w : World}
/-- What is asked where the variables have come. -/
def newEnd (P : Program) (ops : Array Oper) (Q : Exit → Act → World → Prop) (w : World) (vs : List NV) (T : List Oper) (N : Nat) (E : List (Nat × Value)) : Prop :=
  ∀ gs w', (∀ j, j < vs.length → w.heap.size ≤ gs j) → (∀ i j, i < vs.length → j < vs.length → i ≠ j → gs i ≠ gs j) → Up w w' → (∀ (j : Nat) (v : NV), vs[j]? = some v → Blk w' (gs j) v.ty v.zs) → lF P ops Q T N (ptrs vs 0 gs E) w'
def newPost (P : Program) (ops : Array Oper) (Q : Exit → Act → World → Prop) (w : World) (vs : List NV) (T : List Oper) (N : Nat) (a' : Act) : Prop :=
  ∃ E', Fr N E' a' ∧ far E' vs ∧ newEnd P ops Q w vs T N E'

theorem news_any {ops : Array Oper} {n m M : Nat} {lend : Array Bool} (vs : List NV) (hap : tsApart vs = true) (hnv : ∀ j v, vs[j]? = some v → ∃ o, ops[n + j]? = some o ∧ nvOne P N o v) (hE : far E vs)
    (fin : ∀ gs w0 a, Up w w0 → Fr N (ptrs vs 0 gs E) a → (∀ j, j < vs.length → w.heap.size ≤ gs j) → (∀ i j, i < vs.length → j < vs.length → i ≠ j → gs i ≠ gs j) → (∀ (j : Nat) (v : NV), vs[j]? = some v → Blk w0 (gs j) v.ty v.zs) →
      wpAnyU P .any ops (Up w) Q M m 0 w0 lend a) :
    ∀ (f : Nat) (rem : List Nat) (listed : Array Bool) (w0 : World) (a : Act) (gs : Nat → Nat), newC ops n lend f rem listed = true → rem.Nodup → f = rem.length → (∀ j ∈ rem, j < vs.length) → Up w w0 → Fr N E a →
      (∀ (j : Nat) (v : NV), j ∉ rem → vs[j]? = some v → w.heap.size ≤ gs j ∧ Blk w0 (gs j) v.ty v.zs ∧ a.eval (.tmp v.t) = .pointer (some ⟨gs j, 0, none⟩)) →
      (∀ i j, i < vs.length → j < vs.length → i ∉ rem → j ∉ rem → i ≠ j → gs i ≠ gs j) → wpAnyU P .any ops (Up w) Q M m f w0 listed a
  | 0, rem, listed, w0, a, gs, hc, _, hf, _, hU, hF, hd, hg => by
    obtain rfl : rem = [] := List.eq_nil_of_length_eq_zero hf.symm
    simp only [newC, decide_eq_true_eq] at hc
    subst hc
    refine fin gs w0 a hU (hF.ptrs gs vs 0 fun j v hv => ?_) (fun j hj => ?_) (fun i j hi hj hij => hg i j hi hj (by simp) (by simp) hij) (fun j v hv => (hd j v (by simp) hv).2.1)
    · rw [Nat.zero_add]
      exact (hd j v (by simp) hv).2.2
    · exact (hd j vs[j] (by simp) (List.getElem?_eq_getElem hj)).1
  | f + 1, rem, listed, w0, a, gs, hc, hnd, hf, hlt, hU, hF, hd, hg => by
    simp only [newC, Bool.and_eq_true, decide_eq_true_eq, List.all_eq_true] at hc
    obtain ⟨hr, hc⟩ := hc
    refine ⟨?_, fun i hi => ?_⟩
    · rw [hr]
      cases rem with
      | nil => cases hf
      | cons j rem => exact List.cons_ne_nil _ _
    · rw [hr] at hi
      obtain ⟨j, hj, rfl⟩ := List.mem_map.1 hi
      have hjl := hlt j hj
      have hv : vs[j]? = some vs[j] := List.getElem?_eq_getElem hjl
      generalize vs[j] = v at hv
      obtain ⟨o, ho, hgd, hds, hb, hop, hz⟩ := hnv j v hv
      refine wpAnyU_new (base := w.heap.size) ho hgd (exec_alloc hop hz) (fun _ _ h k => h.step k) (fun _ h => h.size) hU fun w1 hw1 hC1 hp => ?_
      rw [hds]
      have hfar := far_mem hE j v hv
      have hal := (Below.refl w1.heap.size w1).alloc (Nat.le_refl _) (.cells v.zs v.ty)
      have hem : ∀ i, i ∉ rem.erase j → i = j ∨ i ∉ rem := fun i hi => by
        by_cases e : i = j
        · exact .inl e
        · exact .inr fun hm => hi ((List.mem_erase_of_ne e).2 hm)
      refine news_any vs hap hnv hE fin f (rem.erase j) _ _ _ (fun i => if i = j then w1.heap.size else gs i) (hc j hj) (hnd.erase j) (by rw [List.length_erase_of_mem hj]; omega) (fun i hi => hlt i (List.mem_of_mem_erase hi)) (hC1.step hal) (hF.putFar hfar _) ?_ ?_
      · intro i u hi hu
        by_cases e : i = j
        · subst e
          obtain rfl : u = v := Option.some.inj (hu.symm.trans hv)
          rw [if_pos rfl]
          exact ⟨hp, Blk.new w1 _ _, eval_put_same hF hb _⟩
        · rw [if_neg e]
          obtain ⟨h1, h2, h3⟩ := hd i u ((hem i hi).resolve_left e) hu
          exact ⟨h1, (h2.later hw1).later hal, by rw [eval_put_ne (tsApart_ne hap (Ne.symm e) hv hu)]; exact h3⟩
      · intro i k hi hk hir hkr hik
        have hlt1 : ∀ i, i < vs.length → i ∉ rem → gs i < w1.heap.size := fun i hi hir => ((hd i vs[i] hir (List.getElem?_eq_getElem hi)).2.1.later hw1).lt
        by_cases e : i = j
        · rw [if_pos e, if_neg (fun h => hik (e.trans h.symm))]
          have := hlt1 k hk ((hem k hkr).resolve_left (fun h => hik (e.trans h.symm)))
          omega
        · rw [if_neg e]
          by_cases e2 : k = j
          · rw [if_pos e2]
            have := hlt1 i hi ((hem i hir).resolve_left e)
            omega
          · rw [if_neg e2]
            exact hg i k hi hk ((hem i hir).resolve_left e) ((hem k hkr).resolve_left e2) hik

/-- **New variables**: n operations may be taken first; the variables come when they come; then the rest, in its order. -/
theorem c_new {id : Nat} {l : List Oper} (n : Nat) (vs : List NV) (hn : n + vs.length ≤ l.length) (hap : tsApart vs = true) (hnv : nvOk P N (l.drop n) vs) (hm : P.follows .mixedOrders = true)
    (hB : tailB l.toArray n vs.length (l.drop (n + vs.length)).length = true)
    (hC : newC l.toArray n (marks vs.length n (marks n 0 (Array.replicate l.toArray.size false))) vs.length (List.range vs.length) (marks n 0 (Array.replicate l.toArray.size false)) = true)
    (hQ : ∀ c a d v w, Q (.panic c) (a.put d v) w → Q (.panic c) a w)
    (h : bF P l.toArray (Up w) (newPost P l.toArray Q w vs (l.drop (n + vs.length)) N) (l.take n) N E) : cF P (.region id l.toArray true) Q N E w := fun a ha => by
  simp only [tailB, Bool.and_eq_true, decide_eq_true_eq] at hB
  obtain ⟨⟨⟨⟨hs, hh⟩, hz⟩, hsk⟩, hf⟩ := hB
  have hL : (l.take n).length = n := by rw [List.length_take]; omega
  refine wp_region_any hm ?_
  have hT : ∀ j, j < (l.drop (n + vs.length)).length → (l.drop (n + vs.length))[j]? = l.toArray[vs.length + n + j]? := fun j _ => by
    simp only [List.getElem?_drop, List.getElem?_toArray]
    congr 1
    omega
  have hG : wpAnyU P .any l.toArray (Up w) Q (vs.length + n) (l.drop (n + vs.length)).length (vs.length + (l.take n).length) w.drew (Array.replicate l.toArray.size false) a := by
    refine wpAnyU_head (fun _ _ h k => h.step k) hs hQ vs.length w.drew (Up.drew w) (l.take n) 0 _ a (Closed.none _) (by omega) (fun j hj => ?_) (by rw [hL]; exact hh) ?_
    · rw [hL] at hj
      simp [hj]
    rw [hL]
    refine wpB_mono (fun a' h' => ?_) _ a (h a ha)
    obtain ⟨E', hF, hE, hk⟩ := h'
    refine news_any (E := E') (w := w) vs hap (fun j v hv => ?_) hE (fun gs w0 a hU hF hb hd hB => ⟨fun j hj i hi => ?_, fun w' hw' => ?_⟩) vs.length (List.range vs.length) _ w.drew a' (fun _ => 0) hC List.nodup_range (by simp) (fun j hj => by simpa using hj) (Up.drew w) hF ?_ ?_
    · obtain ⟨o, h1, h2⟩ := nvOk_get hnv j v hv
      exact ⟨o, by simpa using h1, h2⟩
    · have h1 := List.all_eq_true.1 hsk j hj
      exact List.all_eq_true.1 h1 i (List.mem_range.2 hi)
    · exact wpAny_forced _ (vs.length + n) _ _ w' hT hf (hk gs w' hb hd (hU.step hw') (fun j v hv => (hB j v hv).later hw') a hF)
    · intro j v hj hv
      exact absurd (List.mem_range.2 (List.getElem?_eq_some_iff.1 hv).1) hj
    · intro i j hi hj h1
      exact absurd (List.mem_range.2 hi) h1
  have h2 := wpAny_of_U (vs.length + (l.take n).length) _ a w.drew hG
  rw [hL] at h2
  have e : l.toArray.size = (l.drop (n + vs.length)).length + (vs.length + n) := by rw [hz, Nat.add_assoc]
  rw [← e] at h2
  exact h2

/-! ### What they hold at first -/
def stOk : List NV → List Operand → List Oper → List Oper → Prop
  | [], [], T, T' => T = T'
  | v :: vs, x :: xs, o :: T, T' => (o.guard = none ∧ o.dst = none ∧ o.op = .store v.ty (.tmp v.t) x) ∧ stOk vs xs T T'
  | _, _, _, _ => False
def valOk (P : Program) (E : List (Nat × Value)) : List NV → List Operand → List (Array Value) → Prop
  | [], [], [] => True
  | v :: vs, x :: xs, c :: cs => (ev E x = some (.agg c) ∧ v.zs.size = c.size ∧ (P.info? v.ty).map (·.size) = some c.size ∧ ∀ u ∈ c.toList, u.oneCell' = true) ∧ valOk P E vs xs cs
  | _, _, _ => False
def blks (w : World) : List NV → List (Array Value) → Nat → (Nat → Nat) → Prop
  | v :: vs, c :: cs, j, gs => Blk w (gs j) v.ty c ∧ blks w vs cs (j + 1) gs
  | _, _, _, _ => True
theorem l_stores {ops : Array Oper} {T' : List Oper} {W : World} {gs : Nat → Nat} : ∀ (vs : List NV) (xs : List Operand) (cs : List (Array Value)) (T : List Oper) (j0 : Nat) (w : World), stOk vs xs T T' → valOk P E vs xs cs →
    (∀ (j : Nat) (v : NV), vs[j]? = some v → look E v.t = some (.pointer (some ⟨gs (j0 + j), 0, none⟩))) → (∀ j, j < vs.length → W.heap.size ≤ gs (j0 + j)) → (∀ i j, i < vs.length → j < vs.length → i ≠ j → gs (j0 + i) ≠ gs (j0 + j)) → Up W w → (∀ (j : Nat) (v : NV), vs[j]? = some v → Blk w (gs (j0 + j)) v.ty v.zs) →
    (∀ w', Up W w' → (∀ g t c, (∀ j, j < vs.length → gs (j0 + j) ≠ g) → Blk w g t c → Blk w' g t c) → blks w' vs cs j0 gs → lF P ops Q T' N E w') → lF P ops Q T N E w
  | [], xs, cs, T, j0, w, hst, hv, _, _, _, hU, _, h => by
    cases xs with
    | cons => exact hst.elim
    | nil =>
      obtain rfl : T = T' := hst
      exact h w hU (fun _ _ _ _ h => h) (by unfold blks; trivial)
  | v :: vs, xs, cs, T, j0, w, hst, hv, hl, hge, hd, hU, hB, h => by
    cases xs with
    | nil => exact hst.elim
    | cons x xs =>
      cases T with
      | nil => exact hst.elim
      | cons o T =>
        cases cs with
        | nil => exact hv.elim
        | cons c cs =>
          obtain ⟨⟨hgd, hds, hop⟩, hst⟩ := hst
          obtain ⟨⟨hx, hz, hi, ho⟩, hv⟩ := hv
          intro a ha
          have h0 := hB 0 v rfl
          have hd0 : ∀ j, j < vs.length → gs (j0 + 1 + j) ≠ gs j0 := fun j hj => by
            have := hd (j + 1) 0 (by simpa using hj) (by simp) (by omega)
            rwa [← Nat.add_assoc, Nat.add_right_comm, Nat.add_zero] at this
          rw [Nat.add_zero] at h0
          refine wpList_store_row hgd v.ty (.tmp v.t) x hop (gs j0) (ha.get _ _ (hl 0 v rfl)) c (ha.eval hx) v.ty v.zs h0 hi hz ho ?_
          rw [hds]
          refine l_stores (gs := gs) (W := W) vs xs cs T (j0 + 1) (w.setRow (gs j0) c) hst hv (fun j u hu => ?_) (fun j hj => ?_) (fun i j hi hj hij => ?_) (up_row hU (hge 0 (by simp)) _) (fun j u hu => ?_) (fun w' hU' hK hb => ?_) a ha
          · have := hl (j + 1) u (by simpa using hu)
            rwa [← Nat.add_assoc, Nat.add_right_comm] at this
          · have := hge (j + 1) (by simpa using hj)
            rwa [← Nat.add_assoc, Nat.add_right_comm] at this
          · have := hd (i + 1) (j + 1) (by simpa using hi) (by simpa using hj) (by omega)
            rwa [← Nat.add_assoc, ← Nat.add_assoc, Nat.add_right_comm, Nat.add_right_comm j0 j 1] at this
          · have := hB (j + 1) u (by simpa using hu)
            rw [← Nat.add_assoc, Nat.add_right_comm] at this
            exact this.rowFar (hd0 j (List.getElem?_eq_some_iff.1 hu).1) _
          · refine h w' hU' (fun g t c' hg hb' => hK g t c' (fun j hj => ?_) (hb'.rowFar (Ne.symm (by have := hg 0 (by simp); rwa [Nat.add_zero] at this)) _)) ⟨hK _ _ _ hd0 (h0.row _), hb⟩
            have := hg (j + 1) (by simpa using hj)
            rwa [← Nat.add_assoc, Nat.add_right_comm] at this
theorem look_ptrs {gs : Nat → Nat} {E : List (Nat × Value)} {k : Nat} : ∀ (vs : List NV) (j0 : Nat), (∀ v ∈ vs, v.t ≠ k) → look (ptrs vs j0 gs E) k = look E k
  | [], _, _ => rfl
  | v :: vs, j0, h => by
    rw [ptrs, look_cons, if_neg (h v (by simp))]
    exact look_ptrs vs (j0 + 1) fun u hu => h u (by simp [hu])
theorem look_ptr {gs : Nat → Nat} {E : List (Nat × Value)} : ∀ (vs : List NV) (j0 : Nat), tsApart vs = true → ∀ (j : Nat) (v : NV), vs[j]? = some v → look (ptrs vs j0 gs E) v.t = some (.pointer (some ⟨gs (j0 + j), 0, none⟩))
  | [], _, _, _, _, hv => by simp at hv
  | v0 :: vs, j0, hap, 0, v, hv => by
    simp only [List.getElem?_cons_zero, Option.some.injEq] at hv
    subst hv
    rw [ptrs, look_cons, if_pos rfl, Nat.add_zero]
  | v0 :: vs, j0, hap, j + 1, v, hv => by
    have hne : v0.t ≠ v.t := tsApart_ne hap (i := 0) (j := j + 1) (by omega) rfl hv
    simp only [tsApart, Bool.and_eq_true] at hap
    rw [ptrs, look_cons, if_neg hne, look_ptr vs (j0 + 1) hap.2 j v (by simpa using hv), ← Nat.add_assoc, Nat.add_right_comm]
theorem ev_far {gs : Nat → Nat} {E : List (Nat × Value)} {vs : List NV} (hE : far E vs) {x : Operand} {v : Value} (hx : ev E x = some v) : ev (ptrs vs 0 gs E) x = some v := by
  cases x with
  | tmp t =>
    show look (ptrs vs 0 gs E) t = some v
    rw [look_ptrs vs 0 fun u hu => ?_]
    · exact hx
    · rintro rfl
      obtain ⟨j, hj⟩ := List.getElem?_of_mem hu
      have h1 := far_mem hE j u hj
      have h2 : look E u.t = some v := hx
      rw [h1] at h2
      cases h2
  | const u => exact hx
  | global g => exact hx
  | func f => exact hx
theorem valOk_far {gs : Nat → Nat} {E : List (Nat × Value)} {ws : List NV} (hE : far E ws) : ∀ (vs : List NV) (xs : List Operand) (cs : List (Array Value)), valOk P E vs xs cs → valOk P (ptrs ws 0 gs E) vs xs cs
  | [], [], [], _ => trivial
  | _ :: vs, _ :: xs, _ :: cs, h => ⟨⟨ev_far hE h.1.1, h.1.2⟩, valOk_far hE vs xs cs h.2⟩
  | [], [], _ :: _, h => h.elim
  | [], _ :: _, _, h => h.elim
  | _ :: _, [], _, h => h.elim
  | _ :: _, _ :: _, [], h => h.elim
/-- **'x, y, .. := u, v, ..'**, behind the reads and calls. -/
theorem f_new {ops : Array Oper} {vs : List NV} {T T' : List Oper} (xs : List Operand) (cs : List (Array Value)) (hE : far E vs) (hap : tsApart vs = true) (hst : stOk vs xs T T') (hv : valOk P E vs xs cs)
    (h : ∀ gs w', (∀ j, j < vs.length → w.heap.size ≤ gs j) → (∀ i j, i < vs.length → j < vs.length → i ≠ j → gs i ≠ gs j) → Up w w' → blks w' vs cs 0 gs → lF P ops Q T' N (ptrs vs 0 gs E) w') :
    bF P ops (Up w) (newPost P ops Q w vs T N) [] N E := fun a ha => wpB_nil ⟨E, ha, hE, fun gs w' hge hd hU hB => by
  refine l_stores (W := w) (gs := gs) vs xs cs T 0 w' hst (valOk_far hE _ _ _ hv) (fun j v hv => look_ptr vs 0 hap j v hv) (by simpa using hge) (by simpa using hd) hU (by simpa using hB) fun w2 hU2 _ hb => ?_
  exact h gs w2 hge hd hU2 hb⟩
end
end Go.Proofs.YtcbfalfkdnfelaaDoor
/-
  STEPS OVER FRAMES BY WHAT IS KNOWN OF THEM: fields, rows, calls that hand back one of a set, structs put together, new cells.
-/
namespace Go.Proofs.YtcbfalfkdnfelaaDoor
open Go.RowKit Go.IntWalk

section
variable {N : Nat} {E : List (Nat × Value)} {a : Act}
theorem Fr.evals (ha : Fr N E a) : ∀ (l : List Operand) (m : List Value), l.map (ev E) = m.map some → l.map a.eval = m
  | [], [], _ => rfl
  | [], _ :: _, h => by cases h
  | _ :: _, [], h => by cases h
  | y :: l, u :: m, h => by
    simp only [List.map_cons, List.cons.injEq] at h ⊢
    exact ⟨ha.eval h.1, Fr.evals ha l m h.2⟩
theorem Fr.parts (ha : Fr N E a) : ∀ (l : List (Nat × Operand)) (m : List (Nat × Value)), l.map (fun p => (p.1, ev E p.2)) = m.map (fun p => (p.1, some p.2)) → (l.map fun (i, x) => (i, a.eval x)) = m
  | [], [], _ => rfl
  | [], _ :: _, h => by cases h
  | _ :: _, [], h => by cases h
  | y :: l, u :: m, h => by
    simp only [List.map_cons, List.cons.injEq, Prod.mk.injEq] at h ⊢
    refine ⟨?_, Fr.parts ha l m h.2⟩
    rw [ha.eval h.1.2, h.1.1]
end

section
variable {P : Program} {ops : Array Oper} {C0 : World → Prop} {Q : Act → Prop} {N : Nat} {E : List (Nat × Value)} {o : Oper} {rest : List Oper} {k : Nat}
theorem f_build {t : TypeId} {parts : Array (Nat × Operand)} (vs : List (Nat × Value)) (cells : Array Value) (hg : o.guard = none) (hd : o.dst = some k) (hk : Nat.blt k N = true) (ho : o.op = .build t parts)
    (hv : parts.toList.map (fun p => (p.1, ev E p.2)) = vs.map (fun p => (p.1, some p.2))) (hb : P.built t vs = some cells) (hn : bF P ops C0 Q rest N ((k, .agg cells) :: E)) : bF P ops C0 Q (o :: rest) N E :=
  f_val _ hg hd hk (fun a ha w _ => by
    have h1 := ha.parts _ _ hv
    unfold execOp
    simp only [ho, Sem.run_bind, run_build w t _ cells (by rw [Array.toList_map, h1]; exact hb), Result.andThen_ok, Sem.run_pure]) hn
end

section
variable {ops : Array Oper} {C0 : World → Prop} {Q : Act → Prop} {N : Nat} {E : List (Nat × Value)} {o : Oper} {rest : List Oper} {k : Nat}
/-- A call that hands back one of a set. -/
theorem f_callV {f : FuncId} {xs : Array Operand} {ats : Array TypeId} (args : Array Value) (V : Value → Prop) (hg : o.guard = none) (hd : o.dst = some k) (hk : Nat.blt k N = true)
    (hf : Own f) (hc : ∀ w, C0 w → Calls Tryd.prog f args w (fun e w' => ∃ v, e = .returned v ∧ V v ∧ Below w.heap.size w w'))
    (ho : o.op = .call { callee := .value (.func f), args := xs, argTypes := ats }) (hx : xs.toList.map (ev E) = args.toList.map some) (hn : ∀ v, V v → bF Tryd.prog ops C0 Q rest N ((k, v) :: E)) : bF Tryd.prog ops C0 Q (o :: rest) N E := fun a ha => by
  refine b_callV (f := f) (args := args) V (by simp [Region.wanted, hg]) hf hc ho (ha.evals _ _ hx) fun v hv => ?_
  rw [hd]
  exact hn v hv _ (ha.put hk v)
end

theorem addI (a b : Nat) (h : a + b < 9223372036854775808) : IntKind.i64.wrap ((a : Int) + (b : Int)) = ((a + b : Nat) : Int) := by rw [i64_left, wrap64_in _ (by omega)]; omega
theorem subI (a b : Nat) (h : b ≤ a) (h2 : a < 9223372036854775808) : IntKind.i64.wrap ((a : Int) - (b : Int)) = ((a - b : Nat) : Int) := by rw [i64_left, wrap64_in _ (by omega)]; omega
end Go.Proofs.YtcbfalfkdnfelaaDoor
/-
  MAKE AND APPEND OVER FRAMES BY WHAT IS KNOWN OF THEM.
-/
namespace Go.Proofs.YtcbfalfkdnfelaaDoor
open Go.RowKit Go.IntWalk



end Go.Proofs.YtcbfalfkdnfelaaDoor
/-
  REGIONS: 'copy(a[..], b[..])', where the order of the two slices is drawn.
-/
namespace Go.Proofs.YtcbfalfkdnfelaaDoor
open Go.RowKit Go.IntWalk

/-- l laid over z from place off on. -/
def cop (z : List UInt8) (off : Nat) (l : List UInt8) : List UInt8 := z.take off ++ (l ++ z.drop (off + l.length))
theorem cop_len {z l : List UInt8} {off : Nat} (h : off + l.length ≤ z.length) : (cop z off l).length = z.length := by
  simp [cop]
  omega

theorem size_u8 : (Tryd.prog.info? 5).map (·.size) = some 1 := by kernel_rfl
end Go.Proofs.YtcbfalfkdnfelaaDoor
/-
  STEPS THAT MAKE MEMORY, over frames by what is known of them: slices of slices, calls whose answers lie in new memory, new variables; copies into a variable from any bytes.
-/
namespace Go.Proofs.YtcbfalfkdnfelaaDoor
open Go.RowKit Go.IntWalk

/-! ### Bytes that are read -/
/-- The value v is a slice that reads the bytes l. -/
def SB (w : World) (v : Value) (l : List UInt8) : Prop := ∃ A c, v = .slice A l.length c ∧ SL w 0 w.heap.size A l c
/-- A part of such a slice. -/
theorem SL.part {w : World} {lo hi c : Nat} {A : Option Addr} {l : List UInt8} (h : SL w lo hi A l c) {k n : Nat} (hk : k ≤ l.length) : SL w lo hi (if c = k then A else A.map (·.add k)) ((l.drop k).take n) (c - k) := (h.cut hk).take n
/-! ### Steps -/
section
variable {ops : Array Oper} {Rel : World → World → Prop} [hR : RelOk Rel] {C0 : World → Prop} {Q : Facts → Act → Prop} {N : Nat} {E : List (Nat × Value)} {Fa : Told} {o : Oper} {rest : List (Nat × Oper)} {i k : Nat}
/-- A call whose answer is described in the world behind it. -/
theorem g_call {f : FuncId} {xs : Array Operand} {ats : Array TypeId} (args : Array Value) (V : Value → World → Prop) (hg : o.guard = none) (hd : o.dst = some k) (hk : Nat.blt k N = true) (hf : farP i Fa = true) (hp : ∀ v, Pers Rel (V v)) (hown : Own f)
    (hc : ∀ w, C0 w → Uses o Fa w → Calls Tryd.prog f args w (fun e w' => ∃ v, e = .returned v ∧ V v w' ∧ Below w.heap.size w w'))
    (ho : o.op = .call { callee := .value (.func f), args := xs, argTypes := ats }) (hx : xs.toList.map (ev E) = args.toList.map some)
    (hn : ∀ v w, C0 w → V v w → gF Tryd.prog Rel ops C0 Q rest N ((k, v) :: E) ((i, V v) :: Fa)) : gF Tryd.prog Rel ops C0 Q ((i, o) :: rest) N E Fa :=
  g_mem V hg hd hk hf (by rw [ho]; rfl) hp (fun a ha w hw hu => by
    rw [run_call_fn hown ho, map_eval (ha.evals _ _ hx)]
    exact ⟨rfl, (hc w hw hu).mono fun e w' ⟨v, h1, h2, h3⟩ => ⟨v, h1, hR.below _ _ h3, h2⟩⟩) hn
end


/-! ### Appends of slices -/

/-! ### Copies -/
end Go.Proofs.YtcbfalfkdnfelaaDoor
/-
  REGIONS WITH A STORE AHEAD OF READS: a variable may go over to a value that is known; slices of arrays, arrays of slices; results in two variables.
-/
namespace Go.Proofs.YtcbfalfkdnfelaaDoor
open Go.RowKit Go.IntWalk

/-- Nothing but new memory; and the variable g may go over to the cells c. -/
structure KeepG (g : Nat) (t : TypeId) (c : Array Value) (w w' : World) : Prop where
  os : w'.os = w.os
  tape : w'.tape = w.tape
  output : w'.output = w.output
  size : w.heap.size ≤ w'.heap.size
  block : ∀ k, k < w.heap.size → k ≠ g → w'.heap[k]? = w.heap[k]?
  here : g < w.heap.size → w'.heap[g]? = w.heap[g]? ∨ Blk w' g t c
section
variable {g : Nat} {t : TypeId} {c : Array Value} {w w' w'' : World}
theorem KeepG.of (h : Below w.heap.size w w') : KeepG g t c w w' := ⟨h.os, h.tape, h.output, h.size, fun k hk _ => h.block k hk, fun hk => .inl (h.block g hk)⟩
instance : RelOk (KeepG g t c) := ⟨fun _ _ => KeepG.of⟩
end

/-! ### Slices of arrays, arrays of slices -/
end Go.Proofs.YtcbfalfkdnfelaaDoor
/-
  SLICES OF WORDS OVER FRAMES BY WHAT IS KNOWN OF THEM.
-/
namespace Go.Proofs.YtcbfalfkdnfelaaDoor
open Go.RowKit Go.IntWalk

end Go.Proofs.YtcbfalfkdnfelaaDoor
/-
  SLICES OF WORDS AND BYTES, NEW ONES, OVER FRAMES BY WHAT IS KNOWN OF THEM.
-/
namespace Go.Proofs.YtcbfalfkdnfelaaDoor
open Go.RowKit Go.IntWalk

end Go.Proofs.YtcbfalfkdnfelaaDoor
/-
  REGIONS WHOSE ORDER IS FORCED, operation by operation; steps: slices of bytes, new ones and parts; lengths; '==' of signatures.
-/
namespace Go.Proofs.YtcbfalfkdnfelaaDoor
open Go.RowKit Go.IntWalk


/-! ### Regions whose order is forced -/
end Go.Proofs.YtcbfalfkdnfelaaDoor
/-
  STEPS THAT HANG ON THE FRAME ALONE, ALL AT ONCE: moves, choices, parts of tuples, 'not', guards; reckoned by a function, so one line takes as many as there are.
-/
namespace Go.Proofs.YtcbfalfkdnfelaaDoor
open Go.RowKit Go.IntWalk

/-- What an operation hands back, where that hangs on the frame alone. -/
def stepV (E : List (Nat × Value)) : Op → Option Value
  | .move x => ev E x
  | .assign x => ev E x
  | .pick c x y => match ev E c with
    | some (.bool true) => ev E x
    | some (.bool false) => ev E y
    | _ => none
  | .extract x i => match ev E x with
    | some (.tuple vs) => vs[i]?
    | _ => none
  | .unOp .not _ x => match ev E x with
    | some (.bool true) => some (.bool false)
    | some (.bool false) => some (.bool true)
    | _ => none
  | .nilCheck x => match ev E x with
    | some (.pointer (some p)) => some (.pointer (some p))
    | _ => none
  | _ => none
/-- Is the operation wanted, as far as the frame tells? -/
def wantG (ops : Array Oper) (N : Nat) (E : List (Nat × Value)) (o : Oper) : Option Bool :=
  match o.guard with
  | none => some true
  | some (j, b) => match (ops[j]?).bind (·.dst) with
    | some t => match Nat.blt t N with
      | true => match look E t with
        | some (.bool true) => some b
        | some (.bool false) => some (!b)
        | _ => none
      | false => none
    | none => none
theorem wantG_ok {ops : Array Oper} {N : Nat} {E : List (Nat × Value)} {a : Act} {o : Oper} {q : Bool} (ha : Fr N E a) (h : wantG ops N E o = some q) : Region.wanted o (yielded ops a.tmps) = q := by
  unfold wantG at h
  split at h
  · rename_i hg
    injection h with h
    subst h
    simp [Region.wanted, hg]
  · rename_i j b hg
    split at h
    · rename_i t hj
      split at h
      · rename_i hN
        have htN : t < a.tmps.size := by rw [ha.size]; simpa using hN
        have key : ∀ c, look E t = some (.bool c) → a.tmps[t]? = some (.bool c) := fun c hc => by
          have h2 := ha.get t _ hc
          simp only [Act.eval, Array.getD_eq_getD_getElem?] at h2
          rw [Array.getElem?_eq_getElem htN] at h2 ⊢
          simpa using h2
        split at h
        · rename_i hc
          injection h with h
          subst h
          unfold Region.wanted
          rw [hg]
          simp [yielded, hj, key _ hc]
        · rename_i hc
          injection h with h
          subst h
          unfold Region.wanted
          rw [hg]
          cases b <;> simp [yielded, hj, key _ hc]
        · cases h
      · cases h
    · cases h
/-- The operation without its guard. -/
def bareO (o : Oper) : Oper := { o with guard := none }
section
variable {P : Program} {ops : Array Oper} {Q : Exit → Act → World → Prop}
theorem wpList_of_Bs {T : List Oper} : ∀ (L : List Oper) (a : Act) (w : World), L.all (fun o => stillG o.op) = true → wpB P ops (· = w) (fun a' => wpList P ops Q T a' w) L a → wpList P ops Q (L ++ T) a w
  | [], _, _, _, h => h
  | o :: L, a, w, hs, h => by
    rw [List.all_cons, Bool.and_eq_true] at hs
    have key : ∀ V : Value → Prop, atB P o a w V → (∀ v, V v → wpList P ops Q (L ++ T) (a.put o.dst v) w) → o.wp P a w (wpList P ops Q (L ++ T)) Q := fun V h3 hk => by
      unfold atB at h3
      unfold Oper.wp
      have hst := fun n w' => still_ok (P := P) (ρ := a.eval) (o := o) (w := w) (w' := w') (n := n) hs.1
      generalize (execOp a.eval o).run P w = r at *
      cases r with
      | ok n w' =>
        cases n <;> simp only [uponB] at h3 <;> simp only [Oper.upon]
        case value u =>
          obtain ⟨e1, e2⟩ := h3
          rw [e1]
          exact hk _ e2
        case skip =>
          obtain ⟨e1, e2⟩ := h3
          rw [e1]
          exact hk _ e2
        case enter f args =>
          rcases hst _ _ rfl with ⟨v, hv⟩ | hv <;> cases hv
      | halt x w' => simp only [uponB] at h3
    rw [List.cons_append]
    unfold wpList
    unfold wpB at h
    split at h
    · rename_i hw
      rw [if_pos hw]
      refine .inl ?_
      rcases h with ⟨v, h3, h4⟩ | ⟨_, V, h3, h4⟩
      · exact key (· = v) (h3 w rfl) (fun u hu => by rw [hu]; exact wpList_of_Bs L _ w hs.2 h4)
      · exact key V (h3 w rfl) (fun u hu => wpList_of_Bs L _ w hs.2 (h4 u hu))
    · rename_i hw
      rw [if_neg hw]
      exact wpList_of_Bs L _ w hs.2 h
variable {N : Nat} {E : List (Nat × Value)} {w : World} {l T : List Oper}
end
end Go.Proofs.YtcbfalfkdnfelaaDoor
/-
  LOOPS OF A CODE; BEGIN AND END OF A CALL, over frames by what is known of them.
-/
namespace Go.Proofs.YtcbfalfkdnfelaaDoor
open Go.RowKit Go.IntWalk

/-- The loops of a code, in the order of the text. -/
def loopsOf : Code → List Code
  | .loop c => c :: loopsOf c
  | .seq a b => loopsOf a ++ loopsOf b
  | .block _ c => loopsOf c
  | .scope c => loopsOf c
  | .cond _ a b => loopsOf a ++ loopsOf b
  | _ => []
/-! ### Begin and end of a call -/
def argE : Nat → List Value → List (Nat × Value)
  | _, [] => []
  | j, v :: vs => (j, v) :: argE (j + 1) vs
theorem argE_look : ∀ (vs : List Value) (j k : Nat) (v : Value), look (argE j vs) k = some v → j ≤ k ∧ vs[k - j]? = some v
  | [], _, _, _, h => by cases h
  | u :: vs, j, k, v, h => by
    rw [argE, look_cons] at h
    split at h
    · rename_i e
      subst e
      cases h
      exact ⟨Nat.le_refl _, by simp⟩
    · obtain ⟨h1, h2⟩ := argE_look vs (j + 1) k v h
      refine ⟨by omega, ?_⟩
      obtain ⟨m, rfl⟩ : ∃ m, k = j + 1 + m := ⟨k - (j + 1), by omega⟩
      rw [show j + 1 + m - (j + 1) = m from by omega] at h2
      rw [show j + 1 + m - j = m + 1 from by omega]
      simpa using h2
theorem calls_F {P : Program} {f : FuncId} {fn : Func} {c : Code} {vs : List Value} {w : World} {R : Ending → World → Prop} (N : Nat) (hf : P.funcs[f]? = some fn) (hb : fn.body = some c) (hn : vs.length + (fn.ntmps - vs.length) = N)
    (h : cF P c (bodyPost P fn R) N (argE 0 vs) w) : Calls P f vs.toArray w R := by
  refine calls_of_wp hf hb (h _ (Fr.start (by simpa using hn) _ fun k v hk => ?_))
  have := (argE_look vs 0 k v hk).2
  simpa using this
end Go.Proofs.YtcbfalfkdnfelaaDoor
/-
  STATES: frames whose slots hold values, addresses of variables, structs by their parts; variables by what lies in them; memory that is owned; facts that stay whatever becomes of what is owned.
-/
namespace Go.Proofs.YtcbfalfkdnfelaaDoor
open Go.RowKit Go.IntWalk

/-! ### How worlds go on -/
/-- New blocks came; of the elder ones those of D alone may have changed. -/
structure Chg (D : Nat → Prop) (w w' : World) : Prop where
  os : w'.os = w.os
  tape : w'.tape = w.tape
  output : w'.output = w.output
  size : w.heap.size ≤ w'.heap.size
  block : ∀ k, k < w.heap.size → ¬ D k → w'.heap[k]? = w.heap[k]?
section
variable {D D' : Nat → Prop} {w w' w'' : World}
theorem Chg.refl (D : Nat → Prop) (w : World) : Chg D w w := ⟨rfl, rfl, rfl, Nat.le_refl _, fun _ _ _ => rfl⟩
theorem Chg.step (h : Chg D w w') (k : Chg D' w' w'') (hd : ∀ i, i < w.heap.size → D' i → D i) : Chg D w w'' :=
  ⟨k.os.trans h.os, k.tape.trans h.tape, k.output.trans h.output, Nat.le_trans h.size k.size, fun i hi hn => (k.block i (Nat.lt_of_lt_of_le hi h.size) (fun h' => hn (hd i hi h'))).trans (h.block i hi hn)⟩
theorem Chg.mono (h : Chg D w w') (hd : ∀ i, i < w.heap.size → D i → D' i) : Chg D' w w' := ⟨h.os, h.tape, h.output, h.size, fun i hi hn => h.block i hi fun h' => hn (hd i hi h')⟩
theorem Chg.of_up (h : Up w w') : Chg D w w' := ⟨h.os, h.tape, h.output, h.size, fun k hk _ => h.block k hk⟩
theorem Chg.up (h : Chg D w w') (hd : ∀ i, i < w.heap.size → ¬ D i) : Up w w' := ⟨h.os, h.tape, h.output, h.size, fun k hk => h.block k hk (hd k hk)⟩
theorem Chg.of_grown {r : Option Nat} (h : w.grownBy w' r) : Chg (fun k => r = some k) w w' := ⟨h.os, h.tape, h.output, h.size, fun k hk hn => h.block k hk fun e => hn e.symm⟩
theorem Chg.row (w : World) (g : Nat) (cs : Array Value) : Chg (fun k => k = g) w (w.setRow g cs) := ⟨rfl, rfl, rfl, by simp [World.setRow], fun k _ hn => setRow_other w g k cs hn⟩
end
/-- p holds, and goes on to hold whatever becomes of D. -/
def Stb (D : Nat → Prop) (p : World → Prop) (w : World) : Prop := ∀ w', Chg D w w' → p w'
section
variable {D D' : Nat → Prop} {w w' : World} {p q : World → Prop}
theorem Stb.now (h : Stb D p w) : p w := h w (Chg.refl _ _)
theorem Stb.step (h : Stb D p w) (k : Chg D w w') : Stb D p w' := fun w2 h2 => h w2 (k.step h2 fun _ _ h => h)
theorem Stb.less (h : Stb D p w) (hd : ∀ k, k < w.heap.size → D' k → D k) : Stb D' p w := fun w2 h2 => h w2 (h2.mono hd)
theorem Stb.imp (h : Stb D p w) (hpq : ∀ w, p w → q w) : Stb D q w := fun w2 h2 => hpq _ (h w2 h2)
theorem Stb.and (h : Stb D p w) (h' : Stb D q w) : Stb D (fun w => p w ∧ q w) w := fun w2 h2 => ⟨h w2 h2, h' w2 h2⟩
/-- Behind changes of D', of which D has what was there. -/
theorem Stb.past (h : Stb D p w) (k : Chg D w w') (hd : ∀ i, i < w.heap.size → D' i → D i) : Stb D' p w' := fun w2 h2 => h w2 (k.step h2 hd)
end
/-- Facts that new memory alone does not touch. -/
class Pst (p : World → Prop) : Prop where
  later : ∀ w w', p w → Below w.heap.size w w' → p w'
theorem Stb.of_pst {p : World → Prop} [hp : Pst p] {D : Nat → Prop} {w : World} (h : p w) (hd : ∀ k, k < w.heap.size → ¬ D k) : Stb D p w := fun w' hw => hp.later w w' h (hw.up hd)

/-! ### Parts, values -/
/-- A value of one cell: one that is seen, a bool that isn't, one that isn't seen. -/
inductive SC where
  | v (x : Value)
  | b (e : Bool)
  | o (x : Value)
def SC.den : SC → Value
  | .v x => x
  | .b e => .bool e
  | .o x => x
def SC.Ok : SC → Prop
  | .v _ => True
  | .b _ => True
  | .o x => x.oneCell' = true ∧ x.cells = #[x]
/-- A part of a struct: a cell, or n cells. -/
inductive Pt where
  | one (s : SC)
  | agg (n : Nat) (cs : Array Value)
def Pt.cells : Pt → Array Value
  | .one s => #[s.den]
  | .agg _ cs => cs
def Pt.size : Pt → Nat
  | .one _ => 1
  | .agg n _ => n
def Pt.Ok : Pt → Prop
  | .one s => s.Ok ∧ s.den.oneCell' = true ∧ s.den.cells = #[s.den]
  | .agg n cs => cs.size = n ∧ ∀ v ∈ cs.toList, v.oneCell' = true
theorem Pt.Ok.size {p : Pt} (h : p.Ok) : p.cells.size = p.size := by
  cases p with
  | one v => rfl
  | agg n cs => exact h.1
theorem Pt.Ok.one {p : Pt} (h : p.Ok) : ∀ v ∈ p.cells.toList, v.oneCell' = true := by
  cases p with
  | one v => intro u hu; simp [Pt.cells] at hu; subst hu; exact h.2.1
  | agg n cs => exact h.2
def catP : List Pt → Array Value
  | [] => #[]
  | [p] => p.cells
  | p :: q :: r => p.cells ++ catP (q :: r)
def sizeP : List Pt → Nat
  | [] => 0
  | p :: r => p.size + sizeP r
def OkP (ps : List Pt) : Prop := ∀ p ∈ ps, p.Ok
theorem catP_cons (p : Pt) (r : List Pt) : catP (p :: r) = p.cells ++ catP r := by
  cases r with
  | nil => simp [catP]
  | cons q r => rfl
theorem OkP.size : ∀ {ps : List Pt}, OkP ps → (catP ps).size = sizeP ps
  | [], _ => rfl
  | p :: r, h => by rw [catP_cons, Array.size_append, OkP.size (ps := r) (fun q hq => h q (by simp [hq])), (h p (by simp)).size]; rfl
theorem OkP.one : ∀ {ps : List Pt}, OkP ps → ∀ v ∈ (catP ps).toList, v.oneCell' = true
  | [], _, v, hv => by simp [catP] at hv
  | p :: r, h, v, hv => by
    rw [catP_cons, Array.toList_append, List.mem_append] at hv
    rcases hv with hv | hv
    · exact (h p (by simp)).one v hv
    · exact OkP.one (ps := r) (fun q hq => h q (by simp [hq])) v hv
/-- The part that begins at a cell. -/
def atP : List Pt → Nat → Option Pt
  | [], _ => none
  | p :: r, off => match Nat.beq off 0 with
    | true => some p
    | false => match Nat.ble p.size off with
      | true => atP r (off - p.size)
      | false => none
/-- The parts, with another one at a cell. -/
def setP : List Pt → Nat → Pt → Option (List Pt)
  | [], _, _ => none
  | p :: r, off, q => match Nat.beq off 0 with
    | true => match Nat.beq p.size q.size with
      | true => some (q :: r)
      | false => none
    | false => match Nat.ble p.size off with
      | true => (setP r (off - p.size) q).map (p :: ·)
      | false => none
theorem atP_ok : ∀ {ps : List Pt} {off : Nat} {p : Pt}, OkP ps → atP ps off = some p → p.Ok ∧ ∃ A Z, (catP ps).toList = A ++ (p.cells.toList ++ Z) ∧ A.length = off
  | [], _, _, _, h => by cases h
  | q :: r, off, p, hok, h => by
    have hq := hok q (by simp)
    unfold atP at h
    split at h
    · rename_i e
      injection h with h
      subst h
      exact ⟨hq, [], (catP r).toList, by rw [catP_cons]; simp, by simpa using (Nat.eq_of_beq_eq_true e).symm⟩
    · split at h
      · rename_i e
        have e := Nat.le_of_ble_eq_true e
        obtain ⟨h1, A, Z, h2, h3⟩ := atP_ok (fun x hx => hok x (by simp [hx])) h
        exact ⟨h1, q.cells.toList ++ A, Z, by rw [catP_cons, Array.toList_append, h2, List.append_assoc], by rw [List.length_append, h3, Array.length_toList, hq.size]; omega⟩
      · cases h
theorem setP_ok : ∀ {ps ps' : List Pt} {off : Nat} {q : Pt}, OkP ps → q.Ok → setP ps off q = some ps' → OkP ps' ∧ sizeP ps' = sizeP ps ∧ ∃ A B Z, (catP ps).toList = A ++ (B ++ Z) ∧ A.length = off ∧ B.length = q.size ∧ (catP ps').toList = A ++ (q.cells.toList ++ Z)
  | [], _, _, _, _, _, h => by cases h
  | p :: r, ps', off, q, hok, hq, h => by
    have hp := hok p (by simp)
    unfold setP at h
    split at h
    · rename_i e
      split at h
      · rename_i e2
        injection h with h
        subst h
        have e2 := Nat.eq_of_beq_eq_true e2
        refine ⟨fun x hx => ?_, by simp only [sizeP, e2], [], p.cells.toList, (catP r).toList, by rw [catP_cons]; simp, by simpa using (Nat.eq_of_beq_eq_true e).symm, by rw [Array.length_toList, hp.size, e2], by rw [catP_cons]; simp⟩
        rcases List.mem_cons.1 hx with rfl | hx
        · exact hq
        · exact hok x (by simp [hx])
      · cases h
    · split at h
      · rename_i e
        have e := Nat.le_of_ble_eq_true e
        cases hs : setP r (off - p.size) q with
        | none => rw [hs] at h; cases h
        | some r' =>
          rw [hs] at h
          simp only [Option.map_some, Option.some.injEq] at h
          subst h
          obtain ⟨h1, h2, A, B, Z, h3, h4, h5, h6⟩ := setP_ok (fun x hx => hok x (by simp [hx])) hq hs
          refine ⟨fun x hx => ?_, by simp only [sizeP, h2], p.cells.toList ++ A, B, Z, by rw [catP_cons, Array.toList_append, h3, List.append_assoc], by rw [List.length_append, h4, Array.length_toList, hp.size]; omega, h5, by rw [catP_cons, Array.toList_append, h6, List.append_assoc]⟩
          rcases List.mem_cons.1 hx with rfl | hx
          · exact hp
          · exact h1 x hx
      · cases h

/-- A value that hangs on no variable. -/
inductive SQ where
  | c (s : SC)
  | p (ps : List Pt)
def SQ.den : SQ → Value
  | .c s => s.den
  | .p ps => .agg (catP ps)
def SQ.Ok : SQ → Prop
  | .c s => s.Ok
  | .p ps => OkP ps
/-- What a slot holds: a value; a cell's address in variable j; a slice of variable j; a tuple. -/
inductive SV where
  | q (x : SQ)
  | a (j off : Nat)
  | s (j off n c : Nat)
  | t (vs : List SQ)
@[match_pattern] abbrev SV.v (x : Value) : SV := .q (.c (.v x))
@[match_pattern] abbrev SV.b (e : Bool) : SV := .q (.c (.b e))
@[match_pattern] abbrev SV.o (x : Value) : SV := .q (.c (.o x))
@[match_pattern] abbrev SV.p (ps : List Pt) : SV := .q (.p ps)
def SV.den (G : Nat → Nat) : SV → Value
  | .q x => x.den
  | .a j off => .pointer (some ⟨G j, off, none⟩)
  | .s j off n c => .slice (some ⟨G j, off, none⟩) n c
  | .t vs => .tuple (vs.map SQ.den).toArray
def SV.Ok : SV → Prop
  | .q x => x.Ok
  | .a _ _ => True
  | .s _ _ _ _ => True
  | .t vs => ∀ x ∈ vs, x.Ok
/-- It names no variable j. -/
def SV.farB (j : Nat) : SV → Bool
  | .a i _ => !Nat.beq i j
  | .s i _ _ _ => !Nat.beq i j
  | _ => true
abbrev SE := List (Nat × SV)
def lookS : SE → Nat → Option SV
  | [], _ => none
  | (k, v) :: r, j => match Nat.beq k j with
    | true => some v
    | false => lookS r j
def denE (G : Nat → Nat) : SE → List (Nat × Value)
  | [] => []
  | (k, v) :: r => (k, v.den G) :: denE G r
theorem look_den (G : Nat → Nat) : ∀ (E : SE) (j : Nat), look (denE G E) j = (lookS E j).map (SV.den G)
  | [], _ => rfl
  | (k, v) :: r, j => by
    unfold denE look lookS
    cases Nat.beq k j with
    | true => rfl
    | false => exact look_den G r j
def OkE (E : SE) : Prop := ∀ x ∈ E, x.2.Ok
theorem lookS_mem : ∀ {E : SE} {j : Nat} {v : SV}, lookS E j = some v → (j, v) ∈ E
  | [], _, _, h => by cases h
  | (k, u) :: r, j, v, h => by
    unfold lookS at h
    split at h
    · rename_i e
      obtain rfl := Nat.eq_of_beq_eq_true e
      cases h
      exact List.mem_cons_self
    · exact List.mem_cons_of_mem _ (lookS_mem h)
theorem OkE.get {E : SE} (h : OkE E) {j : Nat} {v : SV} (hj : lookS E j = some v) : v.Ok := h _ (lookS_mem hj)
theorem OkE.cons {E : SE} (h : OkE E) {k : Nat} {v : SV} (hv : v.Ok) : OkE ((k, v) :: E) := fun x hx => by
  rcases List.mem_cons.1 hx with rfl | hx
  · exact hv
  · exact h x hx
def evS (E : SE) : Operand → Option SV
  | .tmp t => lookS E t
  | .const v => some (.v v)
  | .global g => some (.v (.pointer (some ⟨g, 0, none⟩)))
  | .func f => some (.v (.func (.func f) #[] #[]))
theorem evS_ok {G : Nat → Nat} {E : SE} {x : Operand} {v : SV} (h : evS E x = some v) : ev (denE G E) x = some (v.den G) := by
  cases x with
  | tmp t =>
    show look (denE G E) t = _
    rw [look_den]
    rw [show lookS E t = some v from h]
    rfl
  | const u => cases h; rfl
  | global g => cases h; rfl
  | func f => cases h; rfl
theorem OkE.ev {E : SE} (h : OkE E) {x : Operand} {v : SV} (hx : evS E x = some v) : v.Ok := by
  cases x with
  | tmp t => exact h.get hx
  | const u => cases hx; trivial
  | global g => cases hx; trivial
  | func f => cases hx; trivial
/-- The values of operands. -/
def evSs (E : SE) : List Operand → Option (List SV)
  | [] => some []
  | x :: r => match evS E x, evSs E r with
    | some v, some vs => some (v :: vs)
    | _, _ => none
theorem evSs_ok {G : Nat → Nat} {E : SE} : ∀ {xs : List Operand} {vs : List SV}, evSs E xs = some vs → xs.map (ev (denE G E)) = (vs.map (SV.den G)).map some
  | [], vs, h => by cases h; rfl
  | x :: r, vs, h => by
    unfold evSs at h
    split at h
    · rename_i v us h1 h2
      injection h with h
      subst h
      rw [List.map_cons, evS_ok h1, evSs_ok h2]
      rfl
    · cases h

/-! ### Variables -/
/-- A variable: its name (a slot's number), where it lies if that is known, its type, its parts. -/
structure LV where
  j : Nat
  g : Option Nat
  t : TypeId
  ps : List Pt
def lookL : List LV → Nat → Option (List Pt)
  | [], _ => none
  | x :: r, j => match Nat.beq x.j j with
    | true => some x.ps
    | false => lookL r j
theorem lookL_mem : ∀ {L : List LV} {j : Nat} {ps : List Pt}, lookL L j = some ps → ∃ x ∈ L, x.j = j ∧ x.ps = ps
  | [], _, _, h => by cases h
  | x :: r, j, ps, h => by
    unfold lookL at h
    split at h
    · rename_i e
      injection h with h
      exact ⟨x, List.mem_cons_self, Nat.eq_of_beq_eq_true e, h⟩
    · obtain ⟨y, h1, h2⟩ := lookL_mem h
      exact ⟨y, List.mem_cons_of_mem _ h1, h2⟩
def putL : List LV → Nat → List Pt → List LV
  | [], _, _ => []
  | x :: r, j, ps => match Nat.beq x.j j with
    | true => { x with ps := ps } :: r
    | false => x :: putL r j ps
/-- The variables' names. -/
def namesL (L : List LV) : List Nat := L.map (·.j)
theorem putL_names : ∀ (L : List LV) (j : Nat) (ps : List Pt), namesL (putL L j ps) = namesL L
  | [], _, _ => rfl
  | x :: r, j, ps => by
    unfold putL
    split
    · rfl
    · exact congrArg (x.j :: ·) (putL_names r j ps)
/-- No variable is called j. -/
def farL (j : Nat) : List LV → Bool
  | [] => true
  | x :: r => !Nat.beq x.j j && farL j r

/-! ### Owned memory -/
/-- Memory that is owned: what is known of it, and which blocks that hangs on. -/
structure Res where
  holds : World → (Nat → Prop) → Prop
  keep : ∀ {w w' : World} {S : Nat → Prop}, holds w S → (∀ k, S k → w'.heap[k]? = w.heap[k]?) → holds w' S
  lt : ∀ {w : World} {S : Nat → Prop}, holds w S → ∀ k, S k → k < w.heap.size
def starL : List Res → World → (Nat → Prop) → Prop
  | [], _, S => ∀ k, ¬ S k
  | r :: R, w, S => ∃ S1 S2, r.holds w S1 ∧ starL R w S2 ∧ (∀ k, S k ↔ S1 k ∨ S2 k) ∧ ∀ k, S1 k → ¬ S2 k
theorem starL.keep : ∀ {R : List Res} {w w' : World} {S : Nat → Prop}, starL R w S → (∀ k, S k → w'.heap[k]? = w.heap[k]?) → starL R w' S
  | [], _, _, _, h, _ => h
  | r :: _, _, _, _, ⟨S1, S2, h1, h2, h3, h4⟩, hk => ⟨S1, S2, r.keep h1 fun k hs => hk k ((h3 k).2 (.inl hs)), h2.keep fun k hs => hk k ((h3 k).2 (.inr hs)), h3, h4⟩
theorem starL.lt : ∀ {R : List Res} {w : World} {S : Nat → Prop}, starL R w S → ∀ k, S k → k < w.heap.size
  | [], _, _, h, k, hs => absurd hs (h k)
  | r :: _, _, _, ⟨_, _, h1, h2, h3, _⟩, k, hs => ((h3 k).1 hs).elim (r.lt h1 k) (h2.lt k)
theorem starL.same {R : List Res} {w : World} {S S' : Nat → Prop} (h : starL R w S) (e : ∀ k, S k ↔ S' k) : starL R w S' := by
  have : S = S' := funext fun k => propext (e k)
  rwa [← this]
theorem starL.app : ∀ {R R' : List Res} {w : World} {S : Nat → Prop}, starL (R ++ R') w S ↔ ∃ S1 S2, starL R w S1 ∧ starL R' w S2 ∧ (∀ k, S k ↔ S1 k ∨ S2 k) ∧ ∀ k, S1 k → ¬ S2 k
  | [], R', w, S => ⟨fun h => ⟨fun _ => False, S, fun _ h => h, h, fun k => ⟨.inr, fun h => h.elim False.elim id⟩, fun _ h => h.elim⟩, fun ⟨S1, S2, h1, h2, h3, _⟩ => by
      show starL R' w S
      exact h2.same fun k => ⟨fun h => (h3 k).2 (.inr h), fun h => ((h3 k).1 h).resolve_left (h1 k)⟩⟩
  | r :: R, R', w, S => by
    constructor
    · rintro ⟨S1, S2, h1, h2, h3, h4⟩
      obtain ⟨S3, S4, h5, h6, h7, h8⟩ := starL.app.1 h2
      refine ⟨fun k => S1 k ∨ S3 k, S4, ⟨S1, S3, h1, h5, fun k => Iff.rfl, fun k hk h => h4 k hk ((h7 k).2 (.inl h))⟩, h6, fun k => ?_, fun k hk h => ?_⟩
      · rw [h3 k, h7 k, or_assoc]
      · rcases hk with hk | hk
        · exact h4 k hk ((h7 k).2 (.inr h))
        · exact h8 k hk h
    · rintro ⟨S0, S4, ⟨S1, S3, h1, h5, h9, h10⟩, h6, h3, h8⟩
      refine ⟨S1, fun k => S3 k ∨ S4 k, h1, starL.app.2 ⟨S3, S4, h5, h6, fun k => Iff.rfl, fun k hk => h8 k ((h9 k).2 (.inr hk))⟩, fun k => by rw [h3 k, h9 k, or_assoc], fun k hk h => ?_⟩
      rcases h with h | h
      · exact h10 k hk h
      · exact h8 k ((h9 k).2 (.inl hk)) h

theorem starL.perm {R R' : List Res} (h : R.Perm R') : ∀ {w : World} {S : Nat → Prop}, starL R w S → starL R' w S := by
  induction h with
  | nil => exact fun h => h
  | cons r _ ih =>
    rintro w S ⟨S1, S2, h1, h2, h3⟩
    exact ⟨S1, S2, h1, ih h2, h3⟩
  | swap r r' R =>
    rintro w S ⟨S1, S2, h1, ⟨S3, S4, h3, h4, h5, h6⟩, h7, h8⟩
    refine ⟨S3, fun k => S1 k ∨ S4 k, h3, ⟨S1, S4, h1, h4, fun _ => Iff.rfl, fun k hk hk' => h8 k hk ((h5 k).2 (.inr hk'))⟩, fun k => ?_, fun k hk hk' => ?_⟩
    · rw [h7 k, h5 k, ← or_assoc, ← or_assoc, or_comm (a := S1 k)]
    · rcases hk' with hk' | hk'
      · exact h8 k hk' ((h5 k).2 (.inl hk))
      · exact h6 k hk hk'
  | trans _ _ ih1 ih2 => exact fun h => ih2 (ih1 h)
/-- One of what is owned, and the others. -/
theorem starL.at : ∀ {R : List Res} {i : Nat} {r : Res} {w : World} {S : Nat → Prop}, starL R w S → R[i]? = some r → ∃ S1 S2, r.holds w S1 ∧ (∀ k, S k ↔ S1 k ∨ S2 k) ∧ (∀ k, S1 k → ¬ S2 k) ∧ starL (R.eraseIdx i) w S2 ∧
    ∀ (r' : Res) (w' : World) (S' : Nat → Prop), r'.holds w' S' → (∀ k, S2 k → w'.heap[k]? = w.heap[k]?) → (∀ k, S' k → ¬ S2 k) → starL (R.set i r') w' fun k => S' k ∨ S2 k
  | [], _, _, _, _, _, h => by simp at h
  | r0 :: R, 0, r, w, S, ⟨S1, S2, h1, h2, h3, h4⟩, h => by
    simp only [List.getElem?_cons_zero, Option.some.injEq] at h
    subst h
    exact ⟨S1, S2, h1, h3, h4, h2, fun r' w' S' hr hk hd => ⟨S', S2, hr, h2.keep hk, fun _ => Iff.rfl, hd⟩⟩
  | r0 :: R, i + 1, r, w, S, ⟨S0, S', h1, h2, h3, h4⟩, h => by
    obtain ⟨S1, S2, h5, h6, h7, h8, h9⟩ := starL.at h2 (by simpa using h)
    refine ⟨S1, fun k => S0 k ∨ S2 k, h5, fun k => ?_, fun k hk hk' => ?_, ⟨S0, S2, h1, h8, fun _ => Iff.rfl, fun k hk hk' => h4 k hk ((h6 k).2 (.inr hk'))⟩, fun r' w' S3 hr hk hd => ?_⟩
    · rw [h3 k, h6 k, ← or_assoc, ← or_assoc, or_comm (a := S0 k)]
    · rcases hk' with hk' | hk'
      · exact h4 k hk' ((h6 k).2 (.inl hk))
      · exact h7 k hk hk'
    · refine ⟨S0, fun k => S3 k ∨ S2 k, r0.keep h1 fun k hs => hk k (.inl hs), h9 r' w' S3 hr (fun k hs => hk k (.inr hs)) (fun k hs hs' => hd k hs (.inr hs')), fun k => ?_, fun k hk0 hs => ?_⟩
      · exact or_left_comm
      · rcases hs with hs | hs
        · exact hd k hs (.inl hk0)
        · exact h4 k hk0 ((h6 k).2 (.inr hs))

/-! ### States -/
/-- What is known: of the slots, of the variables, what is owned; facts that stay; facts of memory that is new in this call. -/
structure Env where
  E : SE
  L : List LV
  R : List Res
  F : World → Prop
  M : World → Prop
/-- One's own blocks. -/
def Mine (S : Nat → Prop) (G : Nat → Nat) (L : List LV) (k : Nat) : Prop := S k ∨ ∃ j ∈ namesL L, G j = k
/-- All that may change: the callers' (X) and one's own. -/
def Dof (X S : Nat → Prop) (G : Nat → Nat) (L : List LV) (k : Nat) : Prop := X k ∨ Mine S G L k
/-- What is fixed in a call: the callers' blocks that may change, the first world, what was handed in to own. -/
structure Base where
  X : Nat → Prop
  B : World
  D : Nat → Prop
/-- All but what is new, and one's own. -/
def Nof (b : Base) (S : Nat → Prop) (G : Nat → Nat) (L : List LV) (k : Nat) : Prop := k < b.B.heap.size ∨ Mine S G L k
structure StW (b : Base) (G : Nat → Nat) (S : Nat → Prop) (L : List LV) (R : List Res) (F M : World → Prop) (w : World) : Prop where
  var : ∀ x ∈ L, Blk w (G x.j) x.t (catP x.ps) ∧ OkP x.ps ∧ ∀ g, x.g = some g → G x.j = g
  apart : (namesL L).Pairwise fun i j => G i ≠ G j
  res : starL R w S
  sep : ∀ j ∈ namesL L, ¬ S (G j)
  fact : Stb (Dof b.X S G L) F w
  fresh : Stb (Nof b S G L) M w
  chg : Chg b.D b.B w
  mine : ∀ k, Mine S G L k → k < b.B.heap.size → b.D k
  old : ∀ k, b.X k → k < b.B.heap.size ∧ ¬ b.D k
structure StA (b : Base) (N : Nat) (e : Env) (G : Nat → Nat) (S : Nat → Prop) (a : Act) (w : World) : Prop where
  fr : Fr N (denE G e.E) a
  ok : OkE e.E
  st : StW b G S e.L e.R e.F e.M w
def St (b : Base) (N : Nat) (e : Env) (a : Act) (w : World) : Prop := ∃ G S, StA b N e G S a w
section
variable {b : Base} {G : Nat → Nat} {S : Nat → Prop} {L : List LV} {R : List Res} {F M : World → Prop} {w w' : World}
theorem Dof.nof (h : ∀ k, b.X k → k < b.B.heap.size ∧ ¬ b.D k) {k : Nat} (hk : Dof b.X S G L k) : Nof b S G L k := hk.imp (fun hx => (h k hx).1) id
theorem StW.lt (h : StW b G S L R F M w) : ∀ k, Mine S G L k → k < w.heap.size := fun k hk => by
  rcases hk with hk | ⟨j, hj, rfl⟩
  · exact h.res.lt k hk
  · obtain ⟨x, hx, rfl⟩ := List.mem_map.1 hj
    exact (h.var x hx).1.lt
/-- New memory comes. -/
theorem StW.later (h : StW b G S L R F M w) (k : Below w.heap.size w w') : StW b G S L R F M w' :=
  ⟨fun x hx => ⟨(h.var x hx).1.later k, (h.var x hx).2⟩, h.apart, h.res.keep fun i hi => k.block i (h.res.lt i hi), h.sep, h.fact.step (Chg.of_up k), h.fresh.step (Chg.of_up k), h.chg.step (D' := fun _ => False) (Chg.of_up k) (fun _ _ h => h.elim), h.mine, h.old⟩
/-- All facts, whatever becomes of what may change. -/
theorem StW.all (h : StW b G S L R F M w) : Stb (Dof b.X S G L) (fun w => F w ∧ M w) w := h.fact.and (h.fresh.less fun _ _ hk => hk.nof h.old)
theorem StW.imp (h : StW b G S L R F M w) {F' M' : World → Prop} (hF : ∀ w, F w → M w → F' w) (hM : ∀ w, M w → M' w) : StW b G S L R F' M' w := { h with fact := h.all.imp fun w hw => hF w hw.1 hw.2, fresh := h.fresh.imp hM }
/-- A fact more. -/
theorem StW.and (h : StW b G S L R F M w) {p : World → Prop} (hp : Stb (Dof b.X S G L) p w) : StW b G S L R (fun w => p w ∧ F w) M w := { h with fact := hp.and h.fact }
/-- A fact of new memory more. -/
theorem StW.andM (h : StW b G S L R F M w) {p : World → Prop} (hp : Stb (Nof b S G L) p w) : StW b G S L R F (fun w => p w ∧ M w) w := { h with fresh := hp.and h.fresh }
end
end Go.Proofs.YtcbfalfkdnfelaaDoor
