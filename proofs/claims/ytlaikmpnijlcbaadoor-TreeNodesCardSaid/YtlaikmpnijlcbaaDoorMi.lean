/-
  SEVERAL TEXTS IN ONE: We, ShaK, TrL, TrO, Wf, Wg, Srt, Sru, Srv, Srw, Srx, Sry.
-/
import Derived.Test.YtlaikmpnijlcbaaDoorMe
import Derived.Test.YtlaikmpnijlcbaaDoorMh
import Derived.Test.YtlaikmpnijlcbaaDoorMf
import Derived.Test.YtlaikmpnijlcbaaDoorMd
import Derived.Lib.BytesEntry
import Derived.Laws.Externs
/-
  A RANGE OVER A FUNCTION, over states.
-/
namespace Go.Proofs.YtlaikmpnijlcbaaDoor
open Go.RowKit Go.IntWalk

/-- A loop's record. -/
def LoopR (l : Nat) (o : Loop) : Res where
  holds w S := w.heap[l]? = some (.loop o) ∧ ∀ k, S k ↔ k = l
  keep := fun ⟨h1, h2⟩ hk => ⟨(hk l ((h2 l).2 rfl)).trans h1, h2⟩
  lt := fun ⟨h1, h2⟩ k hk => by rw [(h2 k).1 hk]; exact (Array.getElem?_eq_some_iff.1 h1).1
/-- All of a call's own memory: its variables, what it owns. -/
def VRes (G : Nat → Nat) (L : List LV) (R : List Res) : Res where
  holds w S := ∃ S0, (∀ x ∈ L, Blk w (G x.j) x.t (catP x.ps) ∧ OkP x.ps) ∧ (namesL L).Pairwise (fun i j => G i ≠ G j) ∧ starL R w S0 ∧ (∀ j ∈ namesL L, ¬ S0 (G j)) ∧ ∀ k, S k ↔ Mine S0 G L k
  keep := fun ⟨S0, h1, h2, h3, h4, h5⟩ hk => ⟨S0, fun x hx => ⟨(hk _ ((h5 _).2 (.inr ⟨x.j, List.mem_map.2 ⟨x, hx, rfl⟩, rfl⟩))).trans (h1 x hx).1, (h1 x hx).2⟩, h2, h3.keep fun k hs => hk k ((h5 k).2 (.inl hs)), h4, h5⟩
  lt := fun ⟨S0, h1, _, h3, _, h5⟩ k hk => by
    rcases (h5 k).1 hk with hk | ⟨j, hj, rfl⟩
    · exact h3.lt k hk
    · obtain ⟨x, hx, rfl⟩ := List.mem_map.1 hj
      exact (h1 x hx).1.lt
/-- Where they lie is not told. -/
def noneL : List LV → Bool
  | [] => true
  | x :: L => x.g.isNone && noneL L
theorem noneL_ok : ∀ {L : List LV}, noneL L = true → ∀ x ∈ L, x.g = none
  | y :: L, h, x, hx => by
    unfold noneL at h
    rw [Bool.and_eq_true] at h
    rcases List.mem_cons.1 hx with rfl | hx
    · exact Option.isNone_iff_eq_none.1 h.1
    · exact noneL_ok h.2 x hx
section
variable {b : Base} {G G' : Nat → Nat} {S : Nat → Prop} {L L' : List LV} {R R' : List Res} {F M : World → Prop} {w w' : World}
theorem StW.toV (h : StW b G S L R F M w) : (VRes G L R).holds w (Mine S G L) := ⟨S, fun x hx => ⟨(h.var x hx).1, (h.var x hx).2.1⟩, h.apart, h.res, h.sep, fun _ => Iff.rfl⟩
theorem mem_withG {G : Nat → Nat} : ∀ {L : List LV} {x : LV}, x ∈ L → { x with g := some (G x.j) } ∈ withG G L
  | y :: L, x, h => by
    rcases List.mem_cons.1 h with rfl | h
    · exact List.mem_cons_self
    · exact List.mem_cons_of_mem _ (mem_withG h)
theorem StW.at_withG (h : StW b G' S (withG G L) R F M w) : ∀ j ∈ namesL L, G' j = G j := fun j hj => by
  obtain ⟨x, hx, rfl⟩ := List.mem_map.1 hj
  exact (h.var _ (mem_withG hx)).2.2 _ rfl
theorem StW.toVG (h : StW b G' S (withG G L) R F M w) : (VRes G L R).holds w (Mine S G L) ∧ ∀ k, Mine S G L k ↔ Mine S G' (withG G L) k := by
  have hg := h.at_withG
  refine ⟨⟨S, fun x hx => ?_, ?_, h.res, fun j hj => ?_, fun _ => Iff.rfl⟩, fun k => ?_⟩
  · have h1 := h.var _ (mem_withG hx)
    have h2 := hg x.j (List.mem_map.2 ⟨x, hx, rfl⟩)
    rw [← h2]
    exact ⟨h1.1, h1.2.1⟩
  · have h1 := h.apart
    rw [withG_names] at h1
    exact h1.imp_of_mem fun hi hj hne => by rwa [← hg _ hi, ← hg _ hj]
  · rw [← hg j hj]
    exact h.sep j (by rw [withG_names]; exact hj)
  · unfold Mine
    rw [withG_names]
    exact or_congr Iff.rfl ⟨fun ⟨j, hj, e⟩ => ⟨j, hj, (hg j hj).trans e⟩, fun ⟨j, hj, e⟩ => ⟨j, hj, (hg j hj).symm.trans e⟩⟩
/-- A state of its own, for a round. -/
theorem StW.ofV {S1 : Nat → Prop} (h : (VRes G L R).holds w S1) (hF : Stb S1 F w) : ∃ S0, StW ⟨fun _ => False, w, S1⟩ G S0 (withG G L) R F (fun _ => True) w := by
  obtain ⟨S0, h1, h2, h3, h4, h5⟩ := h
  have hM : ∀ k, Mine S0 G (withG G L) k ↔ S1 k := fun k => by
    rw [h5 k]
    unfold Mine
    rw [withG_names]
  refine ⟨S0, fun x hx => ?_, by rw [withG_names]; exact h2, h3, by rw [withG_names]; exact h4, hF.less fun k _ hk => hk.elim False.elim (hM k).1, fun _ _ => trivial, Chg.refl _ _, fun k hk _ => (hM k).1 hk, fun _ h => h.elim⟩
  obtain ⟨y, hy, rfl⟩ := withG_mem hx
  exact ⟨(h1 y hy).1, (h1 y hy).2, fun g hg => Option.some.inj hg⟩
/-- Back to the caller's state. -/
theorem StW.back {T : Nat → Prop} (h : StW b G S L R F M w) (hg : noneL L' = true) (hc : Chg (Mine S G L) w w') (hv : (VRes G L' R').holds w' T) (hT : ∀ k, T k → k < w.heap.size → Mine S G L k) : ∃ S', StW b G S' L' R' F M w' := by
  obtain ⟨S0, h1, h2, h3, h4, h5⟩ := hv
  have hm : ∀ k, Mine S0 G L' k → k < w.heap.size → Mine S G L k := fun k hk => hT k ((h5 k).2 hk)
  refine ⟨S0, fun x hx => ⟨(h1 x hx).1, (h1 x hx).2, fun g e => ?_⟩, h2, h3, h4, ?_, ?_, h.chg.step hc fun i hi hs => h.mine i hs hi, fun k hk hlt => h.mine k (hm k hk (Nat.lt_of_lt_of_le hlt h.chg.size)) hlt, h.old⟩
  · rw [noneL_ok hg x hx] at e
    cases e
  · exact h.fact.past (D' := Dof b.X S0 G L') (hc.mono (D' := Dof b.X S G L) fun i _ hs => .inr hs) fun i hi hd => hd.imp id fun hd => hm i hd hi
  · exact h.fresh.past (D' := Nof b S0 G L') (hc.mono (D' := Nof b S G L) fun i _ hs => .inr hs) fun i hi hd => hd.imp id fun hd => hm i hd hi
/-- The record is written. -/
theorem StW.mark {l : Nat} {o : Loop} (o' : Loop) (h : StW b G S L (LoopR l o :: R) F M w) : ∃ S', StW b G S' L (LoopR l o' :: R) F M (w.putObj l (.loop o')) := by
  obtain ⟨S1, h1, h2⟩ := h.put (i := 0) rfl
  refine h2 (LoopR l o') _ (fun k => k = l) ((chg_putObj w l _).mono fun k _ hk => (h1.2 k).2 hk) ⟨World.putObj_heap_same (Array.getElem?_eq_some_iff.1 h1.1).1, fun _ => Iff.rfl⟩ fun k hk _ => (h1.2 k).2 hk
theorem StW.recd {l : Nat} {o : Loop} (h : StW b G S L (LoopR l o :: R) F M w) : w.heap[l]? = some (.loop o) := by
  obtain ⟨S1, h1, _⟩ := h.put (i := 0) rfl
  exact h1.1
end
def jumpC : Option Nat → Code
  | none => .ret
  | some id => .exit id
/-- A loop's memory, its states aside. -/
def AnyR {σ : Type} (p : σ → Prop) (r : σ → Res) : Res where
  holds w S := ∃ s, p s ∧ (r s).holds w S
  keep := fun ⟨s, hp, h⟩ hk => ⟨s, hp, (r s).keep h hk⟩
  lt := fun ⟨s, _, h⟩ => (r s).lt h
section
variable {ds : List Deferred} {b : Base} {Q : Exit → Act → World → Prop} {N : Nat} {E : SE} {F M : World → Prop} {g : Operand} {k1 k2 : Tmp} {assign body : Code} {gf : FuncId} {lb : List Value} {α σ : Type}
/-- How a round is left. -/
def roundE (b1 : Base) (N : Nat) (G : Nat → Nat) (busy : Res) (Rd : Res) (I : σ → Prop) (Ix : Option Nat → σ → Prop) (Lf : σ → List LV) (Rf : σ → List Res) : Exit → Act → World → Prop
  | .normal, a, w => ∃ s, I s ∧ St b1 N ⟨[], withG G (Lf s), busy :: Rd :: Rf s, fun _ => True, fun _ => True⟩ a w
  | .ret, a, w => ∃ s, Ix none s ∧ St b1 N ⟨[], withG G (Lf s), busy :: Rd :: Rf s, fun _ => True, fun _ => True⟩ a w
  | .exit id, a, w => ∃ s, Ix (some id) s ∧ St b1 N ⟨[], withG G (Lf s), busy :: Rd :: Rf s, fun _ => True, fun _ => True⟩ a w
  | _, _, _ => False
instance {b1 : Base} {G : Nat → Nat} {busy Rd : Res} {I : σ → Prop} {Ix : Option Nat → σ → Prop} {Lf : σ → List LV} {Rf : σ → List Res} : NoOut (roundE b1 N G busy Rd I Ix Lf Rf) := ⟨fun _ _ h => h⟩
theorem k_rnd {b1 : Base} {G : Nat → Nat} {busy Rd : Res} {I : σ → Prop} {Ix : Option Nat → σ → Prop} {Lf : σ → List LV} {Rf : σ → List Res} {e : Env} (s : σ) (hI : I s) (hw : Weak e ⟨[], withG G (Lf s), busy :: Rd :: Rf s, fun _ => True, fun _ => True⟩) : kS b1 (roundE b1 N G busy Rd I Ix Lf Rf .normal) N e := fun _ _ hs => ⟨s, hI, hs.weak hw⟩
/-- **for k, v := range f { .. }**; a round's first world is no smaller than the call's. -/
theorem d_rangeB (xs : List α) (vk vv : α → SQ) (Lf : σ → List LV) (Rf : σ → List Res) (I : Nat → σ → Prop) (Ix : Option Nat → σ → Prop) (s0 : σ) (Fi : World → Prop)
    (hg : evS E g = some (.v (.func (.func gf) #[] lb.toArray))) (hf : Own gf) (hnone : ∀ s, noneL (Lf s) = true) (hok : ∀ x ∈ xs, (vk x).Ok ∧ (vv x).Ok) (hk1 : Nat.blt k1 N = true) (hk2 : Nat.blt k2 N = true)
    (hFi : ∀ w, F w → M w → Fi w)
    (hseq : ∀ (l : Nat) (Fy : World → Prop) (JR : Nat → Res) (JX : Res), (∀ (j : Nat) (x : α), xs[j]? = some x → YSpec l [(vk x).den, (vv x).den] Fy (JR j) (JR (j + 1)) JX) → Spec gf (.func (.yield l) #[] #[] :: lb) [JR 0] (fun w => Fi w ∧ Fy w) (epost (JR xs.length) JX))
    (h0 : I 0 s0)
    (hround : ∀ (G : Nat → Nat) (l D m : Nat) (ready busy : Loop) (b1 : Base) (j : Nat) (s : σ) (x : α), b.B.heap.size ≤ b1.B.heap.size → I j s → xs[j]? = some x → ∀ K : Act → World → Prop,
      (∀ E' L' R' F' M', rS (some l) m b1 body (roundE b1 N G (LoopR l busy) (DefR D) (I (j + 1)) Ix Lf Rf) N ⟨E', L', LoopR l busy :: R', F', M'⟩ → kS b1 K N ⟨E', L', LoopR l ready :: R', F', M'⟩) →
      rS (some l) m b1 assign (Exit.then K fun _ _ _ => False) N ⟨(k2, .q (vv x)) :: (k1, .q (vk x)) :: E, withG G (Lf s), LoopR l ready :: DefR D :: Rf s, fun w => F w ∧ M w, fun _ => True⟩)
    (hdone : ∀ s D, I xs.length s → kD (dD D :: ds) b (Q .normal) N ⟨E, Lf s, DefR D :: Rf s, F, M⟩)
    (hstop : ∀ c s D, Ix c s → dS (dD D :: ds) b (jumpC c) Q N ⟨E, Lf s, DefR D :: Rf s, F, M⟩) : dS ds b (.rangeFunc g #[k1, k2] assign body) Q N ⟨E, Lf s0, Rf s0, F, M⟩ := fun a w hs => by
  obtain ⟨G, S, hfr, hE, hW⟩ := hs
  refine (wpIn_wide (n := 0)).1 (wpIn_rangeFunc ?_)
  intro fn _
  obtain ⟨rec, hrec⟩ : ∃ rec : LoopState → Option Code → Loop, rec = fun st pe => { state := st, pending := pe, fn, tmps := a.tmps, params := #[k1, k2], assign, body, defers := w.heap.size } := ⟨_, rfl⟩
  have hpe : ∀ st pe, (rec st pe).pending = pe := fun st pe => by rw [hrec]
  obtain ⟨w1, hw1⟩ : ∃ w1, (w.alloc (.deferred (some []))).alloc (.loop (rec .ready none)) = w1 := ⟨_, rfl⟩
  obtain ⟨l, hl⟩ : ∃ l, w.heap.size + 1 = l := ⟨_, rfl⟩
  obtain ⟨D, hD⟩ : ∃ D, w.heap.size = D := ⟨_, rfl⟩
  -- the two blocks of book-keeping
  have hSt1 : ∃ S1, StW b G S1 (Lf s0) (LoopR l (rec .ready none) :: DefR D :: Rf s0) F M w1 := by
    obtain ⟨S2, h2⟩ := hW.gain (w' := w.alloc (.deferred (some []))) ((Below.refl _ w).alloc (Nat.le_refl _) _) (r := DefR D) (S' := fun k => k = D) ⟨by rw [← hD]; exact World.alloc_heap_new w _, fun _ => Iff.rfl⟩ fun k hk => by omega
    obtain ⟨S3, h3⟩ := h2.gain (w' := w1) (by rw [← hw1]; exact (Below.refl _ _).alloc (Nat.le_refl _) _) (r := LoopR l (rec .ready none)) (S' := fun k => k = l) ⟨by
      rw [← hw1, ← hl]
      have := World.alloc_heap_new (w.alloc (.deferred (some []))) (.loop (rec .ready none))
      rwa [World.size_alloc] at this, fun _ => Iff.rfl⟩ fun k hk => by rw [World.size_alloc]; omega
    exact ⟨S3, h3⟩
  obtain ⟨S1, hW1⟩ := hSt1
  refine ⟨l, [dD D], w1, { target := .fn (.func gf) lb.toArray, args := #[.func (.yield l) #[] #[]] }, w1, gf, #[.func (.yield l) #[] #[]] ++ lb.toArray, w1, ?_, ?_, fun _ _ => trivial, ?_, fun h => (by cases h), ?_⟩
  · rw [← hw1, hrec, ← hl, ← hD]
    exact run_enterLoop_outer _ _ _ _ _
  · have e : (withD ds a).eval g = .func (.func gf) #[] lb.toArray := hfr.eval (evS_ok hg)
    simp only [resolve, e]
    simp [go_sem]
  · simp [invoke, go_sem]
    exact hf _ w1
  -- the iterator
  let JR : Nat → Res := fun j => AnyR (I j) fun s => VRes G (Lf s) (LoopR l (rec .ready none) :: DefR D :: Rf s)
  let JX : Res := AnyR (fun x : Option Nat × σ => Ix x.1 x.2) fun x => VRes G (Lf x.2) (LoopR l (rec .done (some (jumpC x.1))) :: DefR D :: Rf x.2)
  have hy : ∀ (j : Nat) (x : α), xs[j]? = some x → YSpec l [(vk x).den, (vv x).den] (fun w => F w ∧ M w) (JR j) (JR (j + 1)) JX := by
    rintro j x hj w2 S2 ⟨s, hI, hv⟩ hF2 m
    obtain ⟨S3, h3⟩ := StW.ofV hv hF2
    have hle : b.B.heap.size ≤ w2.heap.size := by
      have h1 := (Array.getElem?_eq_some_iff.1 h3.recd).1
      have h2 := hW.chg.size
      omega
    have hy : (Instr.yield l [(vk x).den, (vv x).den].toArray).run Tryd.prog w2 = .ok (.round l fn ((a.tmps.setIfInBounds k1 (vk x).den).setIfInBounds k2 (vv x).den) assign body) w2 := by
      have hy := run_yield (P := Tryd.prog) (args := [(vk x).den, (vv x).den].toArray) h3.recd (by rw [hrec]; rfl)
      rw [hrec] at hy
      simpa using hy
    refine ⟨fn, _, assign, body, hy, roundIn_of_wpIn trivial ?_⟩
    refine hround G l D m (rec .ready none) (rec .busy none) ⟨fun _ => False, w2, S2⟩ j s x hle hI hj _ ?_ _ _ ⟨G, S3, ?_, ?_, h3⟩
    · rintro E' L' R' F' M' hb a3 w3 ⟨G4, S4, h41, h42, h43⟩
      refine ⟨_, run_beginRound h43.recd (by rw [hrec]), ?_⟩
      obtain ⟨S5, h5⟩ := h43.mark (rec .busy none)
      have h6 := hb a3 _ ⟨G4, S5, h41, h42, h5⟩
      have eb : ({ rec .ready none with state := .busy } : Loop) = rec .busy none := by rw [hrec]
      rw [eb]
      refine wpIn_mono h6 ?_
      have fin : ∀ (c : Option Code) (a4 : Act) (w4 : World) (s' : σ), St ⟨fun _ => False, w2, S2⟩ N ⟨[], withG G (Lf s'), LoopR l (rec .busy none) :: DefR D :: Rf s', fun _ => True, fun _ => True⟩ a4 w4 →
          ∃ w5 S5, (Instr.endRound l c).run Tryd.prog w4 = .ok (.bool c.isNone) w5 ∧ Chg S2 w2 w5 ∧ (VRes G (Lf s') (LoopR l (rec (if c.isNone then .ready else .done) c) :: DefR D :: Rf s')).holds w5 S5 ∧ ∀ k, S5 k → k < w2.heap.size → S2 k := by
        rintro c a4 w4 s' ⟨G7, S7, _, _, h7⟩
        obtain ⟨S8, h8⟩ := h7.mark (rec (if c.isNone then .ready else .done) c)
        have hr := run_endRound (P := Tryd.prog) c h7.recd
        have eb : ({ rec .busy none with state := if c.isNone then .ready else .done, pending := c } : Loop) = rec (if c.isNone then .ready else .done) c := by rw [hrec]
        rw [eb] at hr
        obtain ⟨h9, h10⟩ := h8.toVG
        exact ⟨_, _, hr, h8.chg, h9, fun k hk hlt => h8.mine k ((h10 k).1 hk) hlt⟩
      rintro e a4 w4 hp
      cases e with
      | normal =>
        obtain ⟨s', hI', hs'⟩ := hp
        obtain ⟨w5, S5, hr, hc, hv, hS⟩ := fin none a4 w4 s' hs'
        exact ⟨_, _, hr, true, S5, rfl, hc, ⟨s', hI', hv⟩, hS⟩
      | ret =>
        obtain ⟨s', hI', hs'⟩ := hp
        obtain ⟨w5, S5, hr, hc, hv, hS⟩ := fin (some .ret) a4 w4 s' hs'
        exact ⟨_, _, hr, false, S5, rfl, hc, ⟨(none, s'), hI', hv⟩, hS⟩
      | exit id =>
        obtain ⟨s', hI', hs'⟩ := hp
        obtain ⟨w5, S5, hr, hc, hv, hS⟩ := fin (some (.exit id)) a4 w4 s' hs'
        exact ⟨_, _, hr, false, S5, rfl, hc, ⟨(some id, s'), hI', hv⟩, hS⟩
      | _ => exact hp.elim
    · have hf0 : Fr N (denE G E) { tmps := a.tmps, defers := [] } := by
        have e : ({ tmps := a.tmps, defers := [] } : Act) = a := by
          have := hfr.defers
          cases a
          simp only at this
          rw [this]
        rw [e]
        exact hfr
      exact (hf0.put hk1 (vk x).den).put hk2 (vv x).den
    · exact (hE.cons (v := .q (vk x)) (hok x (List.mem_of_getElem? hj)).1).cons (v := .q (vv x)) (hok x (List.mem_of_getElem? hj)).2
  have hcall := hseq l (fun w => F w ∧ M w) JR JX hy w1 (Mine S1 G (Lf s0)) (fun _ => False) (star1.2 ⟨s0, h0, hW1.toV⟩) (fun _ h => h.elim) ((hW1.all.imp fun w hw => ⟨hFi w hw.1 hw.2, hw⟩).less fun k _ hk => .inr (hk.elim False.elim id))
  have e : (.func (.yield l) #[] #[] :: lb).toArray = #[.func (.yield l) #[] #[]] ++ lb.toArray := by simp
  rw [e] at hcall
  refine (calls_in (ro := none) (n := 0 - 1) hcall).mono ?_
  have ea : ({ withD ds a with defers := [dD D] ++ (withD ds a).defers } : Act) = withD (dD D :: ds) a := by
    have := hfr.defers
    cases a
    simp only at this
    subst this
    rfl
  rw [ea]
  rintro e w2 ⟨t, S2, rfl, _, hc2, h2, hS2, _, _⟩
  have h2 := star1.1 h2
  cases t with
  | true =>
    obtain ⟨s, hI, hv⟩ := h2
    obtain ⟨S3, h3⟩ := hW1.back (hnone s) hc2 hv hS2
    have hr := run_endLoop (P := Tryd.prog) h3.recd (by rw [hrec]; simp)
    obtain ⟨S4, h4⟩ := StW.drop (D := l) h3 (fun S1 hS => (hS.2 l).2 rfl) (chg_putObj w2 l (.loop (rec .exhausted none)))
    have eb : ({ rec .ready none with state := .exhausted } : Loop) = rec .exhausted none := by rw [hrec]
    rw [eb, hpe] at hr
    exact ⟨_, _, hr, hdone s D hI a _ ⟨G, S4, hfr, hE, h4⟩⟩
  | false =>
    obtain ⟨⟨c, s⟩, hI, hv⟩ := h2
    obtain ⟨S3, h3⟩ := hW1.back (hnone s) hc2 hv hS2
    have hr := run_endLoop (P := Tryd.prog) h3.recd (by rw [hrec]; simp)
    obtain ⟨S4, h4⟩ := StW.drop (D := l) h3 (fun S1 hS => (hS.2 l).2 rfl) (chg_putObj w2 l (.loop (rec .exhausted (some (jumpC c)))))
    have eb : ({ rec .done (some (jumpC c)) with state := .exhausted } : Loop) = rec .exhausted (some (jumpC c)) := by rw [hrec]
    rw [eb, hpe] at hr
    exact ⟨_, _, hr, (wpIn_wide (n := 0)).2 (hstop c s D hI a _ ⟨G, S4, hfr, hE, h4⟩)⟩
end
end Go.Proofs.YtlaikmpnijlcbaaDoor
/-
  PLAIN NUMBERS: digests reckoned by the kernel: each word once. No program is imported.
-/
namespace Nums

/-- The words so far, the last one first. -/
def xsl (s : Sha) (b : List UInt8) : Nat → List Nat
  | 0 => []
  | t + 1 => sx s b t :: xsl s b t
theorem xsl_len (s : Sha) (b : List UInt8) : ∀ t, (xsl s b t).length = t
  | 0 => rfl
  | t + 1 => by rw [xsl, List.length_cons, xsl_len]
theorem xsl_at (s : Sha) (b : List UInt8) : ∀ t j, j < t → (xsl s b t)[j]! = sx s b (t - 1 - j)
  | 0, _, h => absurd h (by omega)
  | t + 1, 0, _ => by
    show (sx s b t :: xsl s b t)[0]! = _
    rw [Nat.add_sub_cancel, Nat.sub_zero]
    rfl
  | t + 1, j + 1, h => by
    show (sx s b t :: xsl s b t)[j + 1]! = _
    have e : (sx s b t :: xsl s b t)[j + 1]! = (xsl s b t)[j]! := by simp
    rw [e, xsl_at s b t j (by omega)]
    congr 1
    omega
def firstF (s : Sha) (b : List UInt8) : Nat → List Nat
  | 0 => []
  | t + 1 => forced (bword s b t) fun v => v :: firstF s b t
theorem firstF_eq (s : Sha) (b : List UInt8) : ∀ t, t ≤ 16 → firstF s b t = xsl s b t
  | 0, _ => rfl
  | t + 1, h => by
    have e : sx s b t = bword s b t := by rw [sx, dif_pos (by omega)]
    rw [firstF, forced_eq, xsl, firstF_eq s b t (by omega), e]
def grow (s : Sha) : Nat → List Nat → List Nat
  | 0, L => L
  | k + 1, L => forced ((loww s.w s.low1 L[1]! + L[6]! + loww s.w s.low0 L[14]! + L[15]!) % 2 ^ s.w) fun v => grow s k (v :: L)
theorem grow_eq (s : Sha) (b : List UInt8) : ∀ k t, 16 ≤ t → grow s k (xsl s b t) = xsl s b (t + k)
  | 0, _, _ => rfl
  | k + 1, t, h => by
    have e : (loww s.w s.low1 (xsl s b t)[1]! + (xsl s b t)[6]! + loww s.w s.low0 (xsl s b t)[14]! + (xsl s b t)[15]!) % 2 ^ s.w = sx s b t := by
      rw [xsl_at s b t 1 (by omega), xsl_at s b t 6 (by omega), xsl_at s b t 14 (by omega), xsl_at s b t 15 (by omega)]
      conv => rhs; rw [sx, dif_neg (by omega)]
      rw [show t - 1 - 1 = t - 2 from by omega, show t - 1 - 6 = t - 7 from by omega, show t - 1 - 14 = t - 15 from by omega, show t - 1 - 15 = t - 16 from by omega]
    rw [grow, forced_eq, e]
    have h2 := grow_eq s b k (t + 1) (by omega)
    rw [xsl] at h2
    rw [h2]
    congr 1
    omega
/-- The rounds over words in their order, from number t on. -/
def rndF (s : Sha) : List Nat → Nat → Oct → Oct
  | [], _, o => o
  | x :: r, t, o => forced (t1w s (s.k t) x o) fun T => forced ((T + t2w s o) % 2 ^ s.w) fun A => forced ((o.d + T) % 2 ^ s.w) fun E => rndF s r (t + 1) ⟨A, o.a, o.b, o.c, E, o.e, o.f, o.g⟩
theorem rndF_eq (s : Sha) (b : List UInt8) (o : Oct) : ∀ (l : List Nat) (t : Nat), (∀ j x, l[j]? = some x → x = sx s b (t + j)) → rndF s l t (rnds s b o t) = rnds s b o (t + l.length)
  | [], _, _ => rfl
  | x :: r, t, h => by
    have hx := h 0 x rfl
    rw [Nat.add_zero] at hx
    subst hx
    rw [rndF]
    simp only [forced_eq]
    have h2 := rndF_eq s b o r (t + 1) (fun j x hj => by rw [h (j + 1) x (by simpa using hj)]; congr 1; omega)
    rw [show rnds s b o (t + 1) = rnd s (s.k t) (sx s b t) (rnds s b o t) from rfl] at h2
    rw [show t + (sx s b t :: r).length = t + 1 + r.length from by rw [List.length_cons]; omega, ← h2]
    rfl
def add8F (w : Nat) (o q : Oct) : Oct :=
  forced ((o.a + q.a) % 2 ^ w) fun a => forced ((o.b + q.b) % 2 ^ w) fun b => forced ((o.c + q.c) % 2 ^ w) fun c => forced ((o.d + q.d) % 2 ^ w) fun d =>
  forced ((o.e + q.e) % 2 ^ w) fun e => forced ((o.f + q.f) % 2 ^ w) fun f => forced ((o.g + q.g) % 2 ^ w) fun g => forced ((o.h + q.h) % 2 ^ w) fun h => ⟨a, b, c, d, e, f, g, h⟩
theorem add8F_eq (w : Nat) (o q : Oct) : add8F w o q = add8 w o q := by
  unfold add8F
  simp only [forced_eq]
  rfl
def turnF (s : Sha) (o : Oct) (b : List UInt8) : Oct := add8F s.w o (rndF s (grow s (s.n - 16) (firstF s b 16)).reverse 0 o)
theorem turnF_eq {s : Sha} (hn : 16 ≤ s.n) (o : Oct) (b : List UInt8) : turnF s o b = turnw s o b := by
  rw [turnF, add8F_eq, turnw, firstF_eq s b 16 (Nat.le_refl _), grow_eq s b _ 16 (Nat.le_refl _), show 16 + (s.n - 16) = s.n from by omega]
  congr 1
  have h := rndF_eq s b o (xsl s b s.n).reverse 0 (fun j x hj => by
    have hl : j < (xsl s b s.n).reverse.length := (List.getElem?_eq_some_iff.1 hj).1
    rw [List.length_reverse, xsl_len] at hl
    rw [List.getElem?_reverse (by rw [xsl_len]; exact hl), xsl_len] at hj
    have h1 := xsl_at s b s.n (s.n - 1 - j) (by omega)
    rw [List.getElem!_eq_getElem?_getD, hj] at h1
    rw [show 0 + j = s.n - 1 - (s.n - 1 - j) from by omega, ← h1]
    rfl)
  rw [List.length_reverse, xsl_len, Nat.zero_add] at h
  exact h
def runF (s : Sha) (B : Nat) : Nat → Oct → List UInt8 → Oct
  | 0, o, _ => o
  | k + 1, o, l => runF s B k (turnF s o (l.take B)) (l.drop B)
theorem runF_eq {s : Sha} {B : Nat} (hB : 0 < B) (hn : 16 ≤ s.n) : ∀ k o l, l.length = k * B → runF s B k o l = runw s B o l
  | 0, o, l, h => by
    have h0 : l = [] := List.eq_nil_of_length_eq_zero (by omega)
    subst h0
    rw [runF, runw_short (by simpa using hB)]
  | k + 1, o, l, h => by
    have hl : (l.take B).length = B := by rw [List.length_take, h, Nat.add_mul]; omega
    have hd : (l.drop B).length = k * B := by rw [List.length_drop, h, Nat.add_mul]; omega
    rw [runF, turnF_eq hn, runF_eq hB hn k _ _ hd]
    conv => rhs; rw [← List.take_append_drop B l, runw_block hB hl]
/-- The digest, reckoned; n blocks. -/
def digestF (s : Sha) (n : Nat) (m : List UInt8) : List UInt8 :=
  ((runF s (2 * s.w) n ⟨s.start[0]!, s.start[1]!, s.start[2]!, s.start[3]!, s.start[4]!, s.start[5]!, s.start[6]!, s.start[7]!⟩ (m ++ tailw (2 * s.w) (m.length % (2 * s.w)) (8 * m.length))).list.map (layw s)).flatten
theorem digest_eq {s : Sha} (n : Nat) (m : List UInt8) (hw : 0 < 2 * s.w) (hn : 16 ≤ s.n) (h : (m ++ tailw (2 * s.w) (m.length % (2 * s.w)) (8 * m.length)).length = n * (2 * s.w)) : digest s m = digestF s n m := by
  rw [digest, sumw, digestF, runF_eq hw hn n _ _ h]
end Nums
/-
  THE TREE'S LAWS: what must be answered first.
-/
namespace Go.Proofs.YtlaikmpnijlcbaaDoor
open Go.RowKit Go.IntWalk Nums

theorem own_tfirst : Own 8 := fun _ _ => by go_simp
/-- A hash that begins with a byte. -/
def hhT (v : UInt8) : List UInt8 := v :: List.replicate 31 0
theorem hhT_len (v : UInt8) : (hhT v).length = 32 := rfl
theorem built_hh (v : Int) : Tryd.prog.built 30 [(0, .int .u8 v)] = some (#[.int .u8 v] ++ (By (List.replicate 31 0)).toArray) := by kernel_rfl
set_option maxRecDepth 100000 in
theorem run_hh {N : Nat} {E : SE} {o : Oper} {n : Int} (v : UInt8) {k : List UInt8} (hv : hhT v = k) (ho : o.op = .build 30 #[(0, .const (.int .u8 n))]) (hn : n = (v.toNat : Int)) :
    ∀ (G : Nat → Nat) (a : Act) (w : World), Fr N (denE G E) a → (execOp a.eval o).run Tryd.prog w = .ok (.value ((SV.q (eY 32 k)).den G)) w := fun G a w _ => by
  subst hv
  subst hn
  unfold execOp
  have h : Tryd.prog.built 30 (Array.map (fun x : Nat × Operand => (x.1, a.eval x.2)) #[(0, .const (.int .u8 (v.toNat : Int)))]).toList = some (#[.int .u8 (v.toNat : Int)] ++ (By (List.replicate 31 0)).toArray) := by
    rw [Array.toList_map]
    exact built_hh (v.toNat : Int)
  simp only [ho, Sem.run_bind, run_build w 30 _ _ h, Result.andThen_ok, Sem.run_pure]
  have e : #[Value.int .u8 (v.toNat : Int)] ++ (By (List.replicate 31 0)).toArray = (By (hhT v)).toArray := by
    generalize hr : List.replicate 31 (0 : UInt8) = l
    rw [hhT, hr]
    simp [By]
  rw [e]
  rfl
/-- Trees at the top. -/
theorem tPut0 {l : List PairT} {t : TA} {p : PairT} (hp : OkT2 p) (ht : TOk 256 l t) (hs : SortT l) (hk : KeysT l) (hl : l.length + 1 ≤ 1000000) :
    Spec 9 [(eTr t 0).den, (eY 32 p.1).den, (eY 32 p.2).den] [] (fun w => TF t w ∧ Tsh w) { ret := fun x : { t' : TA // TOk 256 (putT l p) t' } => .q (eTr x.1 0), own := fun _ => [], p := fun x => TF x.1 } :=
  tPut_S 256 l t p hp (Nat.le_refl _) ht hs hk (fun _ _ _ _ _ h => absurd h (Nat.not_lt_zero _)) hl
theorem first_root : leafT (hhT 1, hhT 2) ≠ z32T := by
  unfold leafT
  rw [digest_eq 2 _ (by decide) (by decide) (by decide +kernel)]
  decide +kernel
set_option maxRecDepth 100000 in
set_option maxHeartbeats 1000000 in
theorem tfirst_S : Spec 8 [] [] Tsh (one (.v (.bool true))) := by
  refine spec_S [] 38 Tryd.func8 rfl (by rw [Tryd.ntmps8]; rfl) (fun _ h => by cases h) fun b => ?_
  have hne := first_root
  have hl1 := hhT_len 1
  have hl2 := hhT_len 2
  obtain ⟨k1, hk1⟩ : ∃ k, hhT 1 = k := ⟨_, rfl⟩
  obtain ⟨k2, hk2⟩ : ∃ k, hhT 2 = k := ⟨_, rfl⟩
  rw [hk1, hk2] at hne
  rw [hk1] at hl1
  rw [hk2] at hl2
  have hp : OkT2 (k1, k2) := ⟨hl1, hl2⟩
  refine s_auto TY_ok rfl ?_
  refine s_auto TY_ok rfl ?_
  refine s_regA TY_ok rfl fun K hK => ?_
  refine l_op (.q (eY 32 (k1))) (eY_ok hl1).1 rfl rfl rfl (run_hh 1 hk1 rfl rfl) ?_
  refine l_op (.q (eY 32 (k2))) (eY_ok hl2).1 rfl rfl rfl (run_hh 2 hk2 rfl rfl) ?_
  have hput := tPut0 (l := []) (t := .nil) hp (TOk.nil rfl) List.Pairwise.nil (fun _ h => by cases h) (by decide)
  refine l_call0 [(eTr .nil 0).den, (eY 32 k1).den, (eY 32 k2).den] rfl rfl rfl own_tPut rfl rfl (fun _ _ => rfl) hput (fun _ h _ => ⟨trivial, h⟩) fun x => ?_
  obtain ⟨t, ht⟩ := x
  refine l_autoS TY_ok rfl ?_
  refine s_end (hK _ ?_)
  have hs : SortT [(k1, k2)] := List.pairwise_singleton _ _
  have hg : getT [(k1, k2)] (k1) = some (k2) := by simp [getT]
  have hget := tGet_S 256 [(k1, k2)] t (k := k1) hl1 (Nat.le_refl _) ht hs
  rw [hg] at hget
  have hroot : t.root = leafT (k1, k2) := (TOk.root ht).trans (rootT_one _ _)
  have hlen : t.len = 1 := TOk.len ht
  refine s_regA TY_ok rfl fun K2 hK2 => ?_
  refine l_op (.q (eY 32 k1)) (eY_ok hl1).1 rfl rfl rfl (run_hh 1 hk1 rfl rfl) ?_
  refine l_call0 [(eTr t 0).den, (eY 32 (k1)).den] rfl rfl rfl own_tGet rfl rfl (fun _ _ => rfl) hget (fun _ h _ => h.1) fun _ => ?_
  refine l_autoS TY_ok rfl ?_
  refine s_end (hK2 _ ?_)
  refine s_regA TY_ok rfl fun K3 hK3 => ?_
  refine l_call0 [(eTr .nil 0).den] rfl rfl rfl own_tRoot rfl rfl (fun _ _ => rfl) (tRoot_S .nil 0) (fun _ _ _ => trivial) fun _ => ?_
  refine l_autoS TY_ok rfl ?_
  refine l_op (.b (decide (z32T = z32T))) trivial rfl rfl rfl (run_eqY rfl rfl rfl Tryd.underlying30 (by kernel_rfl) rfl rfl) ?_
  refine l_is 18 true rfl (by simp) ?_
  refine l_autoS TY_ok rfl ?_
  refine l_call0 [(eTr t 0).den] rfl rfl rfl own_tRoot rfl rfl (fun _ _ => rfl) (tRoot_S t 0) (fun _ h _ => h.2.2.1) fun _ => ?_
  refine l_autoS TY_ok rfl ?_
  refine l_op (.b (!decide (t.root = z32T))) trivial rfl rfl rfl (run_neqY rfl rfl rfl Tryd.underlying30 (by kernel_rfl) t.root_len rfl) ?_
  refine l_is 23 true rfl (by rw [hroot]; simp [hne]) ?_
  refine l_autoS TY_ok rfl ?_
  refine l_op (.q (eY 32 (k2))) (eY_ok hl2).1 rfl rfl rfl (run_hh 2 hk2 rfl rfl) ?_
  refine l_autoS TY_ok rfl ?_
  refine l_op (.b (decide (k2 = k2))) trivial rfl rfl rfl (run_eqY rfl rfl rfl Tryd.underlying30 (by kernel_rfl) hl2 hl2) ?_
  refine l_is 28 true rfl (by simp) ?_
  refine l_autoS TY_ok rfl ?_
  refine l_call0 [(eTr t 0).den] rfl rfl rfl own_tLen rfl rfl (fun _ _ => rfl) (tLen_S t 0) (fun _ h _ => h.2.2.2.1) fun _ => ?_
  refine l_num 35 1 rfl (by rw [hlen]; rfl) ?_
  refine l_autoS TY_ok rfl ?_
  refine s_end (hK3 _ ?_)
  exact s_ret (k_retD TY_ok () rfl (by decide) rfl rfl trivial rfl (fun _ _ _ => trivial) (fun _ _ => trivial))
end Go.Proofs.YtlaikmpnijlcbaaDoor
/-
  TREEORDER: in which order pairs come counts for nothing.
-/
namespace Go.Proofs.YtlaikmpnijlcbaaDoor
open Go.RowKit Go.IntWalk Nums

/-! ### Plain -/
/-! ### Reading pairs -/
theorem rd_key {g o c i : Nat} {l : List PairT} {p : PairT} {w : World} (h : Rd 64 eP (some ⟨g, o, none⟩) c l w) (hi : l[i]? = some p) (hp : OkT2 p) : w.rangeAt g (o + 64 * i + 0) (By p.1) ∧ w.rangeAt g (o + 64 * i + 32) (By p.2) := by
  obtain ⟨_, _, _, _, h5⟩ := h
  obtain ⟨b', o', e, hb, hr⟩ := h5 (Nat.lt_of_le_of_lt (Nat.zero_le _) (List.getElem?_eq_some_iff.1 hi).1)
  injection e with e
  injection e with e1 e2
  subst e1
  subst e2
  have hr := hr i p hi
  rw [eP_cl] at hr
  refine ⟨range_in (A := []) (B := By p.1) (Z := By p.2) hr rfl, ?_⟩
  have hl1 : (By p.1).length = 32 := by rw [By_len]; exact hp.1
  have := range_in (A := By p.1) (B := By p.2) (Z := []) hr (by simp)
  rwa [hl1] at this
end Go.Proofs.YtlaikmpnijlcbaaDoor
/-
  TWO PAIRS ARE COMPARED; drawn regions behind marks and in rounds; has a tree just these pairs? (same)
-/
namespace Go.Proofs.YtlaikmpnijlcbaaDoor
open Go.RowKit Go.IntWalk Nums

/-! ### Pairs -/
/-! ### Drawn regions -/
section
variable {ds : List Deferred} {ro : Option Nat} {n : Nat} {b : Base} {Q : Exit → Act → World → Prop} {N : Nat} {E : SE} {L : List LV} {R : List Res} {F M : World → Prop} {id : Nat} {l : List Oper} {y : Code}
/-- What comes behind may bear marks. -/
theorem d_seqD {x : Code} {e : Env} (h : ∀ K : Act → World → Prop, (∀ ds' e', dS ds' b y Q N e' → kD ds' b K N e') → dS ds b x (Exit.then K Q) N e) : dS ds b (.seq x y) Q N e := fun a w hs =>
  wp_seq_k fun K hK => h K (fun _ _ h' a' w' hs' => hK _ _ (h' a' w' hs')) a w hs
instance : NoOut (fun _ _ _ => False) := ⟨fun _ _ h => h⟩
end
end Go.Proofs.YtlaikmpnijlcbaaDoor
/-
  SAME: has a tree just these pairs?
-/
namespace Go.Proofs.YtlaikmpnijlcbaaDoor
open Go.RowKit Go.IntWalk Nums

end Go.Proofs.YtlaikmpnijlcbaaDoor
/-
  PAIRS THAT LIE BY THEIR KEYS ARE SORTED: bytes.Compare, the comparison of the tree's each.
-/
namespace Go.Proofs.YtlaikmpnijlcbaaDoor
open Go.RowKit Go.IntWalk Nums

theorem cmp_less : ∀ {a b : List UInt8}, lessT a b = true → Lib.compareBytes b a = 1
  | [], _, h => by cases h
  | _ :: _, [], h => by cases h
  | x :: a, y :: b, h => by
    unfold lessT at h
    unfold Lib.compareBytes
    by_cases e : x = y
    · subst e
      rw [if_pos rfl] at h
      rw [if_neg (UInt8.lt_irrefl x), if_neg (UInt8.lt_irrefl x)]
      exact cmp_less h
    · rw [if_neg e] at h
      have h : x.toNat < y.toNat := of_decide_eq_true h
      rw [if_neg (fun h2 : y < x => by
        have := UInt8.lt_iff_toNat_lt.1 h2
        omega), if_pos (UInt8.lt_iff_toNat_lt.2 h)]
theorem bytesOf_By (l : List UInt8) : Lib.bytesOf (l.map fun x => (x.toNat : Int)) = l := by
  unfold Lib.bytesOf
  rw [List.map_map]
  conv => rhs; rw [← List.map_id l]
  refine List.map_congr_left fun x _ => ?_
  show UInt8.ofNat ((x.toNat : Int).toNat) = x
  simp
theorem run_bytesOf {P : Program} {w : World} {g o c : Nat} {l : List UInt8} (h : w.rangeAt g o (By l)) : (Extern.Bytes.bytesOf (.slice (some ⟨g, o, none⟩) l.length c)).run P w = .ok ⟨l.toArray⟩ w := by
  have h1 := Lib.run_loadBytesX (P := P) w (l.map fun x => (x.toNat : Int)) ⟨g, o, none⟩ .empty (fun j x hj => by
    rw [Addr.add_mid]
    rw [List.getElem?_map] at hj
    obtain ⟨y, hy, rfl⟩ := Option.map_eq_some_iff.1 hj
    exact h j _ (by unfold By; rw [List.getElem?_map, hy]; rfl))
  rw [bytesOf_By, List.length_map] at h1
  unfold Extern.Bytes.bytesOf
  rw [h1]
  simp
theorem run_bcmp {P : Program} {w : World} {g o c g' o' c' : Nat} {l m : List UInt8} (h : w.rangeAt g o (By l)) (h' : w.rangeAt g' o' (By m)) : (Extern.BytealgCompare.compare #[.slice (some ⟨g, o, none⟩) l.length c, .slice (some ⟨g', o', none⟩) m.length c']).run P w = .ok (.int .i64 (Lib.compareBytes l m)) w := by
  have e : ∀ A B : Value, Extern.BytealgCompare.compare #[A, B] = (do
    let a ← Extern.Bytes.bytesOf A
    let b ← Extern.Bytes.bytesOf B
    pure (goInt (Extern.BytealgCompare.cmp a b))) := fun _ _ => rfl
  rw [e]
  simp only [Sem.run_bind, run_bytesOf h, run_bytesOf h', Result.andThen_ok, Sem.run_pure, Lib.cmp_eq]
  rfl
theorem run_call_ext {N : Nat} {E : SE} {o : Oper} {f : FuncId} {xs : Array Operand} {ats : Array TypeId} {svs : List SV} {v : Value} {w : World} {G : Nat → Nat} {a : Act} (ha : Fr N (denE G E) a) (ho : o.op = .call { callee := .value (.func f), args := xs, argTypes := ats }) (hx : evSs E xs.toList = some svs) (hv : (callFunc f (svs.map (SV.den G)).toArray).run Tryd.prog w = .ok (.value v) w) :
    (execOp a.eval o).run Tryd.prog w = .ok (.value v) w := by
  have h2 := map_eval (args := (svs.map (SV.den G)).toArray) (ha.evals _ _ (by rw [evSs_ok hx]))
  obtain ⟨dst, op, ty, pos, af, gd⟩ := o
  simp only at ho
  subst ho
  unfold execOp
  simp only [resolve, Act.eval, h2, Deferred.ofValue, Sem.run_bind, Sem.run_pure, Result.andThen_ok, invoke]
  simpa using hv
theorem obj_keys {h : Nat} {p : PairT} {w : World} (hF : ObjF h 64 (prPs p) w) : w.rangeAt h 0 (By p.1) := by
  have := (rd_key (obj_pair hF) (i := 0) rfl (prPs_ok hF.2)).1
  simpa using this
theorem own_bCompare : Own 48 := fun _ _ => by go_simp
set_option maxRecDepth 100000 in
set_option maxHeartbeats 1000000 in
theorem bCompare_S {h1 h2 : Nat} {p q : PairT} (hp : OkT2 p) (hq : OkT2 q) : Spec 48 [.slice (some ⟨h1, 0, none⟩) 32 32, .slice (some ⟨h2, 0, none⟩) 32 32] [] (fun w => ObjF h1 64 (prPs p) w ∧ ObjF h2 64 (prPs q) w) (one (.v (.int .i64 (Lib.compareBytes p.1 q.1)))) := by
  refine spec_S [.c (.v (.slice (some ⟨h1, 0, none⟩) 32 32)), .c (.v (.slice (some ⟨h2, 0, none⟩) 32 32))] 8 Tryd.func48 rfl (by rw [Tryd.ntmps48]; rfl) (two_ok trivial trivial) fun b => ?_
  refine s_auto TY_ok rfl ?_
  refine s_regA TY_ok rfl fun K hK => ?_
  refine l_opV (.v (.int .i64 (Lib.compareBytes p.1 q.1))) trivial rfl rfl rfl (fun G S a w ha hw => run_call_ext ha rfl rfl ?_) ?_
  · have h := run_bcmp (P := Tryd.prog) (c := 32) (c' := 32) (obj_keys hw.fact.1) (obj_keys hw.fact.2)
    rw [hp.1, hq.1] at h
    have h2 := run_callFunc_extern Tryd.func55 (by kernel_rfl) (by kernel_rfl) (by kernel_rfl) (e := Extern.BytealgCompare.compare) (by kernel_rfl) #[.slice (some ⟨h1, 0, none⟩) 32 32, .slice (some ⟨h2, 0, none⟩) 32 32] w
    rw [h] at h2
    exact h2
  refine l_autoS TY_ok rfl ?_
  refine s_end (hK _ ?_)
  exact s_ret (k_ret TY_ok () rfl (by decide) rfl rfl rfl (fun _ _ _ => trivial) (fun _ _ => trivial))
theorem own_each2 : Own 47 := fun _ _ => by go_simp
set_option maxRecDepth 100000 in
set_option maxHeartbeats 1000000 in
/-- The comparison. -/
theorem each2_S {h1 h2 : Nat} {p q : PairT} (hp : OkT2 p) (hq : OkT2 q) : Spec 47 [.pointer (some ⟨h1, 0, none⟩), .pointer (some ⟨h2, 0, none⟩)] [] (fun w => ObjF h1 64 (prPs p) w ∧ ObjF h2 64 (prPs q) w) (one (.v (.int .i64 (Lib.compareBytes p.1 q.1)))) := by
  refine spec_S [.c (.v (.pointer (some ⟨h1, 0, none⟩))), .c (.v (.pointer (some ⟨h2, 0, none⟩)))] 14 Tryd.func47 rfl (by rw [Tryd.ntmps47]; rfl) (two_ok trivial trivial) fun b => ?_
  refine s_auto TY_ok rfl ?_
  refine s_regH 9 (by decide) (by kernel_rfl) (by kernel_rfl) fun K hK G S w0 hst => ?_
  refine h_auto TY_ok hst rfl ?_
  refine h_op hst (.v (.slice (some ⟨h1, 0, none⟩) 32 32)) trivial rfl rfl rfl rfl (runO_allQ rfl Tryd.underlying30 rfl rfl) ?_
  refine h_auto TY_ok hst rfl ?_
  refine h_op hst (.v (.slice (some ⟨h2, 0, none⟩) 32 32)) trivial rfl rfl rfl rfl (runO_allQ rfl Tryd.underlying30 rfl rfl) ?_
  refine h_callS (F' := fun w => ObjF h1 64 (prPs p) w ∧ ObjF h2 64 (prPs q) w) (r := .v (.int .i64 (Lib.compareBytes p.1 q.1))) hst [.slice (some ⟨h1, 0, none⟩) 32 32, .slice (some ⟨h2, 0, none⟩) 32 32] rfl rfl rfl rfl own_bCompare rfl rfl (fun _ => rfl) trivial (bCompare_S hp hq) (fun _ _ _ hv => hv.fact) ?_
  refine h_end hst ?_
  refine l_autoS TY_ok rfl ?_
  refine s_end (hK _ ?_)
  exact s_ret (k_ret TY_ok () rfl (by decide) rfl rfl rfl (fun _ _ _ => trivial) (fun _ _ => trivial))
/-! ### Sorting what is sorted -/
abbrev HP := Nat × PairT
def feH (x : HP) : SQ := .c (.v (.pointer (some ⟨x.1, 0, none⟩)))
def SrtF (A : Option Addr) (c : Nat) (hs : List HP) (w : World) : Prop := Rd 1 feH A c hs w ∧ ∀ x ∈ hs, ObjF x.1 64 (prPs x.2) w
abbrev cmpV : Value := .func (.func 47) #[] #[]
theorem SortT.at {l : List HP} (h : SortT (l.map (·.2))) {i j : Nat} {x y : HP} (hx : l[i]? = some x) (hy : l[j]? = some y) (hij : i < j) : lessT x.2.1 y.2.1 = true := by
  have hx' : (l.map (·.2))[i]? = some x.2 := by rw [List.getElem?_map, hx]; rfl
  have hy' : (l.map (·.2))[j]? = some y.2 := by rw [List.getElem?_map, hy]; rfl
  obtain ⟨h1, e1⟩ := List.getElem?_eq_some_iff.1 hx'
  obtain ⟨h2, e2⟩ := List.getElem?_eq_some_iff.1 hy'
  have := List.pairwise_iff_getElem.1 h i j h1 h2 hij
  rwa [e1, e2] at this
section
variable {b : Base} {ops : Array Oper} {Q : Exit → Act → World → Prop} {N : Nat} {E : SE} {L : List LV} {R : List Res} {F M : World → Prop} {G : Nat → Nat} {S : Nat → Prop} {w0 : World} {T' : List Oper} {Fa : Told} {i k : Nat} {o : Oper} {rest : List (Nat × Oper)}
theorem h_callV {F' : World → Prop} {f : FuncId} {y : Operand} {xs : Array Operand} {ats : Array TypeId} {svs : List SV} {caps : List Value} {r : RV} [Pst F'] (hst : StW b G S L R F M w0) (args : List Value) (hf : farP i Fa = true) (hg : o.guard = none) (hd : o.dst = some k) (hk : Nat.blt k N = true) (how : Own f) (ho : o.op = .call { callee := .value y, args := xs, argTypes := ats }) (hy : evS E y = some (.v (.func (.func f) #[] caps.toArray))) (hx : evSs E xs.toList = some svs)
    (ha : svs.map (SV.den G) ++ caps = args) (hr : r.sv.Ok) (hs : Spec f args [] F' (one r)) (hF : ∀ G S w, View G S L R F M w → F' w)
    (hn : hS Tryd.prog ops Q N T' G w0 rest ((k, r.sv) :: E) Fa) : hS Tryd.prog ops Q N T' G w0 ((i, o) :: rest) E Fa := by
  refine h_f hst r.sv hr hf (fun C0 Q' hC hQ => fun a ha' => ?_) hn
  rw [RV.sv_den] at hQ
  refine b_call1 (f := f) (args := args.toArray) (v := r.den) (by simp [Region.wanted, hg]) (fun w hw => (hs w (fun _ => False) (fun _ => False) (fun _ h => h) (fun _ h => h.elim) (Stb.of_pst (hF _ _ _ (hC w hw).1) fun _ _ h => h.elim id id)).mono fun _ _ ⟨_, _, h1, _, h2, _⟩ => ⟨h1, h2.up fun _ _ h => h⟩) (fun w => ?_) (by rw [hd]; exact hQ _ (ha'.put hk _))
  have := callV_run (w := w) how ho hy hx ha'
  rw [ha] at this
  exact this
end
theorem own_insort : Own 57 := fun _ _ => by go_simp
set_option maxRecDepth 100000 in
set_option maxHeartbeats 1000000 in
theorem insort_S {A : Option Addr} {c : Nat} (hs : List HP) (hso : SortT (hs.map (·.2))) : Spec 57 [.slice A hs.length c, .int .i64 0, .int .i64 (hs.length : Int), cmpV] [] (SrtF A c hs) { ret := fun _ : Unit => .t [], own := fun _ => [] } := by
  refine spec_S [.c (.v (.slice A hs.length c)), .c (.v (.int .i64 0)), .c (.v (.int .i64 (hs.length : Int))), .c (.v cmpV)] 53 Tryd.func57 rfl (by rw [Tryd.ntmps57]; rfl) (more_ok trivial (more_ok trivial (two_ok trivial trivial))) fun b => ?_
  refine s_pure (hs.length ≤ 9223372036854775807 ∧ ∀ x ∈ hs, OkT2 x.2) (fun _ h _ => ⟨Nat.le_trans h.1.1 h.1.2.1, fun x hx => prPs_ok (h.2 x hx).2⟩) fun ⟨hl, hok⟩ => ?_
  refine s_auto TY_ok rfl ?_
  refine s_block ?_
  let F : Nat → Env := fun i => ⟨[(8, .v (.int .i64 (i : Int))), (0, .v (.slice A hs.length c)), (1, .v (.int .i64 0)), (2, .v (.int .i64 (hs.length : Int))), (3, .v cmpV)], [], [], SrtF A c hs, fun _ => True⟩
  refine c_weak (e' := F 1) ⟨⟨rfl, rfl, rfl, rfl, rfl, trivial⟩, trivial, .refl _, fun _ h _ => h, fun _ h => h⟩ (s_loop (fun x => hs.length - x) F (fun x => 1 ≤ x) ?_ 1 (Nat.le_refl _))
  intro i hi
  refine s_seq fun K1 hK1 => ?_
  refine s_auto TY_ok rfl ?_
  refine s_ifD ((i : Int) < (hs.length : Int)) rfl (fun hlt => ?_) (fun hge => ?_)
  · have hlt : i < hs.length := by omega
    obtain ⟨x, hx⟩ : ∃ x, hs[i]? = some x := ⟨_, List.getElem?_eq_getElem hlt⟩
    obtain ⟨y, hy⟩ : ∃ y, hs[i - 1]? = some y := ⟨_, List.getElem?_eq_getElem (by omega)⟩
    have hxm := List.mem_of_getElem? hx
    have hym := List.mem_of_getElem? hy
    have hcmp := cmp_less (SortT.at hso hy hx (by omega))
    refine s_skip (hK1 _ ?_)
    refine s_seq fun K2 hK2 => ?_
    refine s_block ?_
    refine s_auto TY_ok rfl ?_
    refine s_block ?_
    let F2 : Unit → Env := fun _ => ⟨[(9, .v (.int .i64 (i : Int))), (8, .v (.int .i64 (i : Int))), (0, .v (.slice A hs.length c)), (1, .v (.int .i64 0)), (2, .v (.int .i64 (hs.length : Int))), (3, .v cmpV)], [], [], SrtF A c hs, fun _ => True⟩
    refine c_weak (e' := F2 ()) ⟨⟨rfl, rfl, rfl, rfl, rfl, rfl, trivial⟩, trivial, .refl _, fun _ h _ => h, fun _ h => h⟩ (s_loop (fun _ => 0) F2 (fun _ => True) ?_ () trivial)
    intro _ _
    refine s_seq fun K3 hK3 => ?_
    refine s_regH 17 (by decide) (by kernel_rfl) (by kernel_rfl) fun K4 hK4 G S w0 hst => ?_
    refine h_auto TY_ok hst rfl ?_
    refine h_is 21 true rfl (by simp; omega) ?_
    refine h_auto TY_ok hst rfl ?_
    refine g_elem (b := b) TY_ok hst rfl rfl rfl i rfl hx rfl rfl (rd_fact fun _ h _ => h.1) ?_
    refine h_auto (Fa := []) TY_ok hst rfl ?_
    refine g_elem (b := b) TY_ok hst rfl rfl rfl (i - 1) (wrapI (by omega) (by omega) (by omega)) hy rfl rfl (rd_fact fun _ h _ => h.1) ?_
    refine h_auto (Fa := []) TY_ok hst rfl ?_
    refine h_callV (Fa := []) (F' := fun w => ObjF x.1 64 (prPs x.2) w ∧ ObjF y.1 64 (prPs y.2) w) (caps := []) (r := .v (.int .i64 (Lib.compareBytes x.2.1 y.2.1))) hst [.pointer (some ⟨x.1, 0, none⟩), .pointer (some ⟨y.1, 0, none⟩)] rfl rfl rfl rfl own_each2 rfl rfl rfl rfl trivial (each2_S (hok x hxm) (hok y hym)) (fun _ _ _ hv => ⟨hv.fact.2 x hxm, hv.fact.2 y hym⟩) ?_
    refine h_num 32 1 rfl hcmp ?_
    refine h_auto TY_ok hst rfl ?_
    refine h_is 34 false rfl (by decide) ?_
    refine h_end hst ?_
    refine s_end (hK4 _ ?_)
    refine s_no rfl ?_
    refine s_exit (k_pass (k_pass (k_out ?_)))
    refine hK2 _ ?_
    refine s_autoE TY_ok rfl ?_
    exact k_next (i + 1) (by show 1 ≤ i + 1; omega) (by show hs.length - (i + 1) < hs.length - i; omega) ⟨⟨congrArg some (congrArg SV.v (congrArg (Value.int .i64) (wrapI rfl (by omega) (by omega)))), rfl, rfl, rfl, rfl, trivial⟩, trivial, .refl _, fun _ h _ => h, fun _ h => h⟩
  · refine s_exit (k_pass (k_pass (k_out ?_)))
    exact k_ret TY_ok () rfl (by decide) rfl rfl rfl (fun _ _ _ => trivial) (fun _ _ => trivial)
end Go.Proofs.YtlaikmpnijlcbaaDoor
/-
  PAIRS THAT LIE BY THEIR KEYS ARE SORTED: the pivot is chosen with no swap.
-/
namespace Go.Proofs.YtlaikmpnijlcbaaDoor
open Go.RowKit Go.IntWalk Nums

theorem own_order2 : Own 72 := fun _ _ => by go_simp
theorem own_median : Own 71 := fun _ _ => by go_simp
theorem own_medadj : Own 70 := fun _ _ => by go_simp
theorem own_pivot : Own 60 := fun _ _ => by go_simp
theorem own_partial : Own 62 := fun _ _ => by go_simp
section
variable {A : Option Addr} {c : Nat} {hs : List HP}
set_option maxRecDepth 100000 in
set_option maxHeartbeats 1000000 in
theorem order2_S (hso : SortT (hs.map (·.2))) {i j g : Nat} (hij : i < j) (hj : j < hs.length) : Spec 72 [.slice A hs.length c, .int .i64 (i : Int), .int .i64 (j : Int), .pointer (some ⟨g, 0, none⟩), cmpV] [] (SrtF A c hs) { ret := fun _ : Unit => .t [.c (.v (.int .i64 (i : Int))), .c (.v (.int .i64 (j : Int)))], own := fun _ => [] } := by
  refine spec_S [.c (.v (.slice A hs.length c)), .c (.v (.int .i64 (i : Int))), .c (.v (.int .i64 (j : Int))), .c (.v (.pointer (some ⟨g, 0, none⟩))), .c (.v cmpV)] 32 Tryd.func72 rfl (by rw [Tryd.ntmps72]; rfl) (more_ok trivial (more_ok trivial (more_ok trivial (two_ok trivial trivial)))) fun b => ?_
  refine s_pure (∀ x ∈ hs, OkT2 x.2) (fun _ h _ => fun x hx => prPs_ok (h.2 x hx).2) fun hok => ?_
  obtain ⟨x, hx⟩ : ∃ x, hs[j]? = some x := ⟨_, List.getElem?_eq_getElem hj⟩
  obtain ⟨y, hy⟩ : ∃ y, hs[i]? = some y := ⟨_, List.getElem?_eq_getElem (by omega)⟩
  have hxm := List.mem_of_getElem? hx
  have hym := List.mem_of_getElem? hy
  have hcmp := cmp_less (SortT.at hso hy hx hij)
  refine s_auto TY_ok rfl ?_
  refine s_seq fun K3 hK3 => ?_
  refine s_regH 11 (by decide) (by kernel_rfl) (by kernel_rfl) fun K4 hK4 G S w0 hst => ?_
  refine h_auto TY_ok hst rfl ?_
  refine g_elem (b := b) TY_ok hst rfl rfl rfl j rfl hx rfl rfl (rd_fact fun _ h _ => h.1) ?_
  refine h_auto (Fa := []) TY_ok hst rfl ?_
  refine g_elem (b := b) TY_ok hst rfl rfl rfl i rfl hy rfl rfl (rd_fact fun _ h _ => h.1) ?_
  refine h_callV (Fa := []) (F' := fun w => ObjF x.1 64 (prPs x.2) w ∧ ObjF y.1 64 (prPs y.2) w) (caps := []) (r := .v (.int .i64 (Lib.compareBytes x.2.1 y.2.1))) hst [.pointer (some ⟨x.1, 0, none⟩), .pointer (some ⟨y.1, 0, none⟩)] rfl rfl rfl rfl own_each2 rfl rfl rfl rfl trivial (each2_S (hok x hxm) (hok y hym)) (fun _ _ _ hv => ⟨hv.fact.2 x hxm, hv.fact.2 y hym⟩) ?_
  refine h_num 21 1 rfl hcmp ?_
  refine h_auto TY_ok hst rfl ?_
  refine h_is 22 false rfl (by decide) ?_
  refine h_end hst ?_
  refine s_end (hK4 _ ?_)
  refine s_no rfl ?_
  refine s_skip (hK3 _ ?_)
  refine s_auto TY_ok rfl ?_
  exact s_ret (k_ret TY_ok () rfl (by decide) rfl rfl rfl (fun _ _ _ => trivial) (fun _ _ => trivial))
set_option maxRecDepth 100000 in
set_option maxHeartbeats 1000000 in
theorem median_S (hso : SortT (hs.map (·.2))) {i j k g : Nat} (hij : i < j) (hjk : j < k) (hk : k < hs.length) : Spec 71 [.slice A hs.length c, .int .i64 (i : Int), .int .i64 (j : Int), .int .i64 (k : Int), .pointer (some ⟨g, 0, none⟩), cmpV] [] (SrtF A c hs) (one (.v (.int .i64 (j : Int)))) := by
  refine spec_S [.c (.v (.slice A hs.length c)), .c (.v (.int .i64 (i : Int))), .c (.v (.int .i64 (j : Int))), .c (.v (.int .i64 (k : Int))), .c (.v (.pointer (some ⟨g, 0, none⟩))), .c (.v cmpV)] 41 Tryd.func71 rfl (by rw [Tryd.ntmps71]; rfl) (more_ok trivial (more_ok trivial (more_ok trivial (more_ok trivial (two_ok trivial trivial))))) fun b => ?_
  refine s_auto TY_ok rfl ?_
  refine s_regA TY_ok rfl fun K1 hK1 => ?_
  refine l_call0 [.slice A hs.length c, .int .i64 (i : Int), .int .i64 (j : Int), .pointer (some ⟨g, 0, none⟩), cmpV] rfl rfl rfl own_order2 rfl rfl (fun _ _ => rfl) (order2_S hso hij (by omega)) (fun _ h _ => h) fun _ => ?_
  refine l_autoS TY_ok rfl ?_
  refine s_end (hK1 _ ?_)
  refine s_regA TY_ok rfl fun K2 hK2 => ?_
  refine l_call0 [.slice A hs.length c, .int .i64 (j : Int), .int .i64 (k : Int), .pointer (some ⟨g, 0, none⟩), cmpV] rfl rfl rfl own_order2 rfl rfl (fun _ _ => rfl) (order2_S hso hjk hk) (fun _ h _ => h.2) fun _ => ?_
  refine l_autoS TY_ok rfl ?_
  refine s_end (hK2 _ ?_)
  refine s_regA TY_ok rfl fun K3 hK3 => ?_
  refine l_call0 [.slice A hs.length c, .int .i64 (i : Int), .int .i64 (j : Int), .pointer (some ⟨g, 0, none⟩), cmpV] rfl rfl rfl own_order2 rfl rfl (fun _ _ => rfl) (order2_S hso hij (by omega)) (fun _ h _ => h.2.2) fun _ => ?_
  refine l_autoS TY_ok rfl ?_
  refine s_end (hK3 _ ?_)
  refine s_auto TY_ok rfl ?_
  exact s_ret (k_ret TY_ok () rfl (by decide) rfl rfl rfl (fun _ _ _ => trivial) (fun _ _ => trivial))
set_option maxRecDepth 100000 in
set_option maxHeartbeats 1000000 in
theorem medadj_S (hso : SortT (hs.map (·.2))) {i g : Nat} (hi : 1 ≤ i) (hk : i + 1 < hs.length) (hl : hs.length ≤ 9223372036854775807) : Spec 70 [.slice A hs.length c, .int .i64 (i : Int), .pointer (some ⟨g, 0, none⟩), cmpV] [] (SrtF A c hs) (one (.v (.int .i64 (i : Int)))) := by
  refine spec_S [.c (.v (.slice A hs.length c)), .c (.v (.int .i64 (i : Int))), .c (.v (.pointer (some ⟨g, 0, none⟩))), .c (.v cmpV)] 18 Tryd.func70 rfl (by rw [Tryd.ntmps70]; rfl) (more_ok trivial (more_ok trivial (two_ok trivial trivial))) fun b => ?_
  refine s_auto TY_ok rfl ?_
  refine s_regA TY_ok rfl fun K1 hK1 => ?_
  refine l_num 11 ((i - 1 : Nat) : Int) rfl (wrapI (by omega) (by omega) (by omega)) ?_
  refine l_num 14 ((i + 1 : Nat) : Int) rfl (wrapI (by omega) (by omega) (by omega)) ?_
  refine l_call0 [.slice A hs.length c, .int .i64 ((i - 1 : Nat) : Int), .int .i64 (i : Int), .int .i64 ((i + 1 : Nat) : Int), .pointer (some ⟨g, 0, none⟩), cmpV] rfl rfl rfl own_median rfl rfl (fun _ _ => rfl) (median_S hso (by omega) (by omega) hk) (fun _ h _ => h) fun _ => ?_
  refine l_autoS TY_ok rfl ?_
  refine s_end (hK1 _ ?_)
  exact s_ret (k_ret TY_ok () rfl (by decide) rfl rfl rfl (fun _ _ _ => trivial) (fun _ _ => trivial))
set_option maxRecDepth 100000 in
set_option maxHeartbeats 2000000 in
theorem pivot_S (hso : SortT (hs.map (·.2))) (hn : 12 < hs.length) : Spec 60 [.slice A hs.length c, .int .i64 0, .int .i64 (hs.length : Int), cmpV] [] (SrtF A c hs) { ret := fun j : Nat => .t [.c (.v (.int .i64 (j : Int))), .c (.v (.int .i64 1))], own := fun _ => [] } := by
  refine spec_S [.c (.v (.slice A hs.length c)), .c (.v (.int .i64 0)), .c (.v (.int .i64 (hs.length : Int))), .c (.v cmpV)] 63 Tryd.func60 rfl (by rw [Tryd.ntmps60]; rfl) (more_ok trivial (more_ok trivial (two_ok trivial trivial))) fun b => ?_
  refine s_pure (hs.length ≤ 9223372036854775807) (fun _ h _ => Nat.le_trans h.1.1 h.1.2.1) fun hl => ?_
  obtain ⟨m, hm⟩ : ∃ m, hs.length / 4 = m := ⟨_, rfl⟩
  have h4 : IntKind.i64.wrap (((hs.length : Nat) : Int).tdiv 4) = ((m : Nat) : Int) := by rw [← hm]; exact wrapQ hs.length 4 hl
  have e1 : IntKind.i64.wrap (0 + IntKind.i64.wrap (IntKind.i64.wrap (((hs.length : Nat) : Int).tdiv 4) * 1)) = ((m : Nat) : Int) := by
    rw [h4, wrapI (m := ((m : Nat) : Int) * 1) (r := ((m : Nat) : Int)) (by omega) (by omega) (by omega)]
    exact wrapI (by omega) (by omega) (by omega)
  have e2 : IntKind.i64.wrap (0 + IntKind.i64.wrap (IntKind.i64.wrap (((hs.length : Nat) : Int).tdiv 4) * 2)) = ((2 * m : Nat) : Int) := by
    rw [h4, wrapI (m := ((m : Nat) : Int) * 2) (r := ((2 * m : Nat) : Int)) (by omega) (by omega) (by omega)]
    exact wrapI (by omega) (by omega) (by omega)
  have e3 : IntKind.i64.wrap (0 + IntKind.i64.wrap (IntKind.i64.wrap (((hs.length : Nat) : Int).tdiv 4) * 3)) = ((3 * m : Nat) : Int) := by
    rw [h4, wrapI (m := ((m : Nat) : Int) * 3) (r := ((3 * m : Nat) : Int)) (by omega) (by omega) (by omega)]
    exact wrapI (by omega) (by omega) (by omega)
  refine s_auto TY_ok rfl ?_
  refine s_auto TY_ok rfl ?_
  refine c_weak (e' := ⟨[(10, .v (.int .i64 (hs.length : Int))), (0, .v (.slice A hs.length c)), (1, .v (.int .i64 0)), (2, .v (.int .i64 (hs.length : Int))), (3, .v cmpV)], [], [], SrtF A c hs, fun _ => True⟩) ⟨⟨congrArg some (congrArg SV.v (congrArg (Value.int .i64) (wrapI (m := ((hs.length : Nat) : Int) - 0) (by omega) (by omega) (by omega)))), rfl, rfl, rfl, rfl, trivial⟩, trivial, .refl _, fun _ h _ => h, fun _ _ => trivial⟩ ?_
  refine s_auto TY_ok rfl ?_
  refine s_auto TY_ok rfl ?_
  refine s_auto TY_ok rfl ?_
  refine s_auto TY_ok rfl ?_
  refine c_weak (e' := ⟨[(10, .v (.int .i64 (hs.length : Int))), (12, .v (.int .i64 (m : Int))), (13, .v (.int .i64 ((2 * m : Nat) : Int))), (14, .v (.int .i64 ((3 * m : Nat) : Int))), (11, .a 11 0), (0, .v (.slice A hs.length c)), (3, .v cmpV)], [⟨11, none, 3, [.one (.v (.int .i64 0))]⟩], [], SrtF A c hs, fun _ => True⟩) ⟨⟨rfl, congrArg some (congrArg SV.v (congrArg (Value.int .i64) e1)), congrArg some (congrArg SV.v (congrArg (Value.int .i64) e2)), congrArg some (congrArg SV.v (congrArg (Value.int .i64) e3)), rfl, rfl, rfl, trivial⟩, ⟨rfl, rfl, trivial⟩, .refl _, fun _ h _ => h, fun _ _ => trivial⟩ ?_
  clear e1 e2 e3 h4
  refine s_locs fun G => ?_
  have hG : ∀ (r : List LV) (G' : Nat → Nat), (∀ x ∈ (⟨11, some (G 11), 3, [.one (.v (.int .i64 0))]⟩ : LV) :: r, ∀ g, x.g = some g → G' x.j = g) → G' 11 = G 11 := fun r G' h => h _ List.mem_cons_self _ rfl
  refine s_seq fun K1 hK1 => ?_
  refine s_auto TY_ok rfl ?_
  refine s_ifD ((hs.length : Int) ≥ 8) rfl (fun _ => ?_) (fun h => absurd h (by omega))
  refine s_seq fun K2 hK2 => ?_
  have hend : kS b K2 63 ⟨[(12, .v (.int .i64 (m : Int))), (13, .v (.int .i64 ((2 * m : Nat) : Int))), (14, .v (.int .i64 ((3 * m : Nat) : Int))), (11, .a 11 0), (0, .v (.slice A hs.length c)), (3, .v cmpV)], [⟨11, some (G 11), 3, [.one (.v (.int .i64 0))]⟩], [], SrtF A c hs, fun _ => True⟩ := by
    refine hK2 _ ?_
    refine s_lit ?_
    refine l_autoS TY_ok rfl ?_
    refine l_call0 [.slice A hs.length c, .int .i64 (m : Int), .int .i64 ((2 * m : Nat) : Int), .int .i64 ((3 * m : Nat) : Int), .pointer (some ⟨G 11, 0, none⟩), cmpV] rfl rfl rfl own_median rfl rfl (fun G' h => by
      rw [← hG _ G' h]
      rfl) (median_S hso (by omega) (by omega) (by omega)) (fun _ h _ => h) fun _ => ?_
    refine l_autoS TY_ok rfl ?_
    refine s_end (hK1 _ ?_)
    refine s_auto TY_ok rfl ?_
    refine s_block ?_
    refine s_regA TY_ok rfl fun K3 hK3 => ?_
    refine l_is 57 true rfl (by decide) ?_
    refine s_end (hK3 _ ?_)
    refine s_yes rfl ?_
    refine s_auto TY_ok rfl ?_
    exact s_ret (k_ret TY_ok (2 * m) rfl (by decide) rfl rfl rfl (fun _ _ _ => trivial) (fun _ _ => trivial))
  refine s_auto TY_ok rfl ?_
  refine s_ifD ((hs.length : Int) ≥ 50) rfl (fun h50 => ?_) (fun h => ?_)
  · have h50 : 50 ≤ hs.length := by omega
    refine s_regA TY_ok rfl fun K4 hK4 => ?_
    refine l_call0 [.slice A hs.length c, .int .i64 (m : Int), .pointer (some ⟨G 11, 0, none⟩), cmpV] rfl rfl rfl own_medadj rfl rfl (fun G' h => by
      rw [← hG _ G' h]
      rfl) (medadj_S hso (by omega) (by omega) hl) (fun _ h _ => h) fun _ => ?_
    refine l_autoS TY_ok rfl ?_
    refine s_end (hK4 _ ?_)
    refine s_regA TY_ok rfl fun K5 hK5 => ?_
    refine l_call0 [.slice A hs.length c, .int .i64 ((2 * m : Nat) : Int), .pointer (some ⟨G 11, 0, none⟩), cmpV] rfl rfl rfl own_medadj rfl rfl (fun G' h => by
      rw [← hG _ G' h]
      rfl) (medadj_S hso (by omega) (by omega) hl) (fun _ h _ => h.2) fun _ => ?_
    refine l_autoS TY_ok rfl ?_
    refine s_end (hK5 _ ?_)
    refine s_lit ?_
    refine l_autoS TY_ok rfl ?_
    refine l_call0 [.slice A hs.length c, .int .i64 ((3 * m : Nat) : Int), .pointer (some ⟨G 11, 0, none⟩), cmpV] rfl rfl rfl own_medadj rfl rfl (fun G' h => by
      rw [← hG _ G' h]
      rfl) (medadj_S hso (by omega) (by omega) hl) (fun _ h _ => h.2.2) fun _ => ?_
    refine l_autoS TY_ok rfl ?_
    refine s_end (k_weak ?_ hend)
    exact ⟨⟨rfl, rfl, rfl, rfl, rfl, rfl, trivial⟩, ⟨rfl, rfl, trivial⟩, .refl _, fun _ h _ => h.2.2.2, fun _ _ => trivial⟩
  · refine s_skip (k_weak ?_ hend)
    exact ⟨⟨rfl, rfl, rfl, rfl, rfl, rfl, trivial⟩, ⟨rfl, rfl, trivial⟩, .refl _, fun _ h _ => h, fun _ _ => trivial⟩
end
end Go.Proofs.YtlaikmpnijlcbaaDoor
/-
  PAIRS THAT LIE BY THEIR KEYS ARE SORTED: nothing is left to do.
-/
namespace Go.Proofs.YtlaikmpnijlcbaaDoor
open Go.RowKit Go.IntWalk Nums

section
variable {A : Option Addr} {c : Nat} {hs : List HP}
set_option maxRecDepth 100000 in
set_option maxHeartbeats 2000000 in
theorem partial_S (hso : SortT (hs.map (·.2))) (hn : 12 < hs.length) : Spec 62 [.slice A hs.length c, .int .i64 0, .int .i64 (hs.length : Int), cmpV] [] (SrtF A c hs) (one (.v (.bool true))) := by
  refine spec_S [.c (.v (.slice A hs.length c)), .c (.v (.int .i64 0)), .c (.v (.int .i64 (hs.length : Int))), .c (.v cmpV)] 141 Tryd.func62 rfl (by rw [Tryd.ntmps62]; rfl) (more_ok trivial (more_ok trivial (two_ok trivial trivial))) fun b => ?_
  refine s_pure (hs.length ≤ 9223372036854775807 ∧ ∀ x ∈ hs, OkT2 x.2) (fun _ h _ => ⟨Nat.le_trans h.1.1 h.1.2.1, fun x hx => prPs_ok (h.2 x hx).2⟩) fun ⟨hl, hok⟩ => ?_
  refine s_auto TY_ok rfl ?_
  refine s_auto TY_ok rfl ?_
  refine s_seq fun K1 hK1 => ?_
  refine s_auto TY_ok rfl ?_
  refine s_block ?_
  let F : Unit → Env := fun _ => ⟨[(10, .v (.int .i64 0)), (9, .v (.int .i64 1)), (0, .v (.slice A hs.length c)), (1, .v (.int .i64 0)), (2, .v (.int .i64 (hs.length : Int))), (3, .v cmpV)], [], [], SrtF A c hs, fun _ => True⟩
  refine c_weak (e' := F ()) ⟨⟨rfl, rfl, rfl, rfl, rfl, rfl, trivial⟩, trivial, .refl _, fun _ h _ => h, fun _ h => h⟩ (s_loop (fun _ => 0) F (fun _ => True) ?_ () trivial)
  intro _ _
  refine s_seq fun K2 hK2 => ?_
  refine s_auto TY_ok rfl ?_
  refine s_ifD ((0 : Int) < 5) rfl (fun _ => ?_) (fun h => absurd h (by decide))
  refine s_skip (hK2 _ ?_)
  refine s_seq fun K3 hK3 => ?_
  refine s_block ?_
  refine s_seq fun K4 hK4 => ?_
  refine s_block ?_
  let F2 : Nat → Env := fun i => ⟨[(9, .v (.int .i64 (i : Int))), (0, .v (.slice A hs.length c)), (1, .v (.int .i64 0)), (2, .v (.int .i64 (hs.length : Int))), (3, .v cmpV)], [], [], SrtF A c hs, fun _ => True⟩
  refine c_weak (e' := F2 1) ⟨⟨rfl, rfl, rfl, rfl, rfl, trivial⟩, trivial, .refl _, fun _ h _ => h, fun _ h => h⟩ (s_loop (fun x => hs.length - x) F2 (fun x => 1 ≤ x ∧ x ≤ hs.length) ?_ 1 ⟨Nat.le_refl _, by omega⟩)
  rintro i ⟨hi, hin⟩
  refine s_seq fun K5 hK5 => ?_
  by_cases hlt : i < hs.length
  · obtain ⟨x, hx⟩ : ∃ x, hs[i]? = some x := ⟨_, List.getElem?_eq_getElem hlt⟩
    obtain ⟨y, hy⟩ : ∃ y, hs[i - 1]? = some y := ⟨_, List.getElem?_eq_getElem (by omega)⟩
    have hxm := List.mem_of_getElem? hx
    have hym := List.mem_of_getElem? hy
    have hcmp := cmp_less (SortT.at hso hy hx (by omega))
    refine s_regH 18 (by decide) (by kernel_rfl) (by kernel_rfl) fun K6 hK6 G S w0 hst => ?_
    refine h_auto TY_ok hst rfl ?_
    refine h_is 22 true rfl (by simp; omega) ?_
    refine h_auto TY_ok hst rfl ?_
    refine g_elem (b := b) TY_ok hst rfl rfl rfl i rfl hx rfl rfl (rd_fact fun _ h _ => h.1) ?_
    refine h_auto (Fa := []) TY_ok hst rfl ?_
    refine g_elem (b := b) TY_ok hst rfl rfl rfl (i - 1) (wrapI (by omega) (by omega) (by omega)) hy rfl rfl (rd_fact fun _ h _ => h.1) ?_
    refine h_auto (Fa := []) TY_ok hst rfl ?_
    refine h_callV (Fa := []) (F' := fun w => ObjF x.1 64 (prPs x.2) w ∧ ObjF y.1 64 (prPs y.2) w) (caps := []) (r := .v (.int .i64 (Lib.compareBytes x.2.1 y.2.1))) hst [.pointer (some ⟨x.1, 0, none⟩), .pointer (some ⟨y.1, 0, none⟩)] rfl rfl rfl rfl own_each2 rfl rfl rfl rfl trivial (each2_S (hok x hxm) (hok y hym)) (fun _ _ _ hv => ⟨hv.fact.2 x hxm, hv.fact.2 y hym⟩) ?_
    refine h_num 33 1 rfl hcmp ?_
    refine h_auto TY_ok hst rfl ?_
    refine h_is 36 true rfl (by decide) ?_
    refine h_end hst ?_
    refine s_end (hK6 _ ?_)
    refine s_yes rfl ?_
    refine s_skip (hK5 _ ?_)
    refine s_block ?_
    refine s_autoE TY_ok rfl ?_
    exact k_next (i + 1) ⟨by show 1 ≤ i + 1; omega, by show i + 1 ≤ hs.length; omega⟩ (by show hs.length - (i + 1) < hs.length - i; omega) ⟨⟨congrArg some (congrArg SV.v (congrArg (Value.int .i64) (wrapI rfl (by omega) (by omega)))), rfl, rfl, rfl, rfl, trivial⟩, trivial, .refl _, fun _ h _ => h, fun _ h => h⟩
  · obtain rfl : i = hs.length := by omega
    refine s_regH 18 (by decide) (by kernel_rfl) (by kernel_rfl) fun K6 hK6 G S w0 hst => ?_
    refine h_auto TY_ok hst rfl ?_
    refine h_is 22 false rfl (by simp) ?_
    refine h_auto TY_ok hst rfl ?_
    refine h_end hst ?_
    refine s_end (hK6 _ ?_)
    refine s_no rfl ?_
    refine s_exit (k_pass (k_pass (k_out ?_)))
    refine hK4 _ ?_
    refine s_seq fun K7 hK7 => ?_
    refine s_regA TY_ok rfl fun K8 hK8 => ?_
    refine l_is 41 true rfl (by simp) ?_
    refine s_end (hK8 _ ?_)
    refine s_yes rfl ?_
    refine s_auto TY_ok rfl ?_
    exact s_ret (k_ret TY_ok () rfl (by decide) rfl rfl rfl (fun _ _ _ => trivial) (fun _ _ => trivial))
end
/-! ### The length of a number -/
def len8T : List UInt8 := [0] ++ ([1] ++ (List.replicate 2 2 ++ (List.replicate 4 3 ++ (List.replicate 8 4 ++ (List.replicate 16 5 ++ (List.replicate 32 6 ++ (List.replicate 64 7 ++ List.replicate 128 8)))))))
theorem len8_pos : ∀ i, i < 256 → 1 ≤ i → 1 ≤ (len8T[i]!).toNat := by decide +kernel
theorem run_idxS {N : Nat} {E : SE} {o : Oper} {y : Operand} {s : ByteArray} {i : Nat} (ho : o.op = .index 9 (.const (.string s)) y) (hs : s = ⟨len8T.toArray⟩) (hi : i < 256) (hy : evS E y = some (.v (.int .u8 (i : Int)))) :
    ∀ (G : Nat → Nat) (a : Act) (w : World), Fr N (denE G E) a → (execOp a.eval o).run Tryd.prog w = .ok (.value ((SV.v (.int .u8 ((len8T[i]!).toNat : Int))).den G)) w := fun G a w ha => by
  have h1 : a.eval y = .int .u8 (i : Int) := ha.eval (evS_ok hy)
  have h2 := run_index_string (P := Tryd.prog) w 9 s .u8 (i : Int) Tryd.underlying9
  subst hs
  have hl : len8T.length = 256 := by decide +kernel
  have h3 : 0 ≤ (i : Int) ∧ (i : Int) < (ByteArray.mk len8T.toArray).size := ⟨by omega, by show (i : Int) < (len8T.toArray.size : Int); rw [List.size_toArray, hl]; omega⟩
  rw [dif_pos h3] at h2
  have h4 : ((ByteArray.mk len8T.toArray)[(i : Int).toNat]'(by omega)) = len8T[i]! := by
    rw [getElem!_pos len8T i (by omega)]
    rfl
  rw [h4] at h2
  have h0 : a.eval (.const (.string ⟨len8T.toArray⟩)) = .string ⟨len8T.toArray⟩ := rfl
  unfold execOp
  simp only [ho, h0, h1, Sem.run_bind, h2, Result.andThen_ok, Sem.run_pure]
  rfl
theorem own_len64 : Own 66 := fun _ _ => by go_simp
theorem own_len : Own 54 := fun _ _ => by go_simp
abbrev LenX (n : Nat) := { r : Nat // (1 ≤ n → 1 ≤ r) ∧ r ≤ 255 }
set_option maxRecDepth 100000 in
set_option maxHeartbeats 1000000 in
theorem len64_S {n : Nat} (hn : n < 256) : Spec 66 [.int .u64 (n : Int)] [] (fun _ => True) { ret := fun r : LenX n => .v (.int .i64 ((r.1 : Nat) : Int)), own := fun _ => [] } := by
  refine spec_S [.c (.v (.int .u64 (n : Int)))] 25 Tryd.func66 rfl (by rw [Tryd.ntmps66]; rfl) (one_ok trivial) fun b => ?_
  refine s_auto TY_ok rfl ?_
  refine s_seq fun K1 hK1 => ?_
  refine s_auto TY_ok rfl ?_
  refine s_ifD ((n : Int) ≥ 4294967296) rfl (fun h => absurd h (by omega)) (fun _ => ?_)
  refine s_skip (hK1 _ ?_)
  refine s_seq fun K2 hK2 => ?_
  refine s_auto TY_ok rfl ?_
  refine s_ifD ((n : Int) ≥ 65536) rfl (fun h => absurd h (by omega)) (fun _ => ?_)
  refine s_skip (hK2 _ ?_)
  refine s_seq fun K3 hK3 => ?_
  refine s_auto TY_ok rfl ?_
  refine s_ifD ((n : Int) ≥ 256) rfl (fun h => absurd h (by omega)) (fun _ => ?_)
  refine s_skip (hK3 _ ?_)
  refine s_regA TY_ok rfl fun K4 hK4 => ?_
  refine l_num 21 (n : Int) rfl (by show (n : Int) % 256 = n; omega) ?_
  refine l_op (.v (.int .u8 ((len8T[n]!).toNat : Int))) trivial rfl rfl rfl (run_idxS rfl (by kernel_rfl) hn rfl) ?_
  have hp := len8_pos n hn
  have hb : (len8T[n]!).toNat ≤ 255 := Nat.le_of_lt_succ (UInt8.toNat_lt _)
  generalize (len8T[n]!).toNat = r at *
  refine l_autoS TY_ok rfl ?_
  refine l_num 2 (r : Int) rfl (by
    rw [wrapI (m := (r : Int)) (r := (r : Int)) rfl (by omega) (by omega)]
    exact wrapI (by omega) (by omega) (by omega)) ?_
  refine s_end (hK4 _ ?_)
  exact s_ret (k_ret TY_ok ⟨r, hp, hb⟩ rfl (by decide) rfl rfl rfl (fun _ _ _ => trivial) (fun _ _ => trivial))
set_option maxRecDepth 100000 in
set_option maxHeartbeats 1000000 in
theorem len_S {n : Nat} (hn : n < 256) : Spec 54 [.int .u64 (n : Int)] [] (fun _ => True) { ret := fun r : LenX n => .v (.int .i64 ((r.1 : Nat) : Int)), own := fun _ => [] } := by
  refine spec_S [.c (.v (.int .u64 (n : Int)))] 8 Tryd.func54 rfl (by rw [Tryd.ntmps54]; rfl) (one_ok trivial) fun b => ?_
  refine s_auto TY_ok rfl ?_
  refine s_seq fun K1 hK1 => ?_
  refine s_no rfl ?_
  refine s_skip (hK1 _ ?_)
  refine s_regA TY_ok rfl fun K2 hK2 => ?_
  refine l_call0 [.int .u64 (n : Int)] rfl rfl rfl own_len64 rfl rfl (fun _ _ => rfl) (len64_S hn) (fun _ _ _ => trivial) fun r => ?_
  refine l_autoS TY_ok rfl ?_
  refine s_end (hK2 _ ?_)
  exact s_ret (k_ret TY_ok r rfl (by decide) rfl rfl rfl (fun _ _ _ => trivial) (fun _ _ => trivial))
theorem own_pdq : Own 53 := fun _ _ => by go_simp
theorem own_sortF : Own 46 := fun _ _ => by go_simp
section
variable {A : Option Addr} {c : Nat} {hs : List HP}
set_option maxRecDepth 100000 in
set_option maxHeartbeats 2000000 in
theorem pdq_S (hso : SortT (hs.map (·.2))) {r : Nat} (hr : 1 ≤ hs.length → 1 ≤ r) : Spec 53 [.slice A hs.length c, .int .i64 0, .int .i64 (hs.length : Int), .int .i64 (r : Int), cmpV] [] (SrtF A c hs) { ret := fun _ : Unit => .t [], own := fun _ => [] } := by
  refine spec_S [.c (.v (.slice A hs.length c)), .c (.v (.int .i64 0)), .c (.v (.int .i64 (hs.length : Int))), .c (.v (.int .i64 (r : Int))), .c (.v cmpV)] 148 Tryd.func53 rfl (by rw [Tryd.ntmps53]; rfl) (more_ok trivial (more_ok trivial (more_ok trivial (two_ok trivial trivial)))) fun b => ?_
  refine s_pure (hs.length ≤ 9223372036854775807) (fun _ h _ => Nat.le_trans h.1.1 h.1.2.1) fun hl => ?_
  refine s_auto TY_ok rfl ?_
  refine s_auto TY_ok rfl ?_
  refine s_block ?_
  let F : Unit → Env := fun _ => ⟨[(11, .v (.bool true)), (10, .v (.bool true)), (0, .v (.slice A hs.length c)), (1, .v (.int .i64 0)), (2, .v (.int .i64 (hs.length : Int))), (3, .v (.int .i64 (r : Int))), (4, .v cmpV)], [], [], SrtF A c hs, fun _ => True⟩
  refine c_weak (e' := F ()) ⟨⟨rfl, rfl, rfl, rfl, rfl, rfl, rfl, trivial⟩, trivial, .refl _, fun _ h _ => h, fun _ h => h⟩ (s_loop (fun _ => 0) F (fun _ => True) ?_ () trivial)
  intro _ _
  refine s_block ?_
  refine s_auto TY_ok rfl ?_
  refine c_weak (e' := ⟨[(12, .v (.int .i64 (hs.length : Int))), (11, .v (.bool true)), (10, .v (.bool true)), (0, .v (.slice A hs.length c)), (1, .v (.int .i64 0)), (2, .v (.int .i64 (hs.length : Int))), (3, .v (.int .i64 (r : Int))), (4, .v cmpV)], [], [], SrtF A c hs, fun _ => True⟩) ⟨⟨congrArg some (congrArg SV.v (congrArg (Value.int .i64) (wrapI (m := ((hs.length : Nat) : Int) - 0) (by omega) (by omega) (by omega)))), rfl, rfl, rfl, rfl, rfl, rfl, rfl, trivial⟩, trivial, .refl _, fun _ h _ => h, fun _ _ => trivial⟩ ?_
  refine s_seq fun K1 hK1 => ?_
  refine s_auto TY_ok rfl ?_
  refine s_ifD ((hs.length : Int) ≤ 12) rfl (fun h12 => ?_) (fun h12 => ?_)
  · refine s_regA TY_ok rfl fun K2 hK2 => ?_
    refine l_call0 [.slice A hs.length c, .int .i64 0, .int .i64 (hs.length : Int), cmpV] rfl rfl rfl own_insort rfl rfl (fun _ _ => rfl) (insort_S hs hso) (fun _ h _ => h) fun _ => ?_
    refine s_end (hK2 _ ?_)
    exact s_ret (k_ret TY_ok () rfl (by decide) rfl rfl rfl (fun _ _ _ => trivial) (fun _ _ => trivial))
  have hn : 12 < hs.length := by omega
  have hr1 := hr (by omega)
  refine s_skip (hK1 _ ?_)
  refine s_seq fun K2 hK2 => ?_
  refine s_auto TY_ok rfl ?_
  refine s_ifD ((r : Int) = 0) rfl (fun h => absurd h (by omega)) (fun _ => ?_)
  refine s_skip (hK2 _ ?_)
  refine s_seq fun K3 hK3 => ?_
  refine s_auto TY_ok rfl ?_
  refine s_no rfl ?_
  refine s_skip (hK3 _ ?_)
  refine s_regA TY_ok rfl fun K4 hK4 => ?_
  refine l_call0 [.slice A hs.length c, .int .i64 0, .int .i64 (hs.length : Int), cmpV] rfl rfl rfl own_pivot rfl rfl (fun _ _ => rfl) (pivot_S hso hn) (fun _ h _ => h) fun j => ?_
  refine l_autoS TY_ok rfl ?_
  refine s_end (hK4 _ ?_)
  refine s_seq fun K5 hK5 => ?_
  refine s_regA TY_ok rfl fun K6 hK6 => ?_
  refine l_is 56 false rfl (by decide) ?_
  refine s_end (hK6 _ ?_)
  refine s_no rfl ?_
  refine s_skip (hK5 _ ?_)
  refine s_seq fun K7 hK7 => ?_
  refine s_regA TY_ok rfl fun K8 hK8 => ?_
  refine l_is 75 true rfl (by decide) ?_
  refine s_end (hK8 _ ?_)
  refine s_yes rfl ?_
  refine s_regA TY_ok rfl fun K9 hK9 => ?_
  refine l_call0 [.slice A hs.length c, .int .i64 0, .int .i64 (hs.length : Int), cmpV] rfl rfl rfl own_partial rfl rfl (fun _ _ => rfl) (partial_S hso hn) (fun _ h _ => h.2) fun _ => ?_
  refine s_end (hK9 _ ?_)
  refine s_yes rfl ?_
  exact s_ret (k_ret TY_ok () rfl (by decide) rfl rfl rfl (fun _ _ _ => trivial) (fun _ _ => trivial))
set_option maxRecDepth 100000 in
set_option maxHeartbeats 1000000 in
/-- **SortFunc**, of what is sorted. -/
theorem sortF_S (hso : SortT (hs.map (·.2))) (hn : hs.length < 256) : Spec 46 [.slice A hs.length c, cmpV] [] (SrtF A c hs) { ret := fun _ : Unit => .t [], own := fun _ => [] } := by
  refine spec_S [.c (.v (.slice A hs.length c)), .c (.v cmpV)] 14 Tryd.func46 rfl (by rw [Tryd.ntmps46]; rfl) (two_ok trivial trivial) fun b => ?_
  refine s_auto TY_ok rfl ?_
  refine s_lit ?_
  refine l_autoS TY_ok rfl ?_
  refine l_num 10 (hs.length : Int) rfl (by show ((hs.length : Nat) : Int) % 18446744073709551616 = _; omega) ?_
  refine l_call0 [.int .u64 (hs.length : Int)] rfl rfl rfl own_len rfl rfl (fun _ _ => rfl) (len_S hn) (fun _ _ _ => trivial) fun r => ?_
  refine l_autoS TY_ok rfl ?_
  refine l_call0 [.slice A hs.length c, .int .i64 0, .int .i64 (hs.length : Int), .int .i64 ((r.1 : Nat) : Int), cmpV] rfl rfl rfl own_pdq rfl rfl (fun _ _ => rfl) (pdq_S hso r.2.1) (fun _ h _ => h.2) fun _ => ?_
  refine s_end ?_
  exact k_ret TY_ok () rfl (by decide) rfl rfl rfl (fun _ _ _ => trivial) (fun _ _ => trivial)
end
end Go.Proofs.YtlaikmpnijlcbaaDoor
/-
  THE PAIRS OF A SIDE, TOLD BY THEIR KEYS: walk with addresses; the slice that is sorted.
-/
namespace Go.Proofs.YtlaikmpnijlcbaaDoor
open Go.RowKit Go.IntWalk Nums

/-- All pairs of a tree, with where they lie. -/
def TA.allH : TA → List HP
  | .nil => []
  | .leaf _ h p => [(h, p)]
  | .node _ a b => a.allH ++ b.allH
theorem TA.allH_all : ∀ t : TA, t.allH.map (·.2) = t.all
  | .nil => rfl
  | .leaf _ _ _ => rfl
  | .node _ a b => by
    show (a.allH ++ b.allH).map (·.2) = a.all ++ b.all
    rw [List.map_append, a.allH_all, b.allH_all]
theorem TA.allH_len (t : TA) : t.allH.length = t.len := by
  rw [← t.all_len, ← t.allH_all, List.length_map]
theorem TF.objs : ∀ {t : TA} {w : World}, TF t w → ∀ x ∈ t.allH, ObjF x.1 64 (prPs x.2) w
  | .nil, _, _, _, hx => by cases hx
  | .leaf _ _ _, _, h, x, hx => by
    rw [List.mem_singleton.1 hx]
    exact h.2
  | .node _ a b, _, h, x, hx => by
    rcases List.mem_append.1 hx with hx | hx
    · exact TF.objs h.2.1 x hx
    · exact TF.objs h.2.2 x hx
set_option maxRecDepth 100000 in
set_option maxHeartbeats 4000000 in
/-- **walk**, the addresses told. -/
theorem twalkH_S {f : FuncId} (hf : Own f) (caps : List Value) (Fc : World → Prop) (JR : Nat → Res) (JX : Res) : ∀ (t : TA) (i : Nat),
    (∀ (j : Nat) (p : PairT) (h : Nat), t.allH[j]? = some (h, p) → Spec f (.pointer (some ⟨h, 0, none⟩) :: caps) [JR (i + j)] (fun w => ObjF h 64 (prPs p) w ∧ Fc w) (bpost (JR (i + j + 1)) JX)) →
    Spec 44 [t.val, .func (.func f) #[] caps.toArray] [JR i] (fun w => TF t w ∧ Fc w) (bpost (JR (i + t.allH.length)) JX) := by
  intro t
  induction t with
  | nil =>
    intro i _
    refine spec_S [.c (.v TA.nil.val), .c (.v (.func (.func f) #[] caps.toArray))] 34 Tryd.func44 rfl (by rw [Tryd.ntmps44]; rfl) (two_ok trivial trivial) fun b => ?_
    refine s_auto TY_ok rfl ?_
    refine s_seq fun K hK => ?_
    refine s_auto TY_ok rfl ?_
    refine s_yes rfl ?_
    refine s_auto TY_ok rfl ?_
    exact s_ret (k_ret TY_ok true rfl (by decide) rfl rfl rfl (fun _ _ _ => trivial) (fun _ _ => trivial))
  | leaf g h p =>
    intro i ht
    have htell := ht 0 p h rfl
    refine spec_S [.c (.v (TA.leaf g h p).val), .c (.v (.func (.func f) #[] caps.toArray))] 34 Tryd.func44 rfl (by rw [Tryd.ntmps44]; rfl) (two_ok trivial trivial) fun b => ?_
    refine s_auto TY_ok rfl ?_
    refine s_seq fun K hK => ?_
    refine s_auto TY_ok rfl ?_
    refine s_no rfl ?_
    refine s_skip (hK _ ?_)
    refine s_seq fun K2 hK2 => ?_
    refine s_regA TY_ok rfl fun K3 hK3 => ?_
    refine l_ldO TY_ok rfl rfl rfl rfl rfl rfl (obj_fact fun _ h _ => h.1.1) ?_
    refine l_autoS TY_ok rfl ?_
    refine s_end (hK3 _ ?_)
    refine s_yes rfl ?_
    refine s_regA TY_ok rfl fun K4 hK4 => ?_
    refine l_ldO TY_ok rfl rfl rfl rfl rfl rfl (obj_fact fun _ h _ => h.1.1) ?_
    refine l_callV (own := [JR (i + 0)]) (R' := []) (.pointer (some ⟨h, 0, none⟩) :: caps) rfl rfl rfl hf rfl rfl rfl (fun _ _ => rfl) htell (fun _ h _ => ⟨h.1.2, h.2⟩) fun t => ?_
    refine l_autoS TY_ok rfl ?_
    refine s_end (hK4 _ ?_)
    exact s_ret (k_ret TY_ok t rfl (by decide) rfl rfl rfl (fun _ _ _ => trivial) (fun _ _ => trivial))
  | node g x y ihx ihy =>
    intro i ht
    have hx := ihx i fun j p h hj => ht j p h (by
      show (x.allH ++ y.allH)[j]? = _
      rw [List.getElem?_append_left (List.getElem?_eq_some_iff.1 hj).1]
      exact hj)
    have hy := ihy (i + x.allH.length) fun j p h hj => by
      have := ht (x.allH.length + j) p h (by
        show (x.allH ++ y.allH)[_]? = _
        rw [List.getElem?_append_right (by omega), Nat.add_sub_cancel_left]
        exact hj)
      rwa [← Nat.add_assoc] at this
    have hlen : (TA.node g x y).allH.length = x.allH.length + y.allH.length := List.length_append
    rw [hlen]
    clear ihx ihy ht hlen
    refine spec_S [.c (.v (TA.node g x y).val), .c (.v (.func (.func f) #[] caps.toArray))] 34 Tryd.func44 rfl (by rw [Tryd.ntmps44]; rfl) (two_ok trivial trivial) fun b => ?_
    refine s_auto TY_ok rfl ?_
    refine s_seq fun K hK => ?_
    refine s_auto TY_ok rfl ?_
    refine s_no rfl ?_
    refine s_skip (hK _ ?_)
    refine s_seq fun K2 hK2 => ?_
    refine s_regA TY_ok rfl fun K3 hK3 => ?_
    refine l_ldO TY_ok rfl rfl rfl rfl rfl rfl (obj_fact fun _ h _ => h.1.1) ?_
    refine l_autoS TY_ok rfl ?_
    refine s_end (hK3 _ ?_)
    refine s_no rfl ?_
    refine s_skip (hK2 _ ?_)
    refine s_regA TY_ok rfl fun K4 hK4 => ?_
    refine l_op (.v (.pointer (some ⟨g, 34 + 1 * 0, none⟩))) trivial rfl rfl rfl (runO_ixP 0 rfl Tryd.underlying66 rfl rfl rfl (by decide)) ?_
    refine l_opV (.v x.val) trivial rfl rfl rfl (runO_ldB x.val rfl rfl (nd_at x y).1 Tryd.underlying25 rfl (obj_fact fun _ h _ => h.1.1)) ?_
    refine l_autoS TY_ok rfl ?_
    refine l_callA (own := [JR i]) (R' := []) [x.val, .func (.func f) #[] caps.toArray] rfl rfl rfl own_twalk rfl rfl (fun _ _ => rfl) hx (fun _ h _ => ⟨h.1.2.1, h.2⟩) fun t => ?_
    cases t with
    | false =>
      refine l_autoS TY_ok rfl ?_
      refine s_end (hK4 _ ?_)
      exact s_ret (k_ret TY_ok false rfl (by decide) rfl rfl rfl (fun _ _ _ => trivial) (fun _ _ => trivial))
    | true =>
      refine l_autoS TY_ok rfl ?_
      refine l_op (.v (.pointer (some ⟨g, 34 + 1 * 1, none⟩))) trivial rfl rfl rfl (runO_ixP 1 rfl Tryd.underlying66 rfl rfl rfl (by decide)) ?_
      refine l_autoS TY_ok rfl ?_
      refine l_opV (.v y.val) trivial rfl rfl rfl (runO_ldB y.val rfl rfl (nd_at x y).2 Tryd.underlying25 rfl (obj_fact fun _ h _ => h.2.1.1)) ?_
      refine l_autoS TY_ok rfl ?_
      refine l_callA (own := [JR (i + x.allH.length)]) (R' := []) [y.val, .func (.func f) #[] caps.toArray] rfl rfl rfl own_twalk rfl rfl (fun _ _ => rfl) hy (fun _ h _ => ⟨h.2.1.2.2, h.2.2⟩) fun t => ?_
      refine l_autoS TY_ok rfl ?_
      refine s_end (hK4 _ ?_)
      refine s_ret ?_
      rw [← Nat.add_assoc]
      exact k_ret TY_ok t rfl (by decide) rfl rfl rfl (fun _ _ _ => trivial) (fun _ _ => trivial)
/-- Two things that are owned, as one. -/
def StarR (R : List Res) : Res where
  holds w S := starL R w S
  keep := fun h hk => h.keep hk
  lt := fun h => h.lt
section
variable {f : FuncId} {args : List Value} {F : World → Prop} {α σ : Type} {post : Post α} {p : σ → Prop} {r : σ → Res} {R : List Res}
theorem Spec.openA (h : ∀ s, p s → Spec f args [r s] F post) : Spec f args [AnyR p r] F post := fun w S X hS hX hF => by
  obtain ⟨s, hp, hr⟩ := star1.1 hS
  exact h s hp w S X (star1.2 hr) hX hF
theorem Spec.openS (h : Spec f args R F post) : Spec f args [StarR R] F post := fun w S X hS hX hF => h w S X (star1.1 hS) hX hF
theorem k_pack {b : Base} {N : Nat} {E : SE} {L : List LV} {R1 R' : List Res} {M : World → Prop} {K : Act → World → Prop} (s : σ) (hp : p s) (hr : r s = StarR R1) (h : kS b K N ⟨E, L, AnyR p r :: R', F, M⟩) : kS b K N ⟨E, L, R1 ++ R', F, M⟩ := fun a w ⟨G, S, h1, h2, h3⟩ => by
  obtain ⟨S1, S2, k1, k2, k3, k4⟩ := starL.app.1 h3.res
  exact h a w ⟨G, S, h1, h2, { h3 with res := ⟨S1, S2, ⟨s, hp, by rw [hr]; exact k1⟩, k2, k3, k4⟩ }⟩
end
/-- The box with the pairs so far. -/
def ColR (g : Nat) (l : List HP) : Res := AnyR (fun _ : Option Addr × Nat => True) fun x => StarR [ObjS g 91 [.one (.v (.slice x.1 l.length x.2))], OwnS 0 62 1 feH x.1 x.2 l]
theorem feH_ok (x : HP) : OkP (feH x).parts1 ∧ (feH x).cl.length = 1 := ⟨fun p hp => by rw [List.mem_singleton.1 hp]; exact ⟨trivial, rfl, rfl⟩, rfl⟩
theorem own_each1 : Own 45 := fun _ _ => by go_simp
set_option maxRecDepth 100000 in
set_option maxHeartbeats 1000000 in
theorem each1_S {g h : Nat} {p : PairT} (l : List HP) (hl : l.length < 1000000) (JX : Res) (Fc : World → Prop) : Spec 45 [.pointer (some ⟨h, 0, none⟩), .pointer (some ⟨g, 0, none⟩)] [ColR g l] Fc (bpost (ColR g (l ++ [(h, p)])) JX) := by
  refine Spec.openA fun x _ => Spec.openS ?_
  refine spec_S [.c (.v (.pointer (some ⟨h, 0, none⟩))), .c (.v (.pointer (some ⟨g, 0, none⟩)))] 8 Tryd.func45 rfl (by rw [Tryd.ntmps45]; rfl) (two_ok trivial trivial) fun b => ?_
  refine s_auto TY_ok rfl ?_
  refine s_regA TY_ok rfl fun K hK => ?_
  refine l_ldO TY_ok rfl rfl rfl rfl rfl rfl (obj_own 0 rfl) ?_
  refine l_autoS TY_ok rfl ?_
  refine l_push TY_ok 1 ((h, p) : HP) rfl rfl rfl rfl rfl rfl rfl (feH_ok _) (by decide) (by decide) (by show (_ + 1) * 8 ≤ _; omega) (by omega) (Nat.zero_le _) fun A' c' => ?_
  refine l_stO TY_ok 0 rfl rfl rfl rfl rfl rfl rfl ?_
  refine s_end (hK _ ?_)
  refine s_auto TY_ok rfl ?_
  exact s_ret (k_pack (R1 := [ObjS g 91 [.one (.v (.slice A' (l ++ [(h, p)]).length c'))], OwnS 0 62 1 feH A' c' (l ++ [(h, p)])]) (R' := []) (A', c') trivial rfl (k_ret TY_ok true rfl (by decide) rfl rfl rfl (fun _ _ _ => trivial) (fun _ _ => trivial)))
section
variable {P : Program} {T : List TyR} {b : Base} {ops : Array Oper} {Q : Exit → Act → World → Prop} {N : Nat} {E : SE} {L : List LV} {R : List Res} {F M : World → Prop} {o : Oper} {rest : List Oper} {k sz bs : Nat} {t e : TypeId} {α β : Type} {fe : α → SQ} {f2 : β → SQ}
/-- make([]T, 0, n) -/
theorem l_makeC {x y : Operand} {K : IntKind} (hT : OkT P T) (lo : Nat) (n : Nat) (z : α) (hg : o.guard = none) (hd : o.dst = some k) (hk : Nat.blt k N = true) (ho : o.op = .makeSlice t x y) (hs : slS T t = some (e, sz, bs)) (hx : evS E x = some (.v (.int K 0))) (hy : evS E y = some (.v (.int K (n : Int))))
    (hz : (findT T e).map (fun r => (catP r.zero).toList) = some (fe z).cl) (hok : OkP (fe z).parts1 ∧ (fe z).cl.length = sz) (hb : bs * n ≤ 281474976710656) (hm : n ≤ 9223372036854775807) (hlo : lo ≤ b.B.heap.size)
    (hc : ∀ A, lS P b ops Q N rest ⟨(k, .v (.slice A 0 n)) :: E, L, OwnS lo e sz f2 A n [] :: R, F, M⟩) : lS P b ops Q N (o :: rest) ⟨E, L, R, F, M⟩ := fun a w ⟨G, S, h1, h2, h3⟩ => by
  obtain ⟨ht, ie, zz, hi, hzz, hsz, hbs, hzs, zs, _, hzc, r, hr1, hr2⟩ := slS_ok hT hs
  have hb' : (ie.bytes : Int) * (n : Int) ≤ 281474976710656 := by
    rw [hbs]
    have h : ((bs * n : Nat) : Int) ≤ 281474976710656 := by omega
    rwa [Int.natCast_mul] at h
  have hr := run_make (P := P) w t e ie zz ht hi hzz K K 0 n (by omega) (by omega) hb' (by omega)
  rw [hr1] at hz
  simp only [Option.map_some, Option.some.injEq] at hz
  have hfl := made_flat (fe := fe) zz.cells z (by rw [hzc, ← hr2]; exact hz) hzs n
  have e1 : madeCells zz.cells (n * ie.size) = (flatF fe (List.replicate n z)).toArray := by rw [hsz, ← hfl, Array.toArray_toList]
  simp only [Int.toNat_natCast] at hr
  rw [e1] at hr
  have e2 := h1.eval (evS_ok hx)
  have e3 := h1.eval (evS_ok hy)
  refine wpl_go (v := .slice (some ⟨w.heap.size, 0, none⟩) 0 n) (w' := w.alloc (.cells (flatF fe (List.replicate n z)).toArray e)) (oneS hg) (by
    unfold execOp
    simp only [ho, e2, e3, SV.den, SQ.den, SC.den, Sem.run_bind, hr, Result.andThen_ok, Sem.run_pure]
    rfl) ?_
  rw [hd]
  have hnew := OwnS.new (lo := lo) (e := e) (k := sz) (fe := fe) (l := List.replicate n z) w (Nat.le_trans hlo h3.chg.size) (fun x hx => by rw [(List.mem_replicate.1 hx).2]; exact hok) (by simpa using hm)
  rw [List.length_replicate] at hnew
  obtain ⟨_, c2, c3⟩ := OwnS.cut hnew 0
  have hnew2 : (OwnS lo e sz f2 (some ⟨w.heap.size, 0, none⟩) n []).holds (w.alloc (.cells (flatF fe (List.replicate n z)).toArray e)) _ := ⟨fun _ h => (by cases h), c2, c3⟩
  obtain ⟨S', h4⟩ := h3.gain ((Below.refl w.heap.size w).alloc (Nat.le_refl _) _) hnew2 (fun j hj => Nat.le_of_eq hj.symm)
  exact hc _ _ _ ⟨G, S', h1.put hk _, h2.cons trivial, h4⟩
end
/-- What can't be. -/
def NoR : Res where
  holds _ _ := False
  keep := fun h _ => h
  lt := fun h => h.elim
section
variable {b : Base} {N : Nat} {E : SE} {L : List LV} {R : List Res} {F M : World → Prop} {K : Act → World → Prop}
theorem k_noR : kS b K N ⟨E, L, NoR :: R, F, M⟩ := fun _ _ ⟨_, _, _, _, h3⟩ => by
  obtain ⟨_, _, h, _⟩ := h3.res
  exact h.elim
theorem k_openC {g : Nat} {l : List HP} (h : ∀ A c, kS b K N ⟨E, L, ObjS g 91 [.one (.v (.slice A l.length c))] :: OwnS 0 62 1 feH A c l :: R, F, M⟩) : kS b K N ⟨E, L, ColR g l :: R, F, M⟩ := fun a w ⟨G, S, h1, h2, h3⟩ => by
  obtain ⟨S1, S2, ⟨x, _, k1⟩, k2, k3, k4⟩ := h3.res
  have k1 : starL [ObjS g 91 [.one (.v (.slice x.1 l.length x.2))], OwnS 0 62 1 feH x.1 x.2 l] w S1 := k1
  exact h x.1 x.2 a w ⟨G, S, h1, h2, { h3 with res := starL.app.2 ⟨S1, S2, k1, k2, k3, k4⟩ }⟩
theorem k_freeF {lo e k c : Nat} {A : Option Addr} {α : Type} {fe : α → SQ} {l : List α} (i : Nat) (hi : R[i]? = some (OwnS lo e k fe A c l)) (h : kS b K N ⟨E, L, R.eraseIdx i, fun w => Rd k fe A c l w ∧ F w, M⟩) : kS b K N ⟨E, L, R, F, M⟩ := fun a w ⟨G, S, h1, h2, h3⟩ => by
  obtain ⟨S', h4⟩ := h3.free hi
  exact h a w ⟨G, S', h1, h2, h4⟩
end
set_option maxRecDepth 100000 in
set_option maxHeartbeats 2000000 in
/-- **each**, of a side. -/
theorem teachD_S {f : FuncId} (hf : Own f) (caps : List Value) (Fc : World → Prop) (JR : Nat → Res) (JX : Res) (t : TA) (d : Nat) (hd : d ≠ 0) (hs : SortT t.all) (hn : t.len < 256)
    (ht : ∀ (j : Nat) (p : PairT) (h : Nat), t.all[j]? = some p → Spec f (.pointer (some ⟨h, 0, none⟩) :: caps) [JR j] (fun w => ObjF h 64 (prPs p) w ∧ Fc w) (bpost (JR (j + 1)) JX)) :
    Spec 35 [(eTr t d).den, .func (.func f) #[] caps.toArray] [JR 0] (fun w => TF t w ∧ Fc w) (epost (JR t.all.length) JX) := by
  have hlen := t.allH_len
  refine spec_S [eTr t d, .c (.v (.func (.func f) #[] caps.toArray))] 34 Tryd.func35 rfl (by rw [Tryd.ntmps35]; rfl) (two_ok (trPs_ok t d) trivial) fun b => ?_
  refine s_auto TY_ok rfl ?_
  refine s_seq fun K hK => ?_
  refine s_auto TY_ok rfl ?_
  refine s_ifD ((d : Int) = 0) rfl (fun h => absurd h (by omega)) (fun _ => ?_)
  refine s_skip (hK _ ?_)
  refine s_regA TY_ok rfl fun K2 hK2 => ?_
  refine l_call0 [(eTr t d).den] rfl rfl rfl own_tLen rfl rfl (fun _ _ => rfl) (tLen_S t d) (fun _ h _ => h.1) fun _ => ?_
  refine l_makeC TY_ok 0 t.len () (fe := fun _ : Unit => .c (.v (.pointer none))) (f2 := feH) rfl rfl rfl rfl rfl rfl rfl rfl ⟨fun p hp => (by rw [List.mem_singleton.1 hp]; exact ⟨trivial, rfl, rfl⟩), rfl⟩ (by show 8 * _ ≤ _; omega) (by omega) (Nat.zero_le _) fun A => ?_
  refine l_autoS TY_ok rfl ?_
  refine l_give 4 (E' := [(1, .v (.func (.func f) #[] caps.toArray)), (2, .a 2 0)]) rfl ⟨rfl, rfl, trivial⟩ fun g => ?_
  refine s_end (k_pack (R1 := [ObjS g 91 [.one (.v (.slice A 0 t.len))], OwnS 0 62 1 feH A t.len []]) (R' := [JR 0]) (p := fun _ : Option Addr × Nat => True) (r := fun x => StarR [ObjS g 91 [.one (.v (.slice x.1 ([] : List HP).length x.2))], OwnS 0 62 1 feH x.1 x.2 []]) (A, t.len) trivial rfl (hK2 _ ?_))
  have hw := twalkH_S own_each1 [.pointer (some ⟨g, 0, none⟩)] (fun _ => True) (fun i => ColR g (t.allH.take i)) NoR t 0 fun j p h hj => by
    have e : t.allH.take (0 + j + 1) = t.allH.take (0 + j) ++ [(h, p)] := by
      rw [Nat.zero_add, List.take_add_one, hj]
      rfl
    rw [e]
    exact each1_S _ (Nat.lt_of_le_of_lt (List.length_take_le' _ _) (by omega)) _ _
  rw [Nat.zero_add, List.take_length] at hw
  refine s_regA TY_ok rfl fun K3 hK3 => ?_
  refine l_op (.v (.func (.func 45) #[] #[.pointer (some ⟨g, 0, none⟩)])) trivial rfl rfl rfl (run_makeF rfl rfl (fun _ => rfl)) ?_
  refine l_callA (own := [ColR g (t.allH.take 0)]) (R' := [JR 0]) [t.val, .func (.func 45) #[] #[.pointer (some ⟨g, 0, none⟩)]] rfl rfl rfl own_twalk rfl rfl (fun _ _ => rfl) hw (fun _ h _ => ⟨h.2.1, trivial⟩) fun x => ?_
  cases x with
  | false => exact s_end k_noR
  | true =>
  refine s_end (k_openC fun A' c' => k_objOut 0 rfl (k_freeF 0 rfl (hK3 _ ?_)))
  refine s_regA TY_ok rfl fun K4 hK4 => ?_
  refine l_ldO TY_ok rfl rfl rfl rfl rfl rfl (obj_fact fun _ h _ => h.2.1) ?_
  refine l_call0 [.slice A' t.allH.length c', cmpV] rfl rfl rfl own_sortF rfl rfl (fun _ _ => rfl) (sortF_S (hs := t.allH) (by rw [t.allH_all]; exact hs) (by omega)) (fun _ h _ => ⟨h.1, TF.objs h.2.2.2.2.1⟩) fun _ => ?_
  refine s_end (hK4 _ ?_)
  refine c_weak (e' := ⟨[(4, .v (.pointer (some ⟨g, 0, none⟩))), (1, .v (.func (.func f) #[] caps.toArray))], [], [JR 0], fun w => Rd 1 feH A' c' t.allH w ∧ ObjF g 91 [.one (.v (.slice A' t.allH.length c'))] w ∧ (∀ x ∈ t.allH, ObjF x.1 64 (prPs x.2) w) ∧ Fc w, fun _ => True⟩) ⟨⟨rfl, rfl, trivial⟩, trivial, .refl _, fun _ h _ => ⟨h.2.1, h.2.2.1, TF.objs h.2.2.2.2.2.1, h.2.2.2.2.2.2⟩, fun _ _ => trivial⟩ ?_
  have hallL : t.all.length = t.allH.length := by rw [← t.allH_all, List.length_map]
  rw [hallL]
  have hall : ∀ (j : Nat) (x : HP), t.allH[j]? = some x → t.all[j]? = some x.2 := fun j x hx => by
    rw [← t.allH_all, List.getElem?_map, hx]
    rfl
  have hlt256 : t.allH.length < 256 := by omega
  clear hw
  generalize t.allH = hs' at *
  refine s_regA TY_ok rfl fun K5 hK5 => ?_
  refine l_ldO TY_ok rfl rfl rfl rfl rfl rfl (obj_fact fun _ h _ => h.2.1) ?_
  refine l_autoS TY_ok rfl ?_
  refine s_end (hK5 _ ?_)
  refine s_block ?_
  let F : Nat → Env := fun i => ⟨[(25, .v (.int .i64 (i : Int))), (24, .v (.int .i64 (hs'.length : Int))), (23, .v (.slice A' hs'.length c')), (1, .v (.func (.func f) #[] caps.toArray))], [], [JR i], fun w => Rd 1 feH A' c' hs' w ∧ (∀ x ∈ hs', ObjF x.1 64 (prPs x.2) w) ∧ Fc w, fun _ => True⟩
  refine c_weak (e' := F 0) ⟨⟨rfl, rfl, rfl, rfl, trivial⟩, trivial, .refl _, fun _ h _ => ⟨h.1, h.2.2⟩, fun _ _ => trivial⟩ (s_loop (fun x => hs'.length - x) F (fun x => x ≤ hs'.length) ?_ 0 (Nat.zero_le _))
  intro i hi
  refine s_auto TY_ok rfl ?_
  refine s_seq fun K6 hK6 => ?_
  refine s_ifD ((i : Int) < (hs'.length : Int)) rfl (fun hlt => ?_) (fun hge => ?_)
  · have hlt : i < hs'.length := by omega
    obtain ⟨x, hx⟩ : ∃ x, hs'[i]? = some x := ⟨_, List.getElem?_eq_getElem hlt⟩
    have hxm := List.mem_of_getElem? hx
    have htell := ht i x.2 x.1 (hall i x hx)
    refine s_skip (hK6 _ ?_)
    refine s_seq fun K7 hK7 => ?_
    refine s_block ?_
    refine s_regA TY_ok rfl fun K8 hK8 => ?_
    refine l_elem TY_ok rfl rfl rfl i rfl hx rfl rfl (rd_fact fun _ h _ => h.1) ?_
    refine l_autoS TY_ok rfl ?_
    refine s_end (hK8 _ ?_)
    refine s_regA TY_ok rfl fun K9 hK9 => ?_
    refine l_callV (own := [JR i]) (R' := []) (.pointer (some ⟨x.1, 0, none⟩) :: caps) rfl rfl rfl hf rfl rfl rfl (fun _ _ => rfl) htell (fun _ h _ => ⟨h.2.1 x hxm, h.2.2⟩) fun q => ?_
    cases q with
    | true =>
      refine l_autoS TY_ok rfl ?_
      refine s_end (hK9 _ ?_)
      refine s_no rfl ?_
      refine s_skip (hK7 _ ?_)
      refine s_autoE TY_ok rfl ?_
      exact k_next (i + 1) hlt (by show hs'.length - (i + 1) < hs'.length - i; omega) ⟨⟨congrArg some (congrArg SV.v (congrArg (Value.int .i64) (wrapI rfl (by omega) (by omega)))), rfl, rfl, rfl, trivial⟩, trivial, .refl _, fun _ h _ => h.2, fun _ _ => trivial⟩
    | false =>
      refine l_autoS TY_ok rfl ?_
      refine s_end (hK9 _ ?_)
      refine s_yes rfl ?_
      exact s_ret (k_ret TY_ok false rfl (by decide) rfl rfl rfl (fun _ _ _ => trivial) (fun _ _ => trivial))
  · obtain rfl : i = hs'.length := by omega
    refine s_exit (k_pass (k_pass (k_out ?_)))
    exact k_ret TY_ok true rfl (by decide) rfl rfl rfl (fun _ _ _ => trivial) (fun _ _ => trivial)
end Go.Proofs.YtlaikmpnijlcbaaDoor
/-
  LISTED: the pairs of a tree or a side, one behind the other.
-/
namespace Go.Proofs.YtlaikmpnijlcbaaDoor
open Go.RowKit Go.IntWalk Nums

set_option maxRecDepth 100000 in
set_option maxHeartbeats 1000000 in
theorem tAll1X_S (l gb : Nat) (Fy : World → Prop) (JR : Nat → Res) (JX : Res) (t : TA) (d : Nat) (hs : SortT t.all) (hn : t.len < 256) (hy : ∀ (j : Nat) (p : PairT), t.all[j]? = some p → YSpec l (telA p) Fy (JR j) (JR (j + 1)) JX) :
    Spec 34 [.func (.yield l) #[] #[], .pointer (some ⟨gb, 0, none⟩)] [JR 0] (fun w => (ObjF gb 27 (trPs t d) w ∧ TF t w) ∧ Fy w) (epost (JR t.all.length) JX) := by
  by_cases hd : d = 0
  · subst hd
    exact tAll1_S l gb Fy JR JX t hy
  refine spec_S [.c (.v (.func (.yield l) #[] #[])), .c (.v (.pointer (some ⟨gb, 0, none⟩)))] 6 Tryd.func34 rfl (by rw [Tryd.ntmps34]; rfl) (two_ok trivial trivial) fun b => ?_
  refine s_regA TY_ok rfl fun K hK => ?_
  refine l_give 2 (E' := [(1, .v (.pointer (some ⟨gb, 0, none⟩)))]) rfl ⟨rfl, trivial⟩ fun g2 => ?_
  refine l_objOut 0 rfl ?_
  refine s_end (hK _ ?_)
  refine s_lit ?_
  refine l_ldO TY_ok rfl rfl rfl rfl rfl rfl (obj_fact fun _ h _ => h.2.1.1) ?_
  refine l_op (.v (.func (.func 36) #[] #[.pointer (some ⟨g2, 0, none⟩)])) trivial rfl rfl rfl (run_makeF rfl rfl (fun _ => rfl)) ?_
  refine l_callA (own := [JR 0]) (R' := []) [(eTr t d).den, .func (.func 36) #[] #[.pointer (some ⟨g2, 0, none⟩)]] rfl rfl rfl own_teach rfl rfl (fun _ _ => rfl) (teachD_S own_tAll11 [.pointer (some ⟨g2, 0, none⟩)] (fun w => ObjF g2 59 (ylPs l) w ∧ Fy w) JR JX t d hd hs hn fun j p h hj => ttell_S (hy j p hj)) (fun _ h _ => ⟨h.2.1.2, h.1, h.2.2⟩) fun x => ?_
  refine s_end ?_
  exact k_ret TY_ok x rfl (by decide) rfl rfl rfl (fun _ _ _ => trivial) (fun _ _ => trivial)
theorem d_nil0 {ds : List Deferred} {b : Base} {Q : Exit → Act → World → Prop} {N : Nat} {E : SE} {L : List LV} {R : List Res} {F M : World → Prop} {c : Code} {α : Type} (lo e sz : Nat) (fe : α → SQ) (h : dS ds b c Q N ⟨E, L, OwnS lo e sz fe none 0 [] :: R, F, M⟩) : dS ds b c Q N ⟨E, L, R, F, M⟩ := fun a w ⟨G, S, h1, h2, h3⟩ => by
  obtain ⟨S', h4⟩ := h3.gain (Below.refl _ _) (OwnS.nil lo e sz fe w) (fun _ h => h.elim)
  exact h a w ⟨G, S', h1, h2, h4⟩
theorem own_tlisted : Own 20 := fun _ _ => by go_simp
set_option maxRecDepth 100000 in
set_option maxHeartbeats 2000000 in
theorem tlisted_S (t : TA) (d : Nat) (hs : SortT t.all) (hn : t.len < 256) (hok : ∀ p ∈ t.all, OkT2 p) : Spec 20 [(eTr t d).den] [] (TF t) { ret := fun x : PX => .v (.slice x.1 t.all.length x.2), own := fun _ => [], n := fun x => Rd 64 eP x.1 x.2 t.all } := by
  refine spec_D [eTr t d] 17 Tryd.func20 rfl (by rw [Tryd.ntmps20]; rfl) (one_ok (trPs_ok t d)) fun b => ?_
  have hlen := t.all_len
  refine d_auto TY_ok rfl ?_
  refine d_auto TY_ok rfl ?_
  refine d_seqD fun K3 hK3 => ?_
  refine d_regA TY_ok rfl fun K4 hK4 => ?_
  refine l_call0 [(eTr t d).den] rfl rfl rfl own_tAll rfl rfl (fun _ _ => rfl) (tAll_S t d) (fun _ _ _ => trivial) fun gb => ?_
  refine d_end (hK4 _ ?_)
  refine d_block ?_
  refine d_nil0 b.B.heap.size 32 64 eP ?_
  let E0 : SE := [(7, .v (.func (.func 34) #[] #[.pointer (some ⟨gb, 0, none⟩)])), (3, .a 3 0), (1, .a 1 0)]
  let Lf : Nat × Option Addr × Nat → List LV := fun x => [⟨3, none, 22, [.one (.v (.slice x.2.1 (t.all.take x.1).length x.2.2))]⟩, ⟨1, none, 27, trPs t d⟩]
  let Rf : Nat × Option Addr × Nat → List Res := fun x => [OwnS b.B.heap.size 32 64 eP x.2.1 x.2.2 (t.all.take x.1)]
  refine d_weak (e' := ⟨E0, Lf (0, none, 0), Rf (0, none, 0), fun w => ObjF gb 27 (trPs t d) w ∧ TF t w, fun _ => True⟩) ⟨⟨rfl, rfl, rfl, trivial⟩, ⟨rfl, rfl, rfl, rfl, trivial⟩, .refl _, fun _ h _ => h, fun _ _ => trivial⟩ ?_
  refine d_rangeB t.all (fun p => eY 32 p.1) (fun p => eY 32 p.2) Lf Rf (fun j s => s.1 = j) (fun _ _ => False) (0, none, 0) (fun w => ObjF gb 27 (trPs t d) w ∧ TF t w) (lb := [.pointer (some ⟨gb, 0, none⟩)]) rfl own_tAll1 (fun _ => rfl) (fun x hx => ⟨(eY_ok (hok x hx).1).1, (eY_ok (hok x hx).2).1⟩) rfl rfl (fun _ h _ => h) (fun y Fy JR JX hy => tAll1X_S y gb Fy JR JX t d hs hn hy) rfl ?_ ?_ (fun _ _ _ h => h.elim)
  · rintro G y D m ready busy b1 j ⟨j', A, c⟩ p hle hj hp K5 hK5
    dsimp only at hj
    subst hj
    have hp2 := hok p (List.mem_of_getElem? hp)
    have hlt := (List.getElem?_eq_some_iff.1 hp).1
    have hll : (t.all.take j').length ≤ 256 := Nat.le_trans (List.length_take_le' _ _) (by omega)
    have htk : t.all.take (j' + 1) = t.all.take j' ++ [p] := by
      rw [List.take_add_one, hp]
      rfl
    refine r_auto rfl TY_ok rfl ?_
    refine r_autoE rfl TY_ok rfl ?_
    refine hK5 _ _ _ _ _ ?_
    refine r_block ?_
    refine r_lit rfl ?_
    refine l_autoS TY_ok rfl ?_
    refine l_push TY_ok 2 p rfl rfl rfl rfl rfl rfl rfl (eP_ok hp2) (by decide) (by decide) (by show ((t.all.take j').length + 1) * 64 ≤ _; omega) (by show (t.all.take j').length < _; omega) hle fun A2 c2 => ?_
    refine l_autoS TY_ok rfl ?_
    refine s_end ?_
    refine k_rnd (Ix := fun _ _ => False) (j' + 1, A2, c2) rfl ?_
    dsimp only [Lf, Rf]
    rw [htk]
    exact ⟨trivial, ⟨rfl, rfl, rfl, rfl, trivial⟩, .refl _, fun _ _ _ => trivial, fun _ _ => trivial⟩
  · rintro ⟨j', A, c⟩ D hj
    dsimp only at hj
    subst hj
    refine hK3 _ _ ?_
    dsimp only [Lf, Rf]
    rw [List.take_length]
    refine d_auto TY_ok rfl ?_
    refine d_ret (k_retM [D] (R := [OwnS b.B.heap.size 32 64 eP A c t.all]) ?_)
    refine k_freeM 0 rfl (Nat.le_refl _) ?_
    exact k_ret TY_ok (A, c) rfl (by decide) rfl rfl rfl (fun _ _ _ => trivial) (fun _ h => h.1)
end Go.Proofs.YtlaikmpnijlcbaaDoor
/-
  TREENODES, plain: a pair is found on one side alone; sides' sizes.
-/
namespace Go.Proofs.YtlaikmpnijlcbaaDoor
open Nums

theorem side_left {n : Nat} {l : List PairT} {p : PairT} (hs : SortT l) (hp : p ∈ l) (hb : bitT p.1 n = 0) : getT (leftT n l) p.1 = some p.2 ∧ getT (rightT n l) p.1 = none := by
  refine ⟨(getT_some (hs.filter _)).2 (leftT_mem.2 ⟨hp, hb⟩), getT_none.2 fun q hq e => ?_⟩
  have := (rightT_mem.1 hq).2
  rw [e] at this
  exact this hb
theorem side_right {n : Nat} {l : List PairT} {p : PairT} (hs : SortT l) (hp : p ∈ l) (hb : bitT p.1 n ≠ 0) : getT (rightT n l) p.1 = some p.2 ∧ getT (leftT n l) p.1 = none := by
  refine ⟨(getT_some (hs.filter _)).2 (rightT_mem.2 ⟨hp, hb⟩), getT_none.2 fun q hq e => ?_⟩
  have := (leftT_mem.1 hq).2
  rw [e] at this
  exact hb this
/-- The law's state: a node at a depth, its pairs. -/
structure NodeT (r : Nat) (o : List PairT) (t : TA) : Prop where
  ok : TOk r o t
  sort : SortT o
  pairs : ∀ p ∈ o, OkT2 p
  shares : SharesT (256 - r) o
  le : r ≤ 256
theorem NodeT.keys {r : Nat} {o : List PairT} {t : TA} (h : NodeT r o t) : KeysT o := fun p hp => (h.pairs p hp).1
theorem NodeT.all {r : Nat} {o : List PairT} {t : TA} (h : NodeT r o t) : t.all = o := h.ok.all_eq h.sort h.keys h.shares h.le
theorem NodeT.sides {r g : Nat} {o : List PairT} {a c : TA} (h : NodeT r o (.node g a c)) : ∃ q, r = q + 1 ∧ NodeT q (leftT (255 - q) o) a ∧ NodeT q (rightT (255 - q) o) c ∧ 2 ≤ o.length := by
  obtain ⟨h1, h2, h3, h4, h5⟩ := h
  cases r with
  | zero => exact h1.elim
  | succ q =>
    obtain ⟨k0, k1, k2⟩ := h1
    have e : 256 - (q + 1) = 255 - q := by omega
    have e2 : 255 - q + 1 = 256 - q := by omega
    rw [e] at h4
    have hl := h4.left
    have hr := h4.right
    rw [e2] at hl hr
    exact ⟨q, rfl, ⟨k1, h2.filter _, fun p hp => h3 p (leftT_mem.1 hp).1, hl, by omega⟩, ⟨k2, h2.filter _, fun p hp => h3 p (rightT_mem.1 hp).1, hr, by omega⟩, k0⟩
end Go.Proofs.YtlaikmpnijlcbaaDoor
