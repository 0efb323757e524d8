/-
  SEVERAL TEXTS IN ONE: Vy, Wb, Wd, Curve, Root.
-/
import Derived.Test.YtlaikmpnijlcbaaDoorMg
/-
  DRAWN REGIONS WITH MEMORY, over states: any operations that only read may be taken first, the others in their order.
-/
namespace Go.Proofs.YtlaikmpnijlcbaaDoor
open Go.RowKit Go.IntWalk

section
variable {P : Program} {ops : Array Oper} {Q : Exit → Act → World → Prop} {Inv : World → Prop}
def wpAnyP (P : Program) (ops : Array Oper) (Q : Exit → Act → World → Prop) (Inv : World → Prop) (p : Nat → Bool) (Fin : Array Bool → Act → World → Prop) : Nat → Array Bool → Act → World → Prop
  | 0, listed, a, w => (∀ j ∈ Region.ready .any ops listed, ∀ i, p i = true → waitsT .any ops ops.size j i = true) ∧ Fin listed a w
  | fuel + 1, listed, a, w => Region.ready .any ops listed ≠ [] ∧ ∀ i ∈ Region.ready .any ops listed, wpOp P ops Q i (fun a' w' => Inv w' ∧ wpAnyP P ops Q Inv p Fin fuel (listed.setIfInBounds i true) a' w') a w
/-- The rest, whatever the order. -/
abbrev FinA (P : Program) (ops : Array Oper) (Q : Exit → Act → World → Prop) (m : Nat) : Array Bool → Act → World → Prop := fun listed a w => wpAny P .any ops Q m listed a w
theorem wpAny_of_P {p : Nat → Bool} {m : Nat} : ∀ (fuel : Nat) (listed : Array Bool) (a : Act) (w : World), wpAnyP P ops Q Inv p (FinA P ops Q m) fuel listed a w → wpAny P .any ops Q (m + fuel) listed a w
  | 0, _, _, _, h => h.2
  | fuel + 1, _, _, _, h => ⟨fun h0 => absurd h0 h.1, fun i hi => wpOp_mono (fun a' w' h' => wpAny_of_P fuel _ a' w' h'.2) (h.2 i hi)⟩
theorem P_first {p : Nat → Bool} {Fin : Array Bool → Act → World → Prop} {i : Nat} {oi : Oper} {v : Value} (hin : p i = true) (hi : ops[i]? = some oi) (hst : stillG oi.op = true) (hsel : ∀ (j : Nat) (o : Oper) cs b, ops[j]? = some o → o.op ≠ .select cs b) (hQ : ∀ c a d v w, Q (.panic c) (a.put d v) w → Q (.panic c) a w) :
    ∀ (fuel : Nat) (listed : Array Bool) (a : Act) (w : World), Inv w → Closed .any ops listed →
      (∀ j oj, ops[j]? = some oj → j ≠ i → listed.getD j true = false → (∀ e ∈ oj.after, Region.binds .any e = true → e.on ≠ i) → oi.apart ops oj = true) →
      i ∈ Region.ready .any ops listed → YieldsB P ops Inv oi (· = v) a → wpAnyP P ops Q Inv p Fin fuel (listed.setIfInBounds i true) (a.put oi.dst v) w → wpAnyP P ops Q Inv p Fin (fuel + 1) listed a w := by
  intro fuel
  induction fuel with
  | zero =>
    intro listed a w hC hcs _ hr hy H
    refine ⟨fun h => (by rw [h] at hr; cases hr), fun j hj => ?_⟩
    by_cases hji : j = i
    · subst hji
      exact still_wpOp hi hst hy hC ⟨hC, H⟩
    · have h1 := H.1 j (ready_mono hj hji) i hin
      obtain ⟨_, oj, hoj, hall⟩ := mem_ready.1 hj
      have h6 := hcs.waits _ j i oj hoj hall h1
      rw [getD_ready hr] at h6
      cases h6
  | succ fuel ih =>
    intro listed a w hC hcs hfree hr hy H
    refine ⟨fun h => (by rw [h] at hr; cases hr), fun j hj => ?_⟩
    by_cases hji : j = i
    · subst hji
      exact still_wpOp hi hst hy hC ⟨hC, H⟩
    · obtain ⟨hjun, oj, hoj, hall⟩ := mem_ready.1 hj
      have hnot : ∀ e ∈ oj.after, Region.binds .any e = true → e.on ≠ i := fun e he hb heq => by
        have h1 := hall e he hb
        rw [heq, getD_ready hr] at h1
        cases h1
      have h2 := wpOp_putB (V := (· = v)) hoj (hfree j oj hoj hji hjun hnot) (fun cs b => hsel i oi cs b hi) (fun cs b => hsel j oj cs b hoj) ⟨v, rfl⟩ (.inr ⟨v, fun _ h => h⟩) hQ hy (fun u hu => by
        subst hu
        exact H.2 j (ready_mono hj hji))
      have hun' : ∀ k, (listed.setIfInBounds j true).getD k true = false → listed.getD k true = false := fun k hun => by
        by_cases hjk : j = k
        · subst hjk; exact hjun
        · rw [getD_set_ne true hjk] at hun; exact hun
      refine wpOp_mono (fun a' w' h3 => ?_) h2
      obtain ⟨hy', h4⟩ := h3
      obtain ⟨hC', h5⟩ := h4 v rfl
      refine ⟨hC', ih (listed.setIfInBounds j true) a' w' hC' (hcs.set hj) (fun k ok hk hki hun hno => hfree k ok hk hki (hun' k hun) hno) (ready_mono hr (Ne.symm hji)) hy' ?_⟩
      rw [Array.setIfInBounds_comm _ _ hji]
      exact h5
end
def pS (P : Program) (b : Base) (Q : Exit → Act → World → Prop) (N : Nat) (ops : Array Oper) (Inv : World → Prop) (p : Nat → Bool) (Fin : Array Bool → Act → World → Prop) (fuel : Nat) (listed : Array Bool) (e : Env) : Prop := Closed .any ops listed → ∀ a w, St b N e a w → Inv w → wpAnyP P ops (NoPanic Q) Inv p Fin fuel listed a w
/-- May it be taken here, ahead of all that is left? -/
def frontP (ops : Array Oper) (p : Nat → Bool) (i : Nat) (listed : Array Bool) : Bool := p i && (Region.ready .any ops listed).contains i && Region.free .any ops listed i && Region.noSelect ops
section
variable {P : Program} {T : List TyR} {b : Base} {ops : Array Oper} {Q : Exit → Act → World → Prop} {N fuel : Nat} {p : Nat → Bool} {Fin : Array Bool → Act → World → Prop} {listed : Array Bool} {E : SE} {L L0 : List LV} {R : List Res} {F M : World → Prop} {Inv : World → Prop} {e : Env}
theorem panic_putP : ∀ c (a : Act) d v w, NoPanic Q (.panic c) (a.put d v) w → NoPanic Q (.panic c) a w := fun _ _ _ _ _ h => h
/-- A step that only reads is taken first. -/
theorem p_front {o : Oper} {k : Nat} {v : SV} (hT : OkT P T) (i : Nat) (hc : frontP ops p i listed = true) (ho : ops[i]? = some o) (hg : o.guard = none) (hd : o.dst = some k) (hk : Nat.blt k N = true) (hs : stillG o.op = true) (hv : stepS T E L0 o.op = some v) (hsub : ∀ x ∈ L0, x ∈ L)
    (hn : pS P b Q N ops (InvL L0) p Fin fuel (listed.setIfInBounds i true) ⟨(k, v) :: E, L, R, F, M⟩) : pS P b Q N ops (InvL L0) p Fin (fuel + 1) listed ⟨E, L, R, F, M⟩ := fun hcs a w hst hI => by
  obtain ⟨G, S, h1, h2, h3⟩ := hst
  simp only [frontP, Bool.and_eq_true] at hc
  obtain ⟨⟨⟨hin, hr⟩, hfr⟩, hsel⟩ := hc
  have hr' : i ∈ Region.ready .any ops listed := by simpa using hr
  obtain ⟨h4, h5⟩ := stepS_ok hT h2 (fun x hx => (h3.var x (hsub x hx)).2.1) hv
  have h6 := hn (hcs.set hr') (a.put (some k) (v.den G)) w ⟨G, S, h1.put hk _, h2.cons h4, h3⟩ hI
  refine P_first hin ho hs (Region.noSelect_spec hsel) panic_putP fuel listed a w hI hcs (Region.free_spec ho hfr) hr' (v := v.den G) (.inl ⟨by simp [Region.wanted, hg], fun w' hw' => ?_⟩) (by rw [hd]; exact h6)
  unfold atB
  rw [h5 h1 fun x hx => by
    obtain ⟨g, e1, e2⟩ := hw' x hx
    rw [(h3.var x (hsub x hx)).2.2 g e1]
    exact e2]
  exact ⟨rfl, rfl⟩
/-- A step whose value hangs on the frame alone is taken first. -/
theorem p_frontO {o : Oper} {k : Nat} (v : SV) (hvo : v.Ok) (i : Nat) (hc : frontP ops p i listed = true) (ho : ops[i]? = some o) (hg : o.guard = none) (hd : o.dst = some k) (hk : Nat.blt k N = true) (hs : stillG o.op = true) (hv : ∀ (G : Nat → Nat) (a : Act) (w : World), Fr N (denE G E) a → (execOp a.eval o).run P w = .ok (.value (v.den G)) w)
    (hn : pS P b Q N ops Inv p Fin fuel (listed.setIfInBounds i true) ⟨(k, v) :: E, L, R, F, M⟩) : pS P b Q N ops Inv p Fin (fuel + 1) listed ⟨E, L, R, F, M⟩ := fun hcs a w hst hI => by
  obtain ⟨G, S, h1, h2, h3⟩ := hst
  simp only [frontP, Bool.and_eq_true] at hc
  obtain ⟨⟨⟨hin, hr⟩, hfr⟩, hsel⟩ := hc
  have hr' : i ∈ Region.ready .any ops listed := by simpa using hr
  have h6 := hn (hcs.set hr') (a.put (some k) (v.den G)) w ⟨G, S, h1.put hk _, h2.cons hvo, h3⟩ hI
  refine P_first hin ho hs (Region.noSelect_spec hsel) panic_putP fuel listed a w hI hcs (Region.free_spec ho hfr) hr' (v := v.den G) (.inl ⟨by simp [Region.wanted, hg], fun w' _ => ?_⟩) (by rw [hd]; exact h6)
  unfold atB
  rw [hv G a w' h1]
  exact ⟨rfl, rfl⟩
theorem p_weak {e' : Env} (hw : Weak e e') (h : pS P b Q N ops Inv p Fin fuel listed e') : pS P b Q N ops Inv p Fin fuel listed e := fun hcs a w hst hI => h hcs a w (hst.weak hw) hI
/-- The only one that may come next. -/
theorem p_step {o : Oper} (i : Nat) (hr : Region.ready .any ops listed = [i]) (ho : ops[i]? = some o) (h : ∀ K : Act → World → Prop, (∀ e', (∀ a w, St b N e' a w → Inv w) → pS P b Q N ops Inv p Fin fuel (listed.setIfInBounds i true) e' → kS b K N e') → lS P b ops (Exit.then K (NoPanic Q)) N [o] e) : pS P b Q N ops Inv p Fin (fuel + 1) listed e := fun hcs a w hst _ =>
  ⟨by rw [hr]; simp, fun j hj => by
    rw [hr, List.mem_singleton] at hj
    subst hj
    have hcs' := hcs.set (i := j) (by rw [hr]; simp)
    exact wpOp_of_list ho (h (fun a' w' => Inv w' ∧ wpAnyP P ops (NoPanic Q) Inv p Fin fuel (listed.setIfInBounds j true) a' w') (fun e' hI' ha a' w' hs' => ⟨hI' a' w' hs', ha hcs' a' w' hs' (hI' a' w' hs')⟩) a w hst)⟩
/-- Either of two may come next. -/
theorem p_step2 {o o' : Oper} (i i' : Nat) (hr : Region.ready .any ops listed = [i, i']) (ho : ops[i]? = some o) (ho' : ops[i']? = some o')
    (h : ∀ K : Act → World → Prop, (∀ e', (∀ a w, St b N e' a w → Inv w) → pS P b Q N ops Inv p Fin fuel (listed.setIfInBounds i true) e' → kS b K N e') → lS P b ops (Exit.then K (NoPanic Q)) N [o] e)
    (h' : ∀ K : Act → World → Prop, (∀ e', (∀ a w, St b N e' a w → Inv w) → pS P b Q N ops Inv p Fin fuel (listed.setIfInBounds i' true) e' → kS b K N e') → lS P b ops (Exit.then K (NoPanic Q)) N [o'] e) : pS P b Q N ops Inv p Fin (fuel + 1) listed e := fun hcs a w hst _ =>
  ⟨by rw [hr]; simp, fun j hj => by
    rw [hr] at hj
    have key : ∀ (i : Nat) (o : Oper), i ∈ Region.ready .any ops listed → ops[i]? = some o → (∀ K : Act → World → Prop, (∀ e', (∀ a w, St b N e' a w → Inv w) → pS P b Q N ops Inv p Fin fuel (listed.setIfInBounds i true) e' → kS b K N e') → lS P b ops (Exit.then K (NoPanic Q)) N [o] e) → wpOp P ops (NoPanic Q) i (fun a' w' => Inv w' ∧ wpAnyP P ops (NoPanic Q) Inv p Fin fuel (listed.setIfInBounds i true) a' w') a w := fun i o hi ho h =>
      wpOp_of_list ho (h (fun a' w' => Inv w' ∧ wpAnyP P ops (NoPanic Q) Inv p Fin fuel (listed.setIfInBounds i true) a' w') (fun e' hI' ha a' w' hs' => ⟨hI' a' w' hs', ha (hcs.set hi) a' w' hs' (hI' a' w' hs')⟩) a w hst)
    rcases List.mem_cons.1 hj with rfl | hj
    · exact key _ o (by rw [hr]; simp) ho h
    · rw [List.mem_singleton] at hj
      subst hj
      exact key _ o' (by rw [hr]; simp) ho' h'⟩

/-- What can be seen, taken first: whatever the worlds with Inv say. -/
theorem p_frontI {o : Oper} {k : Nat} (v : SV) (hvo : v.Ok) (i : Nat) (hc : frontP ops p i listed = true) (ho : ops[i]? = some o) (hg : o.guard = none) (hd : o.dst = some k) (hk : Nat.blt k N = true) (hs : stillG o.op = true) (hv : ∀ (G : Nat → Nat) (a : Act) (w : World), Fr N (denE G E) a → Inv w → (execOp a.eval o).run P w = .ok (.value (v.den G)) w)
    (hn : pS P b Q N ops Inv p Fin fuel (listed.setIfInBounds i true) ⟨(k, v) :: E, L, R, F, M⟩) : pS P b Q N ops Inv p Fin (fuel + 1) listed ⟨E, L, R, F, M⟩ := fun hcs a w hst hI => by
  obtain ⟨G, S, h1, h2, h3⟩ := hst
  simp only [frontP, Bool.and_eq_true] at hc
  obtain ⟨⟨⟨hin, hr⟩, hfr⟩, hsel⟩ := hc
  have hr' : i ∈ Region.ready .any ops listed := by simpa using hr
  have h6 := hn (hcs.set hr') (a.put (some k) (v.den G)) w ⟨G, S, h1.put hk _, h2.cons hvo, h3⟩ hI
  refine P_first hin ho hs (Region.noSelect_spec hsel) panic_putP fuel listed a w hI hcs (Region.free_spec ho hfr) hr' (v := v.den G) (.inl ⟨by simp [Region.wanted, hg], fun w' hw' => ?_⟩) (by rw [hd]; exact h6)
  unfold atB
  rw [hv G a w' h1 hw']
  exact ⟨rfl, rfl⟩
theorem p_frontS {o : Oper} {k : Nat} {v : SV} (hT : OkT P T) (i : Nat) (hc : frontP ops p i listed = true) (ho : ops[i]? = some o) (hg : o.guard = none) (hd : o.dst = some k) (hk : Nat.blt k N = true) (hs : stillG o.op = true) (hv : stepS T E L0 o.op = some v) (hsub : ∀ x ∈ L0, x ∈ L) (hI : ∀ w, Inv w → InvL L0 w)
    (hn : pS P b Q N ops Inv p Fin fuel (listed.setIfInBounds i true) ⟨(k, v) :: E, L, R, F, M⟩) : pS P b Q N ops Inv p Fin (fuel + 1) listed ⟨E, L, R, F, M⟩ := fun hcs a w hst hI0 => by
  obtain ⟨G, S, h1, h2, h3⟩ := hst
  simp only [frontP, Bool.and_eq_true] at hc
  obtain ⟨⟨⟨hin, hr⟩, hfr⟩, hsel⟩ := hc
  have hr' : i ∈ Region.ready .any ops listed := by simpa using hr
  obtain ⟨h4, h5⟩ := stepS_ok hT h2 (fun x hx => (h3.var x (hsub x hx)).2.1) hv
  have h6 := hn (hcs.set hr') (a.put (some k) (v.den G)) w ⟨G, S, h1.put hk _, h2.cons h4, h3⟩ hI0
  refine P_first hin ho hs (Region.noSelect_spec hsel) panic_putP fuel listed a w hI0 hcs (Region.free_spec ho hfr) hr' (v := v.den G) (.inl ⟨by simp [Region.wanted, hg], fun w' hw' => ?_⟩) (by rw [hd]; exact h6)
  unfold atB
  rw [h5 h1 fun x hx => by
    obtain ⟨g, e1, e2⟩ := hI w' hw' x hx
    rw [(h3.var x (hsub x hx)).2.2 g e1]
    exact e2]
  exact ⟨rfl, rfl⟩
theorem p_frontA {o : Oper} {k : Nat} (v : SV) (hvo : v.Ok) (i : Nat) (hc : frontP ops p i listed = true) (ho : ops[i]? = some o) (hg : o.guard = none) (hd : o.dst = some k) (hk : Nat.blt k N = true) (hs : stillG o.op = true) (hsub : ∀ x ∈ L0, x ∈ L) (hI : ∀ w, Inv w → InvL L0 w)
    (hv : ∀ (G : Nat → Nat) (a : Act) (w : World), Fr N (denE G E) a → LAt G L0 w → (execOp a.eval o).run P w = .ok (.value (v.den G)) w)
    (hn : pS P b Q N ops Inv p Fin fuel (listed.setIfInBounds i true) ⟨(k, v) :: E, L, R, F, M⟩) : pS P b Q N ops Inv p Fin (fuel + 1) listed ⟨E, L, R, F, M⟩ := fun hcs a w hst hI0 => by
  obtain ⟨G, S, h1, h2, h3⟩ := hst
  simp only [frontP, Bool.and_eq_true] at hc
  obtain ⟨⟨⟨hin, hr⟩, hfr⟩, hsel⟩ := hc
  have hr' : i ∈ Region.ready .any ops listed := by simpa using hr
  have h6 := hn (hcs.set hr') (a.put (some k) (v.den G)) w ⟨G, S, h1.put hk _, h2.cons hvo, h3⟩ hI0
  refine P_first hin ho hs (Region.noSelect_spec hsel) panic_putP fuel listed a w hI0 hcs (Region.free_spec ho hfr) hr' (v := v.den G) (.inl ⟨by simp [Region.wanted, hg], fun w' hw' => ?_⟩) (by rw [hd]; exact h6)
  unfold atB
  rw [hv G a w' h1 fun x hx => by
    obtain ⟨g, e1, e2⟩ := hI w' hw' x hx
    rw [(h3.var x (hsub x hx)).2.2 g e1]
    exact e2]
  exact ⟨rfl, rfl⟩
/-- A cell of a variable. -/
theorem runO_ldL {o : Oper} {t : TypeId} {x : Operand} {j off : Nat} {d : TypeDesc} {ps : List Pt} (v : Value) (ho : o.op = .load t x) (hx : evS E x = some (.a j off)) (hl : lookL L0 j = some ps) (hv : (catP ps)[off]? = some v) (hu : P.underlying t = some d) (hr : d.isRow = false) :
    ∀ (G : Nat → Nat) (a : Act) (w : World), Fr N (denE G E) a → LAt G L0 w → (execOp a.eval o).run P w = .ok (.value ((SV.v v).den G)) w := fun G a w ha hw => by
  have h1 : a.eval x = .pointer (some ⟨G j, off, none⟩) := ha.eval (evS_ok hx)
  obtain ⟨u, hu2, rfl, hps⟩ := lookL_mem hl
  have h2 := (hw u hu2).cell off
  rw [hps, hv] at h2
  have h3 := run_load_cell hu hr h2
  unfold execOp
  simp only [ho, h1, Sem.run_bind, h3, Result.andThen_ok, Sem.run_pure]
  rfl
/-- What lies behind a pointer, taken first. -/
theorem p_ldO {o : Oper} {k : Nat} {t ty : TypeId} {x : Operand} {g off : Nat} {ps : List Pt} {q : SQ} (hT : OkT P T) (i : Nat) (hc : frontP ops p i listed = true) (ho : ops[i]? = some o) (hg : o.guard = none) (hd : o.dst = some k) (hk : Nat.blt k N = true) (hop : o.op = .load t x) (hx : evS E x = some (.v (.pointer (some ⟨g, off, none⟩)))) (hl : loadS T ps t off = some q) (hok : OkP ps) (hI : ∀ w, Inv w → ObjF g ty ps w)
    (hn : pS P b Q N ops Inv p Fin fuel (listed.setIfInBounds i true) ⟨(k, .q q) :: E, L, R, F, M⟩) : pS P b Q N ops Inv p Fin (fuel + 1) listed ⟨E, L, R, F, M⟩ :=
  p_frontI (.q q) (loadS_at hT hok hl).1 i hc ho hg hd hk (by rw [hop]; rfl) (fun _ _ w ha hw => (load_obj hT hop hx hl ha (hI w hw)).2) hn
theorem inv_two {E' : SE} {L' : List LV} {R' : List Res} {F' M' : World → Prop} {p : World → Prop} (hsub : ∀ x ∈ L0, x ∈ L' ∧ x.g.isSome = true) (hp : ∀ w, F' w → M' w → p w) : ∀ a w, St b N ⟨E', L', R', F', M'⟩ a w → InvL L0 w ∧ p w := fun a w hst => by
  refine ⟨?_, ?_⟩
  · obtain ⟨G, S, _, _, h3⟩ := hst
    intro x hx
    obtain ⟨h1, h2⟩ := hsub x hx
    obtain ⟨g, hg⟩ := Option.isSome_iff_exists.1 h2
    have h4 := h3.var x h1
    refine ⟨g, hg, ?_⟩
    rw [← h4.2.2 g hg]
    exact h4.1
  · obtain ⟨G, S, _, _, h3⟩ := hst
    exact hp w h3.view.fact h3.view.fresh
/-! ### The rest in its order -/
def forcedJ (ops : Array Oper) : List Nat → Array Bool → Bool
  | [], listed => (Region.ready .any ops listed).isEmpty
  | k :: ks, listed => decide (Region.ready .any ops listed = [k]) && forcedJ ops ks (listed.setIfInBounds k true)
/-- The operations of these numbers. -/
def opsJ (l : List Oper) : List Nat → List Oper
  | [] => []
  | k :: ks => match l[k]? with
    | some o => o :: opsJ l ks
    | none => []
theorem wpAny_forcedJ {l : List Oper} : ∀ (ks : List Nat) (listed : Array Bool) (a : Act) (w : World), (∀ k ∈ ks, k < l.length) → forcedJ l.toArray ks listed = true →
    wpList P l.toArray Q (opsJ l ks) a w → wpAny P .any l.toArray Q ks.length listed a w
  | [], _, _, _, _, hB, h => ⟨by simpa [forcedJ] using hB, h⟩
  | k :: ks, listed, a, w, hl, hB, h => by
    obtain ⟨o, ho⟩ : ∃ o, l[k]? = some o := ⟨_, List.getElem?_eq_getElem (hl k List.mem_cons_self)⟩
    have h0 : l.toArray[k]? = some o := by simpa using ho
    simp only [forcedJ, Bool.and_eq_true, decide_eq_true_eq] at hB
    obtain ⟨hr, hB'⟩ := hB
    unfold opsJ at h
    rw [ho] at h
    dsimp only at h
    refine ⟨fun e => (by rw [hr] at e; cases e), fun i hi => ?_⟩
    rw [hr, List.mem_singleton] at hi
    subst hi
    have hl' : ∀ j ∈ ks, j < l.length := fun j hj => hl j (List.mem_cons_of_mem _ hj)
    unfold wpOp
    simp only [h0]
    unfold wpList at h
    split
    · rename_i hw
      simp only [hw, if_true] at h
      exact h.imp (Oper.wp_mono fun a' w' h' => wpAny_forcedJ ks _ a' w' hl' hB' h') id
    · rename_i hw
      simp only [hw] at h
      exact wpAny_forcedJ ks _ _ _ hl' hB' (by simpa using h)
def memJ (ks : List Nat) (i : Nat) : Bool := ks.any fun k => Nat.beq k i
/-- The rest is forced. -/
theorem p_tail {ks : List Nat} (js : List Nat) {l l' : List Oper} (hB : ((Region.ready .any l.toArray listed).all (fun j => ks.all fun i => waitsT .any l.toArray l.toArray.size j i) && js.all (fun k => decide (k < l.length)) && forcedJ l.toArray js listed) = true) (hl : opsJ l js = l') (h : lS P b l.toArray (NoPanic Q) N l' e) :
    pS P b Q N l.toArray Inv (memJ ks) (FinA P l.toArray (NoPanic Q) js.length) 0 listed e := fun _ a w hst _ => by
  subst hl
  simp only [Bool.and_eq_true, List.all_eq_true, decide_eq_true_eq] at hB
  refine ⟨fun j hj i hi => ?_, wpAny_forcedJ js listed a w hB.1.2 hB.2 (h a w hst)⟩
  obtain ⟨k, hk, e⟩ := List.any_eq_true.1 hi
  obtain rfl := Nat.eq_of_beq_eq_true e
  exact hB.1.1 j hj k hk
/-- A drawn region: so many steps in whatever order (those of ks that only read first), then the others (js) in their order. -/
theorem s_anyP {l : List Oper} {id : Nat} (ks : List Nat) (n m : Nat) (Inv : World → Prop) (hm : P.follows .mixedOrders = true) (hn : m + n = l.length) (h0 : ∀ a w, St b N e a w → Inv w) (h : pS P b Q N l.toArray Inv (memJ ks) (FinA P l.toArray (NoPanic Q) m) n (Array.replicate l.toArray.size false) e) : cS P b (.region id l.toArray true) Q N e := fun a w hst => by
  refine wp_region_noPanic (wp_region_any hm ?_)
  obtain ⟨G, S, h1, h2, h3⟩ := hst
  have hd : St b N e a w.drew := ⟨G, S, h1, h2, h3.drew⟩
  have h4 := wpAny_of_P n _ a w.drew (h (Closed.none _) a w.drew hd (h0 a _ hd))
  have e1 : m + n = l.toArray.size := by simpa using hn
  rw [e1] at h4
  exact h4
end
end Go.Proofs.YtlaikmpnijlcbaaDoor
/-
  FUNCTION VALUES AND ROUNDS, over states: calls of function values; yields; drawn regions that end in a yield.
-/
namespace Go.Proofs.YtlaikmpnijlcbaaDoor
open Go.RowKit Go.IntWalk

/-! ### Function values -/
section
variable {b : Base} {ops : Array Oper} {Q : Exit → Act → World → Prop} {N : Nat} {E : SE} {L : List LV} {R R' : List Res} {F M F' : World → Prop} {o : Oper} {rest : List Oper} {k : Nat} {α : Type} {post : Post α} {own : List Res} {f : FuncId} {y : Operand} {xs : Array Operand} {ats : Array TypeId} {svs : List SV} {caps : List Value}
theorem callV_run {G : Nat → Nat} {a : Act} {w : World} (hf : Own f) (ho : o.op = .call { callee := .value y, args := xs, argTypes := ats }) (hy : evS E y = some (.v (.func (.func f) #[] caps.toArray))) (hx : evSs E xs.toList = some svs) (ha : Fr N (denE G E) a) :
    (execOp a.eval o).run Tryd.prog w = .ok (.enter f (svs.map (SV.den G) ++ caps).toArray) w := by
  have h1 : a.eval y = .func (.func f) #[] caps.toArray := ha.eval (evS_ok hy)
  have h2 := map_eval (args := (svs.map (SV.den G)).toArray) (ha.evals _ _ (by rw [evSs_ok hx]))
  have h3 := hf (svs.map (SV.den G) ++ caps).toArray w
  have e : (svs.map (SV.den G)).toArray ++ caps.toArray = (svs.map (SV.den G) ++ caps).toArray := by simp
  obtain ⟨dst, op, ty, pos, af, gd⟩ := o
  simp only at ho
  subst ho
  unfold execOp
  simp only [resolve, h1, h2, Deferred.ofValue, Sem.run_bind, Sem.run_pure, Result.andThen_ok, invoke]
  simp [e, h3]
theorem l_callV (args : List Value) (hg : o.guard = none) (hd : o.dst = some k) (hk : Nat.blt k N = true) (hf : Own f) (ho : o.op = .call { callee := .value y, args := xs, argTypes := ats }) (hy : evS E y = some (.v (.func (.func f) #[] caps.toArray))) (hx : evSs E xs.toList = some svs)
    (ha : ∀ G : Nat → Nat, (∀ x ∈ L, ∀ g, x.g = some g → G x.j = g) → svs.map (SV.den G) ++ caps = args) (hs : Spec f args own F' post) (hF : ∀ w, F w → M w → F' w)
    (hn : ∀ x, lS Tryd.prog b ops Q N rest ⟨(k, (post.ret x).sv) :: E, L, post.own x ++ R', fun w => post.p x w ∧ F w, fun w => post.n x w ∧ M w⟩) : lS Tryd.prog b ops Q N (o :: rest) ⟨E, L, own ++ R', F, M⟩ := fun a w ⟨G, S, h1, h2, h3⟩ => by
  have hr := callV_run (w := w) hf ho hy hx h1
  rw [ha G fun x hx => (h3.var x hx).2.2] at hr
  unfold wpList
  rw [if_pos (by simp [Region.wanted, hg])]
  refine .inl ?_
  unfold Oper.wp
  rw [hr]
  simp only [Oper.upon, hd]
  refine (h3.callA hs hF).mono ?_
  rintro e w' ⟨x, S', rfl, hok, h4⟩
  have h5 := h1.put hk (post.ret x).den
  rw [← RV.sv_den _ G] at h5
  have h6 := hn x _ w' ⟨G, S', h5, h2.cons hok, h4⟩
  rw [RV.sv_den] at h6
  exact h6
/-- func(..) {..}, what it has captured lying behind addresses that are known. -/
theorem run_makeF {fn : Fn} {vals : List Value} (ho : o.op = .makeFunc fn #[] xs) (hx : evSs E xs.toList = some svs) (hv : ∀ G : Nat → Nat, svs.map (SV.den G) = vals) :
    ∀ (G : Nat → Nat) (a : Act) (w : World), Fr N (denE G E) a → (execOp a.eval o).run Tryd.prog w = .ok (.value ((SV.v (.func fn #[] vals.toArray)).den G)) w := fun G a w ha => by
  have h2 := map_eval (args := (svs.map (SV.den G)).toArray) (ha.evals _ _ (by rw [evSs_ok hx]))
  rw [hv G] at h2
  unfold execOp
  simp only [ho]
  simp [h2, Instr.makeFunc]
  rfl
end
/-! ### Yields -/
/-- A round: from the loop's resource r to r1, where it goes on, or to r0. -/
def YSpec (l : Nat) (args : List Value) (Fy : World → Prop) (r r1 r0 : Res) : Prop := ∀ (w : World) (S : Nat → Prop), r.holds w S → Stb S Fy w → ∀ m, YieldAt Fence.wide m Tryd.prog l args.toArray w fun e w' => ∃ (t : Bool) (S' : Nat → Prop), e = .returned (.bool t) ∧ Chg S w w' ∧ (bif t then r1 else r0).holds w' S' ∧ ∀ k, S' k → k < w.heap.size → S k
def bpost (r1 r0 : Res) : Post Bool := { ret := fun t => .v (.bool t), own := fun t => [bif t then r1 else r0] }
theorem star1 {r : Res} {w : World} {S : Nat → Prop} : starL [r] w S ↔ r.holds w S := by
  constructor
  · rintro ⟨S1, S2, h1, h2, h3, _⟩
    have : S = S1 := funext fun k => propext ⟨fun h => ((h3 k).1 h).resolve_right (h2 k), fun h => (h3 k).2 (.inl h)⟩
    rwa [this]
  · exact fun h => ⟨S, fun _ => False, h, fun _ h => h, fun k => ⟨.inl, fun h => h.elim id False.elim⟩, fun _ _ h => h⟩
def tS (ro : Option Nat) (n : Nat) (b : Base) (ops : Array Oper) (Q : Exit → Act → World → Prop) (N : Nat) (l : List Oper) (e : Env) : Prop := ∀ a w, St b N e a w → wpListIn (FW ro) n Tryd.prog ops Q l a w
section
variable {ro : Option Nat} {n : Nat} {b : Base} {ops : Array Oper} {Q : Exit → Act → World → Prop} {N : Nat} {e : Env} {E : SE} {L L0 : List LV} {R R' : List Res} {F M : World → Prop} {o : Oper} {rest l : List Oper} {k : Nat} {y : Operand} {xs : Array Operand} {ats : Array TypeId} {svs : List SV} {Inv : World → Prop}
theorem t_list [NoOut Q] (hd : noDef l = true) (h : lS Tryd.prog b ops Q N l e) : tS ro n b ops Q N l e := fun a w hs => list_in hd (h a w hs)
theorem t_yield {g : Nat} {r r1 r0 : Res} {Fy : World → Prop} (args : List Value) (hg : o.guard = none) (hd : o.dst = some k) (hk : Nat.blt k N = true) (ho : o.op = .call { callee := .value y, args := xs, argTypes := ats }) (hy : evS E y = some (.v (.func (.yield g) #[] #[]))) (hx : evSs E xs.toList = some svs)
    (ha : ∀ G : Nat → Nat, svs.map (SV.den G) = args) (hs : YSpec g args Fy r r1 r0) (hF : ∀ w, F w → M w → Fy w) (hn : ∀ t : Bool, tS ro n b ops Q N rest ⟨(k, .v (.bool t)) :: E, L, (bif t then r1 else r0) :: R', F, M⟩) : tS ro n b ops Q N (o :: rest) ⟨E, L, r :: R', F, M⟩ := fun a w ⟨G, S, h1, h2, h3⟩ => by
  have hv : a.eval y = .func (.yield g) #[] #[] := h1.eval (evS_ok hy)
  have hm := map_eval (args := (svs.map (SV.den G)).toArray) (h1.evals _ _ (by rw [evSs_ok hx]))
  rw [ha G] at hm
  obtain ⟨S1, S2, k1, k2, kS, kd⟩ := StW.split (own := [r]) h3
  obtain ⟨fn, tmps, assign, body, hyr, hR⟩ := hs w S1 (star1.1 k1) ((h3.all.imp fun w hw => hF w hw.1 hw.2).less fun k _ hk => .inr (.inl ((kS k).2 (.inl hk)))) (n - 1)
  have hrun : (execOp a.eval o).run Tryd.prog w = .ok (.round g fn tmps assign body) w := by
    unfold execOp
    simp only [ho, resolve, hv, hm, Deferred.ofValue, Sem.run_bind, Sem.run_pure, Result.andThen_ok, invoke]
    simp [hyr]
  unfold wpListIn
  rw [if_pos (by simp [Region.wanted, hg])]
  refine ⟨fun _ _ => trivial, ?_⟩
  rw [Oper.semAt_eq _ _ _ (fun c e => by rw [ho] at e; cases e), hrun]
  refine ⟨fun e => (by cases e), ?_⟩
  have hR' : RoundIn (FW ro) (n - 1) Tryd.prog g fn tmps assign body w _ := hR
  refine hR'.mono ?_
  rintro ex w' ⟨t, S', rfl, hc, hr', hS'⟩
  rw [hd]
  have h5 := h1.put hk (.bool t)
  exact hn t _ w' ⟨G, fun k => S' k ∨ S2 k, h5, h2.cons trivial, StW.lent (own := [r]) (own' := [bif t then r1 else r0]) h3 k2 kS kd hc (star1.2 hr') hS'⟩
/-! ### Drawn regions that end in a yield -/
abbrev FinR (ro : Option Nat) (n : Nat) (ops : Array Oper) (Q : Exit → Act → World → Prop) (m : Nat) : Array Bool → Act → World → Prop := fun listed a w => wpAnyIn (FW ro) n Tryd.prog .any ops Q m listed a w
theorem opIn_of [NoOut Q] (hd : noDef ops.toList = true) {i : Nat} {K K' : Act → World → Prop} {a : Act} {w : World} (hK : ∀ a w, K a w → K' a w) (h : wpOp Tryd.prog ops Q i K a w) : wpOpIn (FW ro) n Tryd.prog ops Q i K' a w := by
  unfold wpOp at h
  unfold wpOpIn
  split
  · rename_i hn
    rw [hn] at h
    exact hK _ _ h
  · rename_i o ho
    rw [ho] at h
    dsimp only at h
    split
    · rename_i hw
      rw [if_pos hw] at h
      exact op_in (noDef_mem hd (by simpa using Array.mem_of_getElem? ho)) (h.imp (Oper.wp_mono hK) id)
    · rename_i hw
      rw [if_neg hw] at h
      exact ⟨fun _ _ => trivial, hK _ _ h⟩
theorem anyIn_of_P [NoOut Q] (hd : noDef ops.toList = true) {p : Nat → Bool} {m : Nat} : ∀ (fuel : Nat) (listed : Array Bool) (a : Act) (w : World), wpAnyP Tryd.prog ops Q Inv p (FinR ro n ops Q m) fuel listed a w → wpAnyIn (FW ro) n Tryd.prog .any ops Q (m + fuel) listed a w
  | 0, _, _, _, h => h.2
  | fuel + 1, _, _, _, h => ⟨fun h0 => absurd h0 h.1, fun i hi => opIn_of hd (fun a' w' h' => anyIn_of_P hd fuel _ a' w' h'.2) (h.2 i hi)⟩
theorem wpAnyIn_forcedJ {l : List Oper} : ∀ (ks : List Nat) (listed : Array Bool) (a : Act) (w : World), (∀ k ∈ ks, k < l.length) → forcedJ l.toArray ks listed = true →
    wpListIn (FW ro) n Tryd.prog l.toArray Q (opsJ l ks) a w → wpAnyIn (FW ro) n Tryd.prog .any l.toArray Q ks.length listed a w
  | [], _, _, _, _, hB, h => ⟨by simpa [forcedJ] using hB, h⟩
  | k :: ks, listed, a, w, hl, hB, h => by
    obtain ⟨o, ho⟩ : ∃ o, l[k]? = some o := ⟨_, List.getElem?_eq_getElem (hl k List.mem_cons_self)⟩
    have h0 : l.toArray[k]? = some o := by simpa using ho
    simp only [forcedJ, Bool.and_eq_true, decide_eq_true_eq] at hB
    obtain ⟨hr, hB'⟩ := hB
    unfold opsJ at h
    rw [ho] at h
    dsimp only at h
    refine ⟨fun e => (by rw [hr] at e; cases e), fun i hi => ?_⟩
    rw [hr, List.mem_singleton] at hi
    subst hi
    have hl' : ∀ j ∈ ks, j < l.length := fun j hj => hl j (List.mem_cons_of_mem _ hj)
    unfold wpOpIn
    simp only [h0]
    unfold wpListIn at h
    split
    · rename_i hw
      simp only [hw, if_true] at h
      exact Oper.wpIn_mono (fun a' w' h' => wpAnyIn_forcedJ ks _ a' w' hl' hB' h') h
    · rename_i hw
      simp only [hw] at h
      exact ⟨fun _ _ => trivial, wpAnyIn_forcedJ ks _ _ _ hl' hB' (by simpa using h.2)⟩
theorem p_tailR {ks : List Nat} {listed : Array Bool} (js : List Nat) {l l' : List Oper} (hB : ((Region.ready .any l.toArray listed).all (fun j => ks.all fun i => waitsT .any l.toArray l.toArray.size j i) && js.all (fun k => decide (k < l.length)) && forcedJ l.toArray js listed) = true) (hl : opsJ l js = l') (h : tS ro n b l.toArray (NoPanic Q) N l' e) :
    pS Tryd.prog b Q N l.toArray Inv (memJ ks) (FinR ro n l.toArray (NoPanic Q) js.length) 0 listed e := fun _ a w hst _ => by
  subst hl
  simp only [Bool.and_eq_true, List.all_eq_true, decide_eq_true_eq] at hB
  refine ⟨fun j hj i hi => ?_, wpAnyIn_forcedJ js listed a w hB.1.2 hB.2 (h a w hst)⟩
  obtain ⟨k, hk, e⟩ := List.any_eq_true.1 hi
  obtain rfl := Nat.eq_of_beq_eq_true e
  exact hB.1.1 j hj k hk
theorem r_anyP [NoOut Q] {l : List Oper} {id : Nat} (ks : List Nat) (f m : Nat) (Inv : World → Prop) (hm : Tryd.prog.follows .mixedOrders = true) (hn : m + f = l.length) (hd : noDef l = true) (h0 : ∀ a w, St b N e a w → Inv w) (h : pS Tryd.prog b Q N l.toArray Inv (memJ ks) (FinR ro n l.toArray (NoPanic Q) m) f (Array.replicate l.toArray.size false) e) : rS ro n b (.region id l.toArray true) Q N e := fun a w hst => by
  refine wpIn_mono (Q := NoPanic Q) (wpIn_region_any hm ?_) fun e a w h => NoPanic.imp e a w h
  obtain ⟨G, S, h1, h2, h3⟩ := hst
  have hs : St b N e a w.drew := ⟨G, S, h1, h2, h3.drew⟩
  have h4 := anyIn_of_P (by simpa using hd) f _ a w.drew (h (Closed.none _) a w.drew hs (h0 a _ hs))
  have e1 : m + f = l.toArray.size := by simpa using hn
  rw [e1] at h4
  exact h4
instance {fn : Func} {b : Base} {α : Type} {post : Post α} : NoOut (bodyPost Tryd.prog fn (endS b post)) := ⟨fun a w hq => by
  obtain ⟨_, _, h, _⟩ := hq
  cases h⟩
/-- Outside of all rounds. -/
theorem s_of_r {c : Code} (h : rS none 0 b c Q N e) : cS Tryd.prog b c Q N e := fun a w hs => (wpIn_wide (n := 0)).1 (h a w hs)
end
end Go.Proofs.YtlaikmpnijlcbaaDoor
/-
  BEHIND A RANGE OVER A FUNCTION, over states: activations that bear marks; the end of such a call.
-/
namespace Go.Proofs.YtlaikmpnijlcbaaDoor
open Go.RowKit Go.IntWalk

def withD (ds : List Deferred) (a : Act) : Act := { a with defers := a.defers ++ ds }
theorem put_withD (ds : List Deferred) (a : Act) (d : Option Tmp) (v : Value) : (withD ds a).put d v = withD ds (a.put d v) := by cases d <;> rfl
/-- What is asked of the acts, their marks aside. -/
def Qd (ds : List Deferred) (Q : Exit → Act → World → Prop) : Exit → Act → World → Prop := fun e a w => Q e (withD ds a) w
def dS (ds : List Deferred) (b : Base) (c : Code) (Q : Exit → Act → World → Prop) (N : Nat) (e : Env) : Prop := ∀ a w, St b N e a w → c.wp Tryd.prog Q (withD ds a) w
def kD (ds : List Deferred) (b : Base) (K : Act → World → Prop) (N : Nat) (e : Env) : Prop := ∀ a w, St b N e a w → K (withD ds a) w
section
variable {P : Program} {ds : List Deferred} {Q : Exit → Act → World → Prop} {ops : Array Oper}
theorem op_withD {o : Oper} {a : Act} {w : World} {next next' : Act → World → Prop} (hn : ∀ a w, next a w → next' (withD ds a) w) (h : o.wp P a w next (Qd ds Q) ∨ (o.asks P a w ∧ LetsOut (Qd ds Q))) : o.wp P (withD ds a) w next' Q ∨ (o.asks P (withD ds a) w ∧ LetsOut Q) := by
  rcases h with h | ⟨h1, a', w', h2⟩
  · refine .inl ?_
    unfold Oper.wp at h ⊢
    have e : (withD ds a).eval = a.eval := rfl
    rw [e]
    generalize (execOp a.eval o).run P w = r at *
    cases r with
    | ok x w' =>
      cases x with
      | value v =>
        show next' ((withD ds a).put o.dst v) w'
        rw [put_withD]
        exact hn _ _ h
      | skip =>
        show next' ((withD ds a).put o.dst undef) w'
        rw [put_withD]
        exact hn _ _ h
      | defer d =>
        have h' : next (({ a with defers := d :: a.defers } : Act).put o.dst undef) w' := h
        have h2 := hn _ _ h'
        rw [← put_withD] at h2
        exact h2
      | enter f args =>
        have h' : Calls P f args w' _ := h
        refine h'.mono fun e w'' he => ?_
        cases e with
        | returned v =>
          show next' ((withD ds a).put o.dst v) w''
          rw [put_withD]
          exact hn _ _ he
        | panicked c => exact he
        | outgrown =>
          obtain ⟨a1, w1, h1⟩ := he
          exact ⟨_, w1, h1⟩
      | row row args =>
        have h' : Rows P row args w' _ := h
        refine h'.mono fun v w'' he => ?_
        show next' ((withD ds a).put o.dst v) w''
        rw [put_withD]
        exact hn _ _ he
      | _ => exact h.elim
    | halt x w' => cases x <;> exact h
  · exact .inr ⟨h1, _, w', h2⟩
theorem list_withD : ∀ {l : List Oper} {a : Act} {w : World}, wpList P ops (Qd ds Q) l a w → wpList P ops Q l (withD ds a) w
  | [], _, _, h => h
  | o :: l, a, w, h => by
    unfold wpList at h ⊢
    have e : (withD ds a).tmps = a.tmps := rfl
    rw [e]
    split
    · rename_i hw
      rw [if_pos hw] at h
      exact op_withD (fun a' w' h' => list_withD h') h
    · rename_i hw
      rw [if_neg hw] at h
      rw [put_withD]
      exact list_withD h
theorem any_withD {md : Region.Mode} : ∀ {fuel : Nat} {listed : Array Bool} {a : Act} {w : World}, wpAny P md ops (Qd ds Q) fuel listed a w → wpAny P md ops Q fuel listed (withD ds a) w
  | 0, _, _, _, h => h
  | fuel + 1, listed, a, w, h => by
    refine ⟨h.1, fun i hi => ?_⟩
    have h2 := h.2 i hi
    unfold wpOp at h2 ⊢
    have e : (withD ds a).tmps = a.tmps := rfl
    rw [e]
    split
    · rename_i hn
      rw [hn] at h2
      exact any_withD h2
    · rename_i o ho
      rw [ho] at h2
      dsimp only at h2
      split
      · rename_i hw
        rw [if_pos hw] at h2
        exact op_withD (fun a' w' h' => any_withD h') h2
      · rename_i hw
        rw [if_neg hw] at h2
        rw [put_withD]
        exact any_withD h2
end
/-! ### Code -/
section
variable {T : List TyR} {ds : List Deferred} {b : Base} {Q : Exit → Act → World → Prop} {N : Nat} {e e' : Env} {E : SE} {L : List LV} {R : List Res} {F M : World → Prop} {id : Nat} {l l' : List Oper} {x y : Code}
theorem d_weak {c : Code} (hw : Weak e e') (h : dS ds b c Q N e') : dS ds b c Q N e := fun a w hs => h a w (hs.weak hw)
theorem d_of_s {c : Code} (h : cS Tryd.prog b c Q N e) : dS [] b c Q N e := fun a w hs => by
  have : withD [] a = a := by
    unfold withD
    rw [List.append_nil]
  rw [this]
  exact h a w hs
theorem d_seq (h : ∀ K : Act → World → Prop, (∀ e', dS ds b y Q N e' → kD ds b K N e') → dS ds b x (Exit.then K Q) N e) : dS ds b (.seq x y) Q N e := fun a w hs =>
  wp_seq_k fun K hK => h K (fun _ h' a' w' hs' => hK _ _ (h' a' w' hs')) a w hs
theorem d_lit (h : lS Tryd.prog b l.toArray (Qd ds Q) N l e) : dS ds b (.region id l.toArray false) Q N e := fun a w hs => wp_region_lit (list_withD (h a w hs))
theorem d_auto {E' : SE} {L' : List LV} (hT : OkT Tryd.prog T) (h : autoS T l.toArray N l E L = ([], E', L')) (hn : dS ds b y Q N ⟨E', L', R, F, M⟩) : dS ds b (.seq (.region id l.toArray false) y) Q N ⟨E, L, R, F, M⟩ :=
  d_seq fun _ hK => d_lit (l_autoS hT h (s_end (hK _ hn)))
theorem d_regA {E' : SE} {L' : List LV} (hT : OkT Tryd.prog T) (h : autoS T l.toArray N l E L = (l', E', L')) (hn : ∀ K : Act → World → Prop, (∀ e', dS ds b y Q N e' → kD ds b K N e') → lS Tryd.prog b l.toArray (Qd ds (Exit.then K Q)) N l' ⟨E', L', R, F, M⟩) : dS ds b (.seq (.region id l.toArray false) y) Q N ⟨E, L, R, F, M⟩ :=
  d_seq fun K hK => d_lit (l_autoS hT h (hn K hK))
/-- The end of a region's operations. -/
theorem d_end {ops : Array Oper} {K : Act → World → Prop} (h : kD ds b K N e) : lS Tryd.prog b ops (Qd ds (Exit.then K Q)) N [] e := fun a w hs => h a w hs
theorem d_drawn (m : Nat) (hn : m ≤ l.length) (hm : Tryd.prog.follows .mixedOrders = true) (hB : tailH l.toArray m (l.drop m).length = true)
    (h : ∀ G S w0, StW b G S L R F M w0 → gS Tryd.prog b l.toArray (Qd ds Q) N (l.drop m) G w0 (idx 0 (l.take m)) E) : dS ds b (.region id l.toArray true) Q N ⟨E, L, R, F, M⟩ := fun _ w ⟨G, S, h1, h2, h3⟩ =>
  wp_region_any hm (any_withD (any_gS m hn hB h1 h2 (h G S w h3)))
theorem d_regD (m : Nat) (hn : m ≤ l.length) (hm : Tryd.prog.follows .mixedOrders = true) (hB : tailH l.toArray m (l.drop m).length = true)
    (h : ∀ K : Act → World → Prop, (∀ e', dS ds b y Q N e' → kD ds b K N e') → ∀ G S w0, StW b G S L R F M w0 → gS Tryd.prog b l.toArray (Qd ds (Exit.then K Q)) N (l.drop m) G w0 (idx 0 (l.take m)) E) : dS ds b (.seq (.region id l.toArray true) y) Q N ⟨E, L, R, F, M⟩ :=
  d_seq fun K hK => d_drawn m hn hm hB (h K hK)
theorem d_if {c : Operand} (t : Bool) (hc : evS E c = some (.b t)) (h1 : t = true → dS ds b x Q N ⟨E, L, R, F, M⟩) (h2 : t = false → dS ds b y Q N ⟨E, L, R, F, M⟩) : dS ds b (.cond c x y) Q N ⟨E, L, R, F, M⟩ := fun a w hs => by
  have hs' := hs
  obtain ⟨G, S, h3⟩ := hs
  exact wp_cond_split (show (withD ds a).eval c = _ from h3.fr.eval (evS_ok hc)) (fun ht => h1 ht a w hs') (fun ht => h2 ht a w hs')
theorem d_ifD {c : Operand} (p : Prop) [Decidable p] (hc : evS E c = some (.b (decide p))) (h1 : p → dS ds b x Q N ⟨E, L, R, F, M⟩) (h2 : ¬ p → dS ds b y Q N ⟨E, L, R, F, M⟩) : dS ds b (.cond c x y) Q N ⟨E, L, R, F, M⟩ :=
  d_if (decide p) hc (fun h => h1 (of_decide_eq_true h)) (fun h => h2 (of_decide_eq_false h))
theorem d_yes {c : Operand} (hc : evS E c = some (.v (.bool true))) (h1 : dS ds b x Q N ⟨E, L, R, F, M⟩) : dS ds b (.cond c x y) Q N ⟨E, L, R, F, M⟩ := fun a w hs => by
  have hs' := hs
  obtain ⟨G, S, h3⟩ := hs
  exact wp_cond_true (show (withD ds a).eval c = _ from h3.fr.eval (evS_ok hc)) (h1 a w hs')
theorem d_no {c : Operand} (hc : evS E c = some (.v (.bool false))) (h1 : dS ds b y Q N ⟨E, L, R, F, M⟩) : dS ds b (.cond c x y) Q N ⟨E, L, R, F, M⟩ := fun a w hs => by
  have hs' := hs
  obtain ⟨G, S, h3⟩ := hs
  exact wp_cond_false (show (withD ds a).eval c = _ from h3.fr.eval (evS_ok hc)) (h1 a w hs')
theorem d_block {c : Code} (h : dS ds b c (Exit.inBlock id Q) N e) : dS ds b (.block id c) Q N e := fun a w hs => wp_block (h a w hs)
theorem d_skip (h : kD ds b (Q .normal) N e) : dS ds b .skip Q N e := fun a w hs => wp_skip (h a w hs)
theorem d_exit (h : kD ds b (Q (.exit id)) N e) : dS ds b (.exit id) Q N e := fun a w hs => wp_exit (h a w hs)
theorem d_ret (h : kD ds b (Q .ret) N e) : dS ds b .ret Q N e := fun a w hs => wp_ret (h a w hs)
end
/-! ### The end of a call -/
/-- A block for the rounds' deferred calls. -/
def DefR (D : Nat) : Res where
  holds w S := w.heap[D]? = some (.deferred (some [])) ∧ ∀ k, S k ↔ k = D
  keep := fun ⟨h1, h2⟩ hk => ⟨(hk D ((h2 D).2 rfl)).trans h1, h2⟩
  lt := fun ⟨h1, h2⟩ k hk => by rw [(h2 k).1 hk]; exact (Array.getElem?_eq_some_iff.1 h1).1
abbrev dD (D : Nat) : Deferred := { target := .collected D, args := #[] }
abbrev bodyM (fn : Func) (R : Ending → World → Prop) : Exit → Act → World → Prop := bodyPostM Fence.wide 0 Tryd.prog fn R
theorem chg_putObj (w : World) (l : Nat) (o : Obj) : Chg (fun k => k = l) w (w.putObj l o) := ⟨rfl, rfl, rfl, by simp, fun k _ hn => World.putObj_heap_other hn⟩
theorem StW.drop {b : Base} {G : Nat → Nat} {S : Nat → Prop} {L : List LV} {r : Res} {R : List Res} {F M : World → Prop} {w w' : World} {D : Nat} (h : StW b G S L (r :: R) F M w) (hr : ∀ S1, r.holds w S1 → S1 D) (hc : Chg (fun k => k = D) w w') : ∃ S2, StW b G S2 L R F M w' := by
  obtain ⟨S1, S2, h1, h2, h3, h4⟩ := h.res
  have hD : ∀ k, k = D → S1 k := fun k hk => by rw [hk]; exact hr S1 h1
  have := h.chgd (R' := R) (S1 := S1) (S2 := S2) (S' := fun _ => False) h3 (hc.mono fun k _ hk => hD k hk) ((h2.keep fun k hk => hc.block k (h2.lt k hk) fun e => h4 k (hD k e) hk).same fun k => ⟨.inr, fun h => h.elim False.elim id⟩) fun _ h _ => h.elim
  exact ⟨_, this⟩
theorem k_retM {b : Base} {fn : Func} {N : Nat} {E : SE} {L : List LV} {R : List Res} {F M : World → Prop} {α : Type} {post : Post α} : ∀ (Ds : List Nat), kS b (bodyPost Tryd.prog fn (endS b post) .ret) N ⟨E, L, R, F, M⟩ → kD (Ds.map dD) b (bodyM fn (endS b post) .ret) N ⟨E, L, Ds.map DefR ++ R, F, M⟩
  | [], h => fun a w hs => by
    have h1 := (h a w hs).2
    have e : (withD ([].map dD) a).defers = [] := by
      obtain ⟨G, S, h3⟩ := hs
      show a.defers ++ [] = []
      rw [List.append_nil]
      exact h3.fr.defers
    show LeavesInM Fence.wide 0 Tryd.prog fn a.tmps (endS b post) (withD ([].map dD) a).defers .returning w
    rw [e]
    exact h1
  | D :: Ds, h => fun a w ⟨G, S, h1, h2, h3⟩ => by
    obtain ⟨S1, S2, k1, _⟩ := h3.res
    obtain ⟨S3, h4⟩ := StW.drop (D := D) h3 (fun S1 hS => (hS.2 D).2 rfl) (chg_putObj w D (.deferred none))
    have h5 := k_retM Ds h a _ ⟨G, S3, h1, h2, h4⟩
    have e0 : a.defers = [] := h1.defers
    show LeavesInM Fence.wide 0 Tryd.prog fn a.tmps (endS b post) (a.defers ++ dD D :: Ds.map dD) .returning w
    have h6 : LeavesInM Fence.wide 0 Tryd.prog fn a.tmps (endS b post) (a.defers ++ Ds.map dD) .returning (w.putObj D (.deferred none)) := h5
    rw [e0] at h6 ⊢
    exact ⟨fun e => (by cases e), .inl ⟨D, _, rfl, run_takeDeferred k1.1, h6⟩⟩
/-- A contract from a walk that may come to ranges over functions. -/
theorem spec_D {f : FuncId} {fn : Func} {c : Code} {own : List Res} {F : World → Prop} {α : Type} {post : Post α} (vs : List SQ) (N : Nat) (hf : Tryd.prog.funcs[f]? = some fn) (hb : fn.body = some c) (hn : vs.length + (fn.ntmps - vs.length) = N) (hv : ∀ v ∈ vs, v.Ok)
    (h : ∀ b : Base, dS [] b c (bodyM fn (endS b post)) N ⟨argS 0 vs, [], own, F, fun _ => True⟩) : Spec f (vs.map SQ.den) own F post := fun w S X hS hX hF => by
  refine (callsIn_wide (n := 0)).1 (callsIn_of_wp_marks hf hb trivial ((wpIn_wide (n := 0)).2 ?_) rfl)
  have key : ∀ a, Fr N (denE (fun _ => 0) (argS 0 vs)) a → c.wp Tryd.prog (bodyM fn (endS ⟨X, w, S⟩ post)) a w := fun a ha => by
    have h1 := h ⟨X, w, S⟩ a w ⟨fun _ => 0, S, ha, argS_ok hv, fun x hx => (by cases hx), List.Pairwise.nil, hS, fun x hx => (by cases hx), ?_, fun _ _ => trivial, Chg.refl _ _, fun k hk _ => ?_, hX⟩
    · have : withD [] a = a := by
        unfold withD
        rw [List.append_nil]
      rwa [this] at h1
    · exact hF.less fun k _ hk => hk.imp id fun hk => hk.elim id fun ⟨j, hj, _⟩ => by cases hj
    · exact hk.elim id fun ⟨j, hj, _⟩ => by cases hj
  exact key _ (Fr.start (by simpa using hn) _ fun k v hk => by
    rw [argS_den] at hk
    have := (argE_look (vs.map SQ.den) 0 k v hk).2
    simpa using this)
end Go.Proofs.YtlaikmpnijlcbaaDoor
/-
PLAIN NUMBERS: primes, Fermat's little theorem, Pocklington's criterion; p = 2^255 - 19 is prime. No program is imported.
PLAIN NUMBERS: the numbers modulo a prime as Fin n: no divisors of zero, powers, inverses, roots. No program is imported.
PLAIN NUMBERS: the curve -x² + y² = 1 + d x² y² modulo a prime, where -1 is a square and d is none: its sums are a group. No program is imported.
-/

namespace Nums

def Prime (p : Nat) : Prop := 1 < p ∧ ∀ m, m ∣ p → m = 1 ∨ m = p

theorem Prime.pos {p : Nat} (h : Prime p) : 0 < p := by have := h.1; omega

theorem Prime.coprime {p a : Nat} (h : Prime p) (ha : ¬ p ∣ a) : Nat.Coprime p a := by
  have hd : Nat.gcd p a ∣ p := Nat.gcd_dvd_left p a
  rcases h.2 _ hd with h1 | h1
  · exact h1
  · exact absurd (h1 ▸ Nat.gcd_dvd_right p a) ha

theorem Prime.dvd_mul {p a b : Nat} (h : Prime p) (hd : p ∣ a * b) : p ∣ a ∨ p ∣ b := by
  by_cases ha : p ∣ a
  · exact .inl ha
  · exact .inr ((h.coprime ha).dvd_of_dvd_mul_left hd)

theorem Prime.dvd_pow {p a : Nat} (h : Prime p) : ∀ {n : Nat}, p ∣ a ^ n → p ∣ a
  | 0, hd => by
    have := Nat.le_of_dvd (by omega) (by simpa using hd : p ∣ 1)
    have := h.1
    omega
  | n + 1, hd => by
    rw [Nat.pow_succ] at hd
    rcases h.dvd_mul hd with h1 | h1
    · exact h.dvd_pow h1
    · exact h1

/-- Every number above 1 has a prime divisor. -/
theorem exists_prime_dvd : ∀ (n : Nat), 1 < n → ∃ r, Prime r ∧ r ∣ n := by
  intro n
  induction n using Nat.strongRecOn with
  | ind n ih =>
    intro hn
    by_cases hp : ∃ m, m ∣ n ∧ m ≠ 1 ∧ m ≠ n
    · obtain ⟨m, hm, h1, h2⟩ := hp
      have hle := Nat.le_of_dvd (by omega) hm
      have hpos := Nat.pos_of_dvd_of_pos hm (by omega)
      obtain ⟨r, hr, hrm⟩ := ih m (by omega) (by omega)
      exact ⟨r, hr, Nat.dvd_trans hrm hm⟩
    · refine ⟨n, ⟨hn, fun m hm => ?_⟩, Nat.dvd_refl n⟩
      by_cases h1 : m = 1
      · exact .inl h1
      · by_cases h2 : m = n
        · exact .inr h2
        · exact absurd ⟨m, hm, h1, h2⟩ hp

/-- A composite number has a prime divisor whose square is at most it. -/
theorem small_prime {n : Nat} (hn : 1 < n) (hp : ¬ Prime n) : ∃ r, Prime r ∧ r ∣ n ∧ r * r ≤ n := by
  have : ∃ m, m ∣ n ∧ m ≠ 1 ∧ m ≠ n := by
    by_cases h : ∃ m, m ∣ n ∧ m ≠ 1 ∧ m ≠ n
    · exact h
    · refine absurd ⟨hn, fun m hm => ?_⟩ hp
      by_cases h1 : m = 1
      · exact .inl h1
      · by_cases h2 : m = n
        · exact .inr h2
        · exact absurd ⟨m, hm, h1, h2⟩ h
  obtain ⟨m, ⟨k, hk⟩, h1, h2⟩ := this
  have hm0 : 0 < m := by
    rcases Nat.eq_zero_or_pos m with h | h
    · subst h; simp at hk; omega
    · exact h
  have hk0 : 0 < k := by
    rcases Nat.eq_zero_or_pos k with h | h
    · subst h; simp at hk; omega
    · exact h
  have hk1 : k ≠ 1 := fun h => by subst h; simp at hk; omega
  rcases Nat.le_total m k with hle | hle
  · obtain ⟨r, hr, hrm⟩ := exists_prime_dvd m (by omega)
    have hrle := Nat.le_of_dvd hm0 hrm
    exact ⟨r, hr, Nat.dvd_trans hrm ⟨k, hk⟩, by rw [hk]; exact Nat.mul_le_mul hrle (Nat.le_trans hrle hle)⟩
  · obtain ⟨r, hr, hrk⟩ := exists_prime_dvd k (by omega)
    have hrle := Nat.le_of_dvd hk0 hrk
    exact ⟨r, hr, Nat.dvd_trans hrk ⟨m, by rw [hk, Nat.mul_comm]⟩, by rw [hk]; exact Nat.mul_le_mul (Nat.le_trans hrle hle) hrle⟩

/-! Fermat. -/
def prod (l : List Nat) : Nat := l.foldr (· * ·) 1
theorem prod_cons (a : Nat) (l : List Nat) : prod (a :: l) = a * prod l := rfl
theorem prod_perm {l1 l2 : List Nat} (h : l1.Perm l2) : prod l1 = prod l2 := by
  induction h with
  | nil => rfl
  | cons x _ ih => rw [prod_cons, prod_cons, ih]
  | swap x y l => rw [prod_cons, prod_cons, prod_cons, prod_cons, ← Nat.mul_assoc, ← Nat.mul_assoc, Nat.mul_comm x y]
  | trans _ _ ih1 ih2 => rw [ih1, ih2]

theorem perm_of : ∀ {l1 l2 : List Nat}, l1.Nodup → (∀ x ∈ l1, x ∈ l2) → l2.length ≤ l1.length → l1.Perm l2
  | [], l2, _, _, hl => by
    have : l2 = [] := List.eq_nil_of_length_eq_zero (by simpa using hl)
    subst this
    exact List.Perm.refl _
  | x :: l1, l2, hn, hs, hl => by
    have hx : x ∈ l2 := hs x (by simp)
    have hp := List.perm_cons_erase hx
    obtain ⟨hx1, hn1⟩ := List.nodup_cons.1 hn
    have h1 : l1.Perm (l2.erase x) := perm_of hn1 (fun y hy => (List.mem_erase_of_ne (fun (e : y = x) => hx1 (e ▸ hy))).2 (hs y (by simp [hy]))) (by
      rw [List.length_erase_of_mem hx]
      simp at hl
      omega)
    exact (List.Perm.cons x h1).trans hp.symm

theorem prod_map_mod (a r : Nat) : ∀ (l : List Nat), prod (l.map fun i => a * i % r) % r = a ^ l.length * prod l % r
  | [] => by simp [prod]
  | i :: l => by
    rw [List.map_cons, prod_cons, prod_cons, List.length_cons, Nat.mul_mod, prod_map_mod a r l, Nat.mod_mod, ← Nat.mul_mod, Nat.pow_succ]
    congr 1
    rw [Nat.mul_assoc, Nat.mul_assoc]
    rw [Nat.mul_left_comm i, ← Nat.mul_assoc a (a ^ l.length), Nat.mul_comm a (a ^ l.length), Nat.mul_assoc]

theorem coprime_prod {r : Nat} (hr : Prime r) : ∀ (l : List Nat), (∀ x ∈ l, ¬ r ∣ x) → ¬ r ∣ prod l
  | [], _, h => by
    have := Nat.le_of_dvd (by simp [prod]) h
    simp [prod] at this
    have := hr.1
    omega
  | x :: l, hl, h => by
    rw [prod_cons] at h
    rcases hr.dvd_mul h with h1 | h1
    · exact hl x (by simp) h1
    · exact coprime_prod hr l (fun y hy => hl y (by simp [hy])) h1

theorem mod_cancel {r a b c : Nat} (hr : Prime r) (hc : ¬ r ∣ c) (h : a * c % r = b * c % r) : a % r = b % r := by
  have key : ∀ {x y : Nat}, y ≤ x → x * c % r = y * c % r → x % r = y % r := fun {x y} hle h => by
    have h1 : r ∣ x * c - y * c := Nat.dvd_of_mod_eq_zero (Nat.sub_mod_eq_zero_of_mod_eq h)
    rw [← Nat.sub_mul] at h1
    rcases hr.dvd_mul h1 with ⟨t, ht⟩ | h2
    · have : x = y + r * t := by omega
      rw [this, Nat.add_mul_mod_self_left]
    · exact absurd h2 hc
  rcases Nat.le_total b a with hle | hle
  · exact key hle h
  · exact (key hle h.symm).symm

theorem nodup_map {f : Nat → Nat} : ∀ {l : List Nat}, l.Nodup → (∀ x ∈ l, ∀ y ∈ l, f x = f y → x = y) → (l.map f).Nodup
  | [], _, _ => by simp
  | a :: l, hn, hi => by
    obtain ⟨h1, h2⟩ := List.nodup_cons.1 hn
    rw [List.map_cons, List.nodup_cons]
    refine ⟨fun h => ?_, nodup_map h2 (fun x hx y hy => hi x (by simp [hx]) y (by simp [hy]))⟩
    obtain ⟨b, hb, e⟩ := List.mem_map.1 h
    have := hi b (by simp [hb]) a (by simp) e
    subst this
    exact h1 hb

theorem fermat {r a : Nat} (hr : Prime r) (ha : ¬ r ∣ a) : a ^ (r - 1) % r = 1 := by
  have hr1 := hr.1
  have hnd : ∀ i ∈ List.range' 1 (r - 1), ¬ r ∣ i := fun i hi hd => by
    have hi' := List.mem_range'_1.1 hi
    have := Nat.le_of_dvd (by omega) hd
    omega
  have hperm : ((List.range' 1 (r - 1)).map fun i => a * i % r).Perm (List.range' 1 (r - 1)) := by
    refine perm_of ?_ ?_ (by simp)
    · refine nodup_map List.nodup_range' fun x hx y hy h => ?_
      have hx' := List.mem_range'_1.1 hx
      have hy' := List.mem_range'_1.1 hy
      rw [Nat.mul_comm a x, Nat.mul_comm a y] at h
      have := mod_cancel hr ha h
      rwa [Nat.mod_eq_of_lt (by omega), Nat.mod_eq_of_lt (by omega)] at this
    · intro x hx
      obtain ⟨i, hi, rfl⟩ := List.mem_map.1 hx
      have hlt : a * i % r < r := Nat.mod_lt _ hr.pos
      have hne : a * i % r ≠ 0 := fun h0 => by
        rcases hr.dvd_mul (Nat.dvd_of_mod_eq_zero h0) with h1 | h1
        · exact ha h1
        · exact hnd i hi h1
      exact List.mem_range'_1.2 ⟨by omega, by omega⟩
  have h1 := prod_map_mod a r (List.range' 1 (r - 1))
  rw [prod_perm hperm, List.length_range'] at h1
  have h2 : 1 * prod (List.range' 1 (r - 1)) % r = a ^ (r - 1) * prod (List.range' 1 (r - 1)) % r := by rw [Nat.one_mul]; exact h1
  have h3 := mod_cancel hr (coprime_prod hr _ hnd) h2
  rw [← h3, Nat.mod_eq_of_lt hr1]

/-! Powers modulo a number, reckoned. -/
def pm (n a : Nat) : Nat → Nat → Nat
  | 0, _ => 1 % n
  | k + 1, e => if e % 2 = 1 then pm n a k (e / 2) * pm n a k (e / 2) % n * a % n else pm n a k (e / 2) * pm n a k (e / 2) % n

theorem pm_eq (n a : Nat) : ∀ (k e : Nat), e < 2 ^ k → pm n a k e = a ^ e % n
  | 0, e, h => by
    have : e = 0 := by simpa using h
    subst this
    simp [pm]
  | k + 1, e, h => by
    have h1 : e / 2 < 2 ^ k := by rw [Nat.pow_succ] at h; omega
    have ih := pm_eq n a k (e / 2) h1
    unfold pm
    rw [ih]
    have e2 : a ^ (e / 2) % n * (a ^ (e / 2) % n) % n = a ^ (2 * (e / 2)) % n := by
      rw [← Nat.mul_mod, ← Nat.pow_add]
      congr 2
      omega
    rw [e2]
    split
    · rw [Nat.mod_mul_mod, ← Nat.pow_succ]
      congr 2
      omega
    · congr 2
      omega

theorem pow_gcd {r a : Nat} (hr : 1 < r) : ∀ (m n : Nat), a ^ m % r = 1 → a ^ n % r = 1 → a ^ Nat.gcd m n % r = 1 := by
  intro m n
  induction m, n using Nat.gcd.induction with
  | H0 n => intro _ h; simpa using h
  | H1 m n hm ih =>
    intro h1 h2
    rw [Nat.gcd_rec]
    refine ih ?_ h1
    have e : a ^ n = (a ^ m) ^ (n / m) * a ^ (n % m) := by
      rw [← Nat.pow_mul, ← Nat.pow_add, Nat.div_add_mod]
    have h3 : (a ^ m) ^ (n / m) % r = 1 := by
      rw [Nat.pow_mod, h1, Nat.one_pow, Nat.mod_eq_of_lt hr]
    rw [e, Nat.mul_mod, h3, Nat.one_mul, Nat.mod_mod] at h2
    exact h2

theorem pock_one {n q a m r : Nat} (hq : Prime q) (hn : n - 1 = q * m) (hn1 : 1 < n) (h1 : a ^ (n - 1) % n = 1) (g1 : Nat.gcd (a ^ m % n + n - 1) n = 1) (hr : Prime r) (hrn : r ∣ n) : q ∣ r - 1 := by
  have hr1 := hr.1
  have hmod : ∀ x, x % n % r = x % r := fun x => Nat.mod_mod_of_dvd x hrn
  have h1r : a ^ (n - 1) % r = 1 := by rw [← hmod, h1, Nat.mod_eq_of_lt hr1]
  have hra : ¬ r ∣ a := fun hd => by
    have h0 : a ^ (n - 1) % r = 0 := by
      refine Nat.mod_eq_zero_of_dvd (Nat.dvd_trans hd ?_)
      exact ⟨a ^ (n - 2), by rw [← Nat.pow_succ']; congr 1; omega⟩
    omega
  by_cases hqr : q ∣ r - 1
  · exact hqr
  · have hf := fermat hr hra
    have hg := pow_gcd hr1 (n - 1) (r - 1) h1r hf
    have hcop : Nat.Coprime (Nat.gcd (n - 1) (r - 1)) q := by
      have := hq.coprime (a := Nat.gcd (n - 1) (r - 1)) (fun hd => hqr (Nat.dvd_trans hd (Nat.gcd_dvd_right _ _)))
      exact this.symm
    have hdm : Nat.gcd (n - 1) (r - 1) ∣ m := by
      have : Nat.gcd (n - 1) (r - 1) ∣ q * m := hn ▸ Nat.gcd_dvd_left (n - 1) (r - 1)
      exact hcop.dvd_of_dvd_mul_left this
    obtain ⟨t, ht⟩ := hdm
    have hm : a ^ m % r = 1 := by
      rw [ht, Nat.pow_mul, Nat.pow_mod, hg, Nat.one_pow, Nat.mod_eq_of_lt hr1]
    exfalso
    have hlt : a ^ m % n < n := Nat.mod_lt _ (by omega)
    have hd : r ∣ a ^ m % n + n - 1 := by
      have e1 : a ^ m % n % r = 1 := by rw [hmod]; exact hm
      have e2 : 1 ≤ a ^ m % n := by
        rcases Nat.eq_zero_or_pos (a ^ m % n) with h0 | h0
        · rw [h0] at e1; simp at e1
        · exact h0
      have e3 : r ∣ a ^ m % n - 1 := Nat.dvd_of_mod_eq_zero (by
        have := Nat.sub_mod_eq_zero_of_mod_eq (m := a ^ m % n) (n := 1) (k := r) (by rw [e1, Nat.mod_eq_of_lt hr1])
        exact this)
      have e4 : a ^ m % n + n - 1 = (a ^ m % n - 1) + n := by omega
      rw [e4]
      exact Nat.dvd_add e3 hrn
    have := Nat.dvd_gcd hd hrn
    rw [g1] at this
    have := Nat.le_of_dvd (by omega) this
    omega

/-- Pocklington's criterion with two primes. -/
theorem pocklington {n q1 q2 m1 m2 a : Nat} (hq1 : Prime q1) (hq2 : Prime q2) (hne : q1 ≠ q2) (hn1 : 1 < n) (hm1 : n - 1 = q1 * m1) (hm2 : n - 1 = q2 * m2) (hsz : n < (q1 * q2 + 1) * (q1 * q2 + 1))
    (h1 : a ^ (n - 1) % n = 1) (g1 : Nat.gcd (a ^ m1 % n + n - 1) n = 1) (g2 : Nat.gcd (a ^ m2 % n + n - 1) n = 1) : Prime n := by
  by_cases hp : Prime n
  · exact hp
  · exfalso
    obtain ⟨r, hr, hrn, hrr⟩ := small_prime hn1 hp
    have d1 := pock_one hq1 hm1 hn1 h1 g1 hr hrn
    have d2 := pock_one hq2 hm2 hn1 h1 g2 hr hrn
    have hcop : Nat.Coprime q1 q2 := hq1.coprime (fun hd => by
      rcases hq2.2 _ hd with h | h
      · have := hq1.1; omega
      · exact hne h)
    have hd : q1 * q2 ∣ r - 1 := hcop.mul_dvd_of_dvd_of_dvd d1 d2
    have hr1 := hr.1
    have hle := Nat.le_of_dvd (by omega) hd
    have h2 : q1 * q2 + 1 ≤ r := by omega
    have := Nat.mul_le_mul h2 h2
    omega

/-- The criterion's reckoning, as one Bool. -/
def pockB (n q1 q2 a k : Nat) : Bool :=
  decide (1 < n) && decide (n - 1 = q1 * ((n - 1) / q1)) && decide (n - 1 = q2 * ((n - 1) / q2)) && decide (n < (q1 * q2 + 1) * (q1 * q2 + 1)) && decide (q1 ≠ q2) && decide (n < 2 ^ k) &&
  (pm n a k (n - 1) == 1) && (Nat.gcd (pm n a k ((n - 1) / q1) + n - 1) n == 1) && (Nat.gcd (pm n a k ((n - 1) / q2) + n - 1) n == 1)

theorem prime_of {n q1 q2 a k : Nat} (hq1 : Prime q1) (hq2 : Prime q2) (h : pockB n q1 q2 a k = true) : Prime n := by
  simp only [pockB, Bool.and_eq_true, decide_eq_true_eq, beq_iff_eq] at h
  obtain ⟨⟨⟨⟨⟨⟨⟨⟨h1, h2⟩, h3⟩, h4⟩, h5⟩, h6⟩, h7⟩, h8⟩, h9⟩ := h
  have hd1 : (n - 1) / q1 ≤ n - 1 := Nat.div_le_self _ _
  have hd2 : (n - 1) / q2 ≤ n - 1 := Nat.div_le_self _ _
  rw [pm_eq n a k _ (by omega)] at h7 h8 h9
  exact pocklington hq1 hq2 h5 h1 h2 h3 h4 h7 h8 h9

/-- Trial division. -/
def trial (n : Nat) : Nat → Bool
  | 0 => true
  | k + 1 => trial n k && (decide (k < 2) || decide (n % k ≠ 0))
theorem trial_get {n : Nat} : ∀ {k m : Nat}, trial n k = true → 2 ≤ m → m < k → ¬ m ∣ n
  | k + 1, m, h, h2, hm, hd => by
    simp only [trial, Bool.and_eq_true, Bool.or_eq_true, decide_eq_true_eq] at h
    by_cases e : m = k
    · subst e
      rcases h.2 with h3 | h3
      · omega
      · exact h3 (Nat.mod_eq_zero_of_dvd hd)
    · exact trial_get h.1 h2 (by omega) hd
theorem prime_trial {n k : Nat} (hn : 1 < n) (hk : n < k * k) (h : trial n k = true) : Prime n := by
  by_cases hp : Prime n
  · exact hp
  · exfalso
    obtain ⟨r, hr, hrn, hrr⟩ := small_prime hn hp
    have hr1 := hr.1
    have : r < k := by
      rcases Nat.lt_or_ge r k with h1 | h1
      · exact h1
      · have := Nat.mul_le_mul h1 h1; omega
    exact trial_get h (by omega) this hrn

theorem prime_127 : Prime 127 := prime_trial (k := 12) (by decide) (by decide) (by decide +kernel)
theorem prime_8574133 : Prime 8574133 := prime_trial (k := 2929) (by decide) (by decide +kernel) (by decide +kernel)
theorem prime_75707 : Prime 75707 := prime_trial (k := 276) (by decide) (by decide +kernel) (by decide +kernel)
theorem prime_65147 : Prime 65147 := prime_trial (k := 256) (by decide) (by decide +kernel) (by decide +kernel)
theorem prime_1923133 : Prime 1923133 := prime_trial (k := 1387) (by decide) (by decide +kernel) (by decide +kernel)
theorem prime_a : Prime 1919519569386763 := prime_of (q1 := 8574133) (q2 := 127) (a := 2) (k := 51) prime_8574133 prime_127 (by decide +kernel)
theorem prime_b : Prime 75445702479781427272750846543864801 := prime_of (q1 := 1919519569386763) (q2 := 75707) (a := 7) (k := 116) prime_a prime_75707 (by decide +kernel)
theorem prime_c : Prime 74058212732561358302231226437062788676166966415465897661863160754340907 := prime_of (q1 := 75445702479781427272750846543864801) (q2 := 1923133) (a := 2) (k := 236) prime_b prime_1923133 (by decide +kernel)

/-- p. -/
def p : Nat := 57896044618658097711785492504343953926634992332820282019728792003956564819949
theorem prime_p : Prime p := prime_of (q1 := 74058212732561358302231226437062788676166966415465897661863160754340907) (q2 := 65147) (a := 2) (k := 255) prime_c prime_65147 (by decide +kernel)

end Nums

namespace Nums
section
variable {n : Nat} [NeZero n]

omit [NeZero n] in
theorem val_mul (a b : Fin n) : (a * b).val = a.val * b.val % n := rfl
theorem val_zero : ((0 : Fin n)).val = 0 := by simp
theorem val_one (hn : Prime n) : ((1 : Fin n)).val = 1 := by
  show 1 % n = 1
  exact Nat.mod_eq_of_lt hn.1

theorem ne_one (hn : Prime n) : (0 : Fin n) ≠ 1 := by
  intro h
  have := congrArg Fin.val h
  rw [val_one hn, val_zero] at this
  omega

theorem zero_or (hn : Prime n) {a b : Fin n} (h : a * b = 0) : a = 0 ∨ b = 0 := by
  have h1 : a.val * b.val % n = 0 := by rw [← val_mul, h]; exact val_zero
  have z : ∀ c : Fin n, n ∣ c.val → c = 0 := fun c hc => by
    apply Fin.ext
    rw [val_zero]
    exact Nat.eq_zero_of_dvd_of_lt hc c.isLt
  rcases hn.dvd_mul (Nat.dvd_of_mod_eq_zero h1) with h2 | h2
  · exact .inl (z a h2)
  · exact .inr (z b h2)

theorem mul_ne (hn : Prime n) {a b : Fin n} (ha : a ≠ 0) (hb : b ≠ 0) : a * b ≠ 0 := fun h => by
  rcases zero_or hn h with h | h
  · exact ha h
  · exact hb h

/-- Powers. -/
def fpow (a : Fin n) : Nat → Fin n
  | 0 => 1
  | k + 1 => fpow a k * a

theorem fpow_zero (a : Fin n) : fpow a 0 = 1 := rfl
theorem fpow_succ (a : Fin n) (k : Nat) : fpow a (k + 1) = fpow a k * a := rfl
theorem fpow_add (a : Fin n) (j k : Nat) : fpow a (j + k) = fpow a j * fpow a k := by
  induction k with
  | zero => rw [Nat.add_zero, fpow_zero]; grind
  | succ k ih => rw [Nat.add_succ, fpow_succ, fpow_succ, ih]; grind
theorem fpow_one (a : Fin n) : fpow a 1 = a := by rw [fpow_succ, fpow_zero]; grind
theorem one_fpow (k : Nat) : fpow (1 : Fin n) k = 1 := by
  induction k with
  | zero => rfl
  | succ k ih => rw [fpow_succ, ih]; grind
theorem zero_fpow {k : Nat} (h : 0 < k) : fpow (0 : Fin n) k = 0 := by
  obtain ⟨j, rfl⟩ : ∃ j, k = j + 1 := ⟨k - 1, by omega⟩
  rw [fpow_succ]; grind
theorem fpow_mul (a : Fin n) (j k : Nat) : fpow a (j * k) = fpow (fpow a j) k := by
  induction k with
  | zero => rfl
  | succ k ih => rw [Nat.mul_succ, fpow_add, fpow_succ, ih]
theorem mul_fpow (a b : Fin n) (k : Nat) : fpow (a * b) k = fpow a k * fpow b k := by
  induction k with
  | zero => rw [fpow_zero, fpow_zero, fpow_zero]; grind
  | succ k ih => rw [fpow_succ, fpow_succ, fpow_succ, ih]; grind
theorem fpow_val (hn : Prime n) (a : Fin n) (k : Nat) : (fpow a k).val = a.val ^ k % n := by
  induction k with
  | zero => rw [fpow_zero, val_one hn, Nat.pow_zero, Nat.mod_eq_of_lt hn.1]
  | succ k ih => rw [fpow_succ, val_mul, ih, Nat.pow_succ, Nat.mod_mul_mod]

theorem fpow_fermat (hn : Prime n) {a : Fin n} (ha : a ≠ 0) : fpow a (n - 1) = 1 := by
  apply Fin.ext
  rw [fpow_val hn, val_one hn]
  apply fermat hn
  intro hd
  apply ha
  apply Fin.ext
  rw [val_zero]
  exact Nat.eq_zero_of_dvd_of_lt hd a.isLt

/-- The inverse (of 0: 0). -/
def finv (a : Fin n) : Fin n := fpow a (n - 2)

theorem finv_zero (hn : 2 < n) : finv (0 : Fin n) = 0 := zero_fpow (by omega)
theorem mul_finv (hn : Prime n) {a : Fin n} (ha : a ≠ 0) : a * finv a = 1 := by
  have h := fpow_fermat hn ha
  have h2 : n - 1 = (n - 2) + 1 := by have := hn.1; omega
  rw [h2, fpow_succ] at h
  unfold finv
  rw [← h]; grind

theorem cancel (hn : Prime n) {a b c : Fin n} (hc : c ≠ 0) (h : a * c = b * c) : a = b := by
  have h1 := mul_finv hn hc
  have : a * c * finv c = b * c * finv c := by rw [h]
  grind

theorem finv_of (hn : Prime n) {a b : Fin n} (h : a * b = 1) : finv a = b := by
  have ha : a ≠ 0 := by
    rintro rfl
    exact ne_one hn (by rw [← h]; grind)
  apply cancel hn ha
  have := mul_finv hn ha
  grind

theorem finv_ne (hn : Prime n) {a : Fin n} (ha : a ≠ 0) : finv a ≠ 0 := fun h => by
  have := mul_finv hn ha
  rw [h] at this
  exact ne_one hn (by rw [← this]; grind)

/-- Two roots of one square. -/
theorem root_or (hn : Prime n) {a b : Fin n} (h : a * a = b * b) : a = b ∨ a = -b := by
  have : (a - b) * (a + b) = 0 := by grind
  rcases zero_or hn this with h | h
  · left; grind
  · right; grind

end
end Nums

namespace Nums

theorem Ed.closed {n : Nat} [NeZero n] (x1 y1 x2 y2 d : Fin n) (h1 : y1*y1 - x1*x1 = 1 + d*x1*x1*y1*y1) (h2 : y2*y2 - x2*x2 = 1 + d*x2*x2*y2*y2) :
  (y1*y2+x1*x2)*(y1*y2+x1*x2)*(1+d*x1*x2*y1*y2)*(1+d*x1*x2*y1*y2) - (x1*y2+y1*x2)*(x1*y2+y1*x2)*(1-d*x1*x2*y1*y2)*(1-d*x1*x2*y1*y2)
   = (1+d*x1*x2*y1*y2)*(1+d*x1*x2*y1*y2)*(1-d*x1*x2*y1*y2)*(1-d*x1*x2*y1*y2) + d*(y1*y2+x1*x2)*(y1*y2+x1*x2)*(x1*y2+y1*x2)*(x1*y2+y1*x2) := by grind

set_option maxHeartbeats 4000000 in
theorem Ed.assoc_x {n : Nat} [NeZero n] (x1 y1 x2 y2 x3 y3 d : Fin n) (h1 : y1*y1 - x1*x1 = 1 + d*x1*x1*y1*y1) (h2 : y2*y2 - x2*x2 = 1 + d*x2*x2*y2*y2) (h3 : y3*y3 - x3*x3 = 1 + d*x3*x3*y3*y3) :
  ((x1*y2+y1*x2)*(1-d*x1*x2*y1*y2)*y3 + (y1*y2+x1*x2)*(1+d*x1*x2*y1*y2)*x3) * ((1+d*x2*x3*y2*y3)*(1-d*x2*x3*y2*y3) + d*x1*y1*(x2*y3+y2*x3)*(y2*y3+x2*x3))
  = (x1*(y2*y3+x2*x3)*(1+d*x2*x3*y2*y3) + y1*(x2*y3+y2*x3)*(1-d*x2*x3*y2*y3)) * ((1+d*x1*x2*y1*y2)*(1-d*x1*x2*y1*y2) + d*(x1*y2+y1*x2)*(y1*y2+x1*x2)*x3*y3) := by grind

set_option maxHeartbeats 4000000 in
theorem Ed.assoc_y {n : Nat} [NeZero n] (x1 y1 x2 y2 x3 y3 d : Fin n) (h1 : y1*y1 - x1*x1 = 1 + d*x1*x1*y1*y1) (h2 : y2*y2 - x2*x2 = 1 + d*x2*x2*y2*y2) (h3 : y3*y3 - x3*x3 = 1 + d*x3*x3*y3*y3) :
  ((y1*y2+x1*x2)*(1+d*x1*x2*y1*y2)*y3 + (x1*y2+y1*x2)*(1-d*x1*x2*y1*y2)*x3) * ((1+d*x2*x3*y2*y3)*(1-d*x2*x3*y2*y3) - d*x1*y1*(x2*y3+y2*x3)*(y2*y3+x2*x3))
  = (y1*(y2*y3+x2*x3)*(1+d*x2*x3*y2*y3) + x1*(x2*y3+y2*x3)*(1-d*x2*x3*y2*y3)) * ((1+d*x1*x2*y1*y2)*(1-d*x1*x2*y1*y2) - d*(x1*y2+y1*x2)*(y1*y2+x1*x2)*x3*y3) := by grind

theorem Ed.key {n : Nat} [NeZero n] {X1 Y1 X2 Y2 D e s : Fin n} (h1 : X1*X1 + Y1*Y1 = 1 + D*X1*X1*Y1*Y1) (h2 : X2*X2 + Y2*Y2 = 1 + D*X2*X2*Y2*Y2) (h : D*X1*X2*Y1*Y2 = e) (he : e * e = 1) (hs : s * s = 1) :
    (X1 + s*e*Y1) * (X1 + s*e*Y1) = D * ((X1*Y1*(X2+s*Y2)) * (X1*Y1*(X2+s*Y2))) := by
  have l : (X1 + s*e*Y1) * (X1 + s*e*Y1) = X1*X1 + (s*s)*(e*e)*(Y1*Y1) + 2*s*e*X1*Y1 := by grind only
  have r : D * ((X1*Y1*(X2+s*Y2)) * (X1*Y1*(X2+s*Y2))) = D*X1*X1*Y1*Y1*(X2*X2 + (s*s)*(Y2*Y2)) + 2*s*(D*X1*X2*Y1*Y2)*X1*Y1 := by grind only
  rw [l, r, hs, he, h]
  have e1 : (1 : Fin n) * 1 * (Y1*Y1) = Y1 * Y1 := by grind only
  have e2 : (1 : Fin n) * (Y2*Y2) = Y2 * Y2 := by grind only
  have e3 : D*X1*X1*Y1*Y1*(1 + D*X2*X2*Y2*Y2) = D*X1*X1*Y1*Y1 + (D*X1*X2*Y1*Y2) * (D*X1*X2*Y1*Y2) := by grind only
  rw [e1, e2, h1, h2, e3, h, he]
  grind only

section
variable {n : Nat} [NeZero n]

structure Ed.Pt (n : Nat) where
  x : Fin n
  y : Fin n

/-- A curve: n is a prime, -1 has a root, d has none. -/
structure Ed.Good (n : Nat) [NeZero n] (d : Fin n) : Prop where
  pr : Prime n
  two : (2 : Fin n) ≠ 0
  i : ∃ i : Fin n, i * i = -1
  d : ∀ t : Fin n, t * t ≠ d

namespace Ed
variable {d : Fin n}

def On (d : Fin n) (P : Pt n) : Prop := P.y*P.y - P.x*P.x = 1 + d*P.x*P.x*P.y*P.y

/-- The heart of it: d x1 x2 y1 y2 is neither 1 nor -1. -/
theorem complete (g : Good n d) {x1 y1 x2 y2 e : Fin n} (h1 : y1*y1 - x1*x1 = 1 + d*x1*x1*y1*y1) (h2 : y2*y2 - x2*x2 = 1 + d*x2*x2*y2*y2) (he : e * e = 1) :
    d*x1*x2*y1*y2 ≠ e := by
  intro h
  obtain ⟨i, hi⟩ := g.i
  have e0 : e ≠ 0 := by rintro rfl; exact ne_one g.pr (by grind only)
  have hx1 : x1 ≠ 0 := by rintro rfl; exact e0 (by grind only)
  have hy1 : y1 ≠ 0 := by rintro rfl; exact e0 (by grind only)
  have hx2 : x2 ≠ 0 := by rintro rfl; exact e0 (by grind only)
  have hi0 : i ≠ 0 := by
    rintro rfl
    exact ne_one g.pr (by grind only)
  have g1 : (i*x1)*(i*x1) + y1*y1 = 1 + (-d)*(i*x1)*(i*x1)*y1*y1 := by
    have a : (i*x1)*(i*x1) + y1*y1 = (i*i)*(x1*x1) + y1*y1 := by grind only
    have b : 1 + (-d)*(i*x1)*(i*x1)*y1*y1 = 1 + (-d)*(i*i)*(x1*x1)*y1*y1 := by grind only
    rw [a, b, hi]
    grind only
  have g2 : (i*x2)*(i*x2) + y2*y2 = 1 + (-d)*(i*x2)*(i*x2)*y2*y2 := by
    have a : (i*x2)*(i*x2) + y2*y2 = (i*i)*(x2*x2) + y2*y2 := by grind only
    have b : 1 + (-d)*(i*x2)*(i*x2)*y2*y2 = 1 + (-d)*(i*i)*(x2*x2)*y2*y2 := by grind only
    rw [a, b, hi]
    grind only
  have g3 : (-d)*(i*x1)*(i*x2)*y1*y2 = e := by
    have a : (-d)*(i*x1)*(i*x2)*y1*y2 = (-d)*(i*i)*x1*x2*y1*y2 := by grind only
    rw [a, hi, ← h]
    grind only
  have key : ∀ s : Fin n, s * s = 1 → i*x2 + s*y2 = 0 := by
    intro s hs
    by_cases hz : i*x2 + s*y2 = 0
    · exact hz
    exfalso
    have hw : i*x1*y1*(i*x2+s*y2) ≠ 0 := mul_ne g.pr (mul_ne g.pr (mul_ne g.pr hi0 hx1) hy1) hz
    have hm := mul_finv g.pr hw
    have hk := Ed.key g1 g2 g3 he hs
    generalize i*x1*y1*(i*x2+s*y2) = w at hm hk
    generalize i*x1 + s*e*y1 = v at hk
    refine g.d (i * (v * finv w)) ?_
    have a : i * (v * finv w) * (i * (v * finv w)) = (i*i)*(v*v)*(finv w)*(finv w) := by grind only
    have b : (-1) * ((-d) * (w*w)) * finv w * finv w = d * (w * finv w) * (w * finv w) := by grind only
    rw [a, hi, hk, b, hm]
    grind only
  have k1 := key 1 (by grind only)
  have k2 := key (-1) (by grind only)
  have : (2 : Fin n) * (i * x2) = 0 := by grind only
  rcases zero_or g.pr this with h3 | h3
  · exact g.two h3
  · exact mul_ne g.pr hi0 hx2 h3

end Ed
end
end Nums
/-
PLAIN NUMBERS: the sums of the curve's points are a group; multiples. No program is imported.
PLAIN NUMBERS: multiples of the curve's points; the sum in coordinates over one z. No program is imported.
PLAIN NUMBERS: p = 2^255 - 19: which numbers are squares, and their roots; the curve's d. No program is imported.
-/
namespace Nums
namespace Ed
variable {n : Nat} [NeZero n] {d : Fin n}

def kk (d : Fin n) (P Q : Pt n) : Fin n := d * P.x * Q.x * P.y * Q.y

theorem plus_ne (g : Good n d) {P Q : Pt n} (hP : On d P) (hQ : On d Q) : 1 + kk d P Q ≠ 0 := fun h =>
  complete g hP hQ (e := -1) (by grind only) (by unfold kk at h; grind only)

theorem minus_ne (g : Good n d) {P Q : Pt n} (hP : On d P) (hQ : On d Q) : 1 - kk d P Q ≠ 0 := fun h =>
  complete g hP hQ (e := 1) (by grind only) (by unfold kk at h; grind only)

/-- The sum. -/
def add (d : Fin n) (P Q : Pt n) : Pt n :=
  ⟨(P.x*Q.y + P.y*Q.x) * finv (1 + kk d P Q), (P.y*Q.y + P.x*Q.x) * finv (1 - kk d P Q)⟩

def zero : Pt n := ⟨0, 1⟩
def neg (P : Pt n) : Pt n := ⟨-P.x, P.y⟩

theorem on_zero : On d (zero : Pt n) := by
  show (1 : Fin n) * 1 - 0 * 0 = 1 + d * 0 * 0 * 1 * 1
  grind only

theorem on_neg {P : Pt n} (h : On d P) : On d (neg P) := by
  unfold On neg at *
  show P.y * P.y - -P.x * -P.x = 1 + d * -P.x * -P.x * P.y * P.y
  grind only

theorem add_x (g : Good n d) {P Q : Pt n} (hP : On d P) (hQ : On d Q) : (add d P Q).x * (1 + kk d P Q) = P.x*Q.y + P.y*Q.x := by
  have := mul_finv g.pr (plus_ne g hP hQ)
  show (P.x*Q.y + P.y*Q.x) * finv (1 + kk d P Q) * (1 + kk d P Q) = _
  generalize finv (1 + kk d P Q) = u at *
  generalize 1 + kk d P Q = v at *
  have a : (P.x*Q.y + P.y*Q.x) * u * v = (P.x*Q.y + P.y*Q.x) * (v * u) := by grind only
  rw [a, this]
  grind only

theorem add_y (g : Good n d) {P Q : Pt n} (hP : On d P) (hQ : On d Q) : (add d P Q).y * (1 - kk d P Q) = P.y*Q.y + P.x*Q.x := by
  have := mul_finv g.pr (minus_ne g hP hQ)
  show (P.y*Q.y + P.x*Q.x) * finv (1 - kk d P Q) * (1 - kk d P Q) = _
  generalize finv (1 - kk d P Q) = u at *
  generalize 1 - kk d P Q = v at *
  have a : (P.y*Q.y + P.x*Q.x) * u * v = (P.y*Q.y + P.x*Q.x) * (v * u) := by grind only
  rw [a, this]
  grind only

theorem on_add (g : Good n d) {P Q : Pt n} (hP : On d P) (hQ : On d Q) : On d (add d P Q) := by
  have hx := add_x g hP hQ
  have hy := add_y g hP hQ
  have h1 := plus_ne g hP hQ
  have h2 := minus_ne g hP hQ
  have c := closed P.x P.y Q.x Q.y d hP hQ
  have k1 : (1 : Fin n) + d*P.x*Q.x*P.y*Q.y = 1 + kk d P Q := rfl
  have k2 : (1 : Fin n) - d*P.x*Q.x*P.y*Q.y = 1 - kk d P Q := rfl
  rw [k1, k2] at c
  show (add d P Q).y * (add d P Q).y - (add d P Q).x * (add d P Q).x = 1 + d * (add d P Q).x * (add d P Q).x * (add d P Q).y * (add d P Q).y
  rw [← hx, ← hy] at c
  generalize (add d P Q).x = x at *
  generalize (add d P Q).y = y at *
  generalize 1 + kk d P Q = u at *
  generalize 1 - kk d P Q = v at *
  apply cancel g.pr (mul_ne g.pr (mul_ne g.pr h1 h1) (mul_ne g.pr h2 h2))
  clear hP hQ hx hy
  grind only

theorem add_comm (P Q : Pt n) : add d P Q = add d Q P := by
  unfold add kk
  have a : d * P.x * Q.x * P.y * Q.y = d * Q.x * P.x * Q.y * P.y := by grind only
  have b : P.x*Q.y + P.y*Q.x = Q.x*P.y + Q.y*P.x := by grind only
  have c : P.y*Q.y + P.x*Q.x = Q.y*P.y + Q.x*P.x := by grind only
  rw [a, b, c]

theorem zero_add (g : Good n d) (P : Pt n) : add d zero P = P := by
  unfold add kk zero
  have a : d * 0 * P.x * 1 * P.y = 0 := by grind only
  have f1 : finv (1 + 0 : Fin n) = 1 := finv_of g.pr (by grind only)
  have f2 : finv (1 - 0 : Fin n) = 1 := finv_of g.pr (by grind only)
  show Pt.mk ((0 * P.y + 1 * P.x) * finv (1 + d * 0 * P.x * 1 * P.y)) ((1 * P.y + 0 * P.x) * finv (1 - d * 0 * P.x * 1 * P.y)) = P
  rw [a, f1, f2]
  have b : (0 * P.y + 1 * P.x) * 1 = P.x := by grind only
  have c : (1 * P.y + 0 * P.x) * 1 = P.y := by grind only
  rw [b, c]

theorem add_zero (g : Good n d) (P : Pt n) : add d P zero = P := by rw [add_comm, zero_add g]

theorem add_neg (g : Good n d) {P : Pt n} (hP : On d P) : add d P (neg P) = zero := by
  have hm := minus_ne g hP (on_neg hP)
  have := mul_finv g.pr hm
  unfold add zero
  have a : (P.x * (neg P).y + P.y * (neg P).x) = 0 := by show P.x * P.y + P.y * -P.x = 0; grind only
  have b : P.y * (neg P).y + P.x * (neg P).x = 1 - kk d P (neg P) := by
    show P.y * P.y + P.x * -P.x = 1 - d * P.x * -P.x * P.y * P.y
    unfold On at hP
    grind only
  rw [a, b, this]
  have c : 0 * finv (1 + kk d P (neg P)) = 0 := by grind only
  rw [c]

theorem re_xl (sx sy rx ry px py tx ty a b e f d : Fin n) : (sx * a * b * ry + sy * b * a * rx) * (e * f + d * px * py * (tx * e) * (ty * f))
      = (a * b * e * f) * ((sx * ry + sy * rx) * (1 + d * px * tx * py * ty)) := by grind only
theorem re_xr (sx sy rx ry px py tx ty a b e f d : Fin n) : (px * (ty * f) * e + py * (tx * e) * f) * (a * b + d * (sx * a) * (sy * b) * rx * ry)
      = (a * b * e * f) * ((px * ty + py * tx) * (1 + d * sx * rx * sy * ry)) := by grind only
theorem re_yl (sx sy rx ry px py tx ty a b e f d : Fin n) : (sy * b * a * ry + sx * a * b * rx) * (e * f - d * px * py * (tx * e) * (ty * f))
      = (a * b * e * f) * ((sy * ry + sx * rx) * (1 - d * px * tx * py * ty)) := by grind only
theorem re_yr (sx sy rx ry px py tx ty a b e f d : Fin n) : (py * (ty * f) * e + px * (tx * e) * f) * (a * b - d * (sx * a) * (sy * b) * rx * ry)
      = (a * b * e * f) * ((py * ty + px * tx) * (1 - d * sx * rx * sy * ry)) := by grind only
theorem re_c (u z w v : Fin n) : u * (z * (w * v)) = z * (u * w * v) := by grind only
theorem re_d (t z w v : Fin n) : t * (z * (w * v)) = z * (t * v * w) := by grind only

set_option maxHeartbeats 4000000 in
theorem add_assoc (g : Good n d) {P Q R : Pt n} (hP : On d P) (hQ : On d Q) (hR : On d R) : add d (add d P Q) R = add d P (add d Q R) := by
  have hPQ := on_add g hP hQ
  have hQR := on_add g hQ hR
  have x1 := add_x g hP hQ
  have y1 := add_y g hP hQ
  have p1 := plus_ne g hP hQ
  have m1 := minus_ne g hP hQ
  have x2 := add_x g hQ hR
  have y2 := add_y g hQ hR
  have p2 := plus_ne g hQ hR
  have m2 := minus_ne g hQ hR
  have x3 := add_x g hPQ hR
  have y3 := add_y g hPQ hR
  have p3 := plus_ne g hPQ hR
  have m3 := minus_ne g hPQ hR
  have x4 := add_x g hP hQR
  have y4 := add_y g hP hQR
  have p4 := plus_ne g hP hQR
  have m4 := minus_ne g hP hQR
  have ax := assoc_x P.x P.y Q.x Q.y R.x R.y d hP hQ hR
  have ay := assoc_y P.x P.y Q.x Q.y R.x R.y d hP hQ hR
  clear hP hQ hR hPQ hQR
  have c1 : (1 : Fin n) + d*P.x*Q.x*P.y*Q.y = 1 + kk d P Q := rfl
  have c2 : (1 : Fin n) - d*P.x*Q.x*P.y*Q.y = 1 - kk d P Q := rfl
  have c3 : (1 : Fin n) + d*Q.x*R.x*Q.y*R.y = 1 + kk d Q R := rfl
  have c4 : (1 : Fin n) - d*Q.x*R.x*Q.y*R.y = 1 - kk d Q R := rfl
  rw [c1, c2, c3, c4, ← x1, ← y1, ← x2, ← y2] at ax ay
  have ex : (add d (add d P Q) R).x = (add d P (add d Q R)).x := by
    generalize add d (add d P Q) R = U at *
    generalize add d P (add d Q R) = V at *
    unfold kk at x3 p3 x4 p4
    generalize add d P Q = S at *
    generalize add d Q R = T at *
    generalize 1 + kk d P Q = a at *
    generalize 1 - kk d P Q = b at *
    generalize 1 + kk d Q R = e at *
    generalize 1 - kk d Q R = f at *
    -- ax: (S.x a b R.y + S.y b a R.x) (e f + d P.x P.y (T.x e)(T.y f)) = (P.x T.y f e + P.y T.x e f) (a b + d (S.x a)(S.y b) R.x R.y)
    rw [re_xl, re_xr, ← x3, ← x4] at ax
    have hne := mul_ne g.pr (mul_ne g.pr (mul_ne g.pr p1 m1) p2) m2
    apply cancel g.pr (mul_ne g.pr hne (mul_ne g.pr p3 p4))
    clear x1 y1 x2 y2 x3 y3 x4 y4 ay c1 c2 c3 c4 hne p1 p2 m1 m2 m3 m4
    generalize a * b * e * f = z at *
    generalize 1 + d * S.x * R.x * S.y * R.y = w at *
    generalize 1 + d * P.x * T.x * P.y * T.y = v at *
    generalize U.x = u at *
    generalize V.x = t at *
    clear g p3 p4
    rw [re_c, re_d, ax]
  have ey : (add d (add d P Q) R).y = (add d P (add d Q R)).y := by
    generalize add d (add d P Q) R = U at *
    generalize add d P (add d Q R) = V at *
    unfold kk at y3 m3 y4 m4
    generalize add d P Q = S at *
    generalize add d Q R = T at *
    generalize 1 + kk d P Q = a at *
    generalize 1 - kk d P Q = b at *
    generalize 1 + kk d Q R = e at *
    generalize 1 - kk d Q R = f at *
    rw [re_yl, re_yr, ← y3, ← y4] at ay
    have hne := mul_ne g.pr (mul_ne g.pr (mul_ne g.pr p1 m1) p2) m2
    apply cancel g.pr (mul_ne g.pr hne (mul_ne g.pr m3 m4))
    clear x1 y1 x2 y2 x3 y3 x4 y4 ax c1 c2 c3 c4 hne p1 p2 m1 m2 p3 p4
    generalize a * b * e * f = z at *
    generalize 1 - d * S.x * R.x * S.y * R.y = w at *
    generalize 1 - d * P.x * T.x * P.y * T.y = v at *
    generalize U.y = u at *
    generalize V.y = t at *
    clear g m3 m4
    rw [re_c, re_d, ay]
  have eta : ∀ A B : Pt n, A.x = B.x → A.y = B.y → A = B := by
    rintro ⟨_, _⟩ ⟨_, _⟩ h1 h2
    simp only at h1 h2
    rw [h1, h2]
  exact eta _ _ ex ey

end Ed
end Nums

namespace Nums
namespace Ed
variable {n : Nat} [NeZero n] {d : Fin n}

/-- So many of a point. -/
def mul (d : Fin n) : Nat → Pt n → Pt n
  | 0, _ => zero
  | k + 1, P => add d (mul d k P) P

theorem mul_0 (P : Pt n) : mul d 0 P = zero := rfl
theorem mul_succ (k : Nat) (P : Pt n) : mul d (k + 1) P = add d (mul d k P) P := rfl

theorem on_mul (g : Good n d) {P : Pt n} (hP : On d P) (k : Nat) : On d (mul d k P) := by
  induction k with
  | zero => exact on_zero
  | succ k ih => exact on_add g ih hP

theorem mul_1 (g : Good n d) (P : Pt n) : mul d 1 P = P := by rw [mul_succ, mul_0, zero_add g]

theorem mul_2 (g : Good n d) (P : Pt n) : mul d 2 P = add d P P := by rw [mul_succ, mul_1 g]

theorem mul_add (g : Good n d) {P : Pt n} (hP : On d P) (j k : Nat) : mul d (j + k) P = add d (mul d j P) (mul d k P) := by
  induction k with
  | zero => rw [Nat.add_zero, mul_0, add_zero g]
  | succ k ih => rw [← Nat.add_assoc, mul_succ, mul_succ, ih, add_assoc g (on_mul g hP j) (on_mul g hP k) hP]

theorem mul_zero (g : Good n d) (k : Nat) : mul d k (zero : Pt n) = zero := by
  induction k with
  | zero => rfl
  | succ k ih => rw [mul_succ, ih, zero_add g]

theorem mul_mul (g : Good n d) {P : Pt n} (hP : On d P) (j k : Nat) : mul d (j * k) P = mul d k (mul d j P) := by
  induction k with
  | zero => rw [Nat.mul_zero, mul_0, mul_0]
  | succ k ih => rw [Nat.mul_succ, mul_add g hP, ih, mul_succ]

theorem add_swap (g : Good n d) {A B C D : Pt n} (hA : On d A) (hB : On d B) (hC : On d C) (hD : On d D) :
    add d (add d A B) (add d C D) = add d (add d A C) (add d B D) := by
  rw [add_assoc g hA hB (on_add g hC hD), add_assoc g hA hC (on_add g hB hD), ← add_assoc g hB hC hD, ← add_assoc g hC hB hD, add_comm B C]

theorem mul_dist (g : Good n d) {P Q : Pt n} (hP : On d P) (hQ : On d Q) (k : Nat) : mul d k (add d P Q) = add d (mul d k P) (mul d k Q) := by
  induction k with
  | zero => rw [mul_0, mul_0, mul_0, zero_add g]
  | succ k ih => rw [mul_succ, mul_succ, mul_succ, ih, add_swap g (on_mul g hP k) (on_mul g hQ k) hP hQ]

/-- What is added to a point and gives the neutral one is its negative. -/
theorem neg_of (g : Good n d) {P Q : Pt n} (hP : On d P) (hQ : On d Q) (h : add d P Q = zero) : Q = neg P := by
  have a : add d (neg P) (add d P Q) = Q := by
    rw [← add_assoc g (on_neg hP) hP hQ, add_comm (neg P) P, add_neg g hP, zero_add g]
  rw [h, add_zero g] at a
  exact a.symm

theorem neg_zero : neg (zero : Pt n) = zero := by
  show Pt.mk (-0 : Fin n) 1 = Pt.mk 0 1
  have : (-0 : Fin n) = 0 := by grind only
  rw [this]

theorem neg_neg (P : Pt n) : neg (neg P) = P := by
  show Pt.mk (- -P.x) P.y = P
  have : - -P.x = P.x := by grind only
  rw [this]

theorem neg_add (g : Good n d) {P Q : Pt n} (hP : On d P) (hQ : On d Q) : neg (add d P Q) = add d (neg P) (neg Q) := by
  symm
  apply neg_of g (on_add g hP hQ) (on_add g (on_neg hP) (on_neg hQ))
  rw [add_swap g hP hQ (on_neg hP) (on_neg hQ), add_neg g hP, add_neg g hQ, zero_add g]

theorem mul_neg (g : Good n d) {P : Pt n} (hP : On d P) (k : Nat) : mul d k (neg P) = neg (mul d k P) := by
  induction k with
  | zero => rw [mul_0, mul_0, neg_zero]
  | succ k ih => rw [mul_succ, mul_succ, ih, neg_add g (on_mul g hP k) hP]

theorem mul_mod (g : Good n d) {P : Pt n} (hP : On d P) {L : Nat} (hL : mul d L P = zero) (k : Nat) : mul d k P = mul d (k % L) P := by
  have h := mul_add g hP (L * (k / L)) (k % L)
  rw [mul_mul g hP, hL, mul_zero g, zero_add g, Nat.div_add_mod] at h
  exact h

theorem mul_times (g : Good n d) {P : Pt n} (hP : On d P) (a b : Nat) : mul d a (mul d b P) = mul d (a * b) P := by
  rw [Nat.mul_comm, mul_mul g hP]

/-- Multiples that are neutral by two numbers with nothing in common: the point is. -/
theorem zero_of (g : Good n d) {P : Pt n} (hP : On d P) {j k a b : Nat} (hj : mul d j P = zero) (hk : mul d k P = zero) (h : j * a = k * b + 1) : P = zero := by
  have h1 : mul d (j * a) P = zero := by rw [mul_mul g hP, hj, mul_zero g]
  rw [h, mul_add g hP, mul_mul g hP, hk, mul_zero g, zero_add g, mul_1 g] at h1
  exact h1

/-- Coordinates over one z. -/
structure Rep (X Y Z : Fin n) (P : Pt n) : Prop where
  z : Z ≠ 0
  x : X = P.x * Z
  y : Y = P.y * Z

theorem Rep.zero (hn : Prime n) : Rep (0 : Fin n) 1 1 zero where
  z := fun h => ne_one hn h.symm
  x := by show (0 : Fin n) = 0 * 1; grind only
  y := by show (1 : Fin n) = 1 * 1; grind only

theorem Rep.neg {X Y Z : Fin n} {P : Pt n} (r : Rep X Y Z P) : Rep (-X) Y Z (neg P) where
  z := r.z
  x := by
    rw [r.x]
    show -(P.x * Z) = -P.x * Z
    grind only
  y := r.y

theorem kk_rep {X1 Y1 Z1 X2 Y2 Z2 : Fin n} {P Q : Pt n} (r : Rep X1 Y1 Z1 P) (s : Rep X2 Y2 Z2 Q) :
    d * ((X1 * X2) * (Y1 * Y2)) = kk d P Q * ((Z1 * Z2) * (Z1 * Z2)) := by
  rw [r.x, r.y, s.x, s.y]
  unfold kk
  grind only

/-- The sum over one z, by the formula that divides nothing. -/
theorem Rep.add (g : Good n d) {X1 Y1 Z1 X2 Y2 Z2 : Fin n} {P Q : Pt n} (hP : On d P) (hQ : On d Q) (r : Rep X1 Y1 Z1 P) (s : Rep X2 Y2 Z2 Q)
    {z m : Fin n} (hz : z = Z1 * Z2) (hm : m = d * ((X1 * X2) * (Y1 * Y2))) :
    Rep (((X1 * Y2 + Y1 * X2) * z) * (z * z - m)) (((Y1 * Y2 + X1 * X2) * z) * (z * z + m)) ((z * z + m) * (z * z - m)) (add d P Q) := by
  have hzn : z ≠ 0 := hz ▸ mul_ne g.pr r.z s.z
  have hm2 : m = kk d P Q * (z * z) := by rw [hm, hz, kk_rep r s]
  have p1 : z * z + m = (1 + kk d P Q) * (z * z) := by rw [hm2]; grind only
  have p2 : z * z - m = (1 - kk d P Q) * (z * z) := by rw [hm2]; grind only
  have nx : X1 * Y2 + Y1 * X2 = (P.x * Q.y + P.y * Q.x) * z := by rw [r.x, r.y, s.x, s.y, hz]; grind only
  have ny : Y1 * Y2 + X1 * X2 = (P.y * Q.y + P.x * Q.x) * z := by rw [r.x, r.y, s.x, s.y, hz]; grind only
  have hx := add_x g hP hQ
  have hy := add_y g hP hQ
  have n1 := plus_ne g hP hQ
  have n2 := minus_ne g hP hQ
  constructor
  · rw [p1, p2]
    exact mul_ne g.pr (mul_ne g.pr n1 (mul_ne g.pr hzn hzn)) (mul_ne g.pr n2 (mul_ne g.pr hzn hzn))
  · rw [p1, p2, nx, ← hx]
    grind only
  · rw [p1, p2, ny, ← hy]
    grind only

theorem Rep.same (hn : Prime n) {X Y Z : Fin n} {P Q : Pt n} (r : Rep X Y Z P) (s : Rep X Y Z Q) : P = Q := by
  have hx : P.x = Q.x := cancel hn r.z (r.x.symm.trans s.x)
  have hy : P.y = Q.y := cancel hn r.z (r.y.symm.trans s.y)
  cases P
  cases Q
  simp only at hx hy
  rw [hx, hy]

theorem Rep.aff (hn : Prime n) {X Y Z : Fin n} {P : Pt n} (r : Rep X Y Z P) : X * finv Z = P.x ∧ Y * finv Z = P.y := by
  have h := mul_finv hn r.z
  have a : ∀ u : Fin n, u * Z * finv Z = u * (Z * finv Z) := fun u => by grind only
  have b : ∀ u : Fin n, u * 1 = u := fun u => by grind only
  rw [r.x, r.y, a, a, h, b, b]
  exact ⟨rfl, rfl⟩

end Ed
end Nums

namespace Nums

instance : NeZero p := ⟨by decide⟩
/-- The numbers modulo p. -/
abbrev F := Fin p
/-- A number modulo p. -/
def fof (k : Nat) : F := ⟨k % p, Nat.mod_lt _ (by decide)⟩
theorem fof_val (k : Nat) : (fof k).val = k % p := rfl
theorem fof_add (a b : Nat) : fof (a + b) = fof a + fof b := by
  apply Fin.ext
  show (a + b) % p = (a % p + b % p) % p
  rw [← Nat.add_mod]
theorem fof_mul (a b : Nat) : fof (a * b) = fof a * fof b := by
  apply Fin.ext
  show (a * b) % p = (a % p * (b % p)) % p
  rw [← Nat.mul_mod]
theorem fof_mod (a : Nat) : fof (a % p) = fof a := by
  apply Fin.ext
  show a % p % p = a % p
  rw [Nat.mod_mod]
theorem fof_eq {a b : Nat} (h : a % p = b % p) : fof a = fof b := Fin.ext h
theorem fof_zero : fof 0 = 0 := by
  apply Fin.ext
  show 0 % p = 0 % p
  rfl
theorem fof_one : fof 1 = 1 := by
  apply Fin.ext
  show 1 % p = 1 % p
  rfl
theorem fof_of (a : F) : fof a.val = a := by
  apply Fin.ext
  exact Nat.mod_eq_of_lt a.isLt
theorem fof_sub {a b : Nat} (h : b ≤ a) : fof (a - b) = fof a - fof b := by
  have : fof a = fof (a - b) + fof b := by rw [← fof_add, Nat.sub_add_cancel h]
  rw [this]
  generalize fof (a - b) = u
  generalize fof b = v
  grind only
theorem fof_pow (a k : Nat) : fof (a ^ k) = fpow (fof a) k := by
  induction k with
  | zero => exact fof_one
  | succ k ih => rw [Nat.pow_succ, fof_mul, ih, fpow_succ]
theorem fof_pm {a e : Nat} (k : Nat) (h : e < 2 ^ k) : fpow (fof a) e = fof (pm p a k e) := by
  rw [pm_eq p a k e h, fof_mod, fof_pow]

/-- The numbers' names: (p - 1) / 2, (p - 1) / 4, (p + 3) / 8. -/
def ph : Nat := 28948022309329048855892746252171976963317496166410141009864396001978282409974
def pq : Nat := 14474011154664524427946373126085988481658748083205070504932198000989141204987
def pe : Nat := 7237005577332262213973186563042994240829374041602535252466099000494570602494
theorem ph_two : ph * 2 = p - 1 := by decide
theorem pq_two : pq * 2 = ph := by decide
theorem pe_two : pe * 2 = pq + 1 := by decide
theorem ph_pos : 0 < ph := by decide
theorem pq_pos : 0 < pq := by decide

/-- A root of -1: 2 to (p - 1) / 4. -/
def im : F := fpow (fof 2) pq
theorem im_im : im * im = -1 := by
  unfold im
  rw [← fpow_add, show pq + pq = ph from by decide, fof_pm 255 (by decide)]
  have : fof (pm p 2 255 ph) = fof (p - 1) := fof_eq (by decide +kernel)
  rw [this, fof_sub (by decide), fof_one, show fof p = 0 from fof_eq (a := p) (b := 0) (by decide)]
  generalize (1 : F) = u
  grind only

theorem two_ne : (2 : F) ≠ 0 := by
  intro h
  have h1 : (2 : F).val = (0 : F).val := by rw [h]
  revert h1
  decide

/-- Euler: a square's half power is 1. -/
theorem euler_sq {a : F} (ha : a ≠ 0) : fpow (a * a) ph = 1 := by
  rw [mul_fpow, ← fpow_add, show ph + ph = p - 1 from by decide]
  exact fpow_fermat prime_p ha

theorem euler_or {a : F} (ha : a ≠ 0) : fpow a ph = 1 ∨ fpow a ph = -1 := by
  have h := fpow_fermat prime_p ha
  rw [show p - 1 = ph + ph from by decide, fpow_add] at h
  have h1 : fpow a ph * fpow a ph = 1 * 1 := by rw [h]; grind only
  exact root_or prime_p h1

/-- The root's candidate: to (p + 3) / 8. -/
def cand (a : F) : F := fpow a pe
theorem cand_sq (a : F) : cand a * cand a = fpow a pq * a := by
  unfold cand
  rw [← fpow_add, show pe + pe = pq + 1 from by decide, fpow_succ]

theorem cand_zero : cand 0 = 0 := zero_fpow (by decide)

/-- Euler's criterion, and where the root is. -/
theorem root_of {w : F} (h : fpow w ph = 1) : cand w * cand w = w ∨ (cand w * im) * (cand w * im) = w := by
  have h1 : fpow w pq * fpow w pq = 1 * 1 := by
    rw [← fpow_add, show pq + pq = ph from by decide, h]
    grind only
  have hc := cand_sq w
  have hi := im_im
  rcases root_or prime_p h1 with h2 | h2
  · left
    rw [hc, h2]
    grind only
  · right
    rw [h2] at hc
    grind only

theorem no_root {w : F} (h0 : w ≠ 0) (h : fpow w ph ≠ 1) (x : F) : x * x ≠ w := by
  rintro rfl
  apply h
  apply euler_sq
  rintro rfl
  exact h0 (by grind only)

/-- A number below p is even or its negative is. -/
theorem neg_val {a : F} (h : a ≠ 0) : (-a).val = p - a.val := by
  have h1 : a.val ≠ 0 := fun h2 => h (Fin.ext h2)
  have h2 := a.isLt
  have h3 : fof (p - a.val) = -a := by
    rw [fof_sub (by omega), fof_of, show fof p = 0 from fof_eq (a := p) (b := 0) (by decide)]
    grind only
  rw [← h3, fof_val]
  exact Nat.mod_eq_of_lt (by omega)

theorem p_odd : p % 2 = 1 := by decide
theorem neg_odd {a : F} (h : a ≠ 0) : (-a).val % 2 = 1 - a.val % 2 := by
  rw [neg_val h]
  have h2 := a.isLt
  have h3 := p_odd
  omega

/-- The curve's d. -/
def dn : Nat := 37095705934669439343138083508754565189542113879843219016388785533085940283555
def dd : F := fof dn
theorem dd_def : dd = (0 - fof 121665) * finv (fof 121666) := by
  have h0 : fof 121666 ≠ 0 := fun h => by
    have := congrArg Fin.val h
    revert this
    decide
  have h : dd * fof 121666 = 0 - fof 121665 := by
    have h1 : fof (dn * 121666 + 121665) = 0 := fof_eq (a := dn * 121666 + 121665) (b := 0) (by decide)
    rw [fof_add, fof_mul] at h1
    unfold dd
    generalize fof dn = u at *
    generalize fof 121666 = v at *
    generalize fof 121665 = w at *
    grind only
  rw [← h]
  have h2 := mul_finv prime_p h0
  generalize fof 121666 = v at *
  generalize finv v = w at *
  generalize dd = u at *
  grind only

theorem dd_ne : dd ≠ 0 := fun h => by
  have := congrArg Fin.val h
  revert this
  decide

theorem dd_pow : fpow dd ph ≠ 1 := by
  unfold dd
  rw [fof_pm 255 (by decide)]
  intro h
  have := congrArg Fin.val h
  revert this
  rw [fof_val]
  decide +kernel

theorem good : Ed.Good p dd where
  pr := prime_p
  two := two_ne
  i := ⟨im, im_im⟩
  d := no_root dd_ne dd_pow

/-- The base point. -/
def bx : Nat := 15112221349535400772501151409588531511454012693041857206046113283949847762202
def bY : Nat := 46316835694926478169428394003475163141307993866256225615783033603165251855960
def base : Ed.Pt p := ⟨fof bx, fof bY⟩
theorem on_base : Ed.On dd base := by
  show fof bY * fof bY - fof bx * fof bx = 1 + dd * fof bx * fof bx * fof bY * fof bY
  unfold dd
  have h : fof (bY * bY) = fof (bx * bx + (1 + dn * bx * bx * bY * bY)) := fof_eq (by decide +kernel)
  rw [fof_mul, fof_add, fof_add, fof_mul, fof_mul, fof_mul, fof_mul, fof_mul, fof_one] at h
  rw [h]
  generalize fof bx = u
  generalize fof bY = v
  generalize fof dn = w
  grind only

end Nums
