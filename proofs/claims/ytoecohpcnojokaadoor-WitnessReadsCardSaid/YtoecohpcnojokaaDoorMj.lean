/-
  SEVERAL TEXTS IN ONE: Vy, TrT, Wi, Wp, Wq, Wr.
-/
import Derived.Test.YtoecohpcnojokaaDoorMh
import Derived.Test.YtoecohpcnojokaaDoorMi
import Derived.Test.YtoecohpcnojokaaDoorMe
import Derived.Test.YtoecohpcnojokaaDoorMg
/-
  DRAWN REGIONS WITH MEMORY, over states: any operations that only read may be taken first, the others in their order.
-/
namespace Go.Proofs.YtoecohpcnojokaaDoor
open Go.RowKit Go.IntWalk

section
variable {P : Program} {ops : Array Oper} {Q : Exit → Act → World → Prop} {Inv : World → Prop}
def wpAnyP (P : Program) (ops : Array Oper) (Q : Exit → Act → World → Prop) (Inv : World → Prop) (p : Nat → Bool) (Fin : Array Bool → Act → World → Prop) : Nat → Array Bool → Act → World → Prop
  | 0, listed, a, w => (∀ j ∈ Region.ready .any ops listed, ∀ i, p i = true → waitsT .any ops ops.size j i = true) ∧ Fin listed a w
  | fuel + 1, listed, a, w => Region.ready .any ops listed ≠ [] ∧ ∀ i ∈ Region.ready .any ops listed, wpOp P ops Q i (fun a' w' => Inv w' ∧ wpAnyP P ops Q Inv p Fin fuel (listed.setIfInBounds i true) a' w') a w
/-- The rest, whatever the order. -/
abbrev FinA (P : Program) (ops : Array Oper) (Q : Exit → Act → World → Prop) (m : Nat) : Array Bool → Act → World → Prop := fun listed a w => wpAny P .any ops Q m listed a w
theorem wpAny_of_P {p : Nat → Bool} {m : Nat} : ∀ (fuel : Nat) (listed : Array Bool) (a : Act) (w : World), wpAnyP P ops Q Inv p (FinA P ops Q m) fuel listed a w → wpAny P .any ops Q (m + fuel) listed a w
  | 0, _, _, _, h => h.2
  | fuel + 1, _, _, _, h => ⟨fun h0 => absurd h0 h.1, fun i hi => wpOp_mono (fun a' w' h' => wpAny_of_P fuel _ a' w' h'.2) (h.2 i hi)⟩
theorem P_first {p : Nat → Bool} {Fin : Array Bool → Act → World → Prop} {i : Nat} {oi : Oper} {v : Value} (hin : p i = true) (hi : ops[i]? = some oi) (hst : stillG oi.op = true) (hsel : ∀ (j : Nat) (o : Oper) cs b, ops[j]? = some o → o.op ≠ .select cs b) (hQ : ∀ c a d v w, Q (.panic c) (a.put d v) w → Q (.panic c) a w) :
    ∀ (fuel : Nat) (listed : Array Bool) (a : Act) (w : World), Inv w → Closed .any ops listed →
      (∀ j oj, ops[j]? = some oj → j ≠ i → listed.getD j true = false → (∀ e ∈ oj.after, Region.binds .any e = true → e.on ≠ i) → oi.apart ops oj = true) →
      i ∈ Region.ready .any ops listed → YieldsB P ops Inv oi (· = v) a → wpAnyP P ops Q Inv p Fin fuel (listed.setIfInBounds i true) (a.put oi.dst v) w → wpAnyP P ops Q Inv p Fin (fuel + 1) listed a w := by
  intro fuel
  induction fuel with
  | zero =>
    intro listed a w hC hcs _ hr hy H
    refine ⟨fun h => (by rw [h] at hr; cases hr), fun j hj => ?_⟩
    by_cases hji : j = i
    · subst hji
      exact still_wpOp hi hst hy hC ⟨hC, H⟩
    · have h1 := H.1 j (ready_mono hj hji) i hin
      obtain ⟨_, oj, hoj, hall⟩ := mem_ready.1 hj
      have h6 := hcs.waits _ j i oj hoj hall h1
      rw [getD_ready hr] at h6
      cases h6
  | succ fuel ih =>
    intro listed a w hC hcs hfree hr hy H
    refine ⟨fun h => (by rw [h] at hr; cases hr), fun j hj => ?_⟩
    by_cases hji : j = i
    · subst hji
      exact still_wpOp hi hst hy hC ⟨hC, H⟩
    · obtain ⟨hjun, oj, hoj, hall⟩ := mem_ready.1 hj
      have hnot : ∀ e ∈ oj.after, Region.binds .any e = true → e.on ≠ i := fun e he hb heq => by
        have h1 := hall e he hb
        rw [heq, getD_ready hr] at h1
        cases h1
      have h2 := wpOp_putB (V := (· = v)) hoj (hfree j oj hoj hji hjun hnot) (fun cs b => hsel i oi cs b hi) (fun cs b => hsel j oj cs b hoj) ⟨v, rfl⟩ (.inr ⟨v, fun _ h => h⟩) hQ hy (fun u hu => by
        subst hu
        exact H.2 j (ready_mono hj hji))
      have hun' : ∀ k, (listed.setIfInBounds j true).getD k true = false → listed.getD k true = false := fun k hun => by
        by_cases hjk : j = k
        · subst hjk; exact hjun
        · rw [getD_set_ne true hjk] at hun; exact hun
      refine wpOp_mono (fun a' w' h3 => ?_) h2
      obtain ⟨hy', h4⟩ := h3
      obtain ⟨hC', h5⟩ := h4 v rfl
      refine ⟨hC', ih (listed.setIfInBounds j true) a' w' hC' (hcs.set hj) (fun k ok hk hki hun hno => hfree k ok hk hki (hun' k hun) hno) (ready_mono hr (Ne.symm hji)) hy' ?_⟩
      rw [Array.setIfInBounds_comm _ _ hji]
      exact h5
end
def pS (P : Program) (b : Base) (Q : Exit → Act → World → Prop) (N : Nat) (ops : Array Oper) (Inv : World → Prop) (p : Nat → Bool) (Fin : Array Bool → Act → World → Prop) (fuel : Nat) (listed : Array Bool) (e : Env) : Prop := Closed .any ops listed → ∀ a w, St b N e a w → Inv w → wpAnyP P ops (NoPanic Q) Inv p Fin fuel listed a w
/-- May it be taken here, ahead of all that is left? -/
def frontP (ops : Array Oper) (p : Nat → Bool) (i : Nat) (listed : Array Bool) : Bool := p i && (Region.ready .any ops listed).contains i && Region.free .any ops listed i && Region.noSelect ops
section
variable {P : Program} {T : List TyR} {b : Base} {ops : Array Oper} {Q : Exit → Act → World → Prop} {N fuel : Nat} {p : Nat → Bool} {Fin : Array Bool → Act → World → Prop} {listed : Array Bool} {E : SE} {L L0 : List LV} {R : List Res} {F M : World → Prop} {Inv : World → Prop} {e : Env}
theorem panic_putP : ∀ c (a : Act) d v w, NoPanic Q (.panic c) (a.put d v) w → NoPanic Q (.panic c) a w := fun _ _ _ _ _ h => h
/-- A step whose value hangs on the frame alone is taken first. -/
theorem p_frontO {o : Oper} {k : Nat} (v : SV) (hvo : v.Ok) (i : Nat) (hc : frontP ops p i listed = true) (ho : ops[i]? = some o) (hg : o.guard = none) (hd : o.dst = some k) (hk : Nat.blt k N = true) (hs : stillG o.op = true) (hv : ∀ (G : Nat → Nat) (a : Act) (w : World), Fr N (denE G E) a → (execOp a.eval o).run P w = .ok (.value (v.den G)) w)
    (hn : pS P b Q N ops Inv p Fin fuel (listed.setIfInBounds i true) ⟨(k, v) :: E, L, R, F, M⟩) : pS P b Q N ops Inv p Fin (fuel + 1) listed ⟨E, L, R, F, M⟩ := fun hcs a w hst hI => by
  obtain ⟨G, S, h1, h2, h3⟩ := hst
  simp only [frontP, Bool.and_eq_true] at hc
  obtain ⟨⟨⟨hin, hr⟩, hfr⟩, hsel⟩ := hc
  have hr' : i ∈ Region.ready .any ops listed := by simpa using hr
  have h6 := hn (hcs.set hr') (a.put (some k) (v.den G)) w ⟨G, S, h1.put hk _, h2.cons hvo, h3⟩ hI
  refine P_first hin ho hs (Region.noSelect_spec hsel) panic_putP fuel listed a w hI hcs (Region.free_spec ho hfr) hr' (v := v.den G) (.inl ⟨by simp [Region.wanted, hg], fun w' _ => ?_⟩) (by rw [hd]; exact h6)
  unfold atB
  rw [hv G a w' h1]
  exact ⟨rfl, rfl⟩
/-- The only one that may come next. -/
theorem p_step {o : Oper} (i : Nat) (hr : Region.ready .any ops listed = [i]) (ho : ops[i]? = some o) (h : ∀ K : Act → World → Prop, (∀ e', (∀ a w, St b N e' a w → Inv w) → pS P b Q N ops Inv p Fin fuel (listed.setIfInBounds i true) e' → kS b K N e') → lS P b ops (Exit.then K (NoPanic Q)) N [o] e) : pS P b Q N ops Inv p Fin (fuel + 1) listed e := fun hcs a w hst _ =>
  ⟨by rw [hr]; simp, fun j hj => by
    rw [hr, List.mem_singleton] at hj
    subst hj
    have hcs' := hcs.set (i := j) (by rw [hr]; simp)
    exact wpOp_of_list ho (h (fun a' w' => Inv w' ∧ wpAnyP P ops (NoPanic Q) Inv p Fin fuel (listed.setIfInBounds j true) a' w') (fun e' hI' ha a' w' hs' => ⟨hI' a' w' hs', ha hcs' a' w' hs' (hI' a' w' hs')⟩) a w hst)⟩
/-- Either of two may come next. -/
theorem p_step2 {o o' : Oper} (i i' : Nat) (hr : Region.ready .any ops listed = [i, i']) (ho : ops[i]? = some o) (ho' : ops[i']? = some o')
    (h : ∀ K : Act → World → Prop, (∀ e', (∀ a w, St b N e' a w → Inv w) → pS P b Q N ops Inv p Fin fuel (listed.setIfInBounds i true) e' → kS b K N e') → lS P b ops (Exit.then K (NoPanic Q)) N [o] e)
    (h' : ∀ K : Act → World → Prop, (∀ e', (∀ a w, St b N e' a w → Inv w) → pS P b Q N ops Inv p Fin fuel (listed.setIfInBounds i' true) e' → kS b K N e') → lS P b ops (Exit.then K (NoPanic Q)) N [o'] e) : pS P b Q N ops Inv p Fin (fuel + 1) listed e := fun hcs a w hst _ =>
  ⟨by rw [hr]; simp, fun j hj => by
    rw [hr] at hj
    have key : ∀ (i : Nat) (o : Oper), i ∈ Region.ready .any ops listed → ops[i]? = some o → (∀ K : Act → World → Prop, (∀ e', (∀ a w, St b N e' a w → Inv w) → pS P b Q N ops Inv p Fin fuel (listed.setIfInBounds i true) e' → kS b K N e') → lS P b ops (Exit.then K (NoPanic Q)) N [o] e) → wpOp P ops (NoPanic Q) i (fun a' w' => Inv w' ∧ wpAnyP P ops (NoPanic Q) Inv p Fin fuel (listed.setIfInBounds i true) a' w') a w := fun i o hi ho h =>
      wpOp_of_list ho (h (fun a' w' => Inv w' ∧ wpAnyP P ops (NoPanic Q) Inv p Fin fuel (listed.setIfInBounds i true) a' w') (fun e' hI' ha a' w' hs' => ⟨hI' a' w' hs', ha (hcs.set hi) a' w' hs' (hI' a' w' hs')⟩) a w hst)
    rcases List.mem_cons.1 hj with rfl | hj
    · exact key _ o (by rw [hr]; simp) ho h
    · rw [List.mem_singleton] at hj
      subst hj
      exact key _ o' (by rw [hr]; simp) ho' h'⟩

/-- What can be seen, taken first: whatever the worlds with Inv say. -/
theorem p_frontI {o : Oper} {k : Nat} (v : SV) (hvo : v.Ok) (i : Nat) (hc : frontP ops p i listed = true) (ho : ops[i]? = some o) (hg : o.guard = none) (hd : o.dst = some k) (hk : Nat.blt k N = true) (hs : stillG o.op = true) (hv : ∀ (G : Nat → Nat) (a : Act) (w : World), Fr N (denE G E) a → Inv w → (execOp a.eval o).run P w = .ok (.value (v.den G)) w)
    (hn : pS P b Q N ops Inv p Fin fuel (listed.setIfInBounds i true) ⟨(k, v) :: E, L, R, F, M⟩) : pS P b Q N ops Inv p Fin (fuel + 1) listed ⟨E, L, R, F, M⟩ := fun hcs a w hst hI => by
  obtain ⟨G, S, h1, h2, h3⟩ := hst
  simp only [frontP, Bool.and_eq_true] at hc
  obtain ⟨⟨⟨hin, hr⟩, hfr⟩, hsel⟩ := hc
  have hr' : i ∈ Region.ready .any ops listed := by simpa using hr
  have h6 := hn (hcs.set hr') (a.put (some k) (v.den G)) w ⟨G, S, h1.put hk _, h2.cons hvo, h3⟩ hI
  refine P_first hin ho hs (Region.noSelect_spec hsel) panic_putP fuel listed a w hI hcs (Region.free_spec ho hfr) hr' (v := v.den G) (.inl ⟨by simp [Region.wanted, hg], fun w' hw' => ?_⟩) (by rw [hd]; exact h6)
  unfold atB
  rw [hv G a w' h1 hw']
  exact ⟨rfl, rfl⟩
theorem p_frontS {o : Oper} {k : Nat} {v : SV} (hT : OkT P T) (i : Nat) (hc : frontP ops p i listed = true) (ho : ops[i]? = some o) (hg : o.guard = none) (hd : o.dst = some k) (hk : Nat.blt k N = true) (hs : stillG o.op = true) (hv : stepS T E L0 o.op = some v) (hsub : ∀ x ∈ L0, x ∈ L) (hI : ∀ w, Inv w → InvL L0 w)
    (hn : pS P b Q N ops Inv p Fin fuel (listed.setIfInBounds i true) ⟨(k, v) :: E, L, R, F, M⟩) : pS P b Q N ops Inv p Fin (fuel + 1) listed ⟨E, L, R, F, M⟩ := fun hcs a w hst hI0 => by
  obtain ⟨G, S, h1, h2, h3⟩ := hst
  simp only [frontP, Bool.and_eq_true] at hc
  obtain ⟨⟨⟨hin, hr⟩, hfr⟩, hsel⟩ := hc
  have hr' : i ∈ Region.ready .any ops listed := by simpa using hr
  obtain ⟨h4, h5⟩ := stepS_ok hT h2 (fun x hx => (h3.var x (hsub x hx)).2.1) hv
  have h6 := hn (hcs.set hr') (a.put (some k) (v.den G)) w ⟨G, S, h1.put hk _, h2.cons h4, h3⟩ hI0
  refine P_first hin ho hs (Region.noSelect_spec hsel) panic_putP fuel listed a w hI0 hcs (Region.free_spec ho hfr) hr' (v := v.den G) (.inl ⟨by simp [Region.wanted, hg], fun w' hw' => ?_⟩) (by rw [hd]; exact h6)
  unfold atB
  rw [h5 h1 fun x hx => by
    obtain ⟨g, e1, e2⟩ := hI w' hw' x hx
    rw [(h3.var x (hsub x hx)).2.2 g e1]
    exact e2]
  exact ⟨rfl, rfl⟩
theorem p_frontA {o : Oper} {k : Nat} (v : SV) (hvo : v.Ok) (i : Nat) (hc : frontP ops p i listed = true) (ho : ops[i]? = some o) (hg : o.guard = none) (hd : o.dst = some k) (hk : Nat.blt k N = true) (hs : stillG o.op = true) (hsub : ∀ x ∈ L0, x ∈ L) (hI : ∀ w, Inv w → InvL L0 w)
    (hv : ∀ (G : Nat → Nat) (a : Act) (w : World), Fr N (denE G E) a → LAt G L0 w → (execOp a.eval o).run P w = .ok (.value (v.den G)) w)
    (hn : pS P b Q N ops Inv p Fin fuel (listed.setIfInBounds i true) ⟨(k, v) :: E, L, R, F, M⟩) : pS P b Q N ops Inv p Fin (fuel + 1) listed ⟨E, L, R, F, M⟩ := fun hcs a w hst hI0 => by
  obtain ⟨G, S, h1, h2, h3⟩ := hst
  simp only [frontP, Bool.and_eq_true] at hc
  obtain ⟨⟨⟨hin, hr⟩, hfr⟩, hsel⟩ := hc
  have hr' : i ∈ Region.ready .any ops listed := by simpa using hr
  have h6 := hn (hcs.set hr') (a.put (some k) (v.den G)) w ⟨G, S, h1.put hk _, h2.cons hvo, h3⟩ hI0
  refine P_first hin ho hs (Region.noSelect_spec hsel) panic_putP fuel listed a w hI0 hcs (Region.free_spec ho hfr) hr' (v := v.den G) (.inl ⟨by simp [Region.wanted, hg], fun w' hw' => ?_⟩) (by rw [hd]; exact h6)
  unfold atB
  rw [hv G a w' h1 fun x hx => by
    obtain ⟨g, e1, e2⟩ := hI w' hw' x hx
    rw [(h3.var x (hsub x hx)).2.2 g e1]
    exact e2]
  exact ⟨rfl, rfl⟩
/-- A cell of a variable. -/
theorem runO_ldL {o : Oper} {t : TypeId} {x : Operand} {j off : Nat} {d : TypeDesc} {ps : List Pt} (v : Value) (ho : o.op = .load t x) (hx : evS E x = some (.a j off)) (hl : lookL L0 j = some ps) (hv : (catP ps)[off]? = some v) (hu : P.underlying t = some d) (hr : d.isRow = false) :
    ∀ (G : Nat → Nat) (a : Act) (w : World), Fr N (denE G E) a → LAt G L0 w → (execOp a.eval o).run P w = .ok (.value ((SV.v v).den G)) w := fun G a w ha hw => by
  have h1 : a.eval x = .pointer (some ⟨G j, off, none⟩) := ha.eval (evS_ok hx)
  obtain ⟨u, hu2, rfl, hps⟩ := lookL_mem hl
  have h2 := (hw u hu2).cell off
  rw [hps, hv] at h2
  have h3 := run_load_cell hu hr h2
  unfold execOp
  simp only [ho, h1, Sem.run_bind, h3, Result.andThen_ok, Sem.run_pure]
  rfl
/-- What lies behind a pointer, taken first. -/
theorem p_ldO {o : Oper} {k : Nat} {t ty : TypeId} {x : Operand} {g off : Nat} {ps : List Pt} {q : SQ} (hT : OkT P T) (i : Nat) (hc : frontP ops p i listed = true) (ho : ops[i]? = some o) (hg : o.guard = none) (hd : o.dst = some k) (hk : Nat.blt k N = true) (hop : o.op = .load t x) (hx : evS E x = some (.v (.pointer (some ⟨g, off, none⟩)))) (hl : loadS T ps t off = some q) (hok : OkP ps) (hI : ∀ w, Inv w → ObjF g ty ps w)
    (hn : pS P b Q N ops Inv p Fin fuel (listed.setIfInBounds i true) ⟨(k, .q q) :: E, L, R, F, M⟩) : pS P b Q N ops Inv p Fin (fuel + 1) listed ⟨E, L, R, F, M⟩ :=
  p_frontI (.q q) (loadS_at hT hok hl).1 i hc ho hg hd hk (by rw [hop]; rfl) (fun _ _ w ha hw => (load_obj hT hop hx hl ha (hI w hw)).2) hn
theorem inv_two {E' : SE} {L' : List LV} {R' : List Res} {F' M' : World → Prop} {p : World → Prop} (hsub : ∀ x ∈ L0, x ∈ L' ∧ x.g.isSome = true) (hp : ∀ w, F' w → M' w → p w) : ∀ a w, St b N ⟨E', L', R', F', M'⟩ a w → InvL L0 w ∧ p w := fun a w hst => by
  refine ⟨?_, ?_⟩
  · obtain ⟨G, S, _, _, h3⟩ := hst
    intro x hx
    obtain ⟨h1, h2⟩ := hsub x hx
    obtain ⟨g, hg⟩ := Option.isSome_iff_exists.1 h2
    have h4 := h3.var x h1
    refine ⟨g, hg, ?_⟩
    rw [← h4.2.2 g hg]
    exact h4.1
  · obtain ⟨G, S, _, _, h3⟩ := hst
    exact hp w h3.view.fact h3.view.fresh
/-! ### The rest in its order -/
def forcedJ (ops : Array Oper) : List Nat → Array Bool → Bool
  | [], listed => (Region.ready .any ops listed).isEmpty
  | k :: ks, listed => decide (Region.ready .any ops listed = [k]) && forcedJ ops ks (listed.setIfInBounds k true)
/-- The operations of these numbers. -/
def opsJ (l : List Oper) : List Nat → List Oper
  | [] => []
  | k :: ks => match l[k]? with
    | some o => o :: opsJ l ks
    | none => []
theorem wpAny_forcedJ {l : List Oper} : ∀ (ks : List Nat) (listed : Array Bool) (a : Act) (w : World), (∀ k ∈ ks, k < l.length) → forcedJ l.toArray ks listed = true →
    wpList P l.toArray Q (opsJ l ks) a w → wpAny P .any l.toArray Q ks.length listed a w
  | [], _, _, _, _, hB, h => ⟨by simpa [forcedJ] using hB, h⟩
  | k :: ks, listed, a, w, hl, hB, h => by
    obtain ⟨o, ho⟩ : ∃ o, l[k]? = some o := ⟨_, List.getElem?_eq_getElem (hl k List.mem_cons_self)⟩
    have h0 : l.toArray[k]? = some o := by simpa using ho
    simp only [forcedJ, Bool.and_eq_true, decide_eq_true_eq] at hB
    obtain ⟨hr, hB'⟩ := hB
    unfold opsJ at h
    rw [ho] at h
    dsimp only at h
    refine ⟨fun e => (by rw [hr] at e; cases e), fun i hi => ?_⟩
    rw [hr, List.mem_singleton] at hi
    subst hi
    have hl' : ∀ j ∈ ks, j < l.length := fun j hj => hl j (List.mem_cons_of_mem _ hj)
    unfold wpOp
    simp only [h0]
    unfold wpList at h
    split
    · rename_i hw
      simp only [hw, if_true] at h
      exact h.imp (Oper.wp_mono fun a' w' h' => wpAny_forcedJ ks _ a' w' hl' hB' h') id
    · rename_i hw
      simp only [hw] at h
      exact wpAny_forcedJ ks _ _ _ hl' hB' (by simpa using h)
def memJ (ks : List Nat) (i : Nat) : Bool := ks.any fun k => Nat.beq k i
/-- The rest is forced. -/
theorem p_tail {ks : List Nat} (js : List Nat) {l l' : List Oper} (hB : ((Region.ready .any l.toArray listed).all (fun j => ks.all fun i => waitsT .any l.toArray l.toArray.size j i) && js.all (fun k => decide (k < l.length)) && forcedJ l.toArray js listed) = true) (hl : opsJ l js = l') (h : lS P b l.toArray (NoPanic Q) N l' e) :
    pS P b Q N l.toArray Inv (memJ ks) (FinA P l.toArray (NoPanic Q) js.length) 0 listed e := fun _ a w hst _ => by
  subst hl
  simp only [Bool.and_eq_true, List.all_eq_true, decide_eq_true_eq] at hB
  refine ⟨fun j hj i hi => ?_, wpAny_forcedJ js listed a w hB.1.2 hB.2 (h a w hst)⟩
  obtain ⟨k, hk, e⟩ := List.any_eq_true.1 hi
  obtain rfl := Nat.eq_of_beq_eq_true e
  exact hB.1.1 j hj k hk
/-- A drawn region: so many steps in whatever order (those of ks that only read first), then the others (js) in their order. -/
theorem s_anyP {l : List Oper} {id : Nat} (ks : List Nat) (n m : Nat) (Inv : World → Prop) (hm : P.follows .mixedOrders = true) (hn : m + n = l.length) (h0 : ∀ a w, St b N e a w → Inv w) (h : pS P b Q N l.toArray Inv (memJ ks) (FinA P l.toArray (NoPanic Q) m) n (Array.replicate l.toArray.size false) e) : cS P b (.region id l.toArray true) Q N e := fun a w hst => by
  refine wp_region_noPanic (wp_region_any hm ?_)
  obtain ⟨G, S, h1, h2, h3⟩ := hst
  have hd : St b N e a w.drew := ⟨G, S, h1, h2, h3.drew⟩
  have h4 := wpAny_of_P n _ a w.drew (h (Closed.none _) a w.drew hd (h0 a _ hd))
  have e1 : m + n = l.toArray.size := by simpa using hn
  rw [e1] at h4
  exact h4
end
end Go.Proofs.YtoecohpcnojokaaDoor
/-
  THE PROGRAM'S TREE: its methods.
-/
namespace Go.Proofs.YtoecohpcnojokaaDoor
open Go.RowKit Go.IntWalk Nums

theorem own_tPut : Own 23 := fun _ _ => by go_simp
theorem own_tGet : Own 22 := fun _ _ => by go_simp
theorem own_tRoot : Own 14 := fun _ _ => by go_simp
theorem own_tLen : Own 24 := fun _ _ => by go_simp
theorem own_tLeaf : Own 45 := fun _ _ => by go_simp
theorem own_tSides : Own 46 := fun _ _ => by go_simp
/-- A tree: its top node, its depth. -/
def trPs (t : TA) (d : Nat) : List Pt := [.one (.v t.val), .one (.v (.int .u8 (d : Int)))]
def eTr (t : TA) (d : Nat) : SQ := .p (trPs t d)
theorem val_cells1 (t : TA) : t.val.cells = #[t.val] := by cases t <;> rfl
theorem trPs_ok (t : TA) (d : Nat) : OkP (trPs t d) := fun p hp => by
  rcases List.mem_cons.1 hp with rfl | hp
  · exact ⟨trivial, val_one t, val_cells1 t⟩
  · rw [List.mem_singleton.1 hp]
    exact ⟨trivial, rfl, rfl⟩
set_option maxRecDepth 100000 in
set_option maxHeartbeats 1000000 in
theorem tRoot_S (t : TA) (d : Nat) : Spec 14 [(eTr t d).den] [] (TF t) (one (.q (eY 32 t.root))) := by
  refine spec_S [eTr t d] 6 Tryd.func14 rfl (by rw [Tryd.ntmps14]; rfl) (one_ok (trPs_ok t d)) fun b => ?_
  refine s_auto TY_ok rfl ?_
  refine s_regA TY_ok rfl fun K hK => ?_
  refine l_call0 [t.val] rfl rfl rfl own_thash rfl rfl (fun _ _ => rfl) (thash_S t) (fun _ h _ => h) fun _ => ?_
  refine l_autoS TY_ok rfl ?_
  refine s_end (hK _ ?_)
  exact s_ret (k_ret TY_ok () rfl (by decide) rfl rfl rfl (fun _ _ _ => trivial) (fun _ _ => trivial))
set_option maxRecDepth 100000 in
set_option maxHeartbeats 1000000 in
theorem tLen_S (t : TA) (d : Nat) : Spec 24 [(eTr t d).den] [] (TF t) (one (.v (.int .i64 (t.len : Int)))) := by
  refine spec_S [eTr t d] 6 Tryd.func24 rfl (by rw [Tryd.ntmps24]; rfl) (one_ok (trPs_ok t d)) fun b => ?_
  refine s_auto TY_ok rfl ?_
  refine s_regA TY_ok rfl fun K hK => ?_
  refine l_call0 [t.val] rfl rfl rfl own_tsize rfl rfl (fun _ _ => rfl) (tsize_S t) (fun _ h _ => h) fun _ => ?_
  refine l_autoS TY_ok rfl ?_
  refine s_end (hK _ ?_)
  exact s_ret (k_ret TY_ok () rfl (by decide) rfl rfl rfl (fun _ _ _ => trivial) (fun _ _ => trivial))
set_option maxRecDepth 100000 in
set_option maxHeartbeats 1000000 in
theorem tGet_S (r : Nat) (l : List PairT) (t : TA) {k : List UInt8} (hk : k.length = 32) (hr : r ≤ 256) (ht : TOk r l t) (hs : SortT l) :
    Spec 22 [(eTr t ((256 - r) % 256)).den, (eY 32 k).den] [] (TF t) { ret := fun _ : Unit => retG (getT l k), own := fun _ => [] } := by
  refine spec_S [eTr t ((256 - r) % 256), eY 32 k] 20 Tryd.func22 rfl (by rw [Tryd.ntmps22]; rfl) (two_ok (trPs_ok t _) (eY_ok hk).1) fun b => ?_
  refine s_auto TY_ok rfl ?_
  refine s_regA TY_ok rfl fun K hK => ?_
  refine l_call0 [t.val, .agg (By k).toArray, .int .u8 (((256 - r) % 256 : Nat) : Int)] rfl rfl rfl own_tfind rfl rfl (fun _ _ => rfl) (tfind_S r l t hk hr ht) (fun _ h _ => h) fun ⟨x, hx⟩ => ?_
  cases x with
  | none =>
    refine l_autoS TY_ok rfl ?_
    refine s_end (hK _ ?_)
    refine s_seq fun K2 hK2 => ?_
    refine s_auto TY_ok rfl ?_
    refine s_yes rfl ?_
    refine s_auto TY_ok rfl ?_
    exact s_ret (k_ret TY_ok () rfl (by decide) rfl (congrArg retG (getT_none.2 hx)) rfl (fun _ _ _ => trivial) (fun _ _ => trivial))
  | some x =>
    obtain ⟨h, q⟩ := x
    obtain ⟨hq, rfl⟩ := hx
    refine l_autoS TY_ok rfl ?_
    refine s_end (hK _ ?_)
    refine s_seq fun K2 hK2 => ?_
    refine s_auto TY_ok rfl ?_
    refine s_no rfl ?_
    refine s_skip (hK2 _ ?_)
    refine s_regA TY_ok rfl fun K3 hK3 => ?_
    refine l_ldO TY_ok rfl rfl rfl rfl rfl rfl (obj_fact fun _ h _ => h.1) ?_
    refine l_autoS TY_ok rfl ?_
    refine s_end (hK3 _ ?_)
    exact s_ret (k_ret TY_ok () rfl (by decide) rfl (congrArg retG ((getT_some hs).2 hq)) rfl (fun _ _ _ => trivial) (fun _ _ => trivial))
def retL : TA → RV
  | .leaf _ _ p => .t [eY 32 p.1, eY 32 p.2, .c (.v (.bool true))]
  | _ => .t [eY 32 z32T, eY 32 z32T, .c (.v (.bool false))]
def retSd (d : Nat) : TA → RV
  | .node _ a b => .t [eTr a d, eTr b d, .c (.v (.bool true))]
  | _ => .t [eTr .nil 0, eTr .nil 0, .c (.v (.bool false))]
set_option maxRecDepth 100000 in
set_option maxHeartbeats 1000000 in
theorem tLeaf_S (t : TA) (d : Nat) : Spec 45 [(eTr t d).den] [] (TF t) { ret := fun _ : Unit => retL t, own := fun _ => [] } := by
  refine spec_S [eTr t d] 34 Tryd.func45 rfl (by rw [Tryd.ntmps45]; rfl) (one_ok (trPs_ok t d)) fun b => ?_
  refine s_auto TY_ok rfl ?_
  refine s_seq fun K hK => ?_
  cases t with
  | nil =>
    refine s_auto TY_ok rfl ?_
    refine s_yes rfl ?_
    refine s_auto TY_ok rfl ?_
    exact s_ret (k_ret TY_ok () rfl (by decide) rfl rfl rfl (fun _ _ _ => trivial) (fun _ _ => trivial))
  | leaf g h p =>
    refine s_regA TY_ok rfl fun K2 hK2 => ?_
    refine l_ldO TY_ok rfl rfl rfl rfl rfl rfl (obj_fact fun _ h _ => h.1) ?_
    refine l_autoS TY_ok rfl ?_
    refine s_end (hK2 _ ?_)
    refine s_no rfl ?_
    refine s_skip (hK _ ?_)
    refine s_pure (OkP (lfPs h p) ∧ OkP (prPs p)) (fun w hw _ => ⟨hw.1.2, hw.2.2⟩) fun ⟨ho1, ho2⟩ => ?_
    refine s_locs fun G => ?_
    have hsub : ∀ x ∈ [(⟨1, some (G 1), 27, trPs (.leaf g h p) d⟩ : LV)], x ∈ withG G [⟨3, none, 38, [.agg 32 (By z32T).toArray]⟩, ⟨2, none, 38, [.agg 32 (By z32T).toArray]⟩, ⟨1, none, 27, trPs (.leaf g h p) d⟩] ∧ x.g.isSome = true := fun x hx => by
      rw [List.mem_singleton.1 hx]
      exact ⟨List.mem_cons_of_mem _ (List.mem_cons_of_mem _ List.mem_cons_self), rfl⟩
    refine s_seq fun K3 hK3 => ?_
    refine s_anyP [0, 1, 2, 3, 4, 5, 6, 7, 8, 9, 10, 11, 12, 13, 14, 15] 17 2 (fun w => InvL [⟨1, some (G 1), 27, trPs (.leaf g h p) d⟩] w ∧ TF (.leaf g h p) w) (by kernel_rfl) rfl (inv_two hsub fun _ h _ => h) ?_
    refine p_frontS TY_ok 0 (by kernel_rfl) rfl rfl rfl rfl rfl rfl (fun x hx => (hsub x hx).1) (fun _ h => h.1) ?_
    refine p_frontS TY_ok 1 (by kernel_rfl) rfl rfl rfl rfl rfl rfl (fun x hx => (hsub x hx).1) (fun _ h => h.1) ?_
    refine p_frontS TY_ok 2 (by kernel_rfl) rfl rfl rfl rfl rfl rfl (fun x hx => (hsub x hx).1) (fun _ h => h.1) ?_
    refine p_frontS TY_ok 3 (by kernel_rfl) rfl rfl rfl rfl rfl rfl (fun x hx => (hsub x hx).1) (fun _ h => h.1) ?_
    refine p_ldO TY_ok 4 (by kernel_rfl) rfl rfl rfl rfl rfl rfl rfl ho1 (fun _ h => h.2.1) ?_
    refine p_frontS TY_ok 5 (by kernel_rfl) rfl rfl rfl rfl rfl rfl (fun x hx => (hsub x hx).1) (fun _ h => h.1) ?_
    refine p_frontS TY_ok 6 (by kernel_rfl) rfl rfl rfl rfl rfl rfl (fun x hx => (hsub x hx).1) (fun _ h => h.1) ?_
    refine p_ldO TY_ok 7 (by kernel_rfl) rfl rfl rfl rfl rfl rfl rfl ho2 (fun _ h => h.2.2) ?_
    refine p_frontS TY_ok 8 (by kernel_rfl) rfl rfl rfl rfl rfl rfl (fun x hx => (hsub x hx).1) (fun _ h => h.1) ?_
    refine p_frontS TY_ok 9 (by kernel_rfl) rfl rfl rfl rfl rfl rfl (fun x hx => (hsub x hx).1) (fun _ h => h.1) ?_
    refine p_frontS TY_ok 10 (by kernel_rfl) rfl rfl rfl rfl rfl rfl (fun x hx => (hsub x hx).1) (fun _ h => h.1) ?_
    refine p_frontS TY_ok 11 (by kernel_rfl) rfl rfl rfl rfl rfl rfl (fun x hx => (hsub x hx).1) (fun _ h => h.1) ?_
    refine p_ldO TY_ok 12 (by kernel_rfl) rfl rfl rfl rfl rfl rfl rfl ho1 (fun _ h => h.2.1) ?_
    refine p_frontS TY_ok 13 (by kernel_rfl) rfl rfl rfl rfl rfl rfl (fun x hx => (hsub x hx).1) (fun _ h => h.1) ?_
    refine p_frontS TY_ok 14 (by kernel_rfl) rfl rfl rfl rfl rfl rfl (fun x hx => (hsub x hx).1) (fun _ h => h.1) ?_
    refine p_ldO TY_ok 15 (by kernel_rfl) rfl rfl rfl rfl rfl rfl rfl ho2 (fun _ h => h.2.2) ?_
    refine p_step 16 (by kernel_rfl) rfl fun K4 hK4 => ?_
    refine l_autoS TY_ok rfl ?_
    refine s_end (hK4 _ (inv_two (fun x hx => by
      rw [List.mem_singleton.1 hx]
      exact ⟨List.mem_cons_of_mem _ (List.mem_cons_of_mem _ List.mem_cons_self), rfl⟩) fun _ h _ => h) ?_)
    refine p_tail [17, 18] (by kernel_rfl) rfl ?_
    refine l_autoS TY_ok rfl ?_
    refine s_end (hK3 _ ?_)
    exact s_ret (k_ret TY_ok () rfl (by decide) rfl rfl rfl (fun _ _ _ => trivial) (fun _ _ => trivial))
  | node g x y =>
    refine s_regA TY_ok rfl fun K2 hK2 => ?_
    refine l_ldO TY_ok rfl rfl rfl rfl rfl rfl (obj_fact fun _ h _ => h.1) ?_
    refine l_autoS TY_ok rfl ?_
    refine s_end (hK2 _ ?_)
    refine s_yes rfl ?_
    refine s_auto TY_ok rfl ?_
    exact s_ret (k_ret TY_ok () rfl (by decide) rfl rfl rfl (fun _ _ _ => trivial) (fun _ _ => trivial))
set_option maxRecDepth 100000 in
set_option maxHeartbeats 1000000 in
theorem tSides_S (t : TA) (d d' : Nat) (hd : IntKind.u8.wrap ((d : Int) + 1) = (d' : Int)) : Spec 46 [(eTr t d).den] [] (TF t) { ret := fun _ : Unit => retSd d' t, own := fun _ => [] } := by
  refine spec_S [eTr t d] 36 Tryd.func46 rfl (by rw [Tryd.ntmps46]; rfl) (one_ok (trPs_ok t d)) fun b => ?_
  refine s_auto TY_ok rfl ?_
  refine s_seq fun K hK => ?_
  cases t with
  | nil =>
    refine s_auto TY_ok rfl ?_
    refine s_yes rfl ?_
    refine s_auto TY_ok rfl ?_
    exact s_ret (k_ret TY_ok () rfl (by decide) rfl rfl rfl (fun _ _ _ => trivial) (fun _ _ => trivial))
  | leaf g h p =>
    refine s_regA TY_ok rfl fun K2 hK2 => ?_
    refine l_ldO TY_ok rfl rfl rfl rfl rfl rfl (obj_fact fun _ h _ => h.1) ?_
    refine l_autoS TY_ok rfl ?_
    refine s_end (hK2 _ ?_)
    refine s_yes rfl ?_
    refine s_auto TY_ok rfl ?_
    exact s_ret (k_ret TY_ok () rfl (by decide) rfl rfl rfl (fun _ _ _ => trivial) (fun _ _ => trivial))
  | node g x y =>
    refine s_regA TY_ok rfl fun K2 hK2 => ?_
    refine l_ldO TY_ok rfl rfl rfl rfl rfl rfl (obj_fact fun _ h _ => h.1) ?_
    refine l_autoS TY_ok rfl ?_
    refine s_end (hK2 _ ?_)
    refine s_no rfl ?_
    refine s_skip (hK _ ?_)
    refine s_regA TY_ok rfl fun K4 hK4 => ?_
    refine l_ldO TY_ok rfl rfl rfl rfl rfl rfl (obj_fact fun _ h _ => h.1) ?_
    refine l_autoS TY_ok rfl ?_
    refine s_end (hK4 _ ?_)
    refine s_locs fun G => ?_
    have hsub : ∀ u ∈ ([⟨5, some (G 5), 114, sdPs x y⟩, ⟨1, some (G 1), 27, trPs (.node g x y) d⟩] : List LV), u ∈ withG G [⟨5, none, 114, sdPs x y⟩, ⟨3, none, 27, trPs .nil 0⟩, ⟨2, none, 27, trPs .nil 0⟩, ⟨1, none, 27, trPs (.node g x y) d⟩] ∧ u.g.isSome = true := fun u hu => by
      rcases List.mem_cons.1 hu with rfl | hu
      · exact ⟨List.mem_cons_self, rfl⟩
      · rw [List.mem_singleton.1 hu]
        exact ⟨List.mem_cons_of_mem _ (List.mem_cons_of_mem _ (List.mem_cons_of_mem _ List.mem_cons_self)), rfl⟩
    refine s_seq fun K3 hK3 => ?_
    refine s_anyP [0, 1, 2, 3, 4, 5, 6, 7, 8, 9, 10, 11] 13 2 (InvL [⟨5, some (G 5), 114, sdPs x y⟩, ⟨1, some (G 1), 27, trPs (.node g x y) d⟩]) (by kernel_rfl) rfl (inv_of hsub) ?_
    refine p_frontO (.a 5 (0 + 1 * 0)) trivial 0 (by kernel_rfl) rfl rfl rfl rfl rfl (runO_ixA 0 rfl Tryd.underlying114 rfl rfl rfl (by decide)) ?_
    refine p_frontA (.v x.val) trivial 1 (by kernel_rfl) rfl rfl rfl rfl rfl (fun x hx => (hsub x hx).1) (fun _ h => h) (runO_ldL _ rfl rfl rfl rfl Tryd.underlying25 rfl) ?_
    refine p_frontS TY_ok 2 (by kernel_rfl) rfl rfl rfl rfl rfl rfl (fun x hx => (hsub x hx).1) (fun _ h => h) ?_
    refine p_frontS TY_ok 3 (by kernel_rfl) rfl rfl rfl rfl rfl rfl (fun x hx => (hsub x hx).1) (fun _ h => h) ?_
    refine p_frontS TY_ok 4 (by kernel_rfl) rfl rfl rfl rfl rfl rfl (fun x hx => (hsub x hx).1) (fun _ h => h) ?_
    refine p_frontS TY_ok 5 (by kernel_rfl) rfl rfl rfl rfl rfl rfl (fun x hx => (hsub x hx).1) (fun _ h => h) ?_
    refine p_frontO (.a 5 (0 + 1 * 1)) trivial 6 (by kernel_rfl) rfl rfl rfl rfl rfl (runO_ixA 1 rfl Tryd.underlying114 rfl rfl rfl (by decide)) ?_
    refine p_frontA (.v y.val) trivial 7 (by kernel_rfl) rfl rfl rfl rfl rfl (fun x hx => (hsub x hx).1) (fun _ h => h) (runO_ldL _ rfl rfl rfl rfl Tryd.underlying25 rfl) ?_
    refine p_frontS TY_ok 8 (by kernel_rfl) rfl rfl rfl rfl rfl rfl (fun x hx => (hsub x hx).1) (fun _ h => h) ?_
    refine p_frontS TY_ok 9 (by kernel_rfl) rfl rfl rfl rfl rfl rfl (fun x hx => (hsub x hx).1) (fun _ h => h) ?_
    refine p_frontS TY_ok 10 (by kernel_rfl) rfl rfl rfl rfl rfl rfl (fun x hx => (hsub x hx).1) (fun _ h => h) ?_
    refine p_frontS TY_ok 11 (by kernel_rfl) rfl rfl rfl rfl rfl rfl (fun x hx => (hsub x hx).1) (fun _ h => h) ?_
    refine p_step 12 (by kernel_rfl) rfl fun K5 hK5 => ?_
    refine l_autoS TY_ok rfl ?_
    refine s_end (hK5 _ (inv_of fun u hu => by
      rcases List.mem_cons.1 hu with rfl | hu
      · exact ⟨List.mem_cons_self, rfl⟩
      · rw [List.mem_singleton.1 hu]
        exact ⟨List.mem_cons_of_mem _ (List.mem_cons_of_mem _ (List.mem_cons_of_mem _ List.mem_cons_self)), rfl⟩) ?_)
    refine p_tail [13, 14] (by kernel_rfl) rfl ?_
    refine l_autoS TY_ok rfl ?_
    refine s_end (hK3 _ ?_)
    exact s_ret (k_ret TY_ok () rfl (by decide) rfl (congrArg (fun z : Int => RV.t [.p [.one (.v x.val), .one (.v (.int .u8 z))], .p [.one (.v y.val), .one (.v (.int .u8 z))], .c (.v (.bool true))]) hd.symm) rfl (fun _ _ _ => trivial) (fun _ _ => trivial))
set_option maxRecDepth 100000 in
set_option maxHeartbeats 1000000 in
theorem tPut_S (r : Nat) (l : List PairT) (t : TA) (p : PairT) (hp : OkT2 p) (hr : r ≤ 256) (ht : TOk r l t) (hs : SortT l) (hk : KeysT l) (hsh : SharesT (256 - r) (p :: l)) (hl : l.length + 1 ≤ 1000000) :
    Spec 23 [(eTr t ((256 - r) % 256)).den, (eY 32 p.1).den, (eY 32 p.2).den] [] (fun w => TF t w ∧ Tsh w) { ret := fun x : { t' : TA // TOk r (putT l p) t' } => .q (eTr x.1 ((256 - r) % 256)), own := fun _ => [], p := fun x => TF x.1 } := by
  have hput := fun h => tput_S r l t h p hr ht hs hk hsh hl
  obtain ⟨D, hD⟩ : ∃ D, (256 - r) % 256 = D := ⟨_, rfl⟩
  rw [hD] at hput ⊢
  refine spec_S [eTr t D, eY 32 p.1, eY 32 p.2] 19 Tryd.func23 rfl (by rw [Tryd.ntmps23]; rfl) (more_ok (trPs_ok t _) (two_ok (eY_ok hp.1).1 (eY_ok hp.2).1)) fun b => ?_
  refine s_auto TY_ok rfl ?_
  refine s_locs fun G => ?_
  have hsub : ∀ u ∈ ([⟨5, some (G 5), 38, [.agg 32 (By p.2).toArray]⟩, ⟨4, some (G 4), 38, [.agg 32 (By p.1).toArray]⟩, ⟨3, some (G 3), 27, trPs t D⟩] : List LV), u ∈ withG G [⟨6, none, 27, trPs .nil 0⟩, ⟨5, none, 38, [.agg 32 (By p.2).toArray]⟩, ⟨4, none, 38, [.agg 32 (By p.1).toArray]⟩, ⟨3, none, 27, trPs t D⟩] ∧ u.g.isSome = true := fun u hu => by
    rcases List.mem_cons.1 hu with rfl | hu
    · exact ⟨List.mem_cons_of_mem _ List.mem_cons_self, rfl⟩
    rcases List.mem_cons.1 hu with rfl | hu
    · exact ⟨List.mem_cons_of_mem _ (List.mem_cons_of_mem _ List.mem_cons_self), rfl⟩
    rw [List.mem_singleton.1 hu]
    exact ⟨List.mem_cons_of_mem _ (List.mem_cons_of_mem _ (List.mem_cons_of_mem _ List.mem_cons_self)), rfl⟩
  refine s_seq fun K3 hK3 => ?_
  refine s_anyP [0, 1, 2, 3, 4, 6, 7, 9, 10] 11 2 (InvL [⟨5, some (G 5), 38, [.agg 32 (By p.2).toArray]⟩, ⟨4, some (G 4), 38, [.agg 32 (By p.1).toArray]⟩, ⟨3, some (G 3), 27, trPs t D⟩]) (by kernel_rfl) rfl (inv_of hsub) ?_
  refine p_frontS TY_ok 0 (by kernel_rfl) rfl rfl rfl rfl rfl rfl (fun x hx => (hsub x hx).1) (fun _ h => h) ?_
  refine p_frontS TY_ok 1 (by kernel_rfl) rfl rfl rfl rfl rfl rfl (fun x hx => (hsub x hx).1) (fun _ h => h) ?_
  refine p_frontS TY_ok 2 (by kernel_rfl) rfl rfl rfl rfl rfl rfl (fun x hx => (hsub x hx).1) (fun _ h => h) ?_
  refine p_frontS TY_ok 3 (by kernel_rfl) rfl rfl rfl rfl rfl rfl (fun x hx => (hsub x hx).1) (fun _ h => h) ?_
  refine p_frontS TY_ok 4 (by kernel_rfl) rfl rfl rfl rfl rfl rfl (fun x hx => (hsub x hx).1) (fun _ h => h) ?_
  refine p_frontS TY_ok 6 (by kernel_rfl) rfl rfl rfl rfl rfl rfl (fun x hx => (hsub x hx).1) (fun _ h => h) ?_
  refine p_frontS TY_ok 7 (by kernel_rfl) rfl rfl rfl rfl rfl rfl (fun x hx => (hsub x hx).1) (fun _ h => h) ?_
  refine p_frontS TY_ok 9 (by kernel_rfl) rfl rfl rfl rfl rfl rfl (fun x hx => (hsub x hx).1) (fun _ h => h) ?_
  refine p_frontS TY_ok 10 (by kernel_rfl) rfl rfl rfl rfl rfl rfl (fun x hx => (hsub x hx).1) (fun _ h => h) ?_
  refine p_step 5 (by kernel_rfl) rfl fun K5 hK5 => ?_
  refine l_autoS TY_ok rfl ?_
  refine l_give 12 (E' := [(8, .v t.val), (14, .v (.int .u8 (D : Int))), (17, .v (.int .u8 (D : Int))), (6, .a 6 0)]) rfl ⟨rfl, rfl, rfl, rfl, trivial⟩ fun h => ?_
  refine l_objOut 0 rfl ?_
  refine s_end (hK5 _ (inv_of hsub) ?_)
  refine p_step 8 (by kernel_rfl) rfl fun K6 hK6 => ?_
  refine l_call0 [t.val, .pointer (some ⟨h, 0, none⟩), .int .u8 (D : Int)] rfl rfl rfl own_tput rfl rfl (fun _ _ => rfl) (hput h) (fun _ h _ => ⟨h.2.1, h.1, h.2.2⟩) fun x => ?_
  refine s_end (hK6 _ (inv_of hsub) ?_)
  refine p_tail [11, 12] (by kernel_rfl) rfl ?_
  refine l_autoS TY_ok rfl ?_
  refine s_end (hK3 _ ?_)
  exact s_ret (k_ret TY_ok x rfl (by decide) rfl rfl rfl (fun _ h _ => h.1) (fun _ _ => trivial))
end Go.Proofs.YtoecohpcnojokaaDoor
/-
  INTERFACES, over states: values put into them, '== nil', type assertions with comma-ok (each case of a type switch), calls of methods.
-/
namespace Go.Proofs.YtoecohpcnojokaaDoor
open Go.RowKit Go.IntWalk Nums

def isI : TypeDesc → Bool
  | .interface _ => true
  | _ => false
section
variable {P : Program} {a t ti : TypeId} {d : TypeDesc} {v z : Value} {w : World}
theorem assert_yes (hu : P.underlying a = some d) (hd : isI d = false) : (Instr.typeAssert (.iface a v) ti a true).run P w = .ok (.tuple #[v, .bool true]) w := by
  simp only [Instr.typeAssert, Sem.run_bind, run_underlying hu, Result.andThen_ok]
  cases d <;> first | (simp; done) | cases hd
theorem assert_no (hu : P.underlying a = some d) (hd : isI d = false) (ht : t ≠ a) (hz : (P.info? a).map (·.zero) = some (some z)) : (Instr.typeAssert (.iface t v) ti a true).run P w = .ok (.tuple #[z, .bool false]) w := by
  obtain ⟨j, hj, hz'⟩ := Option.map_eq_some_iff.1 hz
  simp only [Instr.typeAssert, Sem.run_bind, run_underlying hu, Result.andThen_ok]
  cases d <;> first | (simp [ht, zeroValue, typeInfo, hj, hz']; done) | cases hd
/-- A method of a value's type: declared on the type itself, its receiver no pointer. -/
def ownM (P : Program) (t : TypeId) (name : String) (f : FuncId) : Bool := match P.info? t, P.underlying t with
  | some i, some d => (match i.methods.find? (·.name == name) with
    | some m => m.path.isEmpty && (m.func == some (f, false)) && !(match d with | .pointer _ => true | _ => false)
    | none => false)
  | _, _ => false
end
section
variable {N : Nat} {E : SE} {o : Oper} {x y : Operand} {t ti a t' : TypeId} {d : TypeDesc} {q z : SQ} {v : Value}
/-- A value becomes an interface's. -/
theorem run_mkI (ho : o.op = .makeInterface t x) (hu : Tryd.prog.underlying t = some d) (hd : isI d = false) (hx : evS E x = some (.q q)) :
    ∀ (G : Nat → Nat) (a : Act) (w : World), Fr N (denE G E) a → (execOp a.eval o).run Tryd.prog w = .ok (.value ((SV.v (.iface t q.den)).den G)) w := fun G a w ha => by
  have h1 : a.eval x = q.den := ha.eval (evS_ok hx)
  unfold execOp
  simp only [ho, h1, Instr.makeInterface, Sem.run_bind, run_underlying hu, Result.andThen_ok]
  cases d <;> first | rfl | cases hd
/-- 'x, ok := e.(T)', T no interface: it is one. -/
theorem run_asYes (ho : o.op = .typeAssert x ti a true) (hu : Tryd.prog.underlying a = some d) (hd : isI d = false) (hx : evS E x = some (.v (.iface a v))) (hv : v = q.den) :
    ∀ (G : Nat → Nat) (ac : Act) (w : World), Fr N (denE G E) ac → (execOp ac.eval o).run Tryd.prog w = .ok (.value ((SV.t [q, .c (.v (.bool true))]).den G)) w := fun G ac w ha => by
  have h1 : ac.eval x = .iface a v := ha.eval (evS_ok hx)
  subst hv
  unfold execOp
  simp only [ho, h1, assert_yes hu hd, Sem.run_bind, Result.andThen_ok, Sem.run_pure]
  rfl
/-- .. it is none. -/
theorem run_asNo (ho : o.op = .typeAssert x ti a true) (hu : Tryd.prog.underlying a = some d) (hd : isI d = false) (hx : evS E x = some (.v (.iface t v))) (ht : t ≠ a) (hz : (Tryd.prog.info? a).map (·.zero) = some (some z.den)) :
    ∀ (G : Nat → Nat) (ac : Act) (w : World), Fr N (denE G E) ac → (execOp ac.eval o).run Tryd.prog w = .ok (.value ((SV.t [z, .c (.v (.bool false))]).den G)) w := fun G ac w ha => by
  have h1 : ac.eval x = .iface t v := ha.eval (evS_ok hx)
  unfold execOp
  simp only [ho, h1, assert_no hu hd ht hz, Sem.run_bind, Result.andThen_ok, Sem.run_pure]
  rfl
/-- '== nil'. -/
theorem run_eqNilI (ms : Array (String × TypeId)) (hu : Tryd.prog.underlying ti = some (.interface ms)) (ho : o.op = .binOp .eql ti x (.const .nilIface) t') (hx : evS E x = some (.v (.iface t v))) :
    ∀ (G : Nat → Nat) (ac : Act) (w : World), Fr N (denE G E) ac → (execOp ac.eval o).run Tryd.prog w = .ok (.value ((SV.v (.bool false)).den G)) w := fun G ac w ha => by
  have h1 : ac.eval x = .iface t v := ha.eval (evS_ok hx)
  unfold execOp
  simp only [ho, h1]
  go_simp
  rfl
theorem run_eqNilN (ms : Array (String × TypeId)) (hu : Tryd.prog.underlying ti = some (.interface ms)) (ho : o.op = .binOp .eql ti x (.const .nilIface) t') (hx : evS E x = some (.v .nilIface)) :
    ∀ (G : Nat → Nat) (ac : Act) (w : World), Fr N (denE G E) ac → (execOp ac.eval o).run Tryd.prog w = .ok (.value ((SV.v (.bool true)).den G)) w := fun G ac w ha => by
  have h1 : ac.eval x = .nilIface := ha.eval (evS_ok hx)
  unfold execOp
  simp only [ho, h1]
  go_simp
  rfl
end
theorem run_method {P : Program} {t : TypeId} {v : Value} {name : String} {f : FuncId} {fuel : Nat} {w : World} (h : ownM P t name f = true) : (method (fuel + 1) t v name).run P w = .ok (f, v) w := by
  unfold ownM at h
  cases hi : P.info? t with
  | none => rw [hi] at h; cases h
  | some i =>
    cases hu : P.underlying t with
    | none => rw [hi, hu] at h; cases h
    | some d =>
      rw [hi, hu] at h
      dsimp only at h
      cases hm : i.methods.find? (·.name == name) with
      | none => rw [hm] at h; cases h
      | some m =>
        rw [hm] at h
        simp only [Bool.and_eq_true, beq_iff_eq, Bool.not_eq_true', Array.isEmpty_iff] at h
        obtain ⟨⟨h1, h2⟩, h3⟩ := h
        have hti : ∀ w, (typeInfo t).run P w = .ok i w := fun w => by simp [typeInfo, hi]
        have hrc : ∀ w wr, (receiverAt t (.val v) false wr).run P w = .ok v w := fun w wr => by
          unfold receiverAt
          simp only [run_underlying hu, Sem.run_bind, Result.andThen_ok]
          cases d <;> first | rfl | cases h3
        unfold method
        simp only [Sem.run_bind, hti, Result.andThen_ok, hm]
        rw [h1]
        simp only [follow, Sem.run_pure, Result.andThen_ok, h2, Sem.run_bind, hrc]
/-- A method of what lies in an interface is called. -/
theorem run_callI {a : Act} {o : Oper} {f : FuncId} {x : Operand} {name : String} {xs : Array Operand} {ats : Array TypeId} {t : TypeId} {v : Value} (hf : Own f) (hm : ownM Tryd.prog t name f = true) (ho : o.op = .call { callee := .invoke x name, args := xs, argTypes := ats }) (hx : a.eval x = .iface t v) (w : World) :
    (execOp a.eval o).run Tryd.prog w = .ok (.enter f (#[v] ++ xs.map a.eval)) w := by
  obtain ⟨dst, op, ty, pos, af, gd⟩ := o
  simp only at ho
  subst ho
  have h := hf (#[v] ++ xs.map a.eval) w
  have h2 : ∀ fuel w, (method (fuel + 1) t v name).run Tryd.prog w = .ok (f, v) w := fun fuel w => run_method hm
  have e0 : (#[Value.iface t v] ++ xs.map a.eval)[0]? = some (.iface t v) := by
    rw [Array.getElem?_append_left (show 0 < 1 from Nat.zero_lt_one)]
    rfl
  have e1 : (#[Value.iface t v] ++ xs.map a.eval).extract 1 (#[Value.iface t v] ++ xs.map a.eval).size = xs.map a.eval := by
    apply Array.toList_inj.1
    rw [Array.toList_extract, Array.toList_append, ← Array.length_toList, Array.toList_append]
    show List.take (([Value.iface t v] ++ (Array.map a.eval xs).toList).length - 1) (Array.map a.eval xs).toList = _
    exact List.take_of_length_le (by rw [List.length_append, List.length_singleton]; omega)
  have h3 := fun w => h2 (Tryd.prog.types.size + 99) w
  unfold execOp
  simp only [resolve, hx, Sem.run_bind, Sem.run_pure, Result.andThen_ok]
  unfold invoke
  dsimp only
  rw [e0]
  dsimp only
  rw [e1]
  unfold callMethod
  dsimp only
  generalize Tryd.prog = P at *
  simp only [Sem.run_bind, run_program, Result.andThen_ok]
  rw [show P.types.size + Made.depth = P.types.size + 99 + 1 from rfl, h3]
  exact h
section
variable {b : Base} {ops : Array Oper} {Q : Exit → Act → World → Prop} {N : Nat} {E : SE} {L : List LV} {R R' own : List Res} {F M F' : World → Prop} {o : Oper} {rest : List Oper} {k : Nat} {α : Type} {post : Post α} {f : FuncId} {x : Operand} {name : String} {xs : Array Operand} {ats : Array TypeId} {svs : List SV} {t : TypeId} {v : Value}
/-- A method is called behind an interface, the order forced. -/
theorem l_callI (args : List Value) (hg : o.guard = none) (hd : o.dst = some k) (hk : Nat.blt k N = true) (hf : Own f) (ho : o.op = .call { callee := .invoke x name, args := xs, argTypes := ats }) (hx0 : evS E x = some (.v (.iface t v))) (hm : ownM Tryd.prog t name f = true) (hx : evSs E xs.toList = some svs)
    (ha : ∀ G : Nat → Nat, (∀ x ∈ L, ∀ g, x.g = some g → G x.j = g) → svs.map (SV.den G) = args) (hs : Spec f (v :: args) own F' post) (hF : ∀ w, F w → M w → F' w)
    (hn : ∀ x, lS Tryd.prog b ops Q N rest ⟨(k, (post.ret x).sv) :: E, L, post.own x ++ R', fun w => post.p x w ∧ F w, fun w => post.n x w ∧ M w⟩) : lS Tryd.prog b ops Q N (o :: rest) ⟨E, L, own ++ R', F, M⟩ := fun a w ⟨G, S, h1, h2, h3⟩ => by
  have hr := run_callI hf hm ho (show a.eval x = .iface t v from h1.eval (evS_ok hx0)) w
  rw [map_eval (args := (svs.map (SV.den G)).toArray) (h1.evals _ _ (by rw [evSs_ok hx])), ha G fun x hx => (h3.var x hx).2.2, show #[v] ++ args.toArray = (v :: args).toArray by simp] at hr
  unfold wpList
  rw [if_pos (by simp [Region.wanted, hg])]
  refine .inl ?_
  unfold Oper.wp
  rw [hr]
  simp only [Oper.upon, hd]
  refine (h3.callA hs hF).mono ?_
  rintro e w' ⟨x, S', rfl, hok, h4⟩
  have h5 := h1.put hk (post.ret x).den
  rw [← RV.sv_den _ G] at h5
  have h6 := hn x _ w' ⟨G, S', h5, h2.cons hok, h4⟩
  rw [RV.sv_den] at h6
  exact h6
end
end Go.Proofs.YtoecohpcnojokaaDoor
/-
  PLAIN PARTS OF TREES: their bytes, roots, what a key leads to, what is put, what is cut, what is read.
-/
namespace Go.Proofs.YtoecohpcnojokaaDoor
open Nums

inductive PW where
  | empty
  | leaf (p : PairT)
  | inner (a b : PW)
  | hid (h : List UInt8)
namespace PW
def root : PW → List UInt8
  | empty => z32T
  | leaf p => leafT p
  | inner a b => nodeT a.root b.root
  | hid h => h
def bytes : PW → List UInt8
  | empty => [0]
  | leaf p => 1 :: (p.1 ++ p.2)
  | inner a b => 2 :: (a.bytes ++ b.bytes)
  | hid h => 3 :: h
def kind : PW → Nat
  | empty => 0
  | leaf _ => 1
  | inner _ _ => 2
  | hid _ => 3
/-- The node to which a key leads. -/
def find (k : List UInt8) : Nat → PW → PW
  | d, inner a b => if bitT k d = 0 then find k (d + 1) a else find k (d + 1) b
  | _, w => w
/-- What it tells: the value, whether it is there, whether that is unknown. -/
def tell (k : List UInt8) : PW → List UInt8 × Bool × Bool
  | leaf p => if p.1 = k then (p.2, true, false) else (z32T, false, false)
  | hid _ => (z32T, false, true)
  | _ => (z32T, false, false)
/-- Two leaves where they part. -/
def two : Nat → Nat → PairT → PairT → PW
  | 0, _, _, _ => empty
  | n + 1, d, q, p => if bitT q.1 d = bitT p.1 d then (if bitT q.1 d = 0 then inner (two n (d + 1) q p) empty else inner empty (two n (d + 1) q p)) else if bitT q.1 d = 0 then inner (leaf q) (leaf p) else inner (leaf p) (leaf q)
def put (p : PairT) : Nat → PW → PW
  | _, empty => leaf p
  | d, leaf q => if q.1 = p.1 then leaf p else two (256 - d) d q p
  | d, inner a b => if bitT p.1 d = 0 then inner (put p (d + 1) a) b else inner a (put p (d + 1) b)
  | _, hid h => hid h
/-- Sides that no inner node has. -/
def bad (a b : PW) : Bool := (a.kind == 0 && b.kind == 0) || (a.kind == 0 && b.kind == 1) || (a.kind == 1 && b.kind == 0)
end PW

/-- A key leads along a way. -/
def Leads (way : List Nat) (k : List UInt8) : Prop := ∀ i, i < way.length → bitT k i = way[i]!
instance (way : List Nat) (k : List UInt8) : Decidable (Leads way k) := Nat.decidableBallLT way.length fun i _ => bitT k i = way[i]!
theorem Leads.nil (k : List UInt8) : Leads [] k := fun _ h => absurd h (Nat.not_lt_zero _)
theorem Leads.more {way : List Nat} {k : List UInt8} {b : Nat} : Leads (way ++ [b]) k ↔ Leads way k ∧ bitT k way.length = b := by
  constructor
  · intro h
    refine ⟨fun i hi => ?_, ?_⟩
    · have := h i (by rw [List.length_append]; exact Nat.lt_of_lt_of_le hi (Nat.le_add_right _ _))
      rw [this, getElem!_pos (way ++ [b]) _ (by rw [List.length_append]; exact Nat.lt_of_lt_of_le hi (Nat.le_add_right _ _)), List.getElem_append_left hi, getElem!_pos way i hi]
    · have := h way.length (by rw [List.length_append]; exact Nat.lt_succ_self _)
      rw [this, getElem!_pos (way ++ [b]) _ (by rw [List.length_append]; exact Nat.lt_succ_self _), List.getElem_append_right (Nat.le_refl _)]
      simp
  · rintro ⟨h1, h2⟩ i hi
    rw [List.length_append, List.length_singleton] at hi
    by_cases e : i = way.length
    · subst e
      rw [h2, getElem!_pos (way ++ [b]) _ (by rw [List.length_append]; exact Nat.lt_succ_self _), List.getElem_append_right (Nat.le_refl _)]
      simp
    · have hi : i < way.length := by omega
      rw [h1 i hi, getElem!_pos way i hi, getElem!_pos (way ++ [b]) _ (by rw [List.length_append]; exact Nat.lt_of_lt_of_le hi (Nat.le_add_right _ _)), List.getElem_append_left hi]
theorem Leads.share {way : List Nat} {k m : List UInt8} (h1 : Leads way k) (h2 : Leads way m) : ShareT way.length k m := fun n hn => (h1 n hn).trans (h2 n hn).symm

namespace PW
/-- A part is right at the end of a way. -/
def Right : List Nat → PW → Prop
  | _, empty => True
  | way, leaf p => p.1.length = 32 ∧ p.2.length = 32 ∧ Leads way p.1
  | way, inner a b => way.length < 256 ∧ Right (way ++ [0]) a ∧ Right (way ++ [1]) b ∧ bad a b = false
  | _, hid h => h.length = 32
/-! ### What bytes are read as -/
def read : Nat → List Nat → List UInt8 → Except Nat (PW × List UInt8)
  | _, _, [] => .error 10
  | n, way, x :: b =>
    if x = 0 then .ok (empty, b)
    else if x = 1 then (if b.length < 64 then .error 10 else if Leads way (b.take 32) then .ok (leaf (b.take 32, (b.drop 32).take 32), b.drop 64) else .error 13)
    else if x = 2 then (match n with
      | 0 => .error 13
      | n + 1 => match read n (way ++ [0]) b with
        | .error e => .error e
        | .ok (l, b1) => match read n (way ++ [1]) b1 with
          | .error e => .error e
          | .ok (r, b2) => if bad l r then .error 13 else .ok (inner l r, b2))
    else if x = 3 then (if b.length < 32 then .error 10 else .ok (hid (b.take 32), b.drop 32))
    else .error 13
def parse (b : List UInt8) : Except Nat PW := match read 256 [] b with
  | .error e => .error e
  | .ok (w, []) => .ok w
  | .ok _ => .error 11
theorem read_ok : ∀ {n : Nat} {way : List Nat} {b : List UInt8} {w : PW} {rest : List UInt8}, n + way.length = 256 → read n way b = .ok (w, rest) → Right way w ∧ b = w.bytes ++ rest
  | _, _, [], _, _, _, h => by unfold read at h; cases h
  | n, way, x :: b, w, rest, hn, h => by
    unfold read at h
    by_cases h0 : x = 0
    · rw [if_pos h0] at h
      injection h with h
      injection h with h1 h2
      subst h1 h2 h0
      exact ⟨trivial, rfl⟩
    rw [if_neg h0] at h
    by_cases h1 : x = 1
    · rw [if_pos h1] at h
      by_cases hl : b.length < 64
      · rw [if_pos hl] at h; cases h
      rw [if_neg hl] at h
      by_cases hw : Leads way (b.take 32)
      · rw [if_pos hw] at h
        injection h with h
        injection h with e1 e2
        subst e1 e2 h1
        refine ⟨⟨by rw [List.length_take]; omega, by rw [List.length_take, List.length_drop]; omega, hw⟩, ?_⟩
        show _ = 1 :: (b.take 32 ++ (b.drop 32).take 32) ++ b.drop 64
        rw [List.cons_append, List.append_assoc, show b.drop 64 = (b.drop 32).drop 32 by rw [List.drop_drop], List.take_append_drop, List.take_append_drop]
      · rw [if_neg hw] at h; cases h
    rw [if_neg h1] at h
    by_cases h2 : x = 2
    · rw [if_pos h2] at h
      cases n with
      | zero => cases h
      | succ n =>
        dsimp only at h
        cases hr : read n (way ++ [0]) b with
        | error e => rw [hr] at h; cases h
        | ok u =>
          obtain ⟨l, b1⟩ := u
          rw [hr] at h
          dsimp only at h
          cases hr2 : read n (way ++ [1]) b1 with
          | error e => rw [hr2] at h; cases h
          | ok u =>
            obtain ⟨r, b2⟩ := u
            rw [hr2] at h
            dsimp only at h
            obtain ⟨k1, k2⟩ := read_ok (by rw [List.length_append, List.length_singleton]; omega) hr
            obtain ⟨k3, k4⟩ := read_ok (by rw [List.length_append, List.length_singleton]; omega) hr2
            by_cases hb : bad l r = true
            · rw [if_pos hb] at h; cases h
            · rw [if_neg hb] at h
              injection h with h
              injection h with e1 e2
              subst e1 e2 h2
              refine ⟨⟨by omega, k1, k3, by simpa using hb⟩, ?_⟩
              rw [k2, k4]
              show _ = 2 :: (l.bytes ++ r.bytes) ++ b2
              simp
    rw [if_neg h2] at h
    by_cases h3 : x = 3
    · rw [if_pos h3] at h
      by_cases hl : b.length < 32
      · rw [if_pos hl] at h; cases h
      rw [if_neg hl] at h
      injection h with h
      injection h with e1 e2
      subst e1 e2 h3
      refine ⟨by show (b.take 32).length = 32; rw [List.length_take]; omega, ?_⟩
      show _ = 3 :: b.take 32 ++ b.drop 32
      rw [List.cons_append, List.take_append_drop]
    · rw [if_neg h3] at h; cases h
theorem read_right : ∀ {n : Nat} {way : List Nat} {w : PW} {rest : List UInt8}, n + way.length = 256 → Right way w → read n way (w.bytes ++ rest) = .ok (w, rest)
  | n, way, empty, rest, _, _ => by
    show read n way (0 :: rest) = _
    unfold read
    rfl
  | n, way, leaf p, rest, _, ⟨h1, h2, h3⟩ => by
    show read n way (1 :: (p.1 ++ p.2 ++ rest)) = _
    have e1 : (p.1 ++ p.2 ++ rest).take 32 = p.1 := by rw [List.append_assoc, List.take_append_of_le_length (by omega), List.take_of_length_le (by omega)]
    have e2 : (p.1 ++ p.2 ++ rest).drop 32 = p.2 ++ rest := by rw [List.append_assoc, List.drop_append_of_le_length (by omega), List.drop_of_length_le (by omega), List.nil_append]
    have e3 : (p.1 ++ p.2 ++ rest).drop 64 = rest := by rw [show (64 : Nat) = 32 + 32 from rfl, ← List.drop_drop, e2, List.drop_append_of_le_length (by omega), List.drop_of_length_le (by omega), List.nil_append]
    have e4 : (p.2 ++ rest).take 32 = p.2 := by rw [List.take_append_of_le_length (by omega), List.take_of_length_le (by omega)]
    unfold read
    rw [if_neg (by decide), if_pos rfl, if_neg (by rw [List.length_append, List.length_append]; omega), e1, e2, e3, e4, if_pos h3]
  | n, way, inner a b, rest, hn, ⟨h1, h2, h3, h4⟩ => by
    show read n way (2 :: (a.bytes ++ b.bytes ++ rest)) = _
    obtain ⟨m, rfl⟩ : ∃ m, n = m + 1 := ⟨n - 1, by omega⟩
    unfold read
    rw [if_neg (by decide), if_neg (by decide), if_pos rfl]
    dsimp only
    rw [List.append_assoc, read_right (by rw [List.length_append, List.length_singleton]; omega) h2]
    dsimp only
    rw [read_right (by rw [List.length_append, List.length_singleton]; omega) h3]
    dsimp only
    rw [if_neg (by rw [h4]; decide)]
  | n, way, hid h, rest, _, h1 => by
    have h1 : h.length = 32 := h1
    show read n way (3 :: (h ++ rest)) = _
    unfold read
    rw [if_neg (by decide), if_neg (by decide), if_neg (by decide), if_pos rfl, if_neg (by rw [List.length_append]; omega), List.take_append_of_le_length (by omega), List.take_of_length_le (by omega), List.drop_append_of_le_length (by omega), List.drop_of_length_le (by omega), List.nil_append]
theorem parse_ok {b : List UInt8} {w : PW} (h : parse b = .ok w) : Right [] w ∧ b = w.bytes := by
  unfold parse at h
  cases hr : read 256 [] b with
  | error e => rw [hr] at h; cases h
  | ok u =>
    obtain ⟨x, rest⟩ := u
    rw [hr] at h
    cases rest with
    | nil =>
      injection h with h
      subst h
      have := read_ok rfl hr
      rwa [List.append_nil] at this
    | cons => cases h
theorem parse_bytes {w : PW} (h : Right [] w) : parse w.bytes = .ok w := by
  have := read_right (rest := []) rfl h
  rw [List.append_nil] at this
  unfold parse
  rw [this]
theorem root_len {way : List Nat} : ∀ {w : PW}, Right way w → w.root.length = 32
  | empty, _ => rfl
  | leaf _, _ => digest256_len _
  | inner _ _, _ => digest256_len _
  | hid _, h => h
/-! ### Parts of a tree's pairs that show where some keys lead to -/
abbrev keyL (d : Nat) (ks : List (List UInt8)) : List (List UInt8) := ks.filter fun k => bitT k d == 0
abbrev keyR (d : Nat) (ks : List (List UInt8)) : List (List UInt8) := ks.filter fun k => bitT k d != 0
def Of : Nat → List PairT → List (List UInt8) → PW → Prop
  | _, l, _, empty => l = []
  | _, l, _, leaf p => l = [p]
  | d, l, ks, inner a b => d < 256 ∧ 2 ≤ l.length ∧ Of (d + 1) (leftT d l) (keyL d ks) a ∧ Of (d + 1) (rightT d l) (keyR d ks) b
  | d, l, ks, hid h => ks = [] ∧ l ≠ [] ∧ h = rootT (256 - d) l
theorem halves (d : Nat) (l : List PairT) : (leftT d l).length + (rightT d l).length = l.length := by
  unfold leftT rightT
  induction l with
  | nil => rfl
  | cons x l ih =>
    by_cases h : bitT x.1 d = 0
    · simp [h] at ih ⊢
      omega
    · simp [h] at ih ⊢
      omega
theorem Of.root : ∀ {d : Nat} {l : List PairT} {ks : List (List UInt8)} {w : PW}, Of d l ks w → w.root = rootT (256 - d) l
  | _, l, _, empty, h => by
    have h : l = [] := h
    subst h
    exact (rootT_nil _).symm
  | _, l, _, leaf p, h => by
    have h : l = [p] := h
    subst h
    exact (rootT_one _ p).symm
  | d, l, _, inner a b, ⟨h1, h2, h3, h4⟩ => by
    have e : 256 - d = (255 - d) + 1 := by omega
    rw [e, rootT_node h2]
    show nodeT a.root b.root = _
    rw [h3.root, h4.root, show 255 - (255 - d) = d by omega, show 256 - (d + 1) = 255 - d by omega]
  | _, _, _, hid _, h => h.2.2
theorem Of.right : ∀ {way : List Nat} {l : List PairT} {ks : List (List UInt8)} {w : PW}, Of way.length l ks w → (∀ p ∈ l, p.1.length = 32 ∧ p.2.length = 32 ∧ Leads way p.1) → Right way w
  | _, _, _, empty, _, _ => trivial
  | _, l, _, leaf p, h, hl => hl p (by have h : l = [p] := h; rw [h]; exact List.mem_cons_self)
  | way, l, _, inner a b, ⟨h1, h2, h3, h4⟩, hl => by
    have e : ∀ x : Nat, (way ++ [x]).length = way.length + 1 := fun x => by rw [List.length_append, List.length_singleton]
    refine ⟨h1, Of.right (by rw [e]; exact h3) fun p hp => ?_, Of.right (by rw [e]; exact h4) fun p hp => ?_, ?_⟩
    · obtain ⟨k1, k2⟩ := leftT_mem.1 hp
      obtain ⟨l1, l2, l3⟩ := hl p k1
      exact ⟨l1, l2, Leads.more.2 ⟨l3, k2⟩⟩
    · obtain ⟨k1, k2⟩ := rightT_mem.1 hp
      obtain ⟨l1, l2, l3⟩ := hl p k1
      have := bitT_lt p.1 way.length
      exact ⟨l1, l2, Leads.more.2 ⟨l3, by omega⟩⟩
    · have hs := halves way.length l
      have hE : ∀ {d : Nat} {m : List PairT} {k : List (List UInt8)} {w : PW}, Of d m k w → (w.kind = 0 → m.length = 0) ∧ (w.kind = 1 → m.length = 1) := fun {d m k w} h => by
        cases w with
        | empty => have h : m = [] := h; subst h; exact ⟨fun _ => rfl, fun h => (by cases h)⟩
        | leaf p => have h : m = [p] := h; subst h; exact ⟨fun h => (by cases h), fun _ => rfl⟩
        | inner => exact ⟨fun h => (by cases h), fun h => (by cases h)⟩
        | hid => exact ⟨fun h => (by cases h), fun h => (by cases h)⟩
      have ha := hE h3
      have hb := hE h4
      unfold bad
      generalize a.kind = x at *
      generalize b.kind = y at *
      simp only [Bool.or_eq_false_iff, Bool.and_eq_false_iff, beq_eq_false_iff_ne]
      omega
  | way, l, _, hid h, ⟨_, h2, h3⟩, hl => by
    show h.length = 32
    rw [h3]
    cases l with
    | nil => exact absurd rfl h2
    | cons p l =>
      cases l with
      | nil => rw [rootT_one]; exact digest256_len _
      | cons q l =>
        generalize 256 - way.length = r
        cases r with
        | zero => rfl
        | succ r => exact digest256_len _
theorem Of.tells : ∀ {d : Nat} {l : List PairT} {ks : List (List UInt8)} {w : PW} {k : List UInt8}, Of d l ks w → k ∈ ks → SortT l → tell k (find k d w) = (match getT l k with
    | some v => (v, true, false)
    | none => (z32T, false, false))
  | _, l, _, empty, k, h, _, _ => by
    have h : l = [] := h
    subst h
    rfl
  | _, l, _, leaf p, k, h, _, _ => by
    have h : l = [p] := h
    subst h
    show (if p.1 = k then _ else _) = _
    by_cases e : p.1 = k
    · rw [if_pos e]
      subst e
      simp [getT]
    · rw [if_neg e]
      simp [getT, e]
  | d, l, ks, inner a b, k, ⟨h1, h2, h3, h4⟩, hk, hs => by
    show tell k (if bitT k d = 0 then find k (d + 1) a else find k (d + 1) b) = _
    by_cases e : bitT k d = 0
    · rw [if_pos e, h3.tells (List.mem_filter.2 ⟨hk, by simpa using e⟩) (hs.filter _)]
      have : getT (leftT d l) k = getT l k := by
        cases hg : getT l k with
        | some v => exact (getT_some (hs.filter _)).2 (leftT_mem.2 ⟨(getT_some hs).1 hg, e⟩)
        | none => exact getT_none.2 fun q hq => getT_none.1 hg q (leftT_mem.1 hq).1
      rw [this]
    · rw [if_neg e, h4.tells (List.mem_filter.2 ⟨hk, by simpa using e⟩) (hs.filter _)]
      have : getT (rightT d l) k = getT l k := by
        cases hg : getT l k with
        | some v => exact (getT_some (hs.filter _)).2 (rightT_mem.2 ⟨(getT_some hs).1 hg, e⟩)
        | none => exact getT_none.2 fun q hq => getT_none.1 hg q (rightT_mem.1 hq).1
      rw [this]
  | _, _, ks, hid _, k, h, hk, _ => by
    rw [h.1] at hk
    cases hk
theorem leftT_one' {d : Nat} {p : PairT} (h : bitT p.1 d = 0) : leftT d [p] = [p] ∧ rightT d [p] = [] := by simp [leftT, rightT, h]
theorem rightT_one' {d : Nat} {p : PairT} (h : bitT p.1 d ≠ 0) : leftT d [p] = [] ∧ rightT d [p] = [p] := by simp [leftT, rightT, h]
theorem putT_pair {q p : PairT} (h : q.1 ≠ p.1) : putT [q] p = [q, p] ∨ putT [q] p = [p, q] := by
  unfold putT
  split
  · exact .inl rfl
  · exact .inr rfl
theorem two_of : ∀ (n : Nat) {d : Nat} {q p : PairT} {ks : List (List UInt8)}, n + d = 256 → q.1.length = 32 → p.1.length = 32 → q.1 ≠ p.1 → ShareT d q.1 p.1 → Of d (putT [q] p) ks (two n d q p)
  | 0, d, q, p, _, hn, hq, hp, hne, hs => by
    obtain rfl : d = 256 := by omega
    exact absurd (hs.all hq hp) hne
  | n + 1, d, q, p, ks, hn, hq, hp, hne, hs => by
    have h1 := bitT_lt q.1 d
    have h2 := bitT_lt p.1 d
    have hsort : SortT [q] := List.pairwise_singleton _ _
    have hkeys : KeysT [q] := fun x hx => by rw [List.mem_singleton.1 hx]; exact hq
    have hl2 : 2 ≤ (putT [q] p).length := by rcases putT_pair hne with e | e <;> rw [e] <;> exact Nat.le_refl _
    have hL := putT_left (d := d) hsort hkeys hp
    have hR := putT_right (d := d) hsort hkeys hp
    have hs2 : bitT q.1 d = bitT p.1 d → ShareT (d + 1) q.1 p.1 := fun e i hi => by
      by_cases e2 : i = d
      · rw [e2]; exact e
      · exact hs i (by omega)
    unfold two
    by_cases e : bitT q.1 d = bitT p.1 d
    · rw [if_pos e]
      by_cases e0 : bitT q.1 d = 0
      · rw [if_pos e0]
        obtain ⟨x1, x2⟩ := leftT_one' e0
        rw [if_pos (by omega), x1] at hL
        rw [if_pos (by omega), x2] at hR
        exact ⟨by omega, hl2, by rw [hL]; exact two_of n (by omega) hq hp hne (hs2 e), hR⟩
      · rw [if_neg e0]
        obtain ⟨x1, x2⟩ := rightT_one' e0
        rw [if_neg (by omega), x1] at hL
        rw [if_neg (by omega), x2] at hR
        exact ⟨by omega, hl2, hL, by rw [hR]; exact two_of n (by omega) hq hp hne (hs2 e)⟩
    · rw [if_neg e]
      by_cases e0 : bitT q.1 d = 0
      · rw [if_pos e0]
        obtain ⟨x1, x2⟩ := leftT_one' e0
        rw [if_neg (by omega), x1] at hL
        rw [if_neg (by omega), x2] at hR
        exact ⟨by omega, hl2, hL, hR⟩
      · rw [if_neg e0]
        obtain ⟨x1, x2⟩ := rightT_one' e0
        rw [if_pos (by omega), x1] at hL
        rw [if_pos (by omega), x2] at hR
        exact ⟨by omega, hl2, hL, hR⟩
theorem putT_more : ∀ (l : List PairT) (p : PairT), l.length ≤ (putT l p).length
  | [], _ => Nat.zero_le _
  | q :: l, p => by
    unfold putT
    split
    · exact Nat.succ_le_succ (putT_more l p)
    · split
      · exact Nat.le_refl _
      · exact Nat.le_succ _
theorem Of.puts : ∀ {d : Nat} {l : List PairT} {ks : List (List UInt8)} {w : PW} {p : PairT}, Of d l ks w → p.1 ∈ ks → SortT l → KeysT l → p.1.length = 32 → d ≤ 256 → SharesT d (p :: l) → Of d (putT l p) ks (put p d w)
  | _, l, _, empty, p, h, _, _, _, _, _, _ => by
    have h : l = [] := h
    subst h
    rfl
  | d, l, ks, leaf q, p, h, _, _, hk, hp, hd, hsh => by
    have h : l = [q] := h
    subst h
    show Of d (putT [q] p) ks (if q.1 = p.1 then leaf p else two (256 - d) d q p)
    by_cases e : q.1 = p.1
    · rw [if_pos e]
      show putT [q] p = [p]
      unfold putT
      rw [if_neg (by rw [e, lessT_irrefl]; decide), if_pos e]
    · rw [if_neg e]
      exact two_of _ (by omega) (hk q List.mem_cons_self) hp e (hsh q (List.mem_cons_of_mem _ List.mem_cons_self) p List.mem_cons_self)
  | d, l, ks, inner a b, p, ⟨h1, h2, h3, h4⟩, hkk, hs, hk, hp, hd, hsh => by
    show Of d (putT l p) ks (if bitT p.1 d = 0 then inner (put p (d + 1) a) b else inner a (put p (d + 1) b))
    have hL := putT_left (d := d) hs hk hp
    have hR := putT_right (d := d) hs hk hp
    have hl2 := Nat.le_trans h2 (putT_more l p)
    by_cases e : bitT p.1 d = 0
    · rw [if_pos e] at hL hR ⊢
      have hsh2 : SharesT (d + 1) (p :: leftT d l) := by
        have := hsh.left
        rwa [show leftT d (p :: l) = p :: leftT d l by simp [leftT, e]] at this
      exact ⟨h1, hl2, by rw [hL]; exact h3.puts (List.mem_filter.2 ⟨hkk, by simpa using e⟩) (hs.filter _) (hk.filter _) hp (by omega) hsh2, by rw [hR]; exact h4⟩
    · rw [if_neg e] at hL hR ⊢
      have hsh2 : SharesT (d + 1) (p :: rightT d l) := by
        have := hsh.right
        rwa [show rightT d (p :: l) = p :: rightT d l by simp [rightT, e]] at this
      exact ⟨h1, hl2, by rw [hL]; exact h3, by rw [hR]; exact h4.puts (List.mem_filter.2 ⟨hkk, by simpa using e⟩) (hs.filter _) (hk.filter _) hp (by omega) hsh2⟩
  | _, _, ks, hid _, p, h, hkk, _, _, _, _, _ => by
    rw [h.1] at hkk
    cases hkk
/-- The part that is cut for keys. -/
def cut : Nat → Nat → List PairT → List (List UInt8) → PW
  | _, _, [], _ => empty
  | _, d, p :: l, [] => hid (rootT (256 - d) (p :: l))
  | _, _, [p], _ :: _ => leaf p
  | 0, _, _ :: _ :: _, _ :: _ => empty
  | n + 1, d, p :: q :: l, k :: ks => inner (cut n (d + 1) (leftT d (p :: q :: l)) (keyL d (k :: ks))) (cut n (d + 1) (rightT d (p :: q :: l)) (keyR d (k :: ks)))
theorem cut_of : ∀ (n : Nat) {d : Nat} {l : List PairT} (ks : List (List UInt8)), n + d = 256 → SortT l → KeysT l → SharesT d l → Of d l ks (cut n d l ks)
  | n, d, [], _, _, _, _, _ => by
    cases n <;> rfl
  | n, d, p :: l, [], _, _, _, _ => by
    cases n <;> exact ⟨rfl, by simp, rfl⟩
  | n, d, [p], k :: ks, _, _, _, _ => by
    cases n <;> rfl
  | 0, d, p :: q :: l, k :: ks, hn, hs, hk, hsh => by
    obtain rfl : d = 256 := by omega
    have := hsh.one hs hk
    simp at this
  | n + 1, d, p :: q :: l, k :: ks, hn, hs, hk, hsh => ⟨by omega, by simp, cut_of n _ (by omega) (hs.filter _) (hk.filter _) hsh.left, cut_of n _ (by omega) (hs.filter _) (hk.filter _) hsh.right⟩
end PW
end Go.Proofs.YtoecohpcnojokaaDoor
/-
  THE DOCUMENT'S PARTS: steps; two leaves where they part.
-/
namespace Go.Proofs.YtoecohpcnojokaaDoor
open Go.RowKit Go.IntWalk Nums

section
variable {α : Type} {fe : α → SQ} {l : List α} {P : Program} {T : List TyR} {b : Base} {ops : Array Oper} {Q : Exit → Act → World → Prop} {N : Nat} {E : SE} {L : List LV} {R : List Res} {F M : World → Prop} {o : Oper} {rest : List Oper} {k : Nat} {t e : TypeId} {x y z : Operand} {A : Option Addr} {lo c sz bs g : Nat}
theorem l_appZ {A2' : (Nat → Nat) → Option Addr} {n c2 : Nat} {u : SV} (hT : OkT P T) (i : Nat) (m : List α) (hg : o.guard = none) (hd : o.dst = some k) (hk : Nat.blt k N = true) (ho : o.op = .call { callee := .builtin .append, args := #[x, y], argTypes := #[t, t] }) (hs : slS T t = some (e, sz, bs)) (hx : evS E x = some (.v (.slice A n c))) (hy : evS E y = some u) (hu : ∀ G, u.den G = .slice (A2' G) m.length c2)
    (hi : R[i]? = some (OwnS lo e sz fe A c l)) (hn : n = l.length) (hrd : ∀ G S w, View G S L R F M w → Rd sz fe (A2' G) c2 m w) (h0 : 0 < sz) (hb : (l.length + m.length) * bs ≤ 140737488355328) (hm : l.length + m.length ≤ 9223372036854775807 - 64) (hlo : lo ≤ b.B.heap.size)
    (hc : ∀ A' c', lS P b ops Q N rest ⟨(k, .v (.slice A' (l ++ m).length c')) :: E, L, R.set i (OwnS lo e sz fe A' c' (l ++ m)), F, M⟩) : lS P b ops Q N (o :: rest) ⟨E, L, R, F, M⟩ := fun a w ⟨G, S, f1, f2, f3⟩ => by
  have hR := hrd G S w f3.view
  obtain ⟨S1, h5, hput⟩ := f3.put hi
  have e1 := f1.eval (evS_ok hx)
  have e2 := f1.eval (evS_ok hy)
  rw [hu G] at e2
  generalize A2' G = A2 at *
  subst hn
  have key : ∃ A' c' w' S', (Builtin.append_ #[t, t] o.type #[.slice A l.length c, .slice A2 m.length c2]).run P w = .ok (.slice A' (l ++ m).length c') w' ∧ Chg S1 w w' ∧ (OwnS lo e sz fe A' c' (l ++ m)).holds w' S' ∧ ∀ k, S' k → k < w.heap.size → S1 k := by
    cases hA2 : A2 with
    | none =>
      have hc2 := hR.2.2.1 hA2
      have hml : m = [] := List.eq_nil_of_length_eq_zero (by have := hR.1; omega)
      subst hml
      subst hc2
      obtain ⟨ht, ie, zz, hie, hz, hsz, hbs, hzs, _⟩ := slS_ok hT hs
      have hr := run_append_owned_none (P := P) w lo t o.type e ie sz ht hie _ l.length (flatF fe l) h5.2.1
      refine ⟨A, c, w, S1, by rw [List.append_nil]; exact hr, Chg.refl _ _, by rw [List.append_nil]; exact h5, fun _ h _ => h⟩
    | some ad =>
      refine OwnS.grow hT (d := c2) (ad := ad) o.type hs h0 h5 hR.2.2.2.1 (fun j v hj => ?_) hb hm (Nat.le_trans hlo f3.chg.size)
      have hlen := flatF_len hR.2.2.2.1
      have hjl := (List.getElem?_eq_some_iff.1 hj).1
      have hml : 0 < m.length := by
        rcases Nat.eq_zero_or_pos m.length with h | h
        · rw [hlen, h, Nat.zero_mul] at hjl
          omega
        · exact h
      obtain ⟨bb, oo, e, _, hcell⟩ := hR.2.2.2.2 hml
      rw [hA2] at e
      injection e with e
      subst e
      have hq : j / sz < m.length := by
        rw [hlen] at hjl
        exact Nat.div_lt_of_lt_mul (by rwa [Nat.mul_comm] at hjl)
      obtain ⟨B, Z, h9, h10, _⟩ := flatF_split hR.2.2.2.1 (List.getElem?_eq_getElem hq)
      have hmod := Nat.div_add_mod j sz
      have hlt := Nat.mod_lt j h0
      have hcl := (hR.2.2.2.1 _ (List.getElem_mem hq)).2
      have hv : (fe m[j / sz]).cl[j % sz]? = some v := by
        rw [h9, List.getElem?_append_right (by omega), h10, List.getElem?_append_left (by omega)] at hj
        rwa [show j - sz * (j / sz) = j % sz by omega] at hj
      have := hcell (j / sz) _ (List.getElem?_eq_getElem hq) (j % sz) v hv
      rw [Addr.add_mid]
      rwa [Nat.add_assoc, hmod] at this
  obtain ⟨A', c', w', S', hr, hch, ho', hS'⟩ := key
  obtain ⟨S'', h6⟩ := hput _ _ _ hch ho' hS'
  refine wpl_go (v := .slice A' (l ++ m).length c') (w' := w') (oneS hg) (by
    unfold execOp
    simp only [ho, resolve, invoke, builtin, Sem.run_bind, Sem.run_pure, Result.andThen_ok, List.map_toArray, List.map_cons, List.map_nil, e1, e2, SV.den, SQ.den, SC.den, hr]) ?_
  rw [hd]
  exact hc A' c' _ _ ⟨G, S'', f1.put hk _, f2.cons trivial, h6⟩
end
/-- A part of a variable that is a row of bytes. -/
theorem rd_part {j off n : Nat} {l : List UInt8} {L : List LV} {R : List Res} {F M : World → Prop} (ps : List Pt) (hj : lookL L j = some ps) (hat : atP ps off = some (.agg n (By l).toArray)) (hl : l.length = n) (hm : n ≤ 9223372036854775807) : ∀ G S w, View G S L R F M w → Rd 1 eB (some ⟨G j, off, none⟩) n l w := fun G S w hv => by
  obtain ⟨z, hz, rfl, hps⟩ := lookL_mem hj
  have hb := (hv.var z hz).1
  have hok := (hv.var z hz).2.1
  rw [hps] at hb hok
  obtain ⟨_, A, Z, e, hA⟩ := atP_ok hok hat
  have hr := range_of hb e
  rw [hA] at hr
  refine ⟨Nat.le_of_eq hl, hm, fun h => (by cases h), okF_B l, fun _ => ⟨G z.j, off, rfl, hb.lt, fun i x hi j v hj => ?_⟩⟩
  cases j with
  | zero =>
    have e : v = .int .u8 (x.toNat : Int) := (Option.some.inj ((show (eB x).cl[0]? = some (.int .u8 (x.toNat : Int)) from rfl).symm.trans hj)).symm
    obtain ⟨h2, h3⟩ := List.getElem?_eq_some_iff.1 hi
    have h4 := By_at? h2
    rw [getElem!_pos l i h2, h3] at h4
    have h5 := hr i (.int .u8 (x.toNat : Int)) (by simpa [Pt.cells] using h4)
    rw [e, Nat.one_mul, Nat.add_zero]
    exact h5
  | succ j =>
    have : (eB x).cl[j + 1]? = none := rfl
    rw [this] at hj
    cases hj
theorem two_bytes_le : ∀ (n : Nat) {d : Nat} {q p : PairT}, OkT2 q → OkT2 p → (PW.two n d q p).bytes.length ≤ 131 + 2 * n
  | 0, _, _, _, _, _ => by
    show 1 ≤ _
    omega
  | n + 1, d, q, p, hq, hp => by
    have ih := two_bytes_le n (d := d + 1) hq hp
    unfold PW.two
    split
    · split <;> simp only [PW.bytes, List.length_cons, List.length_append, List.length_nil] <;> omega
    · split <;> simp only [PW.bytes, List.length_cons, List.length_append, hq.1, hq.2, hp.1, hp.2] <;> omega
theorem two_succ (n d : Nat) (q p : PairT) : PW.two (n + 1) d q p = if bitT q.1 d = bitT p.1 d then (if bitT q.1 d = 0 then .inner (PW.two n (d + 1) q p) .empty else .inner .empty (PW.two n (d + 1) q p)) else if bitT q.1 d = 0 then .inner (.leaf q) (.leaf p) else .inner (.leaf p) (.leaf q) := rfl
theorem own_rtwo : Own 40 := fun _ _ => by go_simp
/-- What bytes a call hands back, in memory of its own. -/
abbrev newB (l : List UInt8) : Post PX := { ret := fun x => .v (.slice x.1 l.length x.2), own := fun _ => [], n := fun x => Rd 1 eB x.1 x.2 l }
set_option maxRecDepth 100000 in
set_option maxHeartbeats 2000000 in
theorem rtwo_S : ∀ (n : Nat) {d : Nat} {q p : PairT}, n + d = 256 → OkT2 q → OkT2 p → q.1 ≠ p.1 → ShareT d q.1 p.1 → Spec 40 [(eP q).den, (eP p).den, .int .i64 (d : Int)] [] (fun _ => True) (newB (PW.two n d q p).bytes)
  | 0, d, q, p, hn, hq, hp, hne, hsh => by
    obtain rfl : d = 256 := by omega
    exact absurd (hsh.all hq.1 hp.1) hne
  | n + 1, d, q, p, hn, hq, hp, hne, hsh => by
    have ih := rtwo_S n (d := d + 1) (q := q) (p := p) (by omega) hq hp hne
    have hlen : (PW.two n (d + 1) q p).bytes.length ≤ 131 + 2 * n := two_bytes_le n hq hp
    obtain ⟨m, hm⟩ : ∃ m, (PW.two n (d + 1) q p).bytes = m := ⟨_, rfl⟩
    rw [hm] at ih hlen
    have hb1 := bitT_lt q.1 d
    have hb2 := bitT_lt p.1 d
    have hs2 : bitT q.1 d = bitT p.1 d → ShareT (d + 1) q.1 p.1 := fun e i hi => by
      by_cases e2 : i = d
      · rw [e2]; exact e
      · exact hsh i (by omega)
    obtain ⟨res, hres⟩ : ∃ r, (PW.two (n + 1) d q p).bytes = r := ⟨_, rfl⟩
    rw [hres]
    refine spec_S [eP q, eP p, .c (.v (.int .i64 (d : Int)))] 60 Tryd.func40 rfl (by rw [Tryd.ntmps40]; rfl) (more_ok (eP_ok hq).1 (two_ok (eP_ok hp).1 trivial)) fun b => ?_
    refine s_auto TY_ok rfl ?_
    refine s_regH 8 (by decide) (by kernel_rfl) (by kernel_rfl) fun K hK G S w0 hst => ?_
    refine h_auto TY_ok hst rfl ?_
    refine h_callS (F' := fun _ => True) (r := .v (.int .i64 ((bitT q.1 d : Nat) : Int))) hst [(eY 32 q.1).den, .int .i64 (d : Int)] rfl rfl rfl rfl own_rbit9 rfl rfl (fun _ => rfl) trivial (rbit_S hq.1 d (by omega)) (fun _ _ _ _ => trivial) ?_
    refine h_auto TY_ok hst rfl ?_
    refine h_callS (F' := fun _ => True) (r := .v (.int .i64 ((bitT p.1 d : Nat) : Int))) hst [(eY 32 p.1).den, .int .i64 (d : Int)] rfl rfl rfl rfl own_rbit9 rfl rfl (fun _ => rfl) trivial (rbit_S hp.1 d (by omega)) (fun _ _ _ _ => trivial) ?_
    refine h_end hst ?_
    refine l_autoS TY_ok rfl ?_
    refine s_end (hK _ ?_)
    clear hst
    refine s_seq fun K1 hK1 => ?_
    refine s_auto TY_ok rfl ?_
    refine s_ifD (((bitT q.1 d : Nat) : Int) = ((bitT p.1 d : Nat) : Int)) rfl (fun he => ?_) (fun he => ?_)
    · have he : bitT q.1 d = bitT p.1 d := by omega
      refine s_regA TY_ok rfl fun K2 hK2 => ?_
      refine l_num 25 ((d + 1 : Nat) : Int) rfl (wrapI (by omega) (by omega) (by omega)) ?_
      refine l_call0 [(eP q).den, (eP p).den, .int .i64 ((d + 1 : Nat) : Int)] rfl rfl rfl own_rtwo rfl rfl (fun _ _ => rfl) (ih (hs2 he)) (fun _ _ _ => trivial) fun ⟨B, c⟩ => ?_
      refine l_autoS TY_ok rfl ?_
      refine s_end (hK2 _ ?_)
      refine s_seq fun K3 hK3 => ?_
      refine s_auto TY_ok rfl ?_
      refine s_ifD (((bitT q.1 d : Nat) : Int) = 0) rfl (fun h0 => ?_) (fun h0 => ?_)
      · have h0 : bitT q.1 d = 0 := by omega
        obtain rfl : res = [2] ++ m ++ [0] := by
          rw [← hres, two_succ, if_pos he, if_pos h0, ← hm]
          rfl
        refine s_regA TY_ok rfl fun K4 hK4 => ?_
        refine l_list TY_ok b.B.heap.size [(2 : UInt8)] rfl rfl rfl rfl rfl (fun _ => rfl) rfl (by decide) (by decide) (okF_B _) (Nat.le_refl _) fun A1 => ?_
        refine l_autoS TY_ok rfl ?_
        refine l_appY TY_ok 0 m rfl rfl rfl rfl rfl rfl rfl rfl rfl (rd_fact fun _ _ h => h.1) (by decide) (by show (1 + m.length) * 1 ≤ _; omega) (by show 1 + m.length ≤ _; omega) (Nat.le_refl _) fun A2 c2 => ?_
        refine l_autoS TY_ok rfl ?_
        refine l_list TY_ok b.B.heap.size [(0 : UInt8)] rfl rfl rfl rfl rfl (fun _ => rfl) rfl (by decide) (by decide) (okF_B _) (Nat.le_refl _) fun A3 => ?_
        refine l_autoS TY_ok rfl ?_
        refine l_appY TY_ok 1 [(0 : UInt8)] rfl rfl rfl rfl rfl rfl rfl rfl rfl (rd_own 0 rfl) (by decide) (by show (([2] ++ m).length + 1) * 1 ≤ _; rw [List.length_append, List.length_singleton]; omega) (by show ([2] ++ m).length + 1 ≤ _; rw [List.length_append, List.length_singleton]; omega) (Nat.le_refl _) fun A4 c4 => ?_
        refine l_autoS TY_ok rfl ?_
        refine s_end (hK4 _ ?_)
        refine s_free 0 rfl ?_
        refine s_freeM 0 rfl (Nat.le_refl _) ?_
        exact s_ret (k_ret TY_ok (A4, c4) rfl (by decide) rfl rfl rfl (fun _ _ _ => trivial) (fun _ h => h.1))
      · have h0 : bitT q.1 d ≠ 0 := by omega
        obtain rfl : res = [2, 0] ++ m := by
          rw [← hres, two_succ, if_pos he, if_neg h0, ← hm]
          rfl
        refine s_skip (hK3 _ ?_)
        refine s_regA TY_ok rfl fun K4 hK4 => ?_
        refine l_list TY_ok b.B.heap.size [(2 : UInt8), 0] rfl rfl rfl rfl rfl (fun _ => rfl) rfl (by decide) (by decide) (okF_B _) (Nat.le_refl _) fun A1 => ?_
        refine l_autoS TY_ok rfl ?_
        refine l_appY TY_ok 0 m rfl rfl rfl rfl rfl rfl rfl rfl rfl (rd_fact fun _ _ h => h.1) (by decide) (by show (2 + m.length) * 1 ≤ _; omega) (by show 2 + m.length ≤ _; omega) (Nat.le_refl _) fun A2 c2 => ?_
        refine l_autoS TY_ok rfl ?_
        refine s_end (hK4 _ ?_)
        refine s_freeM 0 rfl (Nat.le_refl _) ?_
        exact s_ret (k_ret TY_ok (A2, c2) rfl (by decide) rfl rfl rfl (fun _ _ _ => trivial) (fun _ h => h.1))
    · have he : bitT q.1 d ≠ bitT p.1 d := by omega
      refine s_skip (hK1 _ ?_)
      refine s_seq fun K2 hK2 => ?_
      have hrest : ∀ u v : PairT, OkT2 u → OkT2 v → res = [2, 1] ++ u.1 ++ u.2 ++ [1] ++ v.1 ++ v.2 → ∀ en, Weak en ⟨[(3, .a 3 0), (4, .a 4 0)], [⟨4, none, 42, [.agg 32 (By v.1).toArray, .agg 32 (By v.2).toArray]⟩, ⟨3, none, 42, [.agg 32 (By u.1).toArray, .agg 32 (By u.2).toArray]⟩], [], fun _ => True, fun _ => True⟩ → kS b K2 60 en := by
        intro u v hu hv hr en hw
        subst hr
        refine k_weak hw (hK2 _ ?_)
        refine s_regA TY_ok rfl fun K4 hK4 => ?_
        refine l_list TY_ok b.B.heap.size [(2 : UInt8), 1] rfl rfl rfl rfl rfl (fun _ => rfl) rfl (by decide) (by decide) (okF_B _) (Nat.le_refl _) fun A1 => ?_
        refine l_autoS TY_ok rfl ?_
        refine l_op (.s 3 0 32 32) trivial rfl rfl rfl (runO_all rfl Tryd.underlying38 rfl rfl) ?_
        refine l_appZ (u := .s 3 0 32 32) TY_ok 0 u.1 rfl rfl rfl rfl rfl rfl rfl (fun G => by rw [hu.1]; rfl) rfl rfl (rd_part _ rfl rfl hu.1 (by decide)) (by decide) (by simp [hu.1]) (by simp [hu.1]) (Nat.le_refl _) fun A2 c2 => ?_
        refine l_autoS TY_ok rfl ?_
        refine s_end (hK4 _ ?_)
        refine s_regA TY_ok rfl fun K5 hK5 => ?_
        refine l_op (.s 3 32 32 32) trivial rfl rfl rfl (runO_all rfl Tryd.underlying38 rfl rfl) ?_
        refine l_appZ (u := .s 3 32 32 32) TY_ok 0 u.2 rfl rfl rfl rfl rfl rfl rfl (fun G => by rw [hu.2]; rfl) rfl rfl (rd_part _ rfl rfl hu.2 (by decide)) (by decide) (by simp [hu.1, hu.2]) (by simp [hu.1, hu.2]) (Nat.le_refl _) fun A3 c3 => ?_
        refine l_autoS TY_ok rfl ?_
        refine s_end (hK5 _ ?_)
        refine s_regA TY_ok rfl fun K6 hK6 => ?_
        refine l_list TY_ok b.B.heap.size [(1 : UInt8)] rfl rfl rfl rfl rfl (fun _ => rfl) rfl (by decide) (by decide) (okF_B _) (Nat.le_refl _) fun A4 => ?_
        refine l_autoS TY_ok rfl ?_
        refine l_appY TY_ok 1 [(1 : UInt8)] rfl rfl rfl rfl rfl rfl rfl rfl rfl (rd_own 0 rfl) (by decide) (by simp [hu.1, hu.2]) (by simp [hu.1, hu.2]) (Nat.le_refl _) fun A5 c5 => ?_
        refine l_autoS TY_ok rfl ?_
        refine s_end (hK6 _ ?_)
        refine s_free 0 rfl ?_
        refine s_regA TY_ok rfl fun K7 hK7 => ?_
        refine l_op (.s 4 0 32 32) trivial rfl rfl rfl (runO_all rfl Tryd.underlying38 rfl rfl) ?_
        refine l_appZ (u := .s 4 0 32 32) TY_ok 0 v.1 rfl rfl rfl rfl rfl rfl rfl (fun G => by rw [hv.1]; rfl) rfl rfl (rd_part _ rfl rfl hv.1 (by decide)) (by decide) (by simp [hu.1, hu.2, hv.1]) (by simp [hu.1, hu.2, hv.1]) (Nat.le_refl _) fun A6 c6 => ?_
        refine l_autoS TY_ok rfl ?_
        refine s_end (hK7 _ ?_)
        refine s_regA TY_ok rfl fun K8 hK8 => ?_
        refine l_op (.s 4 32 32 32) trivial rfl rfl rfl (runO_all rfl Tryd.underlying38 rfl rfl) ?_
        refine l_appZ (u := .s 4 32 32 32) TY_ok 0 v.2 rfl rfl rfl rfl rfl rfl rfl (fun G => by rw [hv.2]; rfl) rfl rfl (rd_part _ rfl rfl hv.2 (by decide)) (by decide) (by simp [hu.1, hu.2, hv.1, hv.2]) (by simp [hu.1, hu.2, hv.1, hv.2]) (Nat.le_refl _) fun A7 c7 => ?_
        refine l_autoS TY_ok rfl ?_
        refine s_end (hK8 _ ?_)
        refine s_freeM 0 rfl (Nat.le_refl _) ?_
        exact s_ret (k_ret TY_ok (A7, c7) rfl (by decide) rfl rfl rfl (fun _ _ _ => trivial) (fun _ h => h.1))
      refine s_auto TY_ok rfl ?_
      refine s_ifD (((bitT q.1 d : Nat) : Int) = 1) rfl (fun h1 => ?_) (fun h1 => ?_)
      · refine s_lit ?_
        refine l_autoS TY_ok rfl ?_
        refine s_end (hrest p q hp hq ?_ _ ?_)
        · rw [← hres, two_succ, if_neg he, if_neg (by omega)]
          simp [PW.bytes]
        · exact ⟨⟨rfl, rfl, trivial⟩, ⟨rfl, rfl, rfl, rfl, trivial⟩, .refl _, fun _ _ _ => trivial, fun _ _ => trivial⟩
      · refine s_skip (hrest q p hq hp ?_ _ ?_)
        · rw [← hres, two_succ, if_neg he, if_pos (by omega)]
          simp [PW.bytes]
        · exact ⟨⟨rfl, rfl, trivial⟩, ⟨rfl, rfl, rfl, rfl, trivial⟩, .refl _, fun _ _ _ => trivial, fun _ _ => trivial⟩
end Go.Proofs.YtoecohpcnojokaaDoor
/-
  THE DOCUMENT'S PARTS: nodes in a list; their root, what a key leads to.
-/
namespace Go.Proofs.YtoecohpcnojokaaDoor
open Go.RowKit Go.IntWalk Nums

/-- A node as the document lists it. -/
structure ND where
  k : Nat
  key : List UInt8
  val : List UInt8
  l : Int
  r : Int
def nwPs (x : ND) : List Pt := [.one (.v (.int .i64 (x.k : Int))), .agg 32 (By x.key).toArray, .agg 32 (By x.val).toArray, .one (.v (.int .i64 x.l)), .one (.v (.int .i64 x.r))]
def eND (x : ND) : SQ := .p (nwPs x)
/-- A part in memory. -/
def PartF (g : Nat) (B : Option Addr) (c : Nat) (ns : List ND) (w : World) : Prop := ObjF g 83 [.one (.v (.slice B ns.length c))] w ∧ Rd 67 eND B c ns w
instance {g : Nat} {B : Option Addr} {c : Nat} {ns : List ND} : Pst (PartF g B c ns) := inferInstanceAs (Pst fun w => ObjF g 83 [.one (.v (.slice B ns.length c))] w ∧ Rd 67 eND B c ns w)
/-- Which part a node stands for. -/
def At (ns : List ND) : PW → Nat → Prop
  | .empty, n => ns[n]? = some ⟨0, z32T, z32T, -1, -1⟩
  | .leaf p, n => ns[n]? = some ⟨1, p.1, p.2, -1, -1⟩
  | .inner a b, n => ∃ i j : Nat, ns[n]? = some ⟨2, z32T, z32T, i, j⟩ ∧ At ns a i ∧ At ns b j
  | .hid h, n => ns[n]? = some ⟨3, z32T, h, -1, -1⟩
/-- Its rows are whole. -/
def PW.Good : PW → Prop
  | .empty => True
  | .leaf p => OkT2 p
  | .inner a b => Good a ∧ Good b
  | .hid h => h.length = 32
theorem PW.Right.good : ∀ {way : List Nat} {w : PW}, PW.Right way w → w.Good
  | _, .empty, _ => trivial
  | _, .leaf _, h => ⟨h.1, h.2.1⟩
  | _, .inner _ _, h => ⟨h.2.1.good, h.2.2.1.good⟩
  | _, .hid _, h => h
theorem PW.Good.root_len : ∀ {w : PW}, w.Good → w.root.length = 32
  | .empty, _ => rfl
  | .leaf _, _ => digest256_len _
  | .inner _ _, _ => digest256_len _
  | .hid _, h => h
theorem own_rproot : Own 17 := fun _ _ => by go_simp
theorem sb_part {j off n : Nat} {l : List UInt8} {L : List LV} {R : List Res} {F M : World → Prop} (ps : List Pt) (hj : lookL L j = some ps) (hat : atP ps off = some (.agg n (By l).toArray)) (hl : l.length = n) (hm : n ≤ 9223372036854775807) : ∀ G S w, View G S L R F M w → SB w ((SV.s j off n n).den G) l := fun G S w hv => by
  have h := (rd_part ps hj hat hl hm G S w hv).sb
  rw [hl] at h
  exact h
set_option maxRecDepth 100000 in
set_option maxHeartbeats 2000000 in
theorem rproot_S {g : Nat} {B : Option Addr} {c : Nat} {ns : List ND} : ∀ (w : PW) (n : Nat), At ns w n → w.Good → Spec 17 [.pointer (some ⟨g, 0, none⟩), .int .i64 (n : Int)] [] (PartF g B c ns) (one (.q (eY 32 w.root))) := by
  intro w
  induction w with
  | empty =>
    intro n hat hgood
    refine spec_S [.c (.v (.pointer (some ⟨g, 0, none⟩))), .c (.v (.int .i64 (n : Int)))] 46 Tryd.func17 rfl (by rw [Tryd.ntmps17]; rfl) (two_ok trivial trivial) fun b => ?_
    refine s_auto TY_ok rfl ?_
    refine s_regA TY_ok rfl fun K hK => ?_
    refine l_ldO TY_ok rfl rfl rfl rfl rfl rfl (obj_fact fun _ h _ => h.1) ?_
    refine l_autoS TY_ok rfl ?_
    refine l_elem TY_ok rfl rfl rfl n rfl hat rfl rfl (rd_fact fun _ h _ => h.2) ?_
    refine l_autoS TY_ok rfl ?_
    refine s_end (hK _ ?_)
    refine s_seq fun K1 hK1 => ?_
    refine s_auto TY_ok rfl ?_
    refine s_block ?_
    refine s_auto TY_ok rfl ?_
    refine s_ifD (((0 : Nat) : Int) = 1) rfl (fun h => absurd h (by decide)) (fun _ => ?_)
    refine s_auto TY_ok rfl ?_
    refine s_ifD (((0 : Nat) : Int) = 2) rfl (fun h => absurd h (by decide)) (fun _ => ?_)
    refine s_auto TY_ok rfl ?_
    refine s_ifD (((0 : Nat) : Int) = 3) rfl (fun h => absurd h (by decide)) (fun _ => ?_)
    refine s_skip (hK1 _ ?_)
    refine s_auto TY_ok rfl ?_
    exact s_ret (k_ret TY_ok () rfl (by decide) rfl rfl rfl (fun _ _ _ => trivial) (fun _ _ => trivial))
  | leaf p =>
    intro n hat hgood
    obtain ⟨rt, hrt⟩ : ∃ q, PW.root (.leaf p) = q := ⟨_, rfl⟩
    have hrt32 : rt.length = 32 := by rw [← hrt]; exact PW.Good.root_len hgood
    rw [hrt]
    have hp : OkT2 p := hgood
    refine spec_S [.c (.v (.pointer (some ⟨g, 0, none⟩))), .c (.v (.int .i64 (n : Int)))] 46 Tryd.func17 rfl (by rw [Tryd.ntmps17]; rfl) (two_ok trivial trivial) fun b => ?_
    refine s_auto TY_ok rfl ?_
    refine s_regA TY_ok rfl fun K hK => ?_
    refine l_ldO TY_ok rfl rfl rfl rfl rfl rfl (obj_fact fun _ h _ => h.1) ?_
    refine l_autoS TY_ok rfl ?_
    refine l_elem TY_ok rfl rfl rfl n rfl hat rfl rfl (rd_fact fun _ h _ => h.2) ?_
    refine l_autoS TY_ok rfl ?_
    refine s_end (hK _ ?_)
    refine s_seq fun K1 hK1 => ?_
    refine s_auto TY_ok rfl ?_
    refine s_block ?_
    refine s_auto TY_ok rfl ?_
    refine s_ifD (((1 : Nat) : Int) = 1) rfl (fun _ => ?_) (fun h => absurd rfl h)
    refine s_regH 7 (by decide) (by kernel_rfl) (by kernel_rfl) fun K2 hK2 G S w0 hst => ?_
    refine h_lit TY_ok [(0 : UInt8)] rfl rfl rfl rfl rfl rfl (fun _ => rfl) rfl (by decide) (by decide) fun B2 => ?_
    refine h_auto TY_ok hst rfl ?_
    refine h_op hst (.s 5 1 32 32) trivial rfl rfl rfl rfl (runO_all rfl Tryd.underlying38 rfl rfl) ?_
    refine h_auto TY_ok hst rfl ?_
    refine h_op hst (.s 5 33 32 32) trivial rfl rfl rfl rfl (runO_all rfl Tryd.underlying38 rfl rfl) ?_
    refine h_parts [.slice (some ⟨B2, 0, none⟩) 1 1, (SV.s 5 1 32 32).den G, (SV.s 5 33 32 32).den G] [[0], p.1, p.2] hst rfl rfl rfl rfl rfl rfl rfl (by decide) (by decide) (fun w hw hu => ?_) fun A => ?_
    · have h2 : Rd 1 eB (some ⟨B2, 0, none⟩) 1 [0] w := hu 0 _ rfl (by kernel_rfl)
      exact ⟨h2.sb, sb_part _ rfl rfl hp.1 (by decide) G S w hw, sb_part _ rfl rfl hp.2 (by decide) G S w hw, trivial⟩
    refine h_call (r := .q (eY 32 rt)) hst [.slice (some ⟨A, 0, none⟩) 3 3] rfl rfl rfl rfl own_rsum2 rfl rfl (fun _ => rfl) (eY_ok hrt32).1 (fun w hw hu => ?_) ?_
    · have hA : PT w (some ⟨A, 0, none⟩) [[0], p.1, p.2] := hu 5 _ rfl (by kernel_rfl)
      have hr2 := rsum_f (some ⟨A, 0, none⟩) [[0], p.1, p.2] 3 (by simp) (by simp [hp.1, hp.2]) w hA
      have e : rt = digest s256 [[0], p.1, p.2].flatten := by rw [← hrt]; simp [PW.root, leafT]
      show Calls Tryd.prog _ _ w fun e w' => e = .returned (.agg (By rt).toArray) ∧ _
      rw [e]
      exact hr2
    refine h_end hst ?_
    refine l_autoS TY_ok rfl ?_
    refine s_end (hK2 _ ?_)
    exact s_ret (k_ret TY_ok () rfl (by decide) rfl rfl rfl (fun _ _ _ => trivial) (fun _ _ => trivial))
  | hid h =>
    intro n hat hgood
    refine spec_S [.c (.v (.pointer (some ⟨g, 0, none⟩))), .c (.v (.int .i64 (n : Int)))] 46 Tryd.func17 rfl (by rw [Tryd.ntmps17]; rfl) (two_ok trivial trivial) fun b => ?_
    refine s_auto TY_ok rfl ?_
    refine s_regA TY_ok rfl fun K hK => ?_
    refine l_ldO TY_ok rfl rfl rfl rfl rfl rfl (obj_fact fun _ h _ => h.1) ?_
    refine l_autoS TY_ok rfl ?_
    refine l_elem TY_ok rfl rfl rfl n rfl hat rfl rfl (rd_fact fun _ h _ => h.2) ?_
    refine l_autoS TY_ok rfl ?_
    refine s_end (hK _ ?_)
    refine s_seq fun K1 hK1 => ?_
    refine s_auto TY_ok rfl ?_
    refine s_block ?_
    refine s_auto TY_ok rfl ?_
    refine s_ifD (((3 : Nat) : Int) = 1) rfl (fun h => absurd h (by decide)) (fun _ => ?_)
    refine s_auto TY_ok rfl ?_
    refine s_ifD (((3 : Nat) : Int) = 2) rfl (fun h => absurd h (by decide)) (fun _ => ?_)
    refine s_auto TY_ok rfl ?_
    refine s_ifD (((3 : Nat) : Int) = 3) rfl (fun _ => ?_) (fun h => absurd rfl h)
    refine s_auto TY_ok rfl ?_
    exact s_ret (k_ret TY_ok () rfl (by decide) rfl rfl rfl (fun _ _ _ => trivial) (fun _ _ => trivial))
  | inner y z ihy ihz =>
    intro n hat hgood
    obtain ⟨rt, hrt⟩ : ∃ q, PW.root (.inner y z) = q := ⟨_, rfl⟩
    have hrt32 : rt.length = 32 := by rw [← hrt]; exact PW.Good.root_len hgood
    rw [hrt]
    obtain ⟨i, j, hat, hi, hj⟩ := hat
    have ihy := ihy i hi hgood.1
    have ihz := ihz j hj hgood.2
    refine spec_S [.c (.v (.pointer (some ⟨g, 0, none⟩))), .c (.v (.int .i64 (n : Int)))] 46 Tryd.func17 rfl (by rw [Tryd.ntmps17]; rfl) (two_ok trivial trivial) fun b => ?_
    refine s_auto TY_ok rfl ?_
    refine s_regA TY_ok rfl fun K hK => ?_
    refine l_ldO TY_ok rfl rfl rfl rfl rfl rfl (obj_fact fun _ h _ => h.1) ?_
    refine l_autoS TY_ok rfl ?_
    refine l_elem TY_ok rfl rfl rfl n rfl hat rfl rfl (rd_fact fun _ h _ => h.2) ?_
    refine l_autoS TY_ok rfl ?_
    refine s_end (hK _ ?_)
    refine s_seq fun K1 hK1 => ?_
    refine s_auto TY_ok rfl ?_
    refine s_block ?_
    refine s_auto TY_ok rfl ?_
    refine s_ifD (((2 : Nat) : Int) = 1) rfl (fun h => absurd h (by decide)) (fun _ => ?_)
    refine s_auto TY_ok rfl ?_
    refine s_ifD (((2 : Nat) : Int) = 2) rfl (fun _ => ?_) (fun h => absurd rfl h)
    obtain ⟨ra, hra⟩ : ∃ q, y.root = q := ⟨_, rfl⟩
    obtain ⟨rb, hrb⟩ : ∃ q, z.root = q := ⟨_, rfl⟩
    have hra32 : ra.length = 32 := by rw [← hra]; exact hgood.1.root_len
    have hrb32 : rb.length = 32 := by rw [← hrb]; exact hgood.2.root_len
    rw [hra] at ihy
    rw [hrb] at ihz
    have sz : ∀ l : List UInt8, l.length = 32 → (By l).toArray.size = 32 := fun l h => by rw [List.size_toArray, By_len, h]
    refine s_new 8 [⟨6, 38, (By z32T).toArray⟩, ⟨7, 38, (By z32T).toArray⟩] (by decide) rfl ⟨⟨rfl, rfl, rfl, rfl, rfl⟩, ⟨rfl, rfl, rfl, rfl, rfl⟩, trivial⟩ (by kernel_rfl) (by kernel_rfl) (by kernel_rfl) fun K9 hK9 G S w0 hst => ?_
    refine n_auto TY_ok hst rfl ?_
    refine n_callS (F' := PartF g B c ns) hst [.pointer (some ⟨g, 0, none⟩), .int .i64 (i : Int)] rfl rfl rfl own_rproot rfl rfl (fun _ => rfl) ihy (eY_ok hra32).1 (fun _ _ _ hv => hv.fact) ?_
    refine n_auto TY_ok hst rfl ?_
    refine n_callS (F' := PartF g B c ns) hst [.pointer (some ⟨g, 0, none⟩), .int .i64 (j : Int)] rfl rfl rfl own_rproot rfl rfl (fun _ => rfl) ihz (eY_ok hrb32).1 (fun _ _ _ hv => hv.fact) ?_
    refine n_new hst [⟨6, none, 38, [.agg 32 (By ra).toArray]⟩, ⟨7, none, 38, [.agg 32 (By rb).toArray]⟩] [(By z32T).toArray, (By z32T).toArray] [.tmp 31, .tmp 35] rfl rfl rfl (fun u hu => ?_) ⟨rfl, rfl, trivial⟩ rfl ⟨⟨rfl, rfl, rfl⟩, ⟨rfl, rfl, rfl⟩, rfl⟩ ⟨⟨rfl, ?_, ?_, By_one _⟩, ⟨rfl, ?_, ?_, By_one _⟩, trivial⟩ ?_
    · rcases List.mem_cons.1 hu with rfl | hu
      · exact (eY_ok hra32).1
      · rw [List.mem_singleton.1 hu]
        exact (eY_ok hrb32).1
    · exact (sz z32T rfl).trans (sz _ hra32).symm
    · show _ = some (By ra).toArray.size
      rw [sz _ hra32]
      rfl
    · exact (sz z32T rfl).trans (sz _ hrb32).symm
    · show _ = some (By rb).toArray.size
      rw [sz _ hrb32]
      rfl
    refine s_end (hK9 _ ?_)
    clear hst
    refine c_weak (e' := ⟨[(4, .a 4 0), (6, .a 6 0), (7, .a 7 0)], [⟨7, none, 38, [.agg 32 (By rb).toArray]⟩, ⟨6, none, 38, [.agg 32 (By ra).toArray]⟩, ⟨4, none, 38, [.agg 32 (By z32T).toArray]⟩], [], fun _ => True, fun _ => True⟩) ⟨⟨rfl, rfl, rfl, trivial⟩, ⟨rfl, rfl, rfl, rfl, rfl, rfl, trivial⟩, .refl _, fun _ _ _ => trivial, fun _ _ => trivial⟩ ?_
    refine s_regH 5 (by decide) (by kernel_rfl) (by kernel_rfl) fun K2 hK2 G S w0 hst => ?_
    refine h_lit TY_ok [(1 : UInt8)] rfl rfl rfl rfl rfl rfl (fun _ => rfl) rfl (by decide) (by decide) fun B2 => ?_
    refine h_auto TY_ok hst rfl ?_
    refine h_op hst (.s 6 0 32 32) trivial rfl rfl rfl rfl (runO_all rfl Tryd.underlying38 rfl rfl) ?_
    refine h_auto TY_ok hst rfl ?_
    refine h_op hst (.s 7 0 32 32) trivial rfl rfl rfl rfl (runO_all rfl Tryd.underlying38 rfl rfl) ?_
    refine h_parts [.slice (some ⟨B2, 0, none⟩) 1 1, (SV.s 6 0 32 32).den G, (SV.s 7 0 32 32).den G] [[1], ra, rb] hst rfl rfl rfl rfl rfl rfl rfl (by decide) (by decide) (fun w hw hu => ?_) fun A => ?_
    · have h2 : Rd 1 eB (some ⟨B2, 0, none⟩) 1 [1] w := hu 0 _ rfl (by kernel_rfl)
      exact ⟨h2.sb, sb_part _ rfl rfl hra32 (by decide) G S w hw, sb_part _ rfl rfl hrb32 (by decide) G S w hw, trivial⟩
    refine h_call (r := .q (eY 32 rt)) hst [.slice (some ⟨A, 0, none⟩) 3 3] rfl rfl rfl rfl own_rsum2 rfl rfl (fun _ => rfl) (eY_ok hrt32).1 (fun w hw hu => ?_) ?_
    · have hA : PT w (some ⟨A, 0, none⟩) [[1], ra, rb] := hu 3 _ rfl (by kernel_rfl)
      have hr2 := rsum_f (some ⟨A, 0, none⟩) [[1], ra, rb] 3 (by simp) (by simp [hra32, hrb32]) w hA
      have e : rt = digest s256 [[1], ra, rb].flatten := by rw [← hrt, ← hra, ← hrb]; simp [PW.root, nodeT]
      show Calls Tryd.prog _ _ w fun e w' => e = .returned (.agg (By rt).toArray) ∧ _
      rw [e]
      exact hr2
    refine h_end hst ?_
    refine l_autoS TY_ok rfl ?_
    refine s_end (hK2 _ ?_)
    exact s_ret (k_ret TY_ok () rfl (by decide) rfl rfl rfl (fun _ _ _ => trivial) (fun _ _ => trivial))
end Go.Proofs.YtoecohpcnojokaaDoor
