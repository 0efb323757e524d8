/-
  SEVERAL TEXTS IN ONE: Vy, TrT, ShaK, TrL, Law, OpenR, LawW, OpenT.
-/
import Derived.Test.YtlaikmpnijlcbaaDoorMl
import Derived.Test.YtlaikmpnijlcbaaDoorMm
import Derived.Test.YtlaikmpnijlcbaaDoorMg
import Derived.Test.YtlaikmpnijlcbaaDoorMf
import Derived.Test.YtlaikmpnijlcbaaDoorRows
import Derived.Test.YtlaikmpnijlcbaaDoorMb
import Derived.ProofKit
import Derived.OpenShut
import Derived.SizedLaws
import Derived.Test.YtlaikmpnijlcbaaDoorMe
import Derived.LaidMore
import Derived.SevenTiedAt
import Derived.Stop.Joined
import Derived.Test.YtlaikmpnijlcbaaDoorMh
import Derived.Test.YtlaikmpnijlcbaaDoorCards
import Derived.Test.YtlaikmpnijlcbaaDoorTie
/-
  DRAWN REGIONS WITH MEMORY, over states: any operations that only read may be taken first, the others in their order.
-/
namespace Go.Proofs.YtlaikmpnijlcbaaDoor
open Go.RowKit Go.IntWalk

section
variable {P : Program} {ops : Array Oper} {Q : Exit → Act → World → Prop} {Inv : World → Prop}
def wpAnyP (P : Program) (ops : Array Oper) (Q : Exit → Act → World → Prop) (Inv : World → Prop) (p : Nat → Bool) (m : Nat) : Nat → Array Bool → Act → World → Prop
  | 0, listed, a, w => (∀ j ∈ Region.ready .any ops listed, ∀ i, p i = true → waitsT .any ops ops.size j i = true) ∧ wpAny P .any ops Q m listed a w
  | fuel + 1, listed, a, w => Region.ready .any ops listed ≠ [] ∧ ∀ i ∈ Region.ready .any ops listed, wpOp P ops Q i (fun a' w' => Inv w' ∧ wpAnyP P ops Q Inv p m fuel (listed.setIfInBounds i true) a' w') a w
theorem wpAny_of_P {p : Nat → Bool} {m : Nat} : ∀ (fuel : Nat) (listed : Array Bool) (a : Act) (w : World), wpAnyP P ops Q Inv p m fuel listed a w → wpAny P .any ops Q (m + fuel) listed a w
  | 0, _, _, _, h => h.2
  | fuel + 1, _, _, _, h => ⟨fun h0 => absurd h0 h.1, fun i hi => wpOp_mono (fun a' w' h' => wpAny_of_P fuel _ a' w' h'.2) (h.2 i hi)⟩
theorem P_first {p : Nat → Bool} {m i : Nat} {oi : Oper} {v : Value} (hin : p i = true) (hi : ops[i]? = some oi) (hst : stillG oi.op = true) (hsel : ∀ (j : Nat) (o : Oper) cs b, ops[j]? = some o → o.op ≠ .select cs b) (hQ : ∀ c a d v w, Q (.panic c) (a.put d v) w → Q (.panic c) a w) :
    ∀ (fuel : Nat) (listed : Array Bool) (a : Act) (w : World), Inv w → Closed .any ops listed →
      (∀ j oj, ops[j]? = some oj → j ≠ i → listed.getD j true = false → (∀ e ∈ oj.after, Region.binds .any e = true → e.on ≠ i) → oi.apart ops oj = true) →
      i ∈ Region.ready .any ops listed → YieldsB P ops Inv oi (· = v) a → wpAnyP P ops Q Inv p m fuel (listed.setIfInBounds i true) (a.put oi.dst v) w → wpAnyP P ops Q Inv p m (fuel + 1) listed a w := by
  intro fuel
  induction fuel with
  | zero =>
    intro listed a w hC hcs _ hr hy H
    refine ⟨fun h => (by rw [h] at hr; cases hr), fun j hj => ?_⟩
    by_cases hji : j = i
    · subst hji
      exact still_wpOp hi hst hy hC ⟨hC, H⟩
    · have h1 := H.1 j (ready_mono hj hji) i hin
      obtain ⟨_, oj, hoj, hall⟩ := mem_ready.1 hj
      have h6 := hcs.waits _ j i oj hoj hall h1
      rw [getD_ready hr] at h6
      cases h6
  | succ fuel ih =>
    intro listed a w hC hcs hfree hr hy H
    refine ⟨fun h => (by rw [h] at hr; cases hr), fun j hj => ?_⟩
    by_cases hji : j = i
    · subst hji
      exact still_wpOp hi hst hy hC ⟨hC, H⟩
    · obtain ⟨hjun, oj, hoj, hall⟩ := mem_ready.1 hj
      have hnot : ∀ e ∈ oj.after, Region.binds .any e = true → e.on ≠ i := fun e he hb heq => by
        have h1 := hall e he hb
        rw [heq, getD_ready hr] at h1
        cases h1
      have h2 := wpOp_putB (V := (· = v)) hoj (hfree j oj hoj hji hjun hnot) (fun cs b => hsel i oi cs b hi) (fun cs b => hsel j oj cs b hoj) ⟨v, rfl⟩ (.inr ⟨v, fun _ h => h⟩) hQ hy (fun u hu => by
        subst hu
        exact H.2 j (ready_mono hj hji))
      have hun' : ∀ k, (listed.setIfInBounds j true).getD k true = false → listed.getD k true = false := fun k hun => by
        by_cases hjk : j = k
        · subst hjk; exact hjun
        · rw [getD_set_ne true hjk] at hun; exact hun
      refine wpOp_mono (fun a' w' h3 => ?_) h2
      obtain ⟨hy', h4⟩ := h3
      obtain ⟨hC', h5⟩ := h4 v rfl
      refine ⟨hC', ih (listed.setIfInBounds j true) a' w' hC' (hcs.set hj) (fun k ok hk hki hun hno => hfree k ok hk hki (hun' k hun) hno) (ready_mono hr (Ne.symm hji)) hy' ?_⟩
      rw [Array.setIfInBounds_comm _ _ hji]
      exact h5
end
def pS (P : Program) (b : Base) (Q : Exit → Act → World → Prop) (N : Nat) (ops : Array Oper) (Inv : World → Prop) (p : Nat → Bool) (m fuel : Nat) (listed : Array Bool) (e : Env) : Prop := Closed .any ops listed → ∀ a w, St b N e a w → Inv w → wpAnyP P ops (NoPanic Q) Inv p m fuel listed a w
/-- May it be taken here, ahead of all that is left? -/
def frontP (ops : Array Oper) (p : Nat → Bool) (i : Nat) (listed : Array Bool) : Bool := p i && (Region.ready .any ops listed).contains i && Region.free .any ops listed i && Region.noSelect ops
section
variable {P : Program} {T : List TyR} {b : Base} {ops : Array Oper} {Q : Exit → Act → World → Prop} {N m fuel : Nat} {p : Nat → Bool} {listed : Array Bool} {E : SE} {L L0 : List LV} {R : List Res} {F M : World → Prop} {Inv : World → Prop} {e : Env}
theorem panic_putP : ∀ c (a : Act) d v w, NoPanic Q (.panic c) (a.put d v) w → NoPanic Q (.panic c) a w := fun _ _ _ _ _ h => h
/-- A step that only reads is taken first. -/
theorem p_front {o : Oper} {k : Nat} {v : SV} (hT : OkT P T) (i : Nat) (hc : frontP ops p i listed = true) (ho : ops[i]? = some o) (hg : o.guard = none) (hd : o.dst = some k) (hk : Nat.blt k N = true) (hs : stillG o.op = true) (hv : stepS T E L0 o.op = some v) (hsub : ∀ x ∈ L0, x ∈ L)
    (hn : pS P b Q N ops (InvL L0) p m fuel (listed.setIfInBounds i true) ⟨(k, v) :: E, L, R, F, M⟩) : pS P b Q N ops (InvL L0) p m (fuel + 1) listed ⟨E, L, R, F, M⟩ := fun hcs a w hst hI => by
  obtain ⟨G, S, h1, h2, h3⟩ := hst
  simp only [frontP, Bool.and_eq_true] at hc
  obtain ⟨⟨⟨hin, hr⟩, hfr⟩, hsel⟩ := hc
  have hr' : i ∈ Region.ready .any ops listed := by simpa using hr
  obtain ⟨h4, h5⟩ := stepS_ok hT h2 (fun x hx => (h3.var x (hsub x hx)).2.1) hv
  have h6 := hn (hcs.set hr') (a.put (some k) (v.den G)) w ⟨G, S, h1.put hk _, h2.cons h4, h3⟩ hI
  refine P_first hin ho hs (Region.noSelect_spec hsel) panic_putP fuel listed a w hI hcs (Region.free_spec ho hfr) hr' (v := v.den G) (.inl ⟨by simp [Region.wanted, hg], fun w' hw' => ?_⟩) (by rw [hd]; exact h6)
  unfold atB
  rw [h5 h1 fun x hx => by
    obtain ⟨g, e1, e2⟩ := hw' x hx
    rw [(h3.var x (hsub x hx)).2.2 g e1]
    exact e2]
  exact ⟨rfl, rfl⟩
/-- A step whose value hangs on the frame alone is taken first. -/
theorem p_frontO {o : Oper} {k : Nat} (v : SV) (hvo : v.Ok) (i : Nat) (hc : frontP ops p i listed = true) (ho : ops[i]? = some o) (hg : o.guard = none) (hd : o.dst = some k) (hk : Nat.blt k N = true) (hs : stillG o.op = true) (hv : ∀ (G : Nat → Nat) (a : Act) (w : World), Fr N (denE G E) a → (execOp a.eval o).run P w = .ok (.value (v.den G)) w)
    (hn : pS P b Q N ops Inv p m fuel (listed.setIfInBounds i true) ⟨(k, v) :: E, L, R, F, M⟩) : pS P b Q N ops Inv p m (fuel + 1) listed ⟨E, L, R, F, M⟩ := fun hcs a w hst hI => by
  obtain ⟨G, S, h1, h2, h3⟩ := hst
  simp only [frontP, Bool.and_eq_true] at hc
  obtain ⟨⟨⟨hin, hr⟩, hfr⟩, hsel⟩ := hc
  have hr' : i ∈ Region.ready .any ops listed := by simpa using hr
  have h6 := hn (hcs.set hr') (a.put (some k) (v.den G)) w ⟨G, S, h1.put hk _, h2.cons hvo, h3⟩ hI
  refine P_first hin ho hs (Region.noSelect_spec hsel) panic_putP fuel listed a w hI hcs (Region.free_spec ho hfr) hr' (v := v.den G) (.inl ⟨by simp [Region.wanted, hg], fun w' _ => ?_⟩) (by rw [hd]; exact h6)
  unfold atB
  rw [hv G a w' h1]
  exact ⟨rfl, rfl⟩
theorem p_weak {e' : Env} (hw : Weak e e') (h : pS P b Q N ops Inv p m fuel listed e') : pS P b Q N ops Inv p m fuel listed e := fun hcs a w hst hI => h hcs a w (hst.weak hw) hI
/-- The only one that may come next. -/
theorem p_step {o : Oper} (i : Nat) (hr : Region.ready .any ops listed = [i]) (ho : ops[i]? = some o) (h : ∀ K : Act → World → Prop, (∀ e', (∀ a w, St b N e' a w → Inv w) → pS P b Q N ops Inv p m fuel (listed.setIfInBounds i true) e' → kS b K N e') → lS P b ops (Exit.then K (NoPanic Q)) N [o] e) : pS P b Q N ops Inv p m (fuel + 1) listed e := fun hcs a w hst _ =>
  ⟨by rw [hr]; simp, fun j hj => by
    rw [hr, List.mem_singleton] at hj
    subst hj
    have hcs' := hcs.set (i := j) (by rw [hr]; simp)
    exact wpOp_of_list ho (h (fun a' w' => Inv w' ∧ wpAnyP P ops (NoPanic Q) Inv p m fuel (listed.setIfInBounds j true) a' w') (fun e' hI' ha a' w' hs' => ⟨hI' a' w' hs', ha hcs' a' w' hs' (hI' a' w' hs')⟩) a w hst)⟩
/-- Either of two may come next. -/
theorem p_step2 {o o' : Oper} (i i' : Nat) (hr : Region.ready .any ops listed = [i, i']) (ho : ops[i]? = some o) (ho' : ops[i']? = some o')
    (h : ∀ K : Act → World → Prop, (∀ e', (∀ a w, St b N e' a w → Inv w) → pS P b Q N ops Inv p m fuel (listed.setIfInBounds i true) e' → kS b K N e') → lS P b ops (Exit.then K (NoPanic Q)) N [o] e)
    (h' : ∀ K : Act → World → Prop, (∀ e', (∀ a w, St b N e' a w → Inv w) → pS P b Q N ops Inv p m fuel (listed.setIfInBounds i' true) e' → kS b K N e') → lS P b ops (Exit.then K (NoPanic Q)) N [o'] e) : pS P b Q N ops Inv p m (fuel + 1) listed e := fun hcs a w hst _ =>
  ⟨by rw [hr]; simp, fun j hj => by
    rw [hr] at hj
    have key : ∀ (i : Nat) (o : Oper), i ∈ Region.ready .any ops listed → ops[i]? = some o → (∀ K : Act → World → Prop, (∀ e', (∀ a w, St b N e' a w → Inv w) → pS P b Q N ops Inv p m fuel (listed.setIfInBounds i true) e' → kS b K N e') → lS P b ops (Exit.then K (NoPanic Q)) N [o] e) → wpOp P ops (NoPanic Q) i (fun a' w' => Inv w' ∧ wpAnyP P ops (NoPanic Q) Inv p m fuel (listed.setIfInBounds i true) a' w') a w := fun i o hi ho h =>
      wpOp_of_list ho (h (fun a' w' => Inv w' ∧ wpAnyP P ops (NoPanic Q) Inv p m fuel (listed.setIfInBounds i true) a' w') (fun e' hI' ha a' w' hs' => ⟨hI' a' w' hs', ha (hcs.set hi) a' w' hs' (hI' a' w' hs')⟩) a w hst)
    rcases List.mem_cons.1 hj with rfl | hj
    · exact key _ o (by rw [hr]; simp) ho h
    · rw [List.mem_singleton] at hj
      subst hj
      exact key _ o' (by rw [hr]; simp) ho' h'⟩

/-- What can be seen, taken first: whatever the worlds with Inv say. -/
theorem p_frontI {o : Oper} {k : Nat} (v : SV) (hvo : v.Ok) (i : Nat) (hc : frontP ops p i listed = true) (ho : ops[i]? = some o) (hg : o.guard = none) (hd : o.dst = some k) (hk : Nat.blt k N = true) (hs : stillG o.op = true) (hv : ∀ (G : Nat → Nat) (a : Act) (w : World), Fr N (denE G E) a → Inv w → (execOp a.eval o).run P w = .ok (.value (v.den G)) w)
    (hn : pS P b Q N ops Inv p m fuel (listed.setIfInBounds i true) ⟨(k, v) :: E, L, R, F, M⟩) : pS P b Q N ops Inv p m (fuel + 1) listed ⟨E, L, R, F, M⟩ := fun hcs a w hst hI => by
  obtain ⟨G, S, h1, h2, h3⟩ := hst
  simp only [frontP, Bool.and_eq_true] at hc
  obtain ⟨⟨⟨hin, hr⟩, hfr⟩, hsel⟩ := hc
  have hr' : i ∈ Region.ready .any ops listed := by simpa using hr
  have h6 := hn (hcs.set hr') (a.put (some k) (v.den G)) w ⟨G, S, h1.put hk _, h2.cons hvo, h3⟩ hI
  refine P_first hin ho hs (Region.noSelect_spec hsel) panic_putP fuel listed a w hI hcs (Region.free_spec ho hfr) hr' (v := v.den G) (.inl ⟨by simp [Region.wanted, hg], fun w' hw' => ?_⟩) (by rw [hd]; exact h6)
  unfold atB
  rw [hv G a w' h1 hw']
  exact ⟨rfl, rfl⟩
theorem p_frontS {o : Oper} {k : Nat} {v : SV} (hT : OkT P T) (i : Nat) (hc : frontP ops p i listed = true) (ho : ops[i]? = some o) (hg : o.guard = none) (hd : o.dst = some k) (hk : Nat.blt k N = true) (hs : stillG o.op = true) (hv : stepS T E L0 o.op = some v) (hsub : ∀ x ∈ L0, x ∈ L) (hI : ∀ w, Inv w → InvL L0 w)
    (hn : pS P b Q N ops Inv p m fuel (listed.setIfInBounds i true) ⟨(k, v) :: E, L, R, F, M⟩) : pS P b Q N ops Inv p m (fuel + 1) listed ⟨E, L, R, F, M⟩ := fun hcs a w hst hI0 => by
  obtain ⟨G, S, h1, h2, h3⟩ := hst
  simp only [frontP, Bool.and_eq_true] at hc
  obtain ⟨⟨⟨hin, hr⟩, hfr⟩, hsel⟩ := hc
  have hr' : i ∈ Region.ready .any ops listed := by simpa using hr
  obtain ⟨h4, h5⟩ := stepS_ok hT h2 (fun x hx => (h3.var x (hsub x hx)).2.1) hv
  have h6 := hn (hcs.set hr') (a.put (some k) (v.den G)) w ⟨G, S, h1.put hk _, h2.cons h4, h3⟩ hI0
  refine P_first hin ho hs (Region.noSelect_spec hsel) panic_putP fuel listed a w hI0 hcs (Region.free_spec ho hfr) hr' (v := v.den G) (.inl ⟨by simp [Region.wanted, hg], fun w' hw' => ?_⟩) (by rw [hd]; exact h6)
  unfold atB
  rw [h5 h1 fun x hx => by
    obtain ⟨g, e1, e2⟩ := hI w' hw' x hx
    rw [(h3.var x (hsub x hx)).2.2 g e1]
    exact e2]
  exact ⟨rfl, rfl⟩
theorem p_frontA {o : Oper} {k : Nat} (v : SV) (hvo : v.Ok) (i : Nat) (hc : frontP ops p i listed = true) (ho : ops[i]? = some o) (hg : o.guard = none) (hd : o.dst = some k) (hk : Nat.blt k N = true) (hs : stillG o.op = true) (hsub : ∀ x ∈ L0, x ∈ L) (hI : ∀ w, Inv w → InvL L0 w)
    (hv : ∀ (G : Nat → Nat) (a : Act) (w : World), Fr N (denE G E) a → LAt G L0 w → (execOp a.eval o).run P w = .ok (.value (v.den G)) w)
    (hn : pS P b Q N ops Inv p m fuel (listed.setIfInBounds i true) ⟨(k, v) :: E, L, R, F, M⟩) : pS P b Q N ops Inv p m (fuel + 1) listed ⟨E, L, R, F, M⟩ := fun hcs a w hst hI0 => by
  obtain ⟨G, S, h1, h2, h3⟩ := hst
  simp only [frontP, Bool.and_eq_true] at hc
  obtain ⟨⟨⟨hin, hr⟩, hfr⟩, hsel⟩ := hc
  have hr' : i ∈ Region.ready .any ops listed := by simpa using hr
  have h6 := hn (hcs.set hr') (a.put (some k) (v.den G)) w ⟨G, S, h1.put hk _, h2.cons hvo, h3⟩ hI0
  refine P_first hin ho hs (Region.noSelect_spec hsel) panic_putP fuel listed a w hI0 hcs (Region.free_spec ho hfr) hr' (v := v.den G) (.inl ⟨by simp [Region.wanted, hg], fun w' hw' => ?_⟩) (by rw [hd]; exact h6)
  unfold atB
  rw [hv G a w' h1 fun x hx => by
    obtain ⟨g, e1, e2⟩ := hI w' hw' x hx
    rw [(h3.var x (hsub x hx)).2.2 g e1]
    exact e2]
  exact ⟨rfl, rfl⟩
/-- A cell of a variable. -/
theorem runO_ldL {o : Oper} {t : TypeId} {x : Operand} {j off : Nat} {d : TypeDesc} {ps : List Pt} (v : Value) (ho : o.op = .load t x) (hx : evS E x = some (.a j off)) (hl : lookL L0 j = some ps) (hv : (catP ps)[off]? = some v) (hu : P.underlying t = some d) (hr : d.isRow = false) :
    ∀ (G : Nat → Nat) (a : Act) (w : World), Fr N (denE G E) a → LAt G L0 w → (execOp a.eval o).run P w = .ok (.value ((SV.v v).den G)) w := fun G a w ha hw => by
  have h1 : a.eval x = .pointer (some ⟨G j, off, none⟩) := ha.eval (evS_ok hx)
  obtain ⟨u, hu2, rfl, hps⟩ := lookL_mem hl
  have h2 := (hw u hu2).cell off
  rw [hps, hv] at h2
  have h3 := run_load_cell hu hr h2
  unfold execOp
  simp only [ho, h1, Sem.run_bind, h3, Result.andThen_ok, Sem.run_pure]
  rfl
/-- What lies behind a pointer, taken first. -/
theorem p_ldO {o : Oper} {k : Nat} {t ty : TypeId} {x : Operand} {g off : Nat} {ps : List Pt} {q : SQ} (hT : OkT P T) (i : Nat) (hc : frontP ops p i listed = true) (ho : ops[i]? = some o) (hg : o.guard = none) (hd : o.dst = some k) (hk : Nat.blt k N = true) (hop : o.op = .load t x) (hx : evS E x = some (.v (.pointer (some ⟨g, off, none⟩)))) (hl : loadS T ps t off = some q) (hok : OkP ps) (hI : ∀ w, Inv w → ObjF g ty ps w)
    (hn : pS P b Q N ops Inv p m fuel (listed.setIfInBounds i true) ⟨(k, .q q) :: E, L, R, F, M⟩) : pS P b Q N ops Inv p m (fuel + 1) listed ⟨E, L, R, F, M⟩ :=
  p_frontI (.q q) (loadS_at hT hok hl).1 i hc ho hg hd hk (by rw [hop]; rfl) (fun _ _ w ha hw => (load_obj hT hop hx hl ha (hI w hw)).2) hn
theorem inv_two {E' : SE} {L' : List LV} {R' : List Res} {F' M' : World → Prop} {p : World → Prop} (hsub : ∀ x ∈ L0, x ∈ L' ∧ x.g.isSome = true) (hp : ∀ w, F' w → M' w → p w) : ∀ a w, St b N ⟨E', L', R', F', M'⟩ a w → InvL L0 w ∧ p w := fun a w hst => by
  refine ⟨?_, ?_⟩
  · obtain ⟨G, S, _, _, h3⟩ := hst
    intro x hx
    obtain ⟨h1, h2⟩ := hsub x hx
    obtain ⟨g, hg⟩ := Option.isSome_iff_exists.1 h2
    have h4 := h3.var x h1
    refine ⟨g, hg, ?_⟩
    rw [← h4.2.2 g hg]
    exact h4.1
  · obtain ⟨G, S, _, _, h3⟩ := hst
    exact hp w h3.view.fact h3.view.fresh
/-! ### The rest in its order -/
def forcedJ (ops : Array Oper) : List Nat → Array Bool → Bool
  | [], listed => (Region.ready .any ops listed).isEmpty
  | k :: ks, listed => decide (Region.ready .any ops listed = [k]) && forcedJ ops ks (listed.setIfInBounds k true)
/-- The operations of these numbers. -/
def opsJ (l : List Oper) : List Nat → List Oper
  | [] => []
  | k :: ks => match l[k]? with
    | some o => o :: opsJ l ks
    | none => []
theorem wpAny_forcedJ {l : List Oper} : ∀ (ks : List Nat) (listed : Array Bool) (a : Act) (w : World), (∀ k ∈ ks, k < l.length) → forcedJ l.toArray ks listed = true →
    wpList P l.toArray Q (opsJ l ks) a w → wpAny P .any l.toArray Q ks.length listed a w
  | [], _, _, _, _, hB, h => ⟨by simpa [forcedJ] using hB, h⟩
  | k :: ks, listed, a, w, hl, hB, h => by
    obtain ⟨o, ho⟩ : ∃ o, l[k]? = some o := ⟨_, List.getElem?_eq_getElem (hl k List.mem_cons_self)⟩
    have h0 : l.toArray[k]? = some o := by simpa using ho
    simp only [forcedJ, Bool.and_eq_true, decide_eq_true_eq] at hB
    obtain ⟨hr, hB'⟩ := hB
    unfold opsJ at h
    rw [ho] at h
    dsimp only at h
    refine ⟨fun e => (by rw [hr] at e; cases e), fun i hi => ?_⟩
    rw [hr, List.mem_singleton] at hi
    subst hi
    have hl' : ∀ j ∈ ks, j < l.length := fun j hj => hl j (List.mem_cons_of_mem _ hj)
    unfold wpOp
    simp only [h0]
    unfold wpList at h
    split
    · rename_i hw
      simp only [hw, if_true] at h
      exact h.imp (Oper.wp_mono fun a' w' h' => wpAny_forcedJ ks _ a' w' hl' hB' h') id
    · rename_i hw
      simp only [hw] at h
      exact wpAny_forcedJ ks _ _ _ hl' hB' (by simpa using h)
def memJ (ks : List Nat) (i : Nat) : Bool := ks.any fun k => Nat.beq k i
/-- The rest is forced. -/
theorem p_tail {ks : List Nat} (js : List Nat) {l l' : List Oper} (hB : ((Region.ready .any l.toArray listed).all (fun j => ks.all fun i => waitsT .any l.toArray l.toArray.size j i) && js.all (fun k => decide (k < l.length)) && forcedJ l.toArray js listed) = true) (hl : opsJ l js = l') (h : lS P b l.toArray (NoPanic Q) N l' e) :
    pS P b Q N l.toArray Inv (memJ ks) js.length 0 listed e := fun _ a w hst _ => by
  subst hl
  simp only [Bool.and_eq_true, List.all_eq_true, decide_eq_true_eq] at hB
  refine ⟨fun j hj i hi => ?_, wpAny_forcedJ js listed a w hB.1.2 hB.2 (h a w hst)⟩
  obtain ⟨k, hk, e⟩ := List.any_eq_true.1 hi
  obtain rfl := Nat.eq_of_beq_eq_true e
  exact hB.1.1 j hj k hk
/-- A drawn region: so many steps in whatever order (those of ks that only read first), then the others (js) in their order. -/
theorem s_anyP {l : List Oper} {id : Nat} (ks : List Nat) (n m : Nat) (Inv : World → Prop) (hm : P.follows .mixedOrders = true) (hn : m + n = l.length) (h0 : ∀ a w, St b N e a w → Inv w) (h : pS P b Q N l.toArray Inv (memJ ks) m n (Array.replicate l.toArray.size false) e) : cS P b (.region id l.toArray true) Q N e := fun a w hst => by
  refine wp_region_noPanic (wp_region_any hm ?_)
  obtain ⟨G, S, h1, h2, h3⟩ := hst
  have hd : St b N e a w.drew := ⟨G, S, h1, h2, h3.drew⟩
  have h4 := wpAny_of_P n _ a w.drew (h (Closed.none _) a w.drew hd (h0 a _ hd))
  have e1 : m + n = l.toArray.size := by simpa using hn
  rw [e1] at h4
  exact h4
end
end Go.Proofs.YtlaikmpnijlcbaaDoor
/-
  THE PROGRAM'S TREE: its methods.
-/
namespace Go.Proofs.YtlaikmpnijlcbaaDoor
open Go.RowKit Go.IntWalk Nums

theorem own_tPut : Own 9 := fun _ _ => by go_simp
theorem own_tGet : Own 11 := fun _ _ => by go_simp
theorem own_tRoot : Own 14 := fun _ _ => by go_simp
theorem own_tLen : Own 16 := fun _ _ => by go_simp
theorem own_tLeaf : Own 17 := fun _ _ => by go_simp
theorem own_tSides : Own 18 := fun _ _ => by go_simp
/-- A tree: its top node, its depth. -/
def trPs (t : TA) (d : Nat) : List Pt := [.one (.v t.val), .one (.v (.int .u8 (d : Int)))]
def eTr (t : TA) (d : Nat) : SQ := .p (trPs t d)
theorem val_cells1 (t : TA) : t.val.cells = #[t.val] := by cases t <;> rfl
theorem trPs_ok (t : TA) (d : Nat) : OkP (trPs t d) := fun p hp => by
  rcases List.mem_cons.1 hp with rfl | hp
  · exact ⟨trivial, val_one t, val_cells1 t⟩
  · rw [List.mem_singleton.1 hp]
    exact ⟨trivial, rfl, rfl⟩
set_option maxRecDepth 100000 in
set_option maxHeartbeats 1000000 in
theorem tRoot_S (t : TA) (d : Nat) : Spec 14 [(eTr t d).den] [] (TF t) (one (.q (eY 32 t.root))) := by
  refine spec_S [eTr t d] 6 Tryd.func14 rfl (by rw [Tryd.ntmps14]; rfl) (one_ok (trPs_ok t d)) fun b => ?_
  refine s_auto TY_ok rfl ?_
  refine s_regA TY_ok rfl fun K hK => ?_
  refine l_call0 [t.val] rfl rfl rfl own_thash rfl rfl (fun _ _ => rfl) (thash_S t) (fun _ h _ => h) fun _ => ?_
  refine l_autoS TY_ok rfl ?_
  refine s_end (hK _ ?_)
  exact s_ret (k_ret TY_ok () rfl (by decide) rfl rfl rfl (fun _ _ _ => trivial) (fun _ _ => trivial))
set_option maxRecDepth 100000 in
set_option maxHeartbeats 1000000 in
theorem tLen_S (t : TA) (d : Nat) : Spec 16 [(eTr t d).den] [] (TF t) (one (.v (.int .i64 (t.len : Int)))) := by
  refine spec_S [eTr t d] 6 Tryd.func16 rfl (by rw [Tryd.ntmps16]; rfl) (one_ok (trPs_ok t d)) fun b => ?_
  refine s_auto TY_ok rfl ?_
  refine s_regA TY_ok rfl fun K hK => ?_
  refine l_call0 [t.val] rfl rfl rfl own_tsize rfl rfl (fun _ _ => rfl) (tsize_S t) (fun _ h _ => h) fun _ => ?_
  refine l_autoS TY_ok rfl ?_
  refine s_end (hK _ ?_)
  exact s_ret (k_ret TY_ok () rfl (by decide) rfl rfl rfl (fun _ _ _ => trivial) (fun _ _ => trivial))
set_option maxRecDepth 100000 in
set_option maxHeartbeats 1000000 in
theorem tGet_S (r : Nat) (l : List PairT) (t : TA) {k : List UInt8} (hk : k.length = 32) (hr : r ≤ 256) (ht : TOk r l t) (hs : SortT l) :
    Spec 11 [(eTr t ((256 - r) % 256)).den, (eY 32 k).den] [] (TF t) { ret := fun _ : Unit => retG (getT l k), own := fun _ => [] } := by
  refine spec_S [eTr t ((256 - r) % 256), eY 32 k] 20 Tryd.func11 rfl (by rw [Tryd.ntmps11]; rfl) (two_ok (trPs_ok t _) (eY_ok hk).1) fun b => ?_
  refine s_auto TY_ok rfl ?_
  refine s_regA TY_ok rfl fun K hK => ?_
  refine l_call0 [t.val, .agg (By k).toArray, .int .u8 (((256 - r) % 256 : Nat) : Int)] rfl rfl rfl own_tfind rfl rfl (fun _ _ => rfl) (tfind_S r l t hk hr ht) (fun _ h _ => h) fun ⟨x, hx⟩ => ?_
  cases x with
  | none =>
    refine l_autoS TY_ok rfl ?_
    refine s_end (hK _ ?_)
    refine s_seq fun K2 hK2 => ?_
    refine s_auto TY_ok rfl ?_
    refine s_yes rfl ?_
    refine s_auto TY_ok rfl ?_
    exact s_ret (k_ret TY_ok () rfl (by decide) rfl (congrArg retG (getT_none.2 hx)) rfl (fun _ _ _ => trivial) (fun _ _ => trivial))
  | some x =>
    obtain ⟨h, q⟩ := x
    obtain ⟨hq, rfl⟩ := hx
    refine l_autoS TY_ok rfl ?_
    refine s_end (hK _ ?_)
    refine s_seq fun K2 hK2 => ?_
    refine s_auto TY_ok rfl ?_
    refine s_no rfl ?_
    refine s_skip (hK2 _ ?_)
    refine s_regA TY_ok rfl fun K3 hK3 => ?_
    refine l_ldO TY_ok rfl rfl rfl rfl rfl rfl (obj_fact fun _ h _ => h.1) ?_
    refine l_autoS TY_ok rfl ?_
    refine s_end (hK3 _ ?_)
    exact s_ret (k_ret TY_ok () rfl (by decide) rfl (congrArg retG ((getT_some hs).2 hq)) rfl (fun _ _ _ => trivial) (fun _ _ => trivial))
def retL : TA → RV
  | .leaf _ _ p => .t [eY 32 p.1, eY 32 p.2, .c (.v (.bool true))]
  | _ => .t [eY 32 z32T, eY 32 z32T, .c (.v (.bool false))]
def retSd (d : Nat) : TA → RV
  | .node _ a b => .t [eTr a d, eTr b d, .c (.v (.bool true))]
  | _ => .t [eTr .nil 0, eTr .nil 0, .c (.v (.bool false))]
set_option maxRecDepth 100000 in
set_option maxHeartbeats 1000000 in
theorem tLeaf_S (t : TA) (d : Nat) : Spec 17 [(eTr t d).den] [] (TF t) { ret := fun _ : Unit => retL t, own := fun _ => [] } := by
  refine spec_S [eTr t d] 34 Tryd.func17 rfl (by rw [Tryd.ntmps17]; rfl) (one_ok (trPs_ok t d)) fun b => ?_
  refine s_auto TY_ok rfl ?_
  refine s_seq fun K hK => ?_
  cases t with
  | nil =>
    refine s_auto TY_ok rfl ?_
    refine s_yes rfl ?_
    refine s_auto TY_ok rfl ?_
    exact s_ret (k_ret TY_ok () rfl (by decide) rfl rfl rfl (fun _ _ _ => trivial) (fun _ _ => trivial))
  | leaf g h p =>
    refine s_regA TY_ok rfl fun K2 hK2 => ?_
    refine l_ldO TY_ok rfl rfl rfl rfl rfl rfl (obj_fact fun _ h _ => h.1) ?_
    refine l_autoS TY_ok rfl ?_
    refine s_end (hK2 _ ?_)
    refine s_no rfl ?_
    refine s_skip (hK _ ?_)
    refine s_pure (OkP (lfPs h p) ∧ OkP (prPs p)) (fun w hw _ => ⟨hw.1.2, hw.2.2⟩) fun ⟨ho1, ho2⟩ => ?_
    refine s_locs fun G => ?_
    have hsub : ∀ x ∈ [(⟨1, some (G 1), 27, trPs (.leaf g h p) d⟩ : LV)], x ∈ withG G [⟨3, none, 30, [.agg 32 (By z32T).toArray]⟩, ⟨2, none, 30, [.agg 32 (By z32T).toArray]⟩, ⟨1, none, 27, trPs (.leaf g h p) d⟩] ∧ x.g.isSome = true := fun x hx => by
      rw [List.mem_singleton.1 hx]
      exact ⟨List.mem_cons_of_mem _ (List.mem_cons_of_mem _ List.mem_cons_self), rfl⟩
    refine s_seq fun K3 hK3 => ?_
    refine s_anyP [0, 1, 2, 3, 4, 5, 6, 7, 8, 9, 10, 11, 12, 13, 14, 15] 17 2 (fun w => InvL [⟨1, some (G 1), 27, trPs (.leaf g h p) d⟩] w ∧ TF (.leaf g h p) w) (by kernel_rfl) rfl (inv_two hsub fun _ h _ => h) ?_
    refine p_frontS TY_ok 0 (by kernel_rfl) rfl rfl rfl rfl rfl rfl (fun x hx => (hsub x hx).1) (fun _ h => h.1) ?_
    refine p_frontS TY_ok 1 (by kernel_rfl) rfl rfl rfl rfl rfl rfl (fun x hx => (hsub x hx).1) (fun _ h => h.1) ?_
    refine p_frontS TY_ok 2 (by kernel_rfl) rfl rfl rfl rfl rfl rfl (fun x hx => (hsub x hx).1) (fun _ h => h.1) ?_
    refine p_frontS TY_ok 3 (by kernel_rfl) rfl rfl rfl rfl rfl rfl (fun x hx => (hsub x hx).1) (fun _ h => h.1) ?_
    refine p_ldO TY_ok 4 (by kernel_rfl) rfl rfl rfl rfl rfl rfl rfl ho1 (fun _ h => h.2.1) ?_
    refine p_frontS TY_ok 5 (by kernel_rfl) rfl rfl rfl rfl rfl rfl (fun x hx => (hsub x hx).1) (fun _ h => h.1) ?_
    refine p_frontS TY_ok 6 (by kernel_rfl) rfl rfl rfl rfl rfl rfl (fun x hx => (hsub x hx).1) (fun _ h => h.1) ?_
    refine p_ldO TY_ok 7 (by kernel_rfl) rfl rfl rfl rfl rfl rfl rfl ho2 (fun _ h => h.2.2) ?_
    refine p_frontS TY_ok 8 (by kernel_rfl) rfl rfl rfl rfl rfl rfl (fun x hx => (hsub x hx).1) (fun _ h => h.1) ?_
    refine p_frontS TY_ok 9 (by kernel_rfl) rfl rfl rfl rfl rfl rfl (fun x hx => (hsub x hx).1) (fun _ h => h.1) ?_
    refine p_frontS TY_ok 10 (by kernel_rfl) rfl rfl rfl rfl rfl rfl (fun x hx => (hsub x hx).1) (fun _ h => h.1) ?_
    refine p_frontS TY_ok 11 (by kernel_rfl) rfl rfl rfl rfl rfl rfl (fun x hx => (hsub x hx).1) (fun _ h => h.1) ?_
    refine p_ldO TY_ok 12 (by kernel_rfl) rfl rfl rfl rfl rfl rfl rfl ho1 (fun _ h => h.2.1) ?_
    refine p_frontS TY_ok 13 (by kernel_rfl) rfl rfl rfl rfl rfl rfl (fun x hx => (hsub x hx).1) (fun _ h => h.1) ?_
    refine p_frontS TY_ok 14 (by kernel_rfl) rfl rfl rfl rfl rfl rfl (fun x hx => (hsub x hx).1) (fun _ h => h.1) ?_
    refine p_ldO TY_ok 15 (by kernel_rfl) rfl rfl rfl rfl rfl rfl rfl ho2 (fun _ h => h.2.2) ?_
    refine p_step 16 (by kernel_rfl) rfl fun K4 hK4 => ?_
    refine l_autoS TY_ok rfl ?_
    refine s_end (hK4 _ (inv_two (fun x hx => by
      rw [List.mem_singleton.1 hx]
      exact ⟨List.mem_cons_of_mem _ (List.mem_cons_of_mem _ List.mem_cons_self), rfl⟩) fun _ h _ => h) ?_)
    refine p_tail [17, 18] (by kernel_rfl) rfl ?_
    refine l_autoS TY_ok rfl ?_
    refine s_end (hK3 _ ?_)
    exact s_ret (k_ret TY_ok () rfl (by decide) rfl rfl rfl (fun _ _ _ => trivial) (fun _ _ => trivial))
  | node g x y =>
    refine s_regA TY_ok rfl fun K2 hK2 => ?_
    refine l_ldO TY_ok rfl rfl rfl rfl rfl rfl (obj_fact fun _ h _ => h.1) ?_
    refine l_autoS TY_ok rfl ?_
    refine s_end (hK2 _ ?_)
    refine s_yes rfl ?_
    refine s_auto TY_ok rfl ?_
    exact s_ret (k_ret TY_ok () rfl (by decide) rfl rfl rfl (fun _ _ _ => trivial) (fun _ _ => trivial))
set_option maxRecDepth 100000 in
set_option maxHeartbeats 1000000 in
theorem tSides_S (t : TA) (d d' : Nat) (hd : IntKind.u8.wrap ((d : Int) + 1) = (d' : Int)) : Spec 18 [(eTr t d).den] [] (TF t) { ret := fun _ : Unit => retSd d' t, own := fun _ => [] } := by
  refine spec_S [eTr t d] 36 Tryd.func18 rfl (by rw [Tryd.ntmps18]; rfl) (one_ok (trPs_ok t d)) fun b => ?_
  refine s_auto TY_ok rfl ?_
  refine s_seq fun K hK => ?_
  cases t with
  | nil =>
    refine s_auto TY_ok rfl ?_
    refine s_yes rfl ?_
    refine s_auto TY_ok rfl ?_
    exact s_ret (k_ret TY_ok () rfl (by decide) rfl rfl rfl (fun _ _ _ => trivial) (fun _ _ => trivial))
  | leaf g h p =>
    refine s_regA TY_ok rfl fun K2 hK2 => ?_
    refine l_ldO TY_ok rfl rfl rfl rfl rfl rfl (obj_fact fun _ h _ => h.1) ?_
    refine l_autoS TY_ok rfl ?_
    refine s_end (hK2 _ ?_)
    refine s_yes rfl ?_
    refine s_auto TY_ok rfl ?_
    exact s_ret (k_ret TY_ok () rfl (by decide) rfl rfl rfl (fun _ _ _ => trivial) (fun _ _ => trivial))
  | node g x y =>
    refine s_regA TY_ok rfl fun K2 hK2 => ?_
    refine l_ldO TY_ok rfl rfl rfl rfl rfl rfl (obj_fact fun _ h _ => h.1) ?_
    refine l_autoS TY_ok rfl ?_
    refine s_end (hK2 _ ?_)
    refine s_no rfl ?_
    refine s_skip (hK _ ?_)
    refine s_regA TY_ok rfl fun K4 hK4 => ?_
    refine l_ldO TY_ok rfl rfl rfl rfl rfl rfl (obj_fact fun _ h _ => h.1) ?_
    refine l_autoS TY_ok rfl ?_
    refine s_end (hK4 _ ?_)
    refine s_locs fun G => ?_
    have hsub : ∀ u ∈ ([⟨5, some (G 5), 66, sdPs x y⟩, ⟨1, some (G 1), 27, trPs (.node g x y) d⟩] : List LV), u ∈ withG G [⟨5, none, 66, sdPs x y⟩, ⟨3, none, 27, trPs .nil 0⟩, ⟨2, none, 27, trPs .nil 0⟩, ⟨1, none, 27, trPs (.node g x y) d⟩] ∧ u.g.isSome = true := fun u hu => by
      rcases List.mem_cons.1 hu with rfl | hu
      · exact ⟨List.mem_cons_self, rfl⟩
      · rw [List.mem_singleton.1 hu]
        exact ⟨List.mem_cons_of_mem _ (List.mem_cons_of_mem _ (List.mem_cons_of_mem _ List.mem_cons_self)), rfl⟩
    refine s_seq fun K3 hK3 => ?_
    refine s_anyP [0, 1, 2, 3, 4, 5, 6, 7, 8, 9, 10, 11] 13 2 (InvL [⟨5, some (G 5), 66, sdPs x y⟩, ⟨1, some (G 1), 27, trPs (.node g x y) d⟩]) (by kernel_rfl) rfl (inv_of hsub) ?_
    refine p_frontO (.a 5 (0 + 1 * 0)) trivial 0 (by kernel_rfl) rfl rfl rfl rfl rfl (runO_ixA 0 rfl Tryd.underlying66 rfl rfl rfl (by decide)) ?_
    refine p_frontA (.v x.val) trivial 1 (by kernel_rfl) rfl rfl rfl rfl rfl (fun x hx => (hsub x hx).1) (fun _ h => h) (runO_ldL _ rfl rfl rfl rfl Tryd.underlying25 rfl) ?_
    refine p_frontS TY_ok 2 (by kernel_rfl) rfl rfl rfl rfl rfl rfl (fun x hx => (hsub x hx).1) (fun _ h => h) ?_
    refine p_frontS TY_ok 3 (by kernel_rfl) rfl rfl rfl rfl rfl rfl (fun x hx => (hsub x hx).1) (fun _ h => h) ?_
    refine p_frontS TY_ok 4 (by kernel_rfl) rfl rfl rfl rfl rfl rfl (fun x hx => (hsub x hx).1) (fun _ h => h) ?_
    refine p_frontS TY_ok 5 (by kernel_rfl) rfl rfl rfl rfl rfl rfl (fun x hx => (hsub x hx).1) (fun _ h => h) ?_
    refine p_frontO (.a 5 (0 + 1 * 1)) trivial 6 (by kernel_rfl) rfl rfl rfl rfl rfl (runO_ixA 1 rfl Tryd.underlying66 rfl rfl rfl (by decide)) ?_
    refine p_frontA (.v y.val) trivial 7 (by kernel_rfl) rfl rfl rfl rfl rfl (fun x hx => (hsub x hx).1) (fun _ h => h) (runO_ldL _ rfl rfl rfl rfl Tryd.underlying25 rfl) ?_
    refine p_frontS TY_ok 8 (by kernel_rfl) rfl rfl rfl rfl rfl rfl (fun x hx => (hsub x hx).1) (fun _ h => h) ?_
    refine p_frontS TY_ok 9 (by kernel_rfl) rfl rfl rfl rfl rfl rfl (fun x hx => (hsub x hx).1) (fun _ h => h) ?_
    refine p_frontS TY_ok 10 (by kernel_rfl) rfl rfl rfl rfl rfl rfl (fun x hx => (hsub x hx).1) (fun _ h => h) ?_
    refine p_frontS TY_ok 11 (by kernel_rfl) rfl rfl rfl rfl rfl rfl (fun x hx => (hsub x hx).1) (fun _ h => h) ?_
    refine p_step 12 (by kernel_rfl) rfl fun K5 hK5 => ?_
    refine l_autoS TY_ok rfl ?_
    refine s_end (hK5 _ (inv_of fun u hu => by
      rcases List.mem_cons.1 hu with rfl | hu
      · exact ⟨List.mem_cons_self, rfl⟩
      · rw [List.mem_singleton.1 hu]
        exact ⟨List.mem_cons_of_mem _ (List.mem_cons_of_mem _ (List.mem_cons_of_mem _ List.mem_cons_self)), rfl⟩) ?_)
    refine p_tail [13, 14] (by kernel_rfl) rfl ?_
    refine l_autoS TY_ok rfl ?_
    refine s_end (hK3 _ ?_)
    exact s_ret (k_ret TY_ok () rfl (by decide) rfl (congrArg (fun z : Int => RV.t [.p [.one (.v x.val), .one (.v (.int .u8 z))], .p [.one (.v y.val), .one (.v (.int .u8 z))], .c (.v (.bool true))]) hd.symm) rfl (fun _ _ _ => trivial) (fun _ _ => trivial))
set_option maxRecDepth 100000 in
set_option maxHeartbeats 1000000 in
theorem tPut_S (r : Nat) (l : List PairT) (t : TA) (p : PairT) (hp : OkT2 p) (hr : r ≤ 256) (ht : TOk r l t) (hs : SortT l) (hk : KeysT l) (hsh : SharesT (256 - r) (p :: l)) (hl : l.length + 1 ≤ 1000000) :
    Spec 9 [(eTr t ((256 - r) % 256)).den, (eY 32 p.1).den, (eY 32 p.2).den] [] (fun w => TF t w ∧ Tsh w) { ret := fun x : { t' : TA // TOk r (putT l p) t' } => .q (eTr x.1 ((256 - r) % 256)), own := fun _ => [], p := fun x => TF x.1 } := by
  have hput := fun h => tput_S r l t h p hr ht hs hk hsh hl
  obtain ⟨D, hD⟩ : ∃ D, (256 - r) % 256 = D := ⟨_, rfl⟩
  rw [hD] at hput ⊢
  refine spec_S [eTr t D, eY 32 p.1, eY 32 p.2] 19 Tryd.func9 rfl (by rw [Tryd.ntmps9]; rfl) (more_ok (trPs_ok t _) (two_ok (eY_ok hp.1).1 (eY_ok hp.2).1)) fun b => ?_
  refine s_auto TY_ok rfl ?_
  refine s_locs fun G => ?_
  have hsub : ∀ u ∈ ([⟨5, some (G 5), 30, [.agg 32 (By p.2).toArray]⟩, ⟨4, some (G 4), 30, [.agg 32 (By p.1).toArray]⟩, ⟨3, some (G 3), 27, trPs t D⟩] : List LV), u ∈ withG G [⟨6, none, 27, trPs .nil 0⟩, ⟨5, none, 30, [.agg 32 (By p.2).toArray]⟩, ⟨4, none, 30, [.agg 32 (By p.1).toArray]⟩, ⟨3, none, 27, trPs t D⟩] ∧ u.g.isSome = true := fun u hu => by
    rcases List.mem_cons.1 hu with rfl | hu
    · exact ⟨List.mem_cons_of_mem _ List.mem_cons_self, rfl⟩
    rcases List.mem_cons.1 hu with rfl | hu
    · exact ⟨List.mem_cons_of_mem _ (List.mem_cons_of_mem _ List.mem_cons_self), rfl⟩
    rw [List.mem_singleton.1 hu]
    exact ⟨List.mem_cons_of_mem _ (List.mem_cons_of_mem _ (List.mem_cons_of_mem _ List.mem_cons_self)), rfl⟩
  refine s_seq fun K3 hK3 => ?_
  refine s_anyP [0, 1, 2, 3, 4, 6, 7, 9, 10] 11 2 (InvL [⟨5, some (G 5), 30, [.agg 32 (By p.2).toArray]⟩, ⟨4, some (G 4), 30, [.agg 32 (By p.1).toArray]⟩, ⟨3, some (G 3), 27, trPs t D⟩]) (by kernel_rfl) rfl (inv_of hsub) ?_
  refine p_frontS TY_ok 0 (by kernel_rfl) rfl rfl rfl rfl rfl rfl (fun x hx => (hsub x hx).1) (fun _ h => h) ?_
  refine p_frontS TY_ok 1 (by kernel_rfl) rfl rfl rfl rfl rfl rfl (fun x hx => (hsub x hx).1) (fun _ h => h) ?_
  refine p_frontS TY_ok 2 (by kernel_rfl) rfl rfl rfl rfl rfl rfl (fun x hx => (hsub x hx).1) (fun _ h => h) ?_
  refine p_frontS TY_ok 3 (by kernel_rfl) rfl rfl rfl rfl rfl rfl (fun x hx => (hsub x hx).1) (fun _ h => h) ?_
  refine p_frontS TY_ok 4 (by kernel_rfl) rfl rfl rfl rfl rfl rfl (fun x hx => (hsub x hx).1) (fun _ h => h) ?_
  refine p_frontS TY_ok 6 (by kernel_rfl) rfl rfl rfl rfl rfl rfl (fun x hx => (hsub x hx).1) (fun _ h => h) ?_
  refine p_frontS TY_ok 7 (by kernel_rfl) rfl rfl rfl rfl rfl rfl (fun x hx => (hsub x hx).1) (fun _ h => h) ?_
  refine p_frontS TY_ok 9 (by kernel_rfl) rfl rfl rfl rfl rfl rfl (fun x hx => (hsub x hx).1) (fun _ h => h) ?_
  refine p_frontS TY_ok 10 (by kernel_rfl) rfl rfl rfl rfl rfl rfl (fun x hx => (hsub x hx).1) (fun _ h => h) ?_
  refine p_step 5 (by kernel_rfl) rfl fun K5 hK5 => ?_
  refine l_autoS TY_ok rfl ?_
  refine l_give 12 (E' := [(8, .v t.val), (14, .v (.int .u8 (D : Int))), (17, .v (.int .u8 (D : Int))), (6, .a 6 0)]) rfl ⟨rfl, rfl, rfl, rfl, trivial⟩ fun h => ?_
  refine l_objOut 0 rfl ?_
  refine s_end (hK5 _ (inv_of hsub) ?_)
  refine p_step 8 (by kernel_rfl) rfl fun K6 hK6 => ?_
  refine l_call0 [t.val, .pointer (some ⟨h, 0, none⟩), .int .u8 (D : Int)] rfl rfl rfl own_tput rfl rfl (fun _ _ => rfl) (hput h) (fun _ h _ => ⟨h.2.1, h.1, h.2.2⟩) fun x => ?_
  refine s_end (hK6 _ (inv_of hsub) ?_)
  refine p_tail [11, 12] (by kernel_rfl) rfl ?_
  refine l_autoS TY_ok rfl ?_
  refine s_end (hK3 _ ?_)
  exact s_ret (k_ret TY_ok x rfl (by decide) rfl rfl rfl (fun _ h _ => h.1) (fun _ _ => trivial))
end Go.Proofs.YtlaikmpnijlcbaaDoor
/-
  PLAIN NUMBERS: digests reckoned by the kernel: each word once. No program is imported.
-/
namespace Nums

/-- The words so far, the last one first. -/
def xsl (s : Sha) (b : List UInt8) : Nat → List Nat
  | 0 => []
  | t + 1 => sx s b t :: xsl s b t
theorem xsl_len (s : Sha) (b : List UInt8) : ∀ t, (xsl s b t).length = t
  | 0 => rfl
  | t + 1 => by rw [xsl, List.length_cons, xsl_len]
theorem xsl_at (s : Sha) (b : List UInt8) : ∀ t j, j < t → (xsl s b t)[j]! = sx s b (t - 1 - j)
  | 0, _, h => absurd h (by omega)
  | t + 1, 0, _ => by
    show (sx s b t :: xsl s b t)[0]! = _
    rw [Nat.add_sub_cancel, Nat.sub_zero]
    rfl
  | t + 1, j + 1, h => by
    show (sx s b t :: xsl s b t)[j + 1]! = _
    have e : (sx s b t :: xsl s b t)[j + 1]! = (xsl s b t)[j]! := by simp
    rw [e, xsl_at s b t j (by omega)]
    congr 1
    omega
def firstF (s : Sha) (b : List UInt8) : Nat → List Nat
  | 0 => []
  | t + 1 => forced (bword s b t) fun v => v :: firstF s b t
theorem firstF_eq (s : Sha) (b : List UInt8) : ∀ t, t ≤ 16 → firstF s b t = xsl s b t
  | 0, _ => rfl
  | t + 1, h => by
    have e : sx s b t = bword s b t := by rw [sx, dif_pos (by omega)]
    rw [firstF, forced_eq, xsl, firstF_eq s b t (by omega), e]
def grow (s : Sha) : Nat → List Nat → List Nat
  | 0, L => L
  | k + 1, L => forced ((loww s.w s.low1 L[1]! + L[6]! + loww s.w s.low0 L[14]! + L[15]!) % 2 ^ s.w) fun v => grow s k (v :: L)
theorem grow_eq (s : Sha) (b : List UInt8) : ∀ k t, 16 ≤ t → grow s k (xsl s b t) = xsl s b (t + k)
  | 0, _, _ => rfl
  | k + 1, t, h => by
    have e : (loww s.w s.low1 (xsl s b t)[1]! + (xsl s b t)[6]! + loww s.w s.low0 (xsl s b t)[14]! + (xsl s b t)[15]!) % 2 ^ s.w = sx s b t := by
      rw [xsl_at s b t 1 (by omega), xsl_at s b t 6 (by omega), xsl_at s b t 14 (by omega), xsl_at s b t 15 (by omega)]
      conv => rhs; rw [sx, dif_neg (by omega)]
      rw [show t - 1 - 1 = t - 2 from by omega, show t - 1 - 6 = t - 7 from by omega, show t - 1 - 14 = t - 15 from by omega, show t - 1 - 15 = t - 16 from by omega]
    rw [grow, forced_eq, e]
    have h2 := grow_eq s b k (t + 1) (by omega)
    rw [xsl] at h2
    rw [h2]
    congr 1
    omega
/-- The rounds over words in their order, from number t on. -/
def rndF (s : Sha) : List Nat → Nat → Oct → Oct
  | [], _, o => o
  | x :: r, t, o => forced (t1w s (s.k t) x o) fun T => forced ((T + t2w s o) % 2 ^ s.w) fun A => forced ((o.d + T) % 2 ^ s.w) fun E => rndF s r (t + 1) ⟨A, o.a, o.b, o.c, E, o.e, o.f, o.g⟩
theorem rndF_eq (s : Sha) (b : List UInt8) (o : Oct) : ∀ (l : List Nat) (t : Nat), (∀ j x, l[j]? = some x → x = sx s b (t + j)) → rndF s l t (rnds s b o t) = rnds s b o (t + l.length)
  | [], _, _ => rfl
  | x :: r, t, h => by
    have hx := h 0 x rfl
    rw [Nat.add_zero] at hx
    subst hx
    rw [rndF]
    simp only [forced_eq]
    have h2 := rndF_eq s b o r (t + 1) (fun j x hj => by rw [h (j + 1) x (by simpa using hj)]; congr 1; omega)
    rw [show rnds s b o (t + 1) = rnd s (s.k t) (sx s b t) (rnds s b o t) from rfl] at h2
    rw [show t + (sx s b t :: r).length = t + 1 + r.length from by rw [List.length_cons]; omega, ← h2]
    rfl
def add8F (w : Nat) (o q : Oct) : Oct :=
  forced ((o.a + q.a) % 2 ^ w) fun a => forced ((o.b + q.b) % 2 ^ w) fun b => forced ((o.c + q.c) % 2 ^ w) fun c => forced ((o.d + q.d) % 2 ^ w) fun d =>
  forced ((o.e + q.e) % 2 ^ w) fun e => forced ((o.f + q.f) % 2 ^ w) fun f => forced ((o.g + q.g) % 2 ^ w) fun g => forced ((o.h + q.h) % 2 ^ w) fun h => ⟨a, b, c, d, e, f, g, h⟩
theorem add8F_eq (w : Nat) (o q : Oct) : add8F w o q = add8 w o q := by
  unfold add8F
  simp only [forced_eq]
  rfl
def turnF (s : Sha) (o : Oct) (b : List UInt8) : Oct := add8F s.w o (rndF s (grow s (s.n - 16) (firstF s b 16)).reverse 0 o)
theorem turnF_eq {s : Sha} (hn : 16 ≤ s.n) (o : Oct) (b : List UInt8) : turnF s o b = turnw s o b := by
  rw [turnF, add8F_eq, turnw, firstF_eq s b 16 (Nat.le_refl _), grow_eq s b _ 16 (Nat.le_refl _), show 16 + (s.n - 16) = s.n from by omega]
  congr 1
  have h := rndF_eq s b o (xsl s b s.n).reverse 0 (fun j x hj => by
    have hl : j < (xsl s b s.n).reverse.length := (List.getElem?_eq_some_iff.1 hj).1
    rw [List.length_reverse, xsl_len] at hl
    rw [List.getElem?_reverse (by rw [xsl_len]; exact hl), xsl_len] at hj
    have h1 := xsl_at s b s.n (s.n - 1 - j) (by omega)
    rw [List.getElem!_eq_getElem?_getD, hj] at h1
    rw [show 0 + j = s.n - 1 - (s.n - 1 - j) from by omega, ← h1]
    rfl)
  rw [List.length_reverse, xsl_len, Nat.zero_add] at h
  exact h
def runF (s : Sha) (B : Nat) : Nat → Oct → List UInt8 → Oct
  | 0, o, _ => o
  | k + 1, o, l => runF s B k (turnF s o (l.take B)) (l.drop B)
theorem runF_eq {s : Sha} {B : Nat} (hB : 0 < B) (hn : 16 ≤ s.n) : ∀ k o l, l.length = k * B → runF s B k o l = runw s B o l
  | 0, o, l, h => by
    have h0 : l = [] := List.eq_nil_of_length_eq_zero (by omega)
    subst h0
    rw [runF, runw_short (by simpa using hB)]
  | k + 1, o, l, h => by
    have hl : (l.take B).length = B := by rw [List.length_take, h, Nat.add_mul]; omega
    have hd : (l.drop B).length = k * B := by rw [List.length_drop, h, Nat.add_mul]; omega
    rw [runF, turnF_eq hn, runF_eq hB hn k _ _ hd]
    conv => rhs; rw [← List.take_append_drop B l, runw_block hB hl]
/-- The digest, reckoned; n blocks. -/
def digestF (s : Sha) (n : Nat) (m : List UInt8) : List UInt8 :=
  ((runF s (2 * s.w) n ⟨s.start[0]!, s.start[1]!, s.start[2]!, s.start[3]!, s.start[4]!, s.start[5]!, s.start[6]!, s.start[7]!⟩ (m ++ tailw (2 * s.w) (m.length % (2 * s.w)) (8 * m.length))).list.map (layw s)).flatten
theorem digest_eq {s : Sha} (n : Nat) (m : List UInt8) (hw : 0 < 2 * s.w) (hn : 16 ≤ s.n) (h : (m ++ tailw (2 * s.w) (m.length % (2 * s.w)) (8 * m.length)).length = n * (2 * s.w)) : digest s m = digestF s n m := by
  rw [digest, sumw, digestF, runF_eq hw hn n _ _ h]
end Nums
/-
  THE TREE'S LAWS: what must be answered first.
-/
namespace Go.Proofs.YtlaikmpnijlcbaaDoor
open Go.RowKit Go.IntWalk Nums

theorem own_tfirst : Own 8 := fun _ _ => by go_simp
/-- A hash that begins with a byte. -/
def hhT (v : UInt8) : List UInt8 := v :: List.replicate 31 0
theorem hhT_len (v : UInt8) : (hhT v).length = 32 := rfl
theorem built_hh (v : Int) : Tryd.prog.built 30 [(0, .int .u8 v)] = some (#[.int .u8 v] ++ (By (List.replicate 31 0)).toArray) := by kernel_rfl
set_option maxRecDepth 100000 in
theorem run_hh {N : Nat} {E : SE} {o : Oper} {n : Int} (v : UInt8) {k : List UInt8} (hv : hhT v = k) (ho : o.op = .build 30 #[(0, .const (.int .u8 n))]) (hn : n = (v.toNat : Int)) :
    ∀ (G : Nat → Nat) (a : Act) (w : World), Fr N (denE G E) a → (execOp a.eval o).run Tryd.prog w = .ok (.value ((SV.q (eY 32 k)).den G)) w := fun G a w _ => by
  subst hv
  subst hn
  unfold execOp
  have h : Tryd.prog.built 30 (Array.map (fun x : Nat × Operand => (x.1, a.eval x.2)) #[(0, .const (.int .u8 (v.toNat : Int)))]).toList = some (#[.int .u8 (v.toNat : Int)] ++ (By (List.replicate 31 0)).toArray) := by
    rw [Array.toList_map]
    exact built_hh (v.toNat : Int)
  simp only [ho, Sem.run_bind, run_build w 30 _ _ h, Result.andThen_ok, Sem.run_pure]
  have e : #[Value.int .u8 (v.toNat : Int)] ++ (By (List.replicate 31 0)).toArray = (By (hhT v)).toArray := by
    generalize hr : List.replicate 31 (0 : UInt8) = l
    rw [hhT, hr]
    simp [By]
  rw [e]
  rfl
/-- Trees at the top. -/
theorem tPut0 {l : List PairT} {t : TA} {p : PairT} (hp : OkT2 p) (ht : TOk 256 l t) (hs : SortT l) (hk : KeysT l) (hl : l.length + 1 ≤ 1000000) :
    Spec 9 [(eTr t 0).den, (eY 32 p.1).den, (eY 32 p.2).den] [] (fun w => TF t w ∧ Tsh w) { ret := fun x : { t' : TA // TOk 256 (putT l p) t' } => .q (eTr x.1 0), own := fun _ => [], p := fun x => TF x.1 } :=
  tPut_S 256 l t p hp (Nat.le_refl _) ht hs hk (fun _ _ _ _ _ h => absurd h (Nat.not_lt_zero _)) hl
theorem first_root : leafT (hhT 1, hhT 2) ≠ z32T := by
  unfold leafT
  rw [digest_eq 2 _ (by decide) (by decide) (by decide +kernel)]
  decide +kernel
set_option maxRecDepth 100000 in
set_option maxHeartbeats 1000000 in
theorem tfirst_S : Spec 8 [] [] Tsh (one (.v (.bool true))) := by
  refine spec_S [] 38 Tryd.func8 rfl (by rw [Tryd.ntmps8]; rfl) (fun _ h => by cases h) fun b => ?_
  have hne := first_root
  have hl1 := hhT_len 1
  have hl2 := hhT_len 2
  obtain ⟨k1, hk1⟩ : ∃ k, hhT 1 = k := ⟨_, rfl⟩
  obtain ⟨k2, hk2⟩ : ∃ k, hhT 2 = k := ⟨_, rfl⟩
  rw [hk1, hk2] at hne
  rw [hk1] at hl1
  rw [hk2] at hl2
  have hp : OkT2 (k1, k2) := ⟨hl1, hl2⟩
  refine s_auto TY_ok rfl ?_
  refine s_auto TY_ok rfl ?_
  refine s_regA TY_ok rfl fun K hK => ?_
  refine l_op (.q (eY 32 (k1))) (eY_ok hl1).1 rfl rfl rfl (run_hh 1 hk1 rfl rfl) ?_
  refine l_op (.q (eY 32 (k2))) (eY_ok hl2).1 rfl rfl rfl (run_hh 2 hk2 rfl rfl) ?_
  have hput := tPut0 (l := []) (t := .nil) hp (TOk.nil rfl) List.Pairwise.nil (fun _ h => by cases h) (by decide)
  refine l_call0 [(eTr .nil 0).den, (eY 32 k1).den, (eY 32 k2).den] rfl rfl rfl own_tPut rfl rfl (fun _ _ => rfl) hput (fun _ h _ => ⟨trivial, h⟩) fun x => ?_
  obtain ⟨t, ht⟩ := x
  refine l_autoS TY_ok rfl ?_
  refine s_end (hK _ ?_)
  have hs : SortT [(k1, k2)] := List.pairwise_singleton _ _
  have hg : getT [(k1, k2)] (k1) = some (k2) := by simp [getT]
  have hget := tGet_S 256 [(k1, k2)] t (k := k1) hl1 (Nat.le_refl _) ht hs
  rw [hg] at hget
  have hroot : t.root = leafT (k1, k2) := (TOk.root ht).trans (rootT_one _ _)
  have hlen : t.len = 1 := TOk.len ht
  refine s_regA TY_ok rfl fun K2 hK2 => ?_
  refine l_op (.q (eY 32 k1)) (eY_ok hl1).1 rfl rfl rfl (run_hh 1 hk1 rfl rfl) ?_
  refine l_call0 [(eTr t 0).den, (eY 32 (k1)).den] rfl rfl rfl own_tGet rfl rfl (fun _ _ => rfl) hget (fun _ h _ => h.1) fun _ => ?_
  refine l_autoS TY_ok rfl ?_
  refine s_end (hK2 _ ?_)
  refine s_regA TY_ok rfl fun K3 hK3 => ?_
  refine l_call0 [(eTr .nil 0).den] rfl rfl rfl own_tRoot rfl rfl (fun _ _ => rfl) (tRoot_S .nil 0) (fun _ _ _ => trivial) fun _ => ?_
  refine l_autoS TY_ok rfl ?_
  refine l_op (.b (decide (z32T = z32T))) trivial rfl rfl rfl (run_eqY rfl rfl rfl Tryd.underlying30 (by kernel_rfl) rfl rfl) ?_
  refine l_is 18 true rfl (by simp) ?_
  refine l_autoS TY_ok rfl ?_
  refine l_call0 [(eTr t 0).den] rfl rfl rfl own_tRoot rfl rfl (fun _ _ => rfl) (tRoot_S t 0) (fun _ h _ => h.2.2.1) fun _ => ?_
  refine l_autoS TY_ok rfl ?_
  refine l_op (.b (!decide (t.root = z32T))) trivial rfl rfl rfl (run_neqY rfl rfl rfl Tryd.underlying30 (by kernel_rfl) t.root_len rfl) ?_
  refine l_is 23 true rfl (by rw [hroot]; simp [hne]) ?_
  refine l_autoS TY_ok rfl ?_
  refine l_op (.q (eY 32 (k2))) (eY_ok hl2).1 rfl rfl rfl (run_hh 2 hk2 rfl rfl) ?_
  refine l_autoS TY_ok rfl ?_
  refine l_op (.b (decide (k2 = k2))) trivial rfl rfl rfl (run_eqY rfl rfl rfl Tryd.underlying30 (by kernel_rfl) hl2 hl2) ?_
  refine l_is 28 true rfl (by simp) ?_
  refine l_autoS TY_ok rfl ?_
  refine l_call0 [(eTr t 0).den] rfl rfl rfl own_tLen rfl rfl (fun _ _ => rfl) (tLen_S t 0) (fun _ h _ => h.2.2.2.1) fun _ => ?_
  refine l_num 35 1 rfl (by rw [hlen]; rfl) ?_
  refine l_autoS TY_ok rfl ?_
  refine s_end (hK3 _ ?_)
  exact s_ret (k_retD TY_ok () rfl (by decide) rfl rfl trivial rfl (fun _ _ _ => trivial) (fun _ _ => trivial))
end Go.Proofs.YtlaikmpnijlcbaaDoor
/-
  FROM A WALK TO A LAW'S ROW: the arguments read behind the call as they read before; arrays of 32 bytes, opened.
-/
namespace Go.Proofs.YtlaikmpnijlcbaaDoor
open Go.ChangeShapes Go.WideShapes Go.ChangeAt Go.RowKit

theorem own : ownKnob Tryd.prog.godebug = none := by kernel_rfl
theorem laidOut : laidOutB Tryd.prog = true := by kernel_rfl

section
variable {H : Type} {enc : TypeId × Value → H} {W W' : World}

/-- All arguments at once. -/
theorem trodAll_below : ∀ {ts : List TypeId} {vs : List Value} {ds : List (DataW H)} {p : List MemPlace}, (∀ t ∈ ts, Tryd.prog.readableRec t = true ∧ t < Tryd.prog.types.size) →
    DataW.TrodAll enc Tryd.prog W 0 (fun _ => true) true ts vs ds p → Below W.heap.size W W' → (∀ x ∈ p, x.block < W.heap.size) → DataW.TrodAll enc Tryd.prog W' 0 (fun b => decide (b < W.heap.size)) true ts vs ds p
  | [], _, _, _, _, h, _, _ => by
    obtain ⟨rfl, rfl, rfl⟩ := trodAll_nil h
    exact trodAll_mk0
  | t :: ts, _, _, _, hts, h, hb, hlt => by
    obtain ⟨v, vs', d, ds', p, q, rfl, rfl, rfl, h0, h1⟩ := trodAll_cons h
    obtain ⟨hr, hz⟩ := hts t (by simp)
    exact trodAll_cons_mk (Below.trod laidOut hr hz h0 hb (fun x hx => hlt x (by simp [hx]))) (trodAll_below (fun u hu => hts u (by simp [hu])) h1 hb (fun x hx => hlt x (by simp [hx])))

theorem law_post {f : Func} {s : ChangeSpec} {args : Array Value} {ds gs : List (DataW H)} {before : List MemPlace} (hf : f.resultTypes = #[4]) (hvars : s.vars = [])
    (hts : ∀ t ∈ f.params.toList, Tryd.prog.readableRec t = true ∧ t < Tryd.prog.types.size)
    (hW : DataW.Whole enc Tryd.prog f.params.toList s.vars false W args.toList ds gs before) (hs : s.fn H (ds ++ gs) = { results := [.lit (.bool true)], args := ds }) (hb : Below W.heap.size W W') :
    s.post enc Tryd.prog f false true false false W args (.bool true) W' := by
  have hW' := hW
  obtain ⟨p, q, hA, hV, rfl, _, _⟩ := hW
  rw [hvars] at hV
  obtain ⟨rfl, rfl⟩ := trodVars_none hV
  have hlt : ∀ x ∈ p, x.block < W.heap.size := fun x hx => hW'.lt x (by simp [hx])
  refine ⟨ds, [], p ++ [], [], p, [], hW', ?_, ?_, ?_, hb.frame _, fun h => by cases h⟩
  · rw [hs, hf]
    exact trodAll_mk1 (shut_bool Tryd.underlying4 true)
  · rw [hs]
    exact trodAll_below hts hA hb hlt
  · rw [hs, hvars]
    rfl
end

theorem cells8 : Tryd.prog.cellsOf 5 = 1 := by kernel_rfl
theorem cells_h : Tryd.prog.cellsOf 30 = 32 := by kernel_rfl
theorem one_of {l : List Value} {i : Nat} {v : Value} (h : (l.drop (i * 1)).take 1 = [v]) : l[i]? = some v := by
  rw [Nat.mul_one] at h
  have h1 : ((l.drop i).take 1)[0]? = some v := by rw [h]; rfl
  rw [List.getElem?_take, if_pos (by omega), List.getElem?_drop] at h1
  simpa using h1

/-! ### Arrays of 32 bytes -/
theorem okWide_array {P : Program} {w : World} {r : Reach} {base n : Nat} {t e : TypeId} {v : Value} (ht : P.underlying t = some (.array n e)) (h : Value.okWide P w r base t v) : ∃ cs, v = .agg cs ∧ cs.size = P.cellsOf t := by
  simp only [Value.okWide, ht] at h
  obtain ⟨cs, h1, h2, _⟩ := h
  exact ⟨cs, h1, h2⟩

theorem by_of {cs : List Value} (hl : cs.length = 32) (h : ∀ i, i < 32 → ∃ n : Int, cs[i]? = some (.int .u8 n) ∧ 0 ≤ n ∧ n < 256) : ∃ l : List UInt8, l.length = 32 ∧ cs = By l := by
  refine ⟨cs.map fun v => match v with | .int _ n => UInt8.ofNat n.toNat | _ => 0, by simp [hl], ?_⟩
  apply List.ext_getElem (by simp [By])
  intro i h1 h2
  obtain ⟨n, hn, h0, h3⟩ := h i (by omega)
  have e : cs[i] = .int .u8 n := by
    have := List.getElem?_eq_getElem h1
    rw [hn] at this
    exact (Option.some.inj this).symm
  simp only [By, List.getElem_map, e]
  congr 1
  rw [UInt8.toNat_ofNat']
  omega

set_option maxRecDepth 20000 in
theorem open_hash {H : Type} {enc : TypeId × Value → H} {W : World} {base : Nat} {v : Value} {d : DataW H} {p : List MemPlace} (hv : Value.okWide Tryd.prog W .any base 30 v) (h : DataW.Trod enc Tryd.prog W 0 (fun _ => true) true 30 v d p) :
    ∃ l : List UInt8, l.length = 32 ∧ v = .agg (By l).toArray := by
  obtain ⟨cs, rfl, _⟩ := okWide_array Tryd.underlying30 hv
  obtain ⟨fuel, hf⟩ := h
  obtain ⟨xs, m, rfl, _, hlen, hn, hel⟩ := DataW.trod_array Tryd.underlying30 hf
  rw [cells_h] at hlen
  obtain ⟨l, hl, e⟩ := by_of hlen (fun i hi => by
    have h0 := hel i hi
    rw [cells8] at h0
    obtain ⟨x, hx⟩ : ∃ x, xs[i]? = some x := ⟨xs[i]'(by omega), List.getElem?_eq_getElem (by omega)⟩
    rw [hx] at h0
    obtain ⟨n, e1, _, hw⟩ := DataW.trod_int Tryd.underlying5 h0
    have hb := bounds_u8 hw
    exact ⟨n, one_of e1, by omega, by omega⟩)
  refine ⟨l, hl, ?_⟩
  congr 1
  apply Array.ext'
  exact e
end Go.Proofs.YtlaikmpnijlcbaaDoor
/-
  FROM A WALK TO A LAW'S ROW: slices of anything, opened; hashes.
-/
namespace Go.Proofs.YtlaikmpnijlcbaaDoor
open Go.RowKit Go.IntWalk
open Go.ChangeShapes Go.WideShapes Go.ChangeAt

set_option maxRecDepth 20000 in
theorem hash_cells {H : Type} {enc : TypeId × Value → H} {W : World} {held : Bool} {fuel : Nat} {cs : List Value} {x : DataW H × List MemPlace} (h : DataW.trod enc Tryd.prog W 0 (fun _ => true) held fuel 30 cs = some x) :
    ∃ l : List UInt8, l.length = 32 ∧ cs = By l := by
  obtain ⟨xs, m, rfl, _, hlen, hn, hel⟩ := DataW.trod_array Tryd.underlying30 h
  rw [cells_h] at hlen
  exact by_of hlen (fun i hi => by
    have h0 := hel i hi
    rw [cells8] at h0
    obtain ⟨x, hx⟩ : ∃ x, xs[i]? = some x := ⟨xs[i]'(by omega), List.getElem?_eq_getElem (by omega)⟩
    rw [hx] at h0
    obtain ⟨n, e1, _, hw⟩ := DataW.trod_int Tryd.underlying5 h0
    have hb := bounds_u8 hw
    exact ⟨n, one_of e1, by omega, by omega⟩)
theorem pick_list {α : Type} (P : Nat → α → Prop) : ∀ n, (∀ i, i < n → ∃ l, P i l) → ∃ ks : List α, ks.length = n ∧ ∀ i l, ks[i]? = some l → P i l
  | 0, _ => ⟨[], rfl, fun i l h => by simp at h⟩
  | n + 1, h => by
    obtain ⟨ks, hl, hk⟩ := pick_list P n fun i hi => h i (by omega)
    obtain ⟨l, hp⟩ := h n (by omega)
    refine ⟨ks ++ [l], by simp [hl], fun i x hx => ?_⟩
    by_cases hi : i < ks.length
    · rw [List.getElem?_append_left hi] at hx
      exact hk i x hx
    · rw [List.getElem?_append_right (by omega)] at hx
      have h0 : i - ks.length = 0 := by
        by_cases e : i - ks.length = 0
        · exact e
        · rw [List.getElem?_eq_none (by simp; omega)] at hx
          cases hx
      rw [h0] at hx
      obtain rfl : l = x := by simpa using hx
      obtain rfl : i = n := by omega
      exact hp
set_option maxRecDepth 20000 in
theorem open_rd {α H : Type} {enc : TypeId × Value → H} {W : World} {held : Bool} {fuel : Nat} {t e : TypeId} {k : Nat} {fe : α → SQ} {cs : List Value} {x : DataW H × List MemPlace} (ht : Tryd.prog.underlying t = some (.slice e)) (hk : Tryd.prog.cellsOf e = k) (hk0 : 0 < k)
    (hel : ∀ n cs x, DataW.trod enc Tryd.prog W 0 (fun _ => true) held n e cs = some x → ∃ a : α, cs = (fe a).cl ∧ OkP (fe a).parts1 ∧ (fe a).cl.length = k)
    (h : DataW.trod enc Tryd.prog W 0 (fun _ => true) held fuel t cs = some x) :
    ∃ (A : Option Addr) (l : List α) (c : Nat), cs = [.slice A l.length c] ∧ Rd k fe A c l W := by
  rcases DataW.trod_slice ht h with ⟨rfl, _⟩ | ⟨a, len, cap, elems, rest, n, rfl, rfl, rfl, _, hl, hm, hlen, hel2, _⟩
  · exact ⟨none, [], 0, rfl, Rd.nil _ _ _⟩
  · rw [hk] at hel2
    obtain ⟨ks, hk1, hk2⟩ := pick_list (fun i (y : α) => (OkP (fe y).parts1 ∧ (fe y).cl.length = k) ∧ W.cells? 0 (a.add (i * k)) k = some (fe y).cl) len fun i hi => by
      have h0 := hel2 i hi
      rw [List.getElem?_eq_getElem (by omega)] at h0
      cases hc : W.cells? 0 (a.add (i * k)) k with
      | none => rw [hc] at h0; cases h0
      | some cs =>
        rw [hc] at h0
        obtain ⟨y, rfl, h1⟩ := hel _ _ _ h0
        exact ⟨y, h1, rfl⟩
    subst hk1
    refine ⟨some a, ks, cap, rfl, hl, (by unfold maxLen at hm; omega), fun e => (by cases e), fun y hy => ?_, fun hpos => ?_⟩
    · obtain ⟨i, hi, rfl⟩ := List.getElem_of_mem hy
      exact (hk2 i _ (List.getElem?_eq_getElem hi)).1
    have hcell : ∀ i y, ks[i]? = some y → ∀ j v, (fe y).cl[j]? = some v → W.cell? (a.add (i * k + j)) = some v := fun i y hi j v hj => by
      obtain ⟨⟨_, hkl⟩, hc⟩ := hk2 i y hi
      obtain ⟨_, _, h3⟩ := World.cells?_some hc
      have hjk : j < k := by
        have := (List.getElem?_eq_some_iff.1 hj).1
        omega
      have := h3 j hjk
      rw [Addr.add_add, hj] at this
      exact this
    have h00 := hk2 0 _ (List.getElem?_eq_getElem hpos)
    have hb := World.cells?_block h00.2 hk0
    rw [Nat.zero_mul] at hb
    obtain ⟨b, o, sp⟩ := a
    have hsp0 : sp = none := by
      obtain ⟨v, hv⟩ : ∃ v, (fe ks[0]).cl[0]? = some v := ⟨_, List.getElem?_eq_getElem (by rw [h00.1.2]; exact hk0)⟩
      have := hcell 0 _ (List.getElem?_eq_getElem hpos) 0 v hv
      rw [Nat.zero_mul, show (⟨b, o, sp⟩ : Addr).add (0 + 0) = ⟨b, o, sp⟩ from rfl, World.cell?] at this
      cases sp with
      | none => rfl
      | some s =>
        exfalso
        dsimp only at this
        split at this
        · simp at this
        · cases this
    subst hsp0
    refine ⟨b, o, rfl, hb, fun i y hi j v hj => ?_⟩
    have := hcell i y hi j v hj
    rw [Addr.add_mid] at this
    rwa [Nat.add_assoc, Nat.mul_comm k i]
end Go.Proofs.YtlaikmpnijlcbaaDoor
/-
  FROM A WALK TO A LAW'S ROW: the cells of a table of words, from what the row lists.
-/
namespace Go.Proofs.YtlaikmpnijlcbaaDoor
open Go.ChangeShapes Go.WideShapes Go.ChangeAt Go.RowKit

theorem cells64 : Tryd.prog.cellsOf 83 = 1 := by kernel_rfl
set_option maxRecDepth 20000 in
/-- The cells of a table of words. -/
theorem table_cells {W : World} {nm : String} {g g0 t0 tid n fuel : Nat} {l : List Nat} {datum : DataW Unit} {cs : List Value} {p : List MemPlace} (hg : Tryd.prog.globalNamed nm = some g) (ht : (Tryd.prog.globals[g]?).map (·.type) = some tid) (hu : Tryd.prog.underlying tid = some (.array n 83))
    (hd : datum = .agg (l.map fun (x : Nat) => .lit (.int .u64 (x : Int)))) (hg0 : Tryd.prog.globalNamed nm = some g0) (ht0 : (Tryd.prog.globals[g0]?).map (·.type) = some t0) (hv0 : W.var? Tryd.prog nm = some cs.toArray) (hd0 : DataW.trod (fun _ => ()) Tryd.prog W 0 (fun _ => true) false fuel t0 cs = some (datum, p)) :
    ∀ i, i < n → W.cell? ⟨g, i, none⟩ = some (.int .u64 (l[i]! : Nat)) := by
  obtain rfl := Option.some.inj (hg.symm.trans hg0)
  obtain rfl := Option.some.inj (ht.symm.trans ht0)
  obtain ⟨xs, m1, rfl, hx1, hlen, hn5, hel⟩ := DataW.trod_array hu hd0
  have hx2 := congrArg Prod.fst hx1
  rw [hd] at hx2
  injection hx2 with hx2
  intro i hi
  have h0 := hel i hi
  rw [cells64] at h0
  obtain ⟨x, hxi⟩ : ∃ x, xs[i]? = some x := ⟨xs[i]'(by omega), List.getElem?_eq_getElem (by omega)⟩
  rw [hxi] at h0
  obtain ⟨n', e1, e2, _⟩ := DataW.trod_int Tryd.underlying83 h0
  have hll : l.length = n := by
    have := congrArg List.length hx2
    simp only [List.length_map] at this
    omega
  have h3 : (l.map fun (x : Nat) => (DataW.lit (.int .u64 (x : Int)) : DataW Unit))[i]? = (xs.map (·.1))[i]? := by rw [hx2]
  rw [List.getElem?_map, List.getElem?_map, hxi, List.getElem?_eq_getElem (by omega)] at h3
  simp only [Option.map_some, Option.some.injEq] at h3
  rw [e2] at h3
  have hn : n' = ((l[i]! : Nat) : Int) := by
    rw [getElem!_pos l i (by omega)]
    injection h3 with h3
    injection h3 with _ h3
    exact h3.symm
  subst hn
  have hcell := World.var?_cell hg hv0 i
  rw [hcell]
  have := one_of e1
  simpa using this
end Go.Proofs.YtlaikmpnijlcbaaDoor
/-
  FROM A WALK TO A LAW'S ROW: the two tables of the digests; slices of pairs and of hashes, opened.
-/
namespace Go.Proofs.YtlaikmpnijlcbaaDoor
open Go.ChangeShapes Go.WideShapes Go.ChangeAt Go.RowKit Nums

def laid2 : List (String × DataW Unit) := [("witan/sha.starts", Rows.laid_witan_sha_starts), ("witan/sha.steps", Rows.laid_witan_sha_steps)]
/-- The door's own heap meets the condition. -/
theorem door_met2 (os : Os) (args : Array Value) : laidMetH Tryd.prog laid2 ((World.doorLaid Tryd.prog 400 os).forCall (fun _ _ => 0) ⟨#[], args, []⟩).memory :=
  laidMetH_of_parts3 (fuel := 8) (laidMet_of_run' 8 (by kernel_rfl) (by kernel_rfl)) (by kernel_rfl) (by kernel_rfl)
set_option maxRecDepth 20000 in
/-- What the condition gives the walks. -/
theorem of_laid2 {W : World} (h : laidMetH Tryd.prog laid2 W) : Tsh W := by
  rw [MakeChecks.laidMetH_plain _ _ _ (by kernel_rfl)] at h
  obtain ⟨ps, ⟨g1, t1, cs1, f1, p1, q1, hg1, ht1, hv1, hd1, ⟨g2, t2, cs2, f2, p2, q2, hg2, ht2, hv2, hd2, _, _⟩, _⟩, _, _⟩ := h
  have c1 := table_cells (l := sqs) (n := 8) (g := 0) (tid := 84) (by kernel_rfl) (by kernel_rfl) Tryd.underlying84 (by kernel_rfl) hg1 ht1 hv1 hd1
  have c2 := table_cells (l := cbs) (n := 80) (g := 1) (tid := 89) (by kernel_rfl) (by kernel_rfl) Tryd.underlying89 (by kernel_rfl) hg2 ht2 hv2 hd2
  exact ⟨⟨c2, World.block_lt_of_cell? W ⟨1, 0, none⟩ (c2 0 (by omega))⟩, c1, World.block_lt_of_cell? W ⟨0, 0, none⟩ (c1 0 (by omega))⟩
set_option maxRecDepth 20000 in
theorem pair_cellsT {H : Type} {enc : TypeId × Value → H} {W : World} {held : Bool} (n : Nat) (cs : List Value) (x : DataW H × List MemPlace) (h : DataW.trod enc Tryd.prog W 0 (fun _ => true) held n 32 cs = some x) :
    ∃ p : PairT, cs = (eP p).cl ∧ OkP (eP p).parts1 ∧ (eP p).cl.length = 64 := by
  obtain ⟨xs, m, _, _, hl, hlen, hf⟩ := DataW.trod_struct Tryd.underlying32 h
  have hl64 : cs.length = 64 := hl.trans (by kernel_rfl)
  obtain ⟨x0, x1, rfl⟩ : ∃ a b, xs = [a, b] := by
    match xs, (show xs.length = 2 from hlen) with
    | [a, b], _ => exact ⟨a, b, rfl⟩
  have h0 : DataW.trod enc Tryd.prog W 0 (fun _ => true) held m 30 ((cs.drop 0).take (Tryd.prog.cellsOf 30)) = some x0 := hf 0 _ rfl
  have h1 : DataW.trod enc Tryd.prog W 0 (fun _ => true) held m 30 ((cs.drop 32).take (Tryd.prog.cellsOf 30)) = some x1 := hf 1 _ rfl
  rw [cells_h] at h0 h1
  obtain ⟨l0, k0, e0⟩ := hash_cells h0
  obtain ⟨l1, k1, e1⟩ := hash_cells h1
  refine ⟨(l0, l1), ?_, eP_ok ⟨k0, k1⟩⟩
  have e2 : (cs.drop 32).take 32 = cs.drop 32 := List.take_of_length_le (by rw [List.length_drop]; omega)
  rw [e2] at e1
  rw [List.drop_zero] at e0
  rw [← List.take_append_drop 32 cs, e0, e1]
  simp [SQ.cl, SQ.den, eP, Value.cells, catP, Pt.cells]
theorem hash_cellsT {H : Type} {enc : TypeId × Value → H} {W : World} {held : Bool} (n : Nat) (cs : List Value) (x : DataW H × List MemPlace) (h : DataW.trod enc Tryd.prog W 0 (fun _ => true) held n 30 cs = some x) :
    ∃ l : List UInt8, cs = (eY 32 l).cl ∧ OkP (eY 32 l).parts1 ∧ (eY 32 l).cl.length = 32 := by
  obtain ⟨l, hl, rfl⟩ := hash_cells h
  exact ⟨l, rfl, eY_ok hl⟩
end Go.Proofs.YtlaikmpnijlcbaaDoor
