/-
  SEVERAL TEXTS IN ONE: Vt, Vu, Vx, Vz, Tup, CqT.
-/
import Derived.Test.YthkbejheedffjaaMe
import Derived.Deep.RegionHeld3
import Derived.Laws.CopyOwn
import Derived.Test.YthkbejheedffjaaMb
import Derived.Test.YthkbejheedffjaaMa
import Derived.Test.YthkbejheedffjaaMc
/-
  DRAWN REGIONS WITH MEMORY, over states: what only reads is taken as early as may be; what is left goes step by step.
-/
namespace Go.Proofs.Ythkbejheedffjaa
open Go.RowKit Go.IntWalk

/-! ### Whatever order, from one world -/
section
variable {P : Program} {ops : Array Oper} {Q : Exit → Act → World → Prop} {Inv : World → Prop}
def wpAnyK (P : Program) (ops : Array Oper) (Q : Exit → Act → World → Prop) (Inv : World → Prop) (n m : Nat) : Nat → Array Bool → Act → World → Prop
  | 0, listed, a, w => (∀ j ∈ Region.ready .any ops listed, ∀ i, i < n → waitsT .any ops ops.size j i = true) ∧ wpAny P .any ops Q m listed a w
  | fuel + 1, listed, a, w => Region.ready .any ops listed ≠ [] ∧ ∀ i ∈ Region.ready .any ops listed, wpOp P ops Q i (fun a' w' => Inv w' ∧ wpAnyK P ops Q Inv n m fuel (listed.setIfInBounds i true) a' w') a w
theorem wpAny_of_K {n m : Nat} : ∀ (fuel : Nat) (listed : Array Bool) (a : Act) (w : World), wpAnyK P ops Q Inv n m fuel listed a w → wpAny P .any ops Q (m + fuel) listed a w
  | 0, _, _, _, h => h.2
  | fuel + 1, _, _, _, h => ⟨fun h0 => absurd h0 h.1, fun i hi => wpOp_mono (fun a' w' h' => wpAny_of_K fuel _ a' w' h'.2) (h.2 i hi)⟩
theorem still_wpOp {i : Nat} {oi : Oper} {v : Value} {K : Act → World → Prop} {a : Act} {w : World} (hi : ops[i]? = some oi) (hst : stillG oi.op = true) (hy : YieldsB P ops Inv oi (· = v) a) (hC : Inv w) (h : K (a.put oi.dst v) w) : wpOp P ops Q i K a w := by
  unfold Go.wpOp
  simp only [hi]
  rcases hy with ⟨hw, hv⟩ | ⟨hw, hv⟩
  · simp only [hw, if_true]
    refine .inl ?_
    have h3 := hv w hC
    unfold atB at h3
    unfold Oper.wp
    cases hr : (execOp a.eval oi).run P w with
    | ok n w' =>
      rw [hr] at h3
      rcases still_ok hst hr with ⟨u, rfl⟩ | rfl
      · simp only [uponB] at h3
        obtain ⟨e1, e2⟩ := h3
        subst e1 e2
        exact h
      · simp only [uponB] at h3
        obtain ⟨e1, e2⟩ := h3
        subst e1 e2
        exact h
    | halt x w' =>
      rw [hr] at h3
      simp only [uponB] at h3
  · simp only [hw, Bool.false_eq_true, if_false]
    rw [hv]
    exact h
theorem K_first {n m i : Nat} {oi : Oper} {v : Value} (hin : i < n) (hi : ops[i]? = some oi) (hst : stillG oi.op = true) (hsel : ∀ (j : Nat) (o : Oper) cs b, ops[j]? = some o → o.op ≠ .select cs b) (hQ : ∀ c a d v w, Q (.panic c) (a.put d v) w → Q (.panic c) a w) :
    ∀ (fuel : Nat) (listed : Array Bool) (a : Act) (w : World), Inv w → Closed .any ops listed →
      (∀ j oj, ops[j]? = some oj → j ≠ i → listed.getD j true = false → (∀ e ∈ oj.after, Region.binds .any e = true → e.on ≠ i) → oi.apart ops oj = true) →
      i ∈ Region.ready .any ops listed → YieldsB P ops Inv oi (· = v) a → wpAnyK P ops Q Inv n m fuel (listed.setIfInBounds i true) (a.put oi.dst v) w → wpAnyK P ops Q Inv n m (fuel + 1) listed a w := by
  intro fuel
  induction fuel with
  | zero =>
    intro listed a w hC hcs _ hr hy H
    refine ⟨fun h => (by rw [h] at hr; cases hr), fun j hj => ?_⟩
    by_cases hji : j = i
    · subst hji
      exact still_wpOp hi hst hy hC ⟨hC, H⟩
    · have h1 := H.1 j (ready_mono hj hji) i hin
      obtain ⟨_, oj, hoj, hall⟩ := mem_ready.1 hj
      have h6 := hcs.waits _ j i oj hoj hall h1
      rw [getD_ready hr] at h6
      cases h6
  | succ fuel ih =>
    intro listed a w hC hcs hfree hr hy H
    refine ⟨fun h => (by rw [h] at hr; cases hr), fun j hj => ?_⟩
    by_cases hji : j = i
    · subst hji
      exact still_wpOp hi hst hy hC ⟨hC, H⟩
    · obtain ⟨hjun, oj, hoj, hall⟩ := mem_ready.1 hj
      have hnot : ∀ e ∈ oj.after, Region.binds .any e = true → e.on ≠ i := fun e he hb heq => by
        have h1 := hall e he hb
        rw [heq, getD_ready hr] at h1
        cases h1
      have h2 := wpOp_putB (V := (· = v)) hoj (hfree j oj hoj hji hjun hnot) (fun cs b => hsel i oi cs b hi) (fun cs b => hsel j oj cs b hoj) ⟨v, rfl⟩ (.inr ⟨v, fun _ h => h⟩) hQ hy (fun u hu => by
        subst hu
        exact H.2 j (ready_mono hj hji))
      have hun' : ∀ k, (listed.setIfInBounds j true).getD k true = false → listed.getD k true = false := fun k hun => by
        by_cases hjk : j = k
        · subst hjk; exact hjun
        · rw [getD_set_ne true hjk] at hun; exact hun
      refine wpOp_mono (fun a' w' h3 => ?_) h2
      obtain ⟨hy', h4⟩ := h3
      obtain ⟨hC', h5⟩ := h4 v rfl
      refine ⟨hC', ih (listed.setIfInBounds j true) a' w' hC' (hcs.set hj) (fun k ok hk hki hun hno => hfree k ok hk hki (hun' k hun) hno) (ready_mono hr (Ne.symm hji)) hy' ?_⟩
      rw [Array.setIfInBounds_comm _ _ hji]
      exact h5
theorem upon_then {o : Oper} {a : Act} {K next : Act → World → Prop} (r : Result Next) (h : o.upon P a next (Exit.then K Q) r) : o.upon P a next Q r := by
  cases r with
  | ok n w' => cases n <;> exact h
  | halt x w' => cases x <;> exact h
theorem wpOp_of_list {i : Nat} {o : Oper} {K : Act → World → Prop} {a : Act} {w : World} (hi : ops[i]? = some o) (h : wpList P ops (Exit.then K Q) [o] a w) : wpOp P ops Q i K a w := by
  unfold Go.wpOp
  simp only [hi]
  unfold wpList at h
  split
  · rename_i hw
    rw [if_pos hw] at h
    refine h.imp (fun h => ?_) id
    exact Oper.wp_mono (fun a' w' h' => h') (upon_then _ h)
  · rename_i hw
    rw [if_neg hw] at h
    exact h
end
/-! ### Over states -/
/-- What the variables L hold, where they lie. -/
def InvL (L : List LV) (w : World) : Prop := ∀ x ∈ L, ∃ g, x.g = some g ∧ Blk w g x.t (catP x.ps)
def aS (P : Program) (b : Base) (Q : Exit → Act → World → Prop) (N : Nat) (ops : Array Oper) (Inv : World → Prop) (n m fuel : Nat) (listed : Array Bool) (e : Env) : Prop := Closed .any ops listed → ∀ a w, St b N e a w → Inv w → wpAnyK P ops (NoPanic Q) Inv n m fuel listed a w
/-- May it be taken here, ahead of all that is left? -/
def frontB (ops : Array Oper) (n i : Nat) (listed : Array Bool) : Bool := decide (i < n) && (Region.ready .any ops listed).contains i && Region.free .any ops listed i && Region.noSelect ops
section
variable {P : Program} {T : List TyR} {b : Base} {ops : Array Oper} {Q : Exit → Act → World → Prop} {N n m fuel : Nat} {listed : Array Bool} {E : SE} {L L0 : List LV} {R : List Res} {F M : World → Prop} {Inv : World → Prop} {e : Env}
theorem panic_put : ∀ c (a : Act) d v w, NoPanic Q (.panic c) (a.put d v) w → NoPanic Q (.panic c) a w := fun _ _ _ _ _ h => h
/-- A step that only reads is taken first. -/
theorem a_front {o : Oper} {k : Nat} {v : SV} (hT : OkT P T) (i : Nat) (hc : frontB ops n i listed = true) (ho : ops[i]? = some o) (hg : o.guard = none) (hd : o.dst = some k) (hk : Nat.blt k N = true) (hs : stillG o.op = true) (hv : stepS T E L0 o.op = some v) (hsub : ∀ x ∈ L0, x ∈ L)
    (hn : aS P b Q N ops (InvL L0) n m fuel (listed.setIfInBounds i true) ⟨(k, v) :: E, L, R, F, M⟩) : aS P b Q N ops (InvL L0) n m (fuel + 1) listed ⟨E, L, R, F, M⟩ := fun hcs a w hst hI => by
  obtain ⟨G, S, h1, h2, h3⟩ := hst
  simp only [frontB, Bool.and_eq_true, decide_eq_true_eq] at hc
  obtain ⟨⟨⟨hin, hr⟩, hfr⟩, hsel⟩ := hc
  have hr' : i ∈ Region.ready .any ops listed := by simpa using hr
  obtain ⟨h4, h5⟩ := stepS_ok hT h2 (fun x hx => (h3.var x (hsub x hx)).2.1) hv
  have h6 := hn (hcs.set hr') (a.put (some k) (v.den G)) w ⟨G, S, h1.put hk _, h2.cons h4, h3⟩ hI
  refine K_first hin ho hs (Region.noSelect_spec hsel) panic_put fuel listed a w hI hcs (Region.free_spec ho hfr) hr' (v := v.den G) (.inl ⟨by simp [Region.wanted, hg], fun w' hw' => ?_⟩) (by rw [hd]; exact h6)
  unfold atB
  rw [h5 h1 fun x hx => by
    obtain ⟨g, e1, e2⟩ := hw' x hx
    rw [(h3.var x (hsub x hx)).2.2 g e1]
    exact e2]
  exact ⟨rfl, rfl⟩
/-- A step whose value hangs on the frame alone is taken first. -/
theorem a_frontO {o : Oper} {k : Nat} (v : SV) (hvo : v.Ok) (i : Nat) (hc : frontB ops n i listed = true) (ho : ops[i]? = some o) (hg : o.guard = none) (hd : o.dst = some k) (hk : Nat.blt k N = true) (hs : stillG o.op = true) (hv : ∀ (G : Nat → Nat) (a : Act) (w : World), Fr N (denE G E) a → (execOp a.eval o).run P w = .ok (.value (v.den G)) w)
    (hn : aS P b Q N ops Inv n m fuel (listed.setIfInBounds i true) ⟨(k, v) :: E, L, R, F, M⟩) : aS P b Q N ops Inv n m (fuel + 1) listed ⟨E, L, R, F, M⟩ := fun hcs a w hst hI => by
  obtain ⟨G, S, h1, h2, h3⟩ := hst
  simp only [frontB, Bool.and_eq_true, decide_eq_true_eq] at hc
  obtain ⟨⟨⟨hin, hr⟩, hfr⟩, hsel⟩ := hc
  have hr' : i ∈ Region.ready .any ops listed := by simpa using hr
  have h6 := hn (hcs.set hr') (a.put (some k) (v.den G)) w ⟨G, S, h1.put hk _, h2.cons hvo, h3⟩ hI
  refine K_first hin ho hs (Region.noSelect_spec hsel) panic_put fuel listed a w hI hcs (Region.free_spec ho hfr) hr' (v := v.den G) (.inl ⟨by simp [Region.wanted, hg], fun w' _ => ?_⟩) (by rw [hd]; exact h6)
  unfold atB
  rw [hv G a w' h1]
  exact ⟨rfl, rfl⟩
theorem a_weak {e' : Env} (hw : Weak e e') (h : aS P b Q N ops Inv n m fuel listed e') : aS P b Q N ops Inv n m fuel listed e := fun hcs a w hst hI => h hcs a w (hst.weak hw) hI
/-- The only one that may come next. -/
theorem a_step {o : Oper} (i : Nat) (hr : Region.ready .any ops listed = [i]) (ho : ops[i]? = some o) (h : ∀ K : Act → World → Prop, (∀ e', (∀ a w, St b N e' a w → Inv w) → aS P b Q N ops Inv n m fuel (listed.setIfInBounds i true) e' → kS b K N e') → lS P b ops (Exit.then K (NoPanic Q)) N [o] e) : aS P b Q N ops Inv n m (fuel + 1) listed e := fun hcs a w hst _ =>
  ⟨by rw [hr]; simp, fun j hj => by
    rw [hr, List.mem_singleton] at hj
    subst hj
    have hcs' := hcs.set (i := j) (by rw [hr]; simp)
    exact wpOp_of_list ho (h (fun a' w' => Inv w' ∧ wpAnyK P ops (NoPanic Q) Inv n m fuel (listed.setIfInBounds j true) a' w') (fun e' hI' ha a' w' hs' => ⟨hI' a' w' hs', ha hcs' a' w' hs' (hI' a' w' hs')⟩) a w hst)⟩
/-- Either of two may come next. -/
theorem a_step2 {o o' : Oper} (i i' : Nat) (hr : Region.ready .any ops listed = [i, i']) (ho : ops[i]? = some o) (ho' : ops[i']? = some o')
    (h : ∀ K : Act → World → Prop, (∀ e', (∀ a w, St b N e' a w → Inv w) → aS P b Q N ops Inv n m fuel (listed.setIfInBounds i true) e' → kS b K N e') → lS P b ops (Exit.then K (NoPanic Q)) N [o] e)
    (h' : ∀ K : Act → World → Prop, (∀ e', (∀ a w, St b N e' a w → Inv w) → aS P b Q N ops Inv n m fuel (listed.setIfInBounds i' true) e' → kS b K N e') → lS P b ops (Exit.then K (NoPanic Q)) N [o'] e) : aS P b Q N ops Inv n m (fuel + 1) listed e := fun hcs a w hst _ =>
  ⟨by rw [hr]; simp, fun j hj => by
    rw [hr] at hj
    have key : ∀ (i : Nat) (o : Oper), i ∈ Region.ready .any ops listed → ops[i]? = some o → (∀ K : Act → World → Prop, (∀ e', (∀ a w, St b N e' a w → Inv w) → aS P b Q N ops Inv n m fuel (listed.setIfInBounds i true) e' → kS b K N e') → lS P b ops (Exit.then K (NoPanic Q)) N [o] e) → wpOp P ops (NoPanic Q) i (fun a' w' => Inv w' ∧ wpAnyK P ops (NoPanic Q) Inv n m fuel (listed.setIfInBounds i true) a' w') a w := fun i o hi ho h =>
      wpOp_of_list ho (h (fun a' w' => Inv w' ∧ wpAnyK P ops (NoPanic Q) Inv n m fuel (listed.setIfInBounds i true) a' w') (fun e' hI' ha a' w' hs' => ⟨hI' a' w' hs', ha (hcs.set hi) a' w' hs' (hI' a' w' hs')⟩) a w hst)
    rcases List.mem_cons.1 hj with rfl | hj
    · exact key _ o (by rw [hr]; simp) ho h
    · rw [List.mem_singleton] at hj
      subst hj
      exact key _ o' (by rw [hr]; simp) ho' h'⟩
/-- The rest is forced. -/
theorem a_tail {l : List Oper} (hB : (sinksB .any l.toArray n listed && forcedB .any l.toArray (l.drop n).length n listed) = true) (h : lS P b l.toArray (NoPanic Q) N (l.drop n) e) : aS P b Q N l.toArray Inv n (l.drop n).length 0 listed e := fun _ a w hst _ => by
  simp only [Bool.and_eq_true] at hB
  exact ⟨fun j hj i hi => List.all_eq_true.1 (List.all_eq_true.1 hB.1 j hj) i (List.mem_range.2 hi), wpAny_forced (l.drop n) n listed a w (fun j _ => by simp [List.getElem?_drop]) hB.2 (h a w hst)⟩
theorem inv_of {E' : SE} {L' : List LV} {R' : List Res} {F' M' : World → Prop} (hsub : ∀ x ∈ L0, x ∈ L' ∧ x.g.isSome = true) : ∀ a w, St b N ⟨E', L', R', F', M'⟩ a w → InvL L0 w := fun a w ⟨G, S, _, _, h3⟩ x hx => by
  obtain ⟨h1, h2⟩ := hsub x hx
  obtain ⟨g, hg⟩ := Option.isSome_iff_exists.1 h2
  have h4 := h3.var x h1
  refine ⟨g, hg, ?_⟩
  rw [← h4.2.2 g hg]
  exact h4.1
theorem StW.drew {G : Nat → Nat} {S : Nat → Prop} {w : World} (h : StW b G S L R F M w) : StW b G S L R F M w.drew := h.later (Up.drew w)
/-- A drawn region. -/
theorem s_any {l : List Oper} {id : Nat} (n : Nat) (L0 : List LV) (hm : P.follows .mixedOrders = true) (hn : n ≤ l.length) (h0 : ∀ a w, St b N e a w → InvL L0 w) (h : aS P b Q N l.toArray (InvL L0) n (l.drop n).length n (Array.replicate l.toArray.size false) e) : cS P b (.region id l.toArray true) Q N e := fun a w hst => by
  refine wp_region_noPanic (wp_region_any hm ?_)
  obtain ⟨G, S, h1, h2, h3⟩ := hst
  have hd : St b N e a w.drew := ⟨G, S, h1, h2, h3.drew⟩
  have h4 := wpAny_of_K n _ a w.drew (h (Closed.none _) a w.drew hd (h0 a _ hd))
  have e1 : (l.drop n).length + n = l.toArray.size := by simp; omega
  rw [e1] at h4
  exact h4
/-- A slice of all of a variable's row. -/
theorem runO_all {N : Nat} {E : SE} {o : Oper} {x : Operand} {t e : TypeId} {j off n sz : Nat} (ho : o.op = .slice t x none none none) (ht : P.underlying t = some (.array n e)) (he : (P.info? e).map (·.size) = some sz) (hx : evS E x = some (.a j off)) :
    ∀ (G : Nat → Nat) (a : Act) (w : World), Fr N (denE G E) a → (execOp a.eval o).run P w = .ok (.value ((SV.s j off n n).den G)) w := fun G a w ha => by
  have h1 : a.eval x = .pointer (some ⟨G j, off, none⟩) := ha.eval (evS_ok hx)
  have h5 := run_sizeOf he w
  unfold execOp
  simp only [ho]
  generalize a.eval = ρ at *
  simp only [Option.map, h1]
  show _ = Result.ok (Next.value (.slice (some ⟨G j, off, none⟩) n n)) w
  simp [Instr.sliceAt, Instr.sureAddr, run_underlying ht, Instr.sliceBounds, h5, Sem.run_bind, Addr.add_mid]
theorem putL_same : ∀ {L : List LV} {j : Nat} {ps : List Pt}, lookL L j = some ps → putL L j ps = L
  | [], _, _, h => by cases h
  | x :: L, j, ps, h => by
    unfold lookL at h
    unfold putL
    split at h
    · injection h with h
      subst h
      rfl
    · exact congrArg (x :: ·) (putL_same h)
/-- copy(v[:], s), v a variable. -/
theorem l_copyV {o : Oper} {rest : List Oper} {d s : Operand} {k j n' c : Nat} {A : Option Addr} {z l : List UInt8} (hg : o.guard = none) (hd : o.dst = some k) (hk : Nat.blt k N = true) (ho : o.op = .call { callee := .builtin .copy, args := #[d, s], argTypes := #[32, 32] })
    (hx : evS E d = some (.s j 0 n' n')) (hy : evS E s = some (.v (.slice A l.length c))) (hl : lookL L j = some [.agg n' (By z).toArray]) (hz : z.length = n') (hle : l.length ≤ n') (hrd : ∀ G S w, View G S L R F M w → Rd 1 eB A c l w)
    (hn : lS Try.prog b ops Q N rest ⟨(k, .v (.int .i64 (l.length : Int))) :: E, putL L j [.agg n' (By (l ++ z.drop l.length)).toArray], R, F, M⟩) : lS Try.prog b ops Q N (o :: rest) ⟨E, L, R, F, M⟩ := fun a w ⟨G, S, h1, h2, h3⟩ => by
  have hR := hrd G S w h3.view
  have e1 : a.eval d = .slice (some ⟨G j, 0, none⟩) n' n' := h1.eval (evS_ok hx)
  have e2 : a.eval s = .slice A l.length c := h1.eval (evS_ok hy)
  by_cases h0 : l.length = 0
  · obtain rfl := List.eq_nil_of_length_eq_zero h0
    rw [putL_same (by rw [hl]; rfl)] at hn
    refine wpList_copy_nothing hg d s 32 32 ho 5 Try.underlying32 size_u8 _ _ _ _ _ _ e1 e2 (Nat.zero_min _) ?_
    rw [hd]
    exact hn _ w ⟨G, S, h1.put hk _, h2.cons trivial, h3⟩
  · obtain ⟨bb, oo, rfl, _, hcell⟩ := hR.2.2.2.2 (by omega)
    obtain ⟨u, hu, rfl, hps⟩ := lookL_mem hl
    have hb := h3.at u hu
    rw [hps] at hb
    have hok : OkP [Pt.agg n' (By (l ++ z.drop l.length)).toArray] := fun p hp => by
      rw [List.mem_singleton.1 hp]
      exact ⟨by rw [List.size_toArray, By_len, List.length_append, List.length_drop]; omega, By_one _⟩
    refine wpList_copy_own hg d s 32 32 ho 5 Try.underlying32 size_u8 (G u.j) 0 n' n' ⟨bb, oo, none⟩ l.length c e1 e2 (By z).toArray u.t hb (By l) (by rw [By_len]; exact (Nat.min_eq_left hle).symm) ?_ (by rw [By_len, List.size_toArray, By_len]; omega) (By_one l) ?_
    · intro i v hv
      obtain ⟨x, hx1, rfl⟩ := By_at hv
      have := hcell i x hx1 0 (.int .u8 (x.toNat : Int)) rfl
      rw [Addr.add_mid]
      simpa using this
    · have e : (By z).toArray.toList.take 0 ++ (By l ++ (By z).toArray.toList.drop (0 + (By l).length)) = By (l ++ z.drop l.length) := by
        simp [By]
      rw [e, hd, By_len]
      exact hn _ _ ⟨G, S, h1.put hk _, h2.cons trivial, h3.set (lookL_name hl) hok⟩
/-- The variables, with where they lie. -/
def withG (G : Nat → Nat) : List LV → List LV
  | [] => []
  | x :: L => { x with g := some (G x.j) } :: withG G L
theorem withG_names (G : Nat → Nat) : ∀ L : List LV, namesL (withG G L) = namesL L
  | [] => rfl
  | x :: L => congrArg (x.j :: ·) (withG_names G L)
theorem withG_mem {G : Nat → Nat} : ∀ {L : List LV} {x : LV}, x ∈ withG G L → ∃ y ∈ L, x = { y with g := some (G y.j) }
  | [], _, h => by cases h
  | y :: L, x, h => by
    rcases List.mem_cons.1 h with rfl | h
    · exact ⟨y, List.mem_cons_self, rfl⟩
    · obtain ⟨z, hz, e⟩ := withG_mem h
      exact ⟨z, List.mem_cons_of_mem _ hz, e⟩
theorem s_locs {c : Code} (h : ∀ G : Nat → Nat, cS P b c Q N ⟨E, withG G L, R, F, M⟩) : cS P b c Q N ⟨E, L, R, F, M⟩ := fun a w ⟨G, S, h1, h2, h3⟩ => by
  have hM : ∀ k, Mine S G (withG G L) k ↔ Mine S G L k := fun k => by unfold Mine; rw [withG_names]
  refine h G a w ⟨G, S, h1, h2, ⟨fun x hx => ?_, by rw [withG_names]; exact h3.apart, h3.res, by rw [withG_names]; exact h3.sep, h3.fact.less fun k _ hk => hk.imp id (hM k).1, h3.fresh.less fun k _ hk => hk.imp id (hM k).1, h3.chg, fun k hk => h3.mine k ((hM k).1 hk), h3.old⟩⟩
  obtain ⟨y, hy, rfl⟩ := withG_mem hx
  exact ⟨(h3.var y hy).1, (h3.var y hy).2.1, fun g hg => Option.some.inj hg⟩
/-- Where a variable lies is told no more. -/
def noG : List LV → List LV
  | [] => []
  | x :: L => { x with g := none } :: noG L
theorem noG_names : ∀ L : List LV, namesL (noG L) = namesL L
  | [] => rfl
  | x :: L => congrArg (x.j :: ·) (noG_names L)
theorem noG_mem : ∀ {L : List LV} {x : LV}, x ∈ noG L → ∃ y ∈ L, x = { y with g := none }
  | [], _, h => by cases h
  | y :: L, x, h => by
    rcases List.mem_cons.1 h with rfl | h
    · exact ⟨y, List.mem_cons_self, rfl⟩
    · obtain ⟨z, hz, e⟩ := noG_mem h
      exact ⟨z, List.mem_cons_of_mem _ hz, e⟩
theorem k_noloc {K : Act → World → Prop} (h : kS b K N ⟨E, noG L, R, F, M⟩) : kS b K N ⟨E, L, R, F, M⟩ := fun a w ⟨G, S, h1, h2, h3⟩ => by
  have hM : ∀ k, Mine S G (noG L) k ↔ Mine S G L k := fun k => by unfold Mine; rw [noG_names]
  refine h a w ⟨G, S, h1, h2, ⟨fun x hx => ?_, by rw [noG_names]; exact h3.apart, h3.res, by rw [noG_names]; exact h3.sep, h3.fact.less fun k _ hk => hk.imp id (hM k).1, h3.fresh.less fun k _ hk => hk.imp id (hM k).1, h3.chg, fun k hk => h3.mine k ((hM k).1 hk), h3.old⟩⟩
  obtain ⟨y, hy, rfl⟩ := noG_mem hx
  exact ⟨(h3.var y hy).1, (h3.var y hy).2.1, fun g hg => by cases hg⟩
theorem withG_is {G : Nat → Nat} : ∀ {L : List LV}, ∀ u ∈ withG G L, u ∈ withG G L ∧ u.g.isSome = true
  | [], _, h => by cases h
  | _ :: _, _, h => by
    rcases List.mem_cons.1 h with rfl | h
    · exact ⟨List.mem_cons_self, rfl⟩
    · exact ⟨List.mem_cons_of_mem _ (withG_is _ h).1, (withG_is _ h).2⟩
end
end Go.Proofs.Ythkbejheedffjaa
/-
  DIGESTS OF PARTS, over states: a slice of slices and the call that reads it.
-/
namespace Go.Proofs.Ythkbejheedffjaa
open Go.RowKit Go.IntWalk

theorem flat_cells : ∀ {vs : List Value}, (∀ v ∈ vs, v.cells = #[v]) → (vs.flatMap fun v => v.cells.toList) = vs
  | [], _ => rfl
  | v :: vs, h => by
    rw [List.flatMap_cons, h v List.mem_cons_self, flat_cells fun u hu => h u (List.mem_cons_of_mem _ hu)]
    rfl
section
variable {T : List TyR} {b : Base} {ops : Array Oper} {Q : Exit → Act → World → Prop} {N : Nat} {E : SE} {L : List LV} {R : List Res} {F M : World → Prop} {o1 o2 : Oper} {rest : List Oper} {k1 k2 bs e : Nat}
/-- The parts' slice is built, and handed to a call that answers the row r. -/
theorem l_dig {f : FuncId} {n m t : Nat} {parts : Array (Nat × Operand)} {ats : Array TypeId} (hT : OkT Try.prog T) (vs : List SV) (ls : List (List UInt8)) (r : List UInt8) (hg1 : o1.guard = none) (hg2 : o2.guard = none) (hd1 : o1.dst = some k1) (hd2 : o2.dst = some k2) (hk1 : Nat.blt k1 N = true) (hk2 : Nat.blt k2 N = true)
    (ho1 : o1.op = .buildSlice t n parts) (ho2 : o2.op = .call { callee := .value (.func f), args := #[.tmp k1], argTypes := ats }) (hs : slS T t = some (e, 1, bs)) (hf : Own f)
    (hp : ∀ G : Nat → Nat, parts.toList.map (fun p => (p.1, (evS E p.2).map (SV.den G))) = ((vs.map (SV.den G)).zipIdx 0).map fun x => (x.2, some x.1)) (hn : vs.length = n) (h0 : 0 < n) (h24 : n ≤ 16777216) (hr : r.length = m)
    (hc : ∀ A w, PT w A ls → F w → M w → Calls Try.prog f #[.slice A n n] w fun e w' => e = .returned (.agg (By r).toArray) ∧ Below w.heap.size w w')
    (hrd : ∀ G S w, View G S L R F M w → All2 w (vs.map (SV.den G)) ls)
    (hnx : ∀ A, lS Try.prog b ops Q N rest ⟨(k2, .q (eY m r)) :: (k1, .v (.slice A n n)) :: E, L, R, F, M⟩) : lS Try.prog b ops Q N (o1 :: o2 :: rest) ⟨E, L, R, F, M⟩ := fun a w ⟨G, S, h1, h2, h3⟩ => by
  have hA := hrd G S w h3.view
  obtain ⟨ht, ie, z, hi, hz, hsz, hbs, hzs, _⟩ := slS_ok hT hs
  have hrun := run_lit (P := Try.prog) ht hi hz hsz (vs.map (SV.den G)) n (parts.map fun (i, x) => (i, a.eval x)) (by rw [Array.toList_map]; exact map_parts h1 _ _ (hp G)) (by rw [List.length_map, hn]) (by omega) (by omega) (fun v hv => by
    rw [(hA.one v hv).1]
    rfl) w
  rw [flat_cells fun v hv => (hA.one v hv).1] at hrun
  have hal := (Below.refl w.heap.size w).alloc (Nat.le_refl _) (.cells (vs.map (SV.den G)).toArray e)
  have hPT : PT (w.alloc (.cells (vs.map (SV.den G)).toArray e)) (some ⟨w.heap.size, 0, none⟩) ls := pt_of (Blk.new w e (vs.map (SV.den G)).toArray) (fun j v hj => by simpa using hj) (All2.later hal hA)
  have h4 := h3.later hal
  have h5 := h1.put hk1 (.slice (some ⟨w.heap.size, 0, none⟩) n n)
  refine wpl_go (v := .slice (some ⟨w.heap.size, 0, none⟩) n n) (w' := w.alloc (.cells (vs.map (SV.den G)).toArray e)) (oneS hg1) (by
    unfold execOp
    simp only [ho1, Sem.run_bind, hrun, Result.andThen_ok, Sem.run_pure]) ?_
  rw [hd1]
  have hr2 := call_run (E := (k1, .v (.slice (some ⟨w.heap.size, 0, none⟩) n n)) :: E) (svs := [.v (.slice (some ⟨w.heap.size, 0, none⟩) n n)]) (w := w.alloc (.cells (vs.map (SV.den G)).toArray e)) hf ho2 (by simp [evSs, evS, lookS]) h5
  unfold wpList
  rw [if_pos (by simp [Region.wanted, hg2])]
  refine .inl ?_
  unfold Oper.wp
  rw [hr2]
  simp only [Oper.upon, hd2]
  refine (hc _ _ hPT h4.view.fact h4.view.fresh).mono ?_
  rintro e' w' ⟨rfl, hb⟩
  have h6 : OkE ((k1, .v (.slice (some ⟨w.heap.size, 0, none⟩) n n)) :: E) := h2.cons trivial
  exact hnx (some ⟨w.heap.size, 0, none⟩) _ w' ⟨G, S, h5.put hk2 _, h6.cons (v := .q (eY m r)) (eY_ok hr).1, h4.later hb⟩
/-- The whole of a variable's row. -/
theorem sb_var {j n : Nat} {l : List UInt8} (hj : lookL L j = some [.agg n (By l).toArray]) (hl : l.length = n) (hm : n ≤ 9223372036854775807) : ∀ G S w, View G S L R F M w → SB w ((SV.s j 0 n n).den G) l := fun G S w hv => by
  obtain ⟨z, hz, rfl, hps⟩ := lookL_mem hj
  have hb := (hv.var z hz).1
  rw [hps] at hb
  exact SB.all hb hl hm
end
end Go.Proofs.Ythkbejheedffjaa
/-
  DRAWN REGIONS, over states: those that make some new variables at once ('x, y := ..'); those of which any operations may be taken first, the others in their order.
-/
namespace Go.Proofs.Ythkbejheedffjaa
open Go.RowKit Go.IntWalk

/-! ### New variables, some at once -/
/-- Where the new ones lie, and the elder ones. -/
def gOf : List LV → Nat → (Nat → Nat) → (Nat → Nat) → Nat → Nat
  | [], _, _, G, j => G j
  | u :: us, i, gs, G, j => if j = u.j then gs i else gOf us (i + 1) gs G j
def ptrV : List LV → SE → SE
  | [], E => E
  | u :: us, E => (u.j, .a u.j 0) :: ptrV us E
/-- The variables' slots, types, first cells. -/
def nvL : List LV → List (Array Value) → List NV
  | u :: us, z :: zs => ⟨u.j, u.t, z⟩ :: nvL us zs
  | _, _ => []
def freeV (E : SE) (L : List LV) : List LV → Bool
  | [] => true
  | u :: us => farL u.j L && farE u.j E && (match u.g with | none => true | some _ => false) && farL u.j us && freeV E L us
theorem gOf_far {gs G : Nat → Nat} {j : Nat} : ∀ {us : List LV} {i : Nat}, j ∉ namesL us → gOf us i gs G j = G j
  | [], _, _ => rfl
  | u :: us, i, h => by
    unfold gOf
    rw [if_neg fun e => h (by rw [e]; exact List.mem_cons_self)]
    exact gOf_far fun h2 => h (List.mem_cons_of_mem _ h2)
theorem gOf_mem {gs G : Nat → Nat} : ∀ {us : List LV} {i j : Nat} , j ∈ namesL us → ∃ k, i ≤ k ∧ k < i + us.length ∧ gOf us i gs G j = gs k
  | [], _, _, h => by cases h
  | u :: us, i, j, h => by
    unfold gOf
    by_cases e : j = u.j
    · rw [if_pos e]
      exact ⟨i, Nat.le_refl _, by simp, rfl⟩
    · rw [if_neg e]
      rcases List.mem_cons.1 h with e2 | h
      · exact absurd e2 e
      · obtain ⟨k, h1, h2, h3⟩ := gOf_mem (i := i + 1) h
        exact ⟨k, by omega, by simp only [List.length_cons]; omega, h3⟩
theorem freeV_far {E : SE} {L : List LV} : ∀ {us : List LV}, freeV E L us = true → ∀ u ∈ us, farL u.j L = true ∧ farE u.j E = true ∧ u.g = none
  | [], _, u, h => by cases h
  | v :: us, hf, u, h => by
    simp only [freeV, Bool.and_eq_true] at hf
    obtain ⟨⟨⟨⟨h1, h2⟩, h3⟩, h4⟩, h5⟩ := hf
    rcases List.mem_cons.1 h with rfl | h
    · refine ⟨h1, h2, ?_⟩
      cases hg : u.g with
      | none => rfl
      | some x => rw [hg] at h3; cases h3
    · exact freeV_far h5 u h
section
variable {P : Program} {T : List TyR} {b : Base} {ops : Array Oper} {Q : Exit → Act → World → Prop} {N : Nat} {G gs : Nat → Nat} {S : Nat → Prop} {E : SE} {L : List LV} {R : List Res} {F M : World → Prop} {w0 w' : World}
theorem gOf_pair {i0 : Nat} : ∀ {us : List LV} {i : Nat}, freeV E L us = true → (∀ k l, i0 ≤ k → k < i + us.length → i0 ≤ l → l < i + us.length → k ≠ l → gs k ≠ gs l) → i0 ≤ i → (namesL us).Pairwise fun x y => gOf us i gs G x ≠ gOf us i gs G y
  | [], _, _, _, _ => List.Pairwise.nil
  | u :: us, i, hf, hd, hi => by
    simp only [freeV, Bool.and_eq_true] at hf
    obtain ⟨⟨_, h4⟩, h5⟩ := hf
    have hn := farL_mem h4
    have hne : ∀ j ∈ namesL us, gOf (u :: us) i gs G j = gOf us (i + 1) gs G j := fun j hj => by
      show (if j = u.j then _ else _) = _
      rw [if_neg fun e => hn (by rw [← e]; exact hj)]
    refine List.Pairwise.cons (fun j hj => ?_) ?_
    · rw [hne j hj]
      show (if u.j = u.j then gs i else _) ≠ _
      rw [if_pos rfl]
      obtain ⟨k, h1, h2, h3⟩ := gOf_mem (gs := gs) (G := G) (i := i + 1) hj
      rw [h3]
      exact hd i k (by omega) (by simp only [List.length_cons]; omega) (by omega) (by simp only [List.length_cons]; omega) (by omega)
    · refine (gOf_pair (us := us) (i := i + 1) h5 (fun k l a b c d => hd k l a (by simp only [List.length_cons]; omega) c (by simp only [List.length_cons]; omega)) (by omega)).imp_of_mem fun {x y} hx hy h => ?_
      rw [hne x hx, hne y hy]
      exact h
theorem gOf_blk (G : Nat → Nat) : ∀ {us : List LV} {zs : List (Array Value)} {i : Nat}, freeV E L us = true → us.length = zs.length → blks w' (nvL us zs) (us.map fun u => catP u.ps) i gs → ∀ u ∈ us, Blk w' (gOf us i gs G u.j) u.t (catP u.ps)
  | [], _, _, _, _, _, u, h => by cases h
  | _ :: _, [], _, _, hl, _, _, _ => by cases hl
  | v :: us, z :: zs, i, hf, hl, hb, u, h => by
    simp only [freeV, Bool.and_eq_true] at hf
    obtain ⟨⟨_, h4⟩, h5⟩ := hf
    have hn := farL_mem h4
    obtain ⟨hb1, hb2⟩ := hb
    rcases List.mem_cons.1 h with rfl | h
    · show Blk w' (if u.j = u.j then gs i else _) _ _
      rw [if_pos rfl]
      exact hb1
    · have := gOf_blk G h5 (by simpa using hl) hb2 u h
      show Blk w' (if u.j = v.j then _ else _) _ _
      rw [if_neg fun e => hn (by rw [← e]; exact List.mem_map.2 ⟨u, h, rfl⟩)]
      exact this
/-- Some new variables. -/
theorem StW.news (h : StW b G S L R F M w0) (hU : Up w0 w') (us : List LV) (hf : freeV E L us = true) (hp : ∀ u ∈ us, OkP u.ps) (hge : ∀ j, j < us.length → w0.heap.size ≤ gs j) (hd : ∀ i j, i < us.length → j < us.length → i ≠ j → gs i ≠ gs j) (hb : ∀ u ∈ us, Blk w' (gOf us 0 gs G u.j) u.t (catP u.ps)) :
    StW b (gOf us 0 gs G) S (us ++ L) R F M w' := by
  have h1 := h.later hU
  have hfr := freeV_far hf
  have hno : ∀ j ∈ namesL L, j ∉ namesL us := fun j hj hj2 => by
    obtain ⟨u, hu, rfl⟩ := List.mem_map.1 hj2
    exact farL_mem (hfr u hu).1 hj
  have hG : ∀ j ∈ namesL L, gOf us 0 gs G j = G j := fun j hj => gOf_far (hno j hj)
  have hlt : ∀ i ∈ namesL L, G i < w0.heap.size := fun i hi => h.lt _ (.inr ⟨i, hi, rfl⟩)
  have hnew : ∀ j ∈ namesL us, w0.heap.size ≤ gOf us 0 gs G j := fun j hj => by
    obtain ⟨k, h2, h3, h4⟩ := gOf_mem (gs := gs) (G := G) (i := 0) hj
    rw [h4]
    exact hge k (by omega)
  have hnames : namesL (us ++ L) = namesL us ++ namesL L := List.map_append
  have hM : ∀ k, Mine S (gOf us 0 gs G) (us ++ L) k → w0.heap.size ≤ k ∨ Mine S G L k := fun k hk => by
    rcases hk with hk | ⟨i, hi, rfl⟩
    · exact .inr (.inl hk)
    · rw [hnames] at hi
      rcases List.mem_append.1 hi with hi | hi
      · exact .inl (hnew i hi)
      · exact .inr (.inr ⟨i, hi, (hG i hi).symm⟩)
  refine ⟨fun x hx => ?_, ?_, h1.res, fun i hi => ?_, ?_, ?_, h1.chg, fun k hk hlt2 => ?_, h.old⟩
  · rcases List.mem_append.1 hx with hx | hx
    · exact ⟨hb x hx, hp x hx, fun g hg => by rw [(hfr x hx).2.2] at hg; cases hg⟩
    · rw [hG _ (List.mem_map.2 ⟨x, hx, rfl⟩)]
      exact h1.var x hx
  · rw [hnames]
    refine List.pairwise_append.2 ⟨gOf_pair (i0 := 0) hf (fun k l _ a _ c => hd k l (by omega) (by omega)) (Nat.le_refl _), h.apart.imp_of_mem fun {x y} hx hy e => ?_, fun i hi j hj => ?_⟩
    · rw [hG x hx, hG y hy]
      exact e
    · have := hnew i hi
      have := hlt j hj
      rw [hG j hj]
      omega
  · rw [hnames] at hi
    rcases List.mem_append.1 hi with hi | hi
    · intro hs
      have := h.res.lt _ hs
      have := hnew i hi
      omega
    · rw [hG i hi]
      exact h.sep i hi
  · refine h.fact.past (Chg.of_up hU) fun i hi hd => ?_
    rcases hd with hd | hd
    · exact .inl hd
    · rcases hM i hd with h2 | hd
      · exact absurd hi (Nat.not_lt.2 h2)
      · exact .inr hd
  · refine h.fresh.past (Chg.of_up hU) fun i hi hd => ?_
    rcases hd with hd | hd
    · exact .inl hd
    · rcases hM i hd with h2 | hd
      · exact absurd hi (Nat.not_lt.2 h2)
      · exact .inr hd
  · rcases hM k hk with h2 | h2
    · have := h.chg.size
      omega
    · exact h.mine k h2 hlt2
theorem den_gOf {us : List LV} {i : Nat} {v : SV} (h : ∀ u ∈ us, v.farB u.j = true) : v.den (gOf us i gs G) = v.den G := by
  induction us generalizing i with
  | nil => rfl
  | cons u us ih =>
    have h1 := h u List.mem_cons_self
    have h2 := ih (i := i + 1) fun x hx => h x (List.mem_cons_of_mem _ hx)
    rw [← h2]
    cases v with
    | a j off =>
      have h1 : (!Nat.beq j u.j) = true := h1
      have : j ≠ u.j := fun e => by rw [e] at h1; simp at h1
      show Value.pointer (some ⟨gOf (u :: us) i gs G j, off, none⟩) = _
      unfold gOf
      rw [if_neg this]
      rfl
    | s j off n c =>
      have h1 : (!Nat.beq j u.j) = true := h1
      have : j ≠ u.j := fun e => by rw [e] at h1; simp at h1
      show Value.slice (some ⟨gOf (u :: us) i gs G j, off, none⟩) n c = _
      unfold gOf
      rw [if_neg this]
      rfl
    | q x => rfl
    | t vs => rfl
theorem denE_gOf {us : List LV} : ∀ {E : SE}, (∀ u ∈ us, farE u.j E = true) → denE (gOf us 0 gs G) E = denE G E
  | [], _ => rfl
  | (k, v) :: r, h => by
    have h1 : ∀ u ∈ us, v.farB u.j = true ∧ farE u.j r = true := fun u hu => by
      have := h u hu
      unfold farE at this
      rw [List.all_cons, Bool.and_eq_true] at this
      exact this
    rw [denE, denE, den_gOf fun u hu => (h1 u hu).1, denE_gOf fun u hu => (h1 u hu).2]
theorem ptrV_den : ∀ {us : List LV} {zs : List (Array Value)} {i : Nat} {E1 : List (Nat × Value)} {G0 : Nat → Nat}, freeV E L us = true → us.length = zs.length → (∀ j ∈ namesL us, G0 j = gOf us i gs G j) → denE G0 E = E1 → denE G0 (ptrV us E) = ptrs (nvL us zs) i gs E1
  | [], [], _, _, _, _, _, _, h => h
  | u :: us, z :: zs, i, E1, G0, hf, hl, hg, h => by
    simp only [freeV, Bool.and_eq_true] at hf
    obtain ⟨⟨_, h4⟩, h5⟩ := hf
    have hn := farL_mem h4
    have h0 := hg u.j List.mem_cons_self
    have e0 : G0 u.j = gs i := by
      rw [h0]
      unfold gOf
      rw [if_pos rfl]
    show (u.j, Value.pointer (some ⟨G0 u.j, 0, none⟩)) :: denE G0 (ptrV us E) = (u.j, Value.pointer (some ⟨gs i, 0, none⟩)) :: ptrs (nvL us zs) (i + 1) gs E1
    rw [e0, ptrV_den (i := i + 1) h5 (by simpa using hl) (fun j hj => ?_) h]
    rw [hg j (List.mem_cons_of_mem _ hj)]
    show (if j = u.j then _ else _) = _
    rw [if_neg fun e => hn (by rw [← e]; exact hj)]
  | [], _ :: _, _, _, _, _, hl, _, _ => by cases hl
  | _ :: _, [], _, _, _, _, hl, _, _ => by cases hl
theorem ptrV_ok : ∀ {us : List LV}, OkE E → OkE (ptrV us E)
  | [], h => h
  | _ :: us, h => (ptrV_ok (us := us) h).cons trivial
/-! ### The steps ahead of them -/
/-- What is left of the operations ahead of the new variables. -/
def nS (P : Program) (ops : Array Oper) (N : Nat) (w0 : World) (Z : Act → Prop) (G : Nat → Nat) (l : List Oper) (E : SE) : Prop := OkE E → bF P ops (Up w0) Z l N (denE G E)
variable {Z : Act → Prop} {vs : List NV} {T' l rest : List Oper} {o : Oper} {k : Nat}
theorem n_f (hst : StW b G S L R F M w0) (v : SV) (hv : v.Ok) (h : ∀ (C0 : World → Prop) (Q' : Act → Prop), (∀ w, C0 w → View G S L R F M w) → bF P ops C0 Q' [] N ((k, v.den G) :: denE G E) → bF P ops C0 Q' [o] N (denE G E)) (hn : nS P ops N w0 Z G rest ((k, v) :: E)) : nS P ops N w0 Z G (o :: rest) E := fun hE =>
  h (Up w0) (fun a' => wpB P ops (Up w0) Z rest a') (fun _ hw => (hst.later hw).view) (fun a' ha' => hn (hE.cons hv) a' ha')
theorem n_op (hst : StW b G S L R F M w0) (v : SV) (hv : v.Ok) (hg : o.guard = none) (hd : o.dst = some k) (hk : Nat.blt k N = true) (h : ∀ (G : Nat → Nat) (a : Act) (w : World), Fr N (denE G E) a → (execOp a.eval o).run P w = .ok (.value (v.den G)) w) (hn : nS P ops N w0 Z G rest ((k, v) :: E)) : nS P ops N w0 Z G (o :: rest) E :=
  n_f hst v hv (fun _ _ _ hQ => f_val _ hg hd hk (fun a ha w _ => h G a w ha) hQ) hn
theorem n_opV (hst : StW b G S L R F M w0) (v : SV) (hv : v.Ok) (hg : o.guard = none) (hd : o.dst = some k) (hk : Nat.blt k N = true) (h : ∀ (G : Nat → Nat) (S : Nat → Prop) (a : Act) (w : World), Fr N (denE G E) a → View G S L R F M w → (execOp a.eval o).run P w = .ok (.value (v.den G)) w) (hn : nS P ops N w0 Z G rest ((k, v) :: E)) : nS P ops N w0 Z G (o :: rest) E :=
  n_f hst v hv (fun _ _ hC hQ => f_val _ hg hd hk (fun a ha w hw => h G S a w ha (hC w hw)) hQ) hn
theorem n_st {v : SV} (hT : OkT P T) (hst : StW b G S L R F M w0) (hE : OkE E) (hg : o.guard = none) (hd : o.dst = some k) (hk : Nat.blt k N = true) (h : stepS T E L o.op = some v) (hn : nS P ops N w0 Z G rest ((k, v) :: E)) : nS P ops N w0 Z G (o :: rest) E :=
  n_f hst v (stepS_ok hT (N := N) (o := o) hE hst.okL h).1 (fun _ _ hC hQ => f_val _ hg hd hk (fun _ ha w hw => (stepS_ok hT hE hst.okL h).2 ha fun x hx => ((hC w hw).var x hx).1) hQ) hn
/-- What is left behind those that are reckoned. -/
def autoN (T : List TyR) (ops : Array Oper) (N : Nat) (L : List LV) : List Oper → SE → List Oper × SE
  | [], E => ([], E)
  | o :: l, E => match o.guard, o.dst with
    | none, some k => match Nat.blt k N with
      | true => match stepS T E L o.op with
        | some v => autoN T ops N L l ((k, v) :: E)
        | none => (o :: l, E)
      | false => (o :: l, E)
    | _, _ => (o :: l, E)
theorem autoN_ok (hT : OkT P T) (hst : StW b G S L R F M w0) : ∀ {l : List Oper} {E : SE}, OkE E → nS P ops N w0 Z G (autoN T ops N L l E).1 (autoN T ops N L l E).2 → nS P ops N w0 Z G l E
  | [], _, _, h => h
  | o :: l, E, hE, h => by
    unfold autoN at h
    split at h
    · rename_i k hg hd
      split at h
      · rename_i hk
        split at h
        · rename_i v hv
          exact n_st hT hst hE hg hd hk hv (autoN_ok hT hst (hE.cons (stepS_ok hT (N := N) (o := o) hE hst.okL hv).1) h)
        · exact h
      · exact h
    · exact h
theorem n_auto {l' : List Oper} {E' : SE} (hT : OkT P T) (hst : StW b G S L R F M w0) (h : autoN T ops N L l E = (l', E')) (hn : nS P ops N w0 Z G l' E') : nS P ops N w0 Z G l E := fun hE => autoN_ok hT hst hE (by rw [h]; exact hn) hE
/-- The new variables, and what they hold at first. -/
theorem n_new {T2 : List Oper} (hst : StW b G S L R F M w0) (us : List LV) (zs : List (Array Value)) (xs : List Operand) (hvs : nvL us zs = vs) (hl : us.length = zs.length) (hf : freeV E L us = true) (hp : ∀ u ∈ us, OkP u.ps) (hfar : far (denE G E) vs) (hap : tsApart vs = true) (hso : stOk vs xs T' T2) (hv : valOk P (denE G E) vs xs (us.map fun u => catP u.ps))
    (h : lS P b ops Q N T2 ⟨ptrV us E, us ++ L, R, F, M⟩) : nS P ops N w0 (newPost P ops Q w0 vs T' N) G [] E := fun hE => by
  subst hvs
  have hlen : (nvL us zs).length = us.length := by
    clear hf hp hfar hap hso hv h
    induction us generalizing zs with
    | nil => rfl
    | cons u us ih =>
      cases zs with
      | nil => cases hl
      | cons z zs => exact congrArg (· + 1) (ih zs (by simpa using hl))
  refine f_new xs (us.map fun u => catP u.ps) hfar hap hso hv fun gs w' hge hd hU hb a ha => ?_
  rw [hlen] at hge hd
  have hfr := freeV_far hf
  refine h a w' ⟨gOf us 0 gs G, S, ?_, ptrV_ok hE, hst.news hU us hf hp hge hd (gOf_blk G hf hl hb)⟩
  rw [ptrV_den (L := L) hf hl (fun _ _ => rfl) (denE_gOf fun u hu => (hfr u hu).2.1)]
  exact ha
end
section
variable {T : List TyR} {b : Base} {ops : Array Oper} {Q : Exit → Act → World → Prop} {N : Nat} {G : Nat → Nat} {S : Nat → Prop} {E : SE} {L : List LV} {R : List Res} {F M : World → Prop} {w0 : World} {Z : Act → Prop} {rest : List Oper} {o : Oper} {k : Nat}
/-- A call that hands back one value and leaves nothing. -/
theorem n_callS {F' : World → Prop} {f : FuncId} {xs : Array Operand} {ats : Array TypeId} {svs : List SV} {r : RV} [Pst F']
    (hst : StW b G S L R F M w0) (args : List Value) (hg : o.guard = none) (hd : o.dst = some k) (hk : Nat.blt k N = true) (hf : Own f) (ho : o.op = .call { callee := .value (.func f), args := xs, argTypes := ats }) (hx : evSs E xs.toList = some svs)
    (ha : (∀ x ∈ L, ∀ g, x.g = some g → G x.j = g) → svs.map (SV.den G) = args) (hs : Spec f args [] F' (one r)) (hr : r.sv.Ok) (hF : ∀ G S w, View G S L R F M w → F' w)
    (hn : nS Try.prog ops N w0 Z G rest ((k, r.sv) :: E)) : nS Try.prog ops N w0 Z G (o :: rest) E := by
  refine n_f hst r.sv hr (fun C0 Q' hC hQ => ?_) hn
  rw [RV.sv_den] at hQ
  exact f_call args.toArray r.den hg hd hk hf (fun w hw => (hs w (fun _ => False) (fun _ => False) (fun _ h => h) (fun _ h => h.elim) (Stb.of_pst (hF _ _ _ (hC w hw)) fun _ _ h => h.elim id id)).mono fun _ _ ⟨_, _, h1, _, h2, _⟩ => ⟨h1, h2.up fun _ _ h => h⟩) ho (by rw [evSs_ok hx, ha fun x hx => (hst.var x hx).2.2]) hQ
end
section
variable {P : Program} {T : List TyR} {b : Base} {Q : Exit → Act → World → Prop} {N : Nat} {E : SE} {L : List LV} {R : List Res} {F M : World → Prop} {l : List Oper} {id : Nat} {y : Code}
/-- **'x, y, .. := u, v, ..'**, the order drawn: n operations ahead, the new variables vs, then the rest. -/
theorem s_new (n : Nat) (vs : List NV) (hn : n + vs.length ≤ l.length) (hap : tsApart vs = true) (hnv : nvOk P N (l.drop n) vs) (hm : P.follows .mixedOrders = true)
    (hB : tailB l.toArray n vs.length (l.drop (n + vs.length)).length = true)
    (hC : newC l.toArray n (marks vs.length n (marks n 0 (Array.replicate l.toArray.size false))) vs.length (List.range vs.length) (marks n 0 (Array.replicate l.toArray.size false)) = true)
    (h : ∀ K : Act → World → Prop, (∀ e', cS P b y Q N e' → kS b K N e') → ∀ G S w0, StW b G S L R F M w0 → nS P l.toArray N w0 (newPost P l.toArray (NoPanic (Exit.then K Q)) w0 vs (l.drop (n + vs.length)) N) G (l.take n) E) : cS P b (.seq (.region id l.toArray true) y) Q N ⟨E, L, R, F, M⟩ :=
  s_seq fun K hK a w ⟨G, S, h1, h2, h3⟩ => by
    refine wp_region_noPanic ?_
    exact c_new n vs hn hap hnv hm hB hC (fun _ _ _ _ _ h => h) (h K hK G S w h3 h2) a h1
end
end Go.Proofs.Ythkbejheedffjaa
/-
  DRAWN REGIONS THAT MAKE DIGESTS, over states: in the text's order, each operation by what those told that it waits for.
-/
namespace Go.Proofs.Ythkbejheedffjaa
open Go.RowKit Go.IntWalk

/-! ### Operations that hang on one that was left out -/
def nopB : SV → Bool
  | .q (.c (.v (.tuple ⟨[]⟩))) => true
  | _ => false
/-- They are left out as well. -/
def skipU (ops : Array Oper) (N : Nat) : List Oper → SE → List Oper × SE
  | [], E => ([], E)
  | o :: l, E => match o.guard, o.dst with
    | some (j, _), some k => match (ops[j]?).bind (·.dst), Nat.blt k N with
      | some t, true => match Nat.blt t N, lookS E t with
        | true, some v => match nopB v with
          | true => skipU ops N l ((k, .v undef) :: E)
          | false => (o :: l, E)
        | _, _ => (o :: l, E)
      | _, _ => (o :: l, E)
    | _, _ => (o :: l, E)
def skipUD (ops : Array Oper) (N : Nat) : List (Nat × Oper) → SE → List (Nat × Oper) × SE
  | [], E => ([], E)
  | (i, o) :: l, E => match o.guard, o.dst with
    | some (j, _), some k => match (ops[j]?).bind (·.dst), Nat.blt k N with
      | some t, true => match Nat.blt t N, lookS E t with
        | true, some v => match nopB v with
          | true => skipUD ops N l ((k, .v undef) :: E)
          | false => ((i, o) :: l, E)
        | _, _ => ((i, o) :: l, E)
      | _, _ => ((i, o) :: l, E)
    | _, _ => ((i, o) :: l, E)
theorem wanted_nop {ops : Array Oper} {N : Nat} {G : Nat → Nat} {E : SE} {a : Act} {o : Oper} {j t : Nat} {q : Bool} {v : SV} (h1 : Fr N (denE G E) a) (hgd : o.guard = some (j, q)) (hj : (ops[j]?).bind (·.dst) = some t) (hN : Nat.blt t N = true) (ht : lookS E t = some v) (hv : nopB v = true) : Region.wanted o (yielded ops a.tmps) = false := by
  have hv : v = .v undef := by
    unfold nopB at hv
    split at hv
    · rfl
    · cases hv
  subst hv
  have h4 := h1.get t undef (by rw [look_den, ht]; rfl)
  have htN : t < a.tmps.size := by rw [h1.size]; simpa using hN
  simp only [Act.eval, Array.getD_eq_getD_getElem?] at h4
  have h5 : a.tmps[t]? = some undef := by
    rw [Array.getElem?_eq_getElem htN] at h4 ⊢
    simpa using h4
  unfold Region.wanted
  rw [hgd]
  simp [yielded, hj, h5, undef]
section
variable {P : Program} {b : Base} {ops : Array Oper} {Q : Exit → Act → World → Prop} {N : Nat} {R : List Res} {L : List LV} {F M : World → Prop} {T' : List Oper} {G : Nat → Nat} {w0 : World}
theorem skipU_ok : ∀ {l : List Oper} {E : SE}, lS P b ops Q N (skipU ops N l E).1 ⟨(skipU ops N l E).2, L, R, F, M⟩ → lS P b ops Q N l ⟨E, L, R, F, M⟩
  | [], _, h => h
  | o :: l, E, h => by
    unfold skipU at h
    split at h
    · rename_i j q k hg hd
      split at h
      · rename_i t hj hk
        split at h
        · rename_i v hN ht
          split at h
          · rename_i hv
            intro a w ⟨G, S, h1, h2, h3⟩
            unfold wpList
            rw [wanted_nop h1 hg hj hN ht hv, if_neg (by decide), hd]
            exact skipU_ok h _ w ⟨G, S, h1.put hk undef, h2.cons trivial, h3⟩
          · exact h
        · exact h
      · exact h
    · exact h
theorem skipUD_ok : ∀ {l : List (Nat × Oper)} {E : SE}, gS P b ops Q N T' G w0 (skipUD ops N l E).1 (skipUD ops N l E).2 → gS P b ops Q N T' G w0 l E
  | [], _, h => h
  | (i, o) :: l, E, h => by
    unfold skipUD at h
    split at h
    · rename_i j q k hg hd
      split at h
      · rename_i t hj hk
        split at h
        · rename_i v hN ht
          split at h
          · rename_i hv
            intro hE a Fa ha hF
            unfold wpG
            rw [wanted_nop ha hg hj hN ht hv, if_neg (by decide)]
            dsimp only
            rw [hd]
            exact skipUD_ok h (hE.cons (v := .v undef) trivial) _ _ (ha.put hk undef) (hF.up rfl)
          · exact h
        · exact h
      · exact h
    · exact h
theorem l_skips {l l' : List Oper} {E E' : SE} (h : skipU ops N l E = (l', E')) (hn : lS P b ops Q N l' ⟨E', L, R, F, M⟩) : lS P b ops Q N l ⟨E, L, R, F, M⟩ := skipU_ok (by rw [h]; exact hn)
theorem g_skips {l l' : List (Nat × Oper)} {E E' : SE} (h : skipUD ops N l E = (l', E')) (hn : gS P b ops Q N T' G w0 l' E') : gS P b ops Q N T' G w0 l E := skipUD_ok (by rw [h]; exact hn)
end

/-- What is left of a drawn region's operations, and what is told of memory. -/
def hS (P : Program) (ops : Array Oper) (Q : Exit → Act → World → Prop) (N : Nat) (T' : List Oper) (G : Nat → Nat) (w0 : World) (l : List (Nat × Oper)) (E : SE) (Fa : Told) : Prop := OkE E → gF P Bel ops (Up w0) (endG P ops Q (Up w0) T') l N (denE G E) Fa
section
variable {P : Program} {T : List TyR} {b : Base} {ops : Array Oper} {Q : Exit → Act → World → Prop} {N : Nat} {G : Nat → Nat} {S : Nat → Prop} {E : SE} {L : List LV} {R : List Res} {F M : World → Prop} {w0 : World} {T' : List Oper} {Fa : Told} {i k : Nat} {o : Oper} {rest : List (Nat × Oper)} {l : List Oper} {id : Nat} {y : Code}
theorem s_regH (n : Nat) (hn : n ≤ l.length) (hm : P.follows .mixedOrders = true) (hB : tailH l.toArray n (l.drop n).length = true)
    (h : ∀ K : Act → World → Prop, (∀ e', cS P b y Q N e' → kS b K N e') → ∀ G S w0, StW b G S L R F M w0 → hS P l.toArray (Exit.then K Q) N (l.drop n) G w0 (idx 0 (l.take n)) E []) : cS P b (.seq (.region id l.toArray true) y) Q N ⟨E, L, R, F, M⟩ :=
  s_regD n hn hm hB fun K hK G S w0 hst => h K hK G S w0 hst
theorem h_f (hst : StW b G S L R F M w0) (v : SV) (hv : v.Ok) (hf : farP i Fa = true) (h : ∀ (C0 : World → Prop) (Q' : Act → Prop), (∀ w, C0 w → View G S L R F M w ∧ Uses o Fa w) → bF P ops C0 Q' [] N ((k, v.den G) :: denE G E) → bF P ops C0 Q' [o] N (denE G E)) (hn : hS P ops Q N T' G w0 rest ((k, v) :: E) Fa) : hS P ops Q N T' G w0 ((i, o) :: rest) E Fa := fun hE =>
  g_op hf (h _ _ (fun _ hw => ⟨(hst.later hw.1).view, hw.2⟩) (g_go (o := o) (hn (hE.cons hv))))
theorem h_op (hst : StW b G S L R F M w0) (v : SV) (hv : v.Ok) (hf : farP i Fa = true) (hg : o.guard = none) (hd : o.dst = some k) (hk : Nat.blt k N = true) (h : ∀ (G : Nat → Nat) (a : Act) (w : World), Fr N (denE G E) a → (execOp a.eval o).run P w = .ok (.value (v.den G)) w) (hn : hS P ops Q N T' G w0 rest ((k, v) :: E) Fa) : hS P ops Q N T' G w0 ((i, o) :: rest) E Fa :=
  h_f hst v hv hf (fun _ _ _ hQ => f_val _ hg hd hk (fun _ ha w _ => h G _ w ha) hQ) hn
theorem h_opV (hst : StW b G S L R F M w0) (v : SV) (hv : v.Ok) (hf : farP i Fa = true) (hg : o.guard = none) (hd : o.dst = some k) (hk : Nat.blt k N = true) (h : ∀ (G : Nat → Nat) (S : Nat → Prop) (a : Act) (w : World), Fr N (denE G E) a → View G S L R F M w → (execOp a.eval o).run P w = .ok (.value (v.den G)) w) (hn : hS P ops Q N T' G w0 rest ((k, v) :: E) Fa) : hS P ops Q N T' G w0 ((i, o) :: rest) E Fa :=
  h_f hst v hv hf (fun _ _ hC hQ => f_val _ hg hd hk (fun _ ha w hw => h G S _ w ha (hC w hw).1) hQ) hn
theorem h_st {v : SV} (hT : OkT P T) (hst : StW b G S L R F M w0) (hE : OkE E) (hf : farP i Fa = true) (hg : o.guard = none) (hd : o.dst = some k) (hk : Nat.blt k N = true) (h : stepS T E L o.op = some v) (hn : hS P ops Q N T' G w0 rest ((k, v) :: E) Fa) : hS P ops Q N T' G w0 ((i, o) :: rest) E Fa :=
  h_f hst v (stepS_ok hT (N := N) (o := o) hE hst.okL h).1 hf (fun _ _ hC hQ => f_val _ hg hd hk (fun _ ha w hw => (stepS_ok hT hE hst.okL h).2 ha fun x hx => ((hC w hw).1.var x hx).1) hQ) hn
/-- What is left behind those that are reckoned. -/
def autoH (T : List TyR) (ops : Array Oper) (N : Nat) (L : List LV) (Fa : Told) : List (Nat × Oper) → SE → List (Nat × Oper) × SE
  | [], E => ([], E)
  | (i, o) :: l, E => match wantS ops N E o, farP i Fa, o.dst with
    | some false, true, some k => match Nat.blt k N with
      | true => autoH T ops N L Fa l ((k, .v undef) :: E)
      | false => ((i, o) :: l, E)
    | some true, true, some k => match Nat.blt k N with
      | true => match stepS T E L o.op with
        | some v => autoH T ops N L Fa l ((k, v) :: E)
        | none => ((i, bareO o) :: l, E)
      | false => ((i, o) :: l, E)
    | some true, true, none => ((i, bareO o) :: l, E)
    | _, _, _ => ((i, o) :: l, E)
theorem h_bare (hw : wantS ops N E o = some true) (h : hS P ops Q N T' G w0 ((i, bareO o) :: rest) E Fa) : hS P ops Q N T' G w0 ((i, o) :: rest) E Fa := fun hE a F ha hF => by
  have hwt := wantS_ok ha hw
  have h1 := h hE a F ha hF
  obtain ⟨dst, op, ty, pos, af, gd⟩ := o
  unfold wpG at h1 ⊢
  rw [if_pos hwt]
  rw [if_pos (by rfl)] at h1
  exact h1
theorem h_undef (hw : wantS ops N E o = some false) (hf : farP i Fa = true) (hd : o.dst = some k) (hk : Nat.blt k N = true) (h : hS P ops Q N T' G w0 rest ((k, .v undef) :: E) Fa) : hS P ops Q N T' G w0 ((i, o) :: rest) E Fa := fun hE a F ha hF => by
  have hwt := wantS_ok ha hw
  unfold wpG
  rw [hwt, if_neg (by decide)]
  dsimp only
  rw [hd]
  exact h (hE.cons (v := .v undef) trivial) _ _ (ha.put hk undef) (hF.up hf)
theorem autoH_ok (hT : OkT P T) (hst : StW b G S L R F M w0) : ∀ {l : List (Nat × Oper)} {E : SE}, OkE E → hS P ops Q N T' G w0 (autoH T ops N L Fa l E).1 (autoH T ops N L Fa l E).2 Fa → hS P ops Q N T' G w0 l E Fa
  | [], _, _, h => h
  | (i, o) :: l, E, hE, h => by
    unfold autoH at h
    split at h
    · rename_i k hw hf hd
      split at h
      · rename_i hk
        exact h_undef hw hf hd hk (autoH_ok hT hst (hE.cons (v := .v undef) trivial) h)
      · exact h
    · rename_i k hw hf hd
      split at h
      · rename_i hk
        split at h
        · rename_i v hv
          have h2 := autoH_ok hT hst (hE.cons (stepS_ok hT (N := N) (o := bareO o) hE hst.okL hv).1) h
          exact h_bare hw (h_st hT hst hE hf rfl hd hk hv h2)
        · exact h_bare hw h
      · exact h
    · rename_i hw hf hd
      exact h_bare hw h
    · exact h
theorem h_auto {l l' : List (Nat × Oper)} {E' : SE} (hT : OkT P T) (hst : StW b G S L R F M w0) (h : autoH T ops N L Fa l E = (l', E')) (hn : hS P ops Q N T' G w0 l' E' Fa) : hS P ops Q N T' G w0 l E Fa := fun hE => autoH_ok hT hst hE (by rw [h]; exact hn) hE
theorem h_num {l : List (Nat × Oper)} (k : Nat) {K : IntKind} {m : Int} (n : Int) (h : lookS E k = some (.v (.int K m))) (he : m = n) (hn : hS P ops Q N T' G w0 l ((k, .v (.int K n)) :: E) Fa) : hS P ops Q N T' G w0 l E Fa := fun hE => by
  subst he
  intro a F ha hF
  exact hn (hE.cons trivial) a F (ha.more (ha.get k _ (by rw [look_den, h]; rfl))) hF
theorem h_is {l : List (Nat × Oper)} (k : Nat) {t : Bool} (q : Bool) (h : lookS E k = some (.b t)) (he : t = q) (hn : hS P ops Q N T' G w0 l ((k, .v (.bool q)) :: E) Fa) : hS P ops Q N T' G w0 l E Fa := fun hE => by
  subst he
  intro a F ha hF
  exact hn (hE.cons trivial) a F (ha.more (ha.get k _ (by rw [look_den, h]; rfl))) hF
/-- The end of what may be taken in any order. -/
theorem h_end (hst : StW b G S L R F M w0) (h : lS P b ops Q N T' ⟨E, L, R, F, M⟩) : hS P ops Q N T' G w0 [] E Fa := fun hE => g_end fun w hw _ => fun a ha => h a w ⟨G, S, ha, hE, hst.later hw⟩
end
section
variable {T : List TyR} {b : Base} {ops : Array Oper} {Q : Exit → Act → World → Prop} {N : Nat} {G : Nat → Nat} {S : Nat → Prop} {E : SE} {L : List LV} {R : List Res} {F M : World → Prop} {w0 : World} {T' : List Oper} {Fa : Told} {i k e bs : Nat} {o : Oper} {rest : List (Nat × Oper)}
/-- A literal of bytes. -/
theorem h_litF {α : Type} {sz : Nat} (fe : α → SQ) {t n : Nat} {parts : Array (Nat × Operand)} (hT : OkT Try.prog T) (l : List α) (hok : OkF sz fe l) (hg : o.guard = none) (hd : o.dst = some k) (hk : Nat.blt k N = true) (hf : farP i Fa = true) (ho : o.op = .buildSlice t n parts) (hs : slS T t = some (e, sz, bs))
    (hp : ∀ G : Nat → Nat, parts.toList.map (fun p => (p.1, (evS E p.2).map (SV.den G))) = ((l.map fun x => (fe x).den).zipIdx 0).map fun x => (x.2, some x.1)) (hn : l.length = n) (h0 : 0 < n * sz) (h24 : n * sz ≤ 16777216)
    (hc : ∀ g, hS Try.prog ops Q N T' G w0 rest ((k, .v (.slice (some ⟨g, 0, none⟩) n n)) :: E) ((i, fun w => Rd sz fe (some ⟨g, 0, none⟩) n l w) :: Fa)) : hS Try.prog ops Q N T' G w0 ((i, o) :: rest) E Fa := fun hE => by
  refine g_mem (fun v w => ∃ g, v = .slice (some ⟨g, 0, none⟩) n n ∧ Rd sz fe (some ⟨g, 0, none⟩) n l w) hg hd hk hf (by rw [ho]; rfl) (fun v w w' ⟨g, h1, h2⟩ hb => ⟨g, h1, h2.later hb⟩) (fun a ha w _ _ => ?_) fun v w _ hv => ?_
  · obtain ⟨ht, ie, z, hi, hz, hsz, _⟩ := slS_ok hT hs
    have hrun := run_lit (P := Try.prog) ht hi hz hsz (l.map fun x => (fe x).den) n (parts.map fun (i, x) => (i, a.eval x)) (by rw [Array.toList_map]; exact map_parts ha _ _ (hp G)) (by rw [List.length_map, hn]) h0 h24 (fun v hv => by
      obtain ⟨x, hx, rfl⟩ := List.mem_map.1 hv
      have := (hok x hx).2
      rwa [SQ.cl, Array.length_toList] at this) w
    have e1 : ((l.map fun x => (fe x).den).flatMap fun v => v.cells.toList) = flatF fe l := by
      rw [flatF, List.flatMap_map]
      rfl
    rw [e1] at hrun
    have h1 : (execOp a.eval o).run Try.prog w = .ok (.value (.slice (some ⟨w.heap.size, 0, none⟩) n n)) (w.alloc (.cells (flatF fe l).toArray e)) := by
      unfold execOp
      simp only [ho, Sem.run_bind, hrun, Result.andThen_ok, Sem.run_pure]
    rw [h1]
    refine ⟨(Below.refl w.heap.size w).alloc (Nat.le_refl _) _, w.heap.size, rfl, ?_⟩
    subst hn
    have hm : l.length ≤ l.length * sz := Nat.le_mul_of_pos_right _ (Nat.pos_of_ne_zero fun e => by rw [e] at h0; omega)
    exact OwnS.rd (OwnS.new (lo := 0) w (Nat.zero_le _) hok (by omega))
  · obtain ⟨g, rfl, h2⟩ := hv
    intro a F ha hF
    refine hc g (hE.cons trivial) a F ha fun x hx w hw => ?_
    rcases List.mem_cons.1 hx with rfl | hx
    · obtain ⟨g', e, h3⟩ := hF _ List.mem_cons_self w hw
      cases e
      exact h3
    · exact hF x (List.mem_cons_of_mem _ hx) w hw
theorem h_lit {t n : Nat} {parts : Array (Nat × Operand)} (hT : OkT Try.prog T) (l : List UInt8) (hg : o.guard = none) (hd : o.dst = some k) (hk : Nat.blt k N = true) (hf : farP i Fa = true) (ho : o.op = .buildSlice t n parts) (hs : slS T t = some (e, 1, bs))
    (hp : ∀ G : Nat → Nat, parts.toList.map (fun p => (p.1, (evS E p.2).map (SV.den G))) = ((l.map fun x => (eB x).den).zipIdx 0).map fun x => (x.2, some x.1)) (hn : l.length = n) (h0 : 0 < n) (h24 : n ≤ 16777216)
    (hc : ∀ g, hS Try.prog ops Q N T' G w0 rest ((k, .v (.slice (some ⟨g, 0, none⟩) n n)) :: E) ((i, fun w => Rd 1 eB (some ⟨g, 0, none⟩) n l w) :: Fa)) : hS Try.prog ops Q N T' G w0 ((i, o) :: rest) E Fa :=
  h_litF eB hT l (okF_B l) hg hd hk hf ho hs hp hn (by omega) (by omega) hc
/-- A slice of slices: what they read. -/
theorem h_parts {n : Nat} {parts : Array (Nat × Operand)} (vs : List Value) (ls : List (List UInt8)) (hst : StW b G S L R F M w0) (hg : o.guard = none) (hd : o.dst = some k) (hk : Nat.blt k N = true) (hf : farP i Fa = true) (ho : o.op = .buildSlice 38 n parts)
    (hv : parts.toList.map (fun p => (p.1, (evS E p.2).map (SV.den G))) = (vs.zipIdx 0).map fun x => (x.2, some x.1)) (hn : vs.length = n) (h0 : 0 < n) (h24 : n ≤ 16777216) (h : ∀ w, View G S L R F M w → Uses o Fa w → All2 w vs ls)
    (hc : ∀ g, hS Try.prog ops Q N T' G w0 rest ((k, .v (.slice (some ⟨g, 0, none⟩) n n)) :: E) ((i, fun w => PT w (some ⟨g, 0, none⟩) ls) :: Fa)) : hS Try.prog ops Q N T' G w0 ((i, o) :: rest) E Fa := fun hE => by
  have hv2 : parts.toList.map (fun p => (p.1, ev (denE G E) p.2)) = (vs.zipIdx 0).map fun x => (x.2, some x.1) := by
    have key : ∀ (l : List (Nat × Operand)) (m : List (Value × Nat)), l.map (fun p => (p.1, (evS E p.2).map (SV.den G))) = m.map (fun x => (x.2, some x.1)) → l.map (fun p => (p.1, ev (denE G E) p.2)) = m.map fun x => (x.2, some x.1) := by
      intro l
      induction l with
      | nil => intro m h; cases m with
        | nil => rfl
        | cons => cases h
      | cons p l ih => intro m h; cases m with
        | nil => cases h
        | cons u m =>
          simp only [List.map_cons, List.cons.injEq, Prod.mk.injEq] at h ⊢
          refine ⟨⟨h.1.1, ?_⟩, ih m h.2⟩
          cases hx : evS E p.2 with
          | none => rw [hx] at h; cases h.1.2
          | some v =>
            rw [hx] at h
            rw [evS_ok hx]
            exact h.1.2
    exact key _ _ hv
  refine g_slices vs ls 0 hg hd hk hf ho hv2 hn h0 h24 (fun _ _ => Nat.zero_le _) (fun w hw hu => h w (hst.later hw).view hu) fun g w _ _ => ?_
  intro a F ha hF
  refine hc g (hE.cons trivial) a F ha fun x hx w hw => ?_
  rcases List.mem_cons.1 hx with rfl | hx
  · exact (hF _ List.mem_cons_self w hw).pt
  · exact hF x (List.mem_cons_of_mem _ hx) w hw
/-- A call that hands back one value and leaves nothing. -/
theorem h_call {f : FuncId} {xs : Array Operand} {ats : Array TypeId} {svs : List SV} {r : RV} (hst : StW b G S L R F M w0) (args : List Value) (hf : farP i Fa = true) (hg : o.guard = none) (hd : o.dst = some k) (hk : Nat.blt k N = true) (how : Own f) (ho : o.op = .call { callee := .value (.func f), args := xs, argTypes := ats }) (hx : evSs E xs.toList = some svs)
    (ha : (∀ x ∈ L, ∀ g, x.g = some g → G x.j = g) → svs.map (SV.den G) = args) (hr : r.sv.Ok) (hs : ∀ w, View G S L R F M w → Uses o Fa w → Calls Try.prog f args.toArray w fun e w' => e = .returned r.den ∧ Below w.heap.size w w')
    (hn : hS Try.prog ops Q N T' G w0 rest ((k, r.sv) :: E) Fa) : hS Try.prog ops Q N T' G w0 ((i, o) :: rest) E Fa := by
  refine h_f hst r.sv hr hf (fun C0 Q' hC hQ => ?_) hn
  rw [RV.sv_den] at hQ
  exact f_call args.toArray r.den hg hd hk how (fun w hw => hs w (hC w hw).1 (hC w hw).2) ho (by rw [evSs_ok hx, ha fun x hx => (hst.var x hx).2.2]) hQ
/-- A call whose answer is told by what it lies in. -/
theorem h_callE {α : Type} {post : Post α} {F' : World → Prop} [Pst F'] [hP : ∀ x, Pst (post.p x)] {f : FuncId} {xs : Array Operand} {ats : Array TypeId} {svs : List SV} (hst : StW b G S L R F M w0) (args : List Value) (hf : farP i Fa = true) (hg : o.guard = none) (hd : o.dst = some k) (hk : Nat.blt k N = true) (how : Own f) (ho : o.op = .call { callee := .value (.func f), args := xs, argTypes := ats }) (hx : evSs E xs.toList = some svs)
    (ha : (∀ x ∈ L, ∀ g, x.g = some g → G x.j = g) → svs.map (SV.den G) = args) (hs : Spec f args [] F' post) (hF : ∀ w, View G S L R F M w → Uses o Fa w → F' w)
    (hn : ∀ x, (post.ret x).sv.Ok → hS Try.prog ops Q N T' G w0 rest ((k, (post.ret x).sv) :: E) ((i, fun w => ∃ y, (post.ret x).den = (post.ret y).den ∧ post.p y w) :: Fa)) : hS Try.prog ops Q N T' G w0 ((i, o) :: rest) E Fa := fun hE => by
  refine g_call args.toArray (fun v w => ∃ x, v = (post.ret x).den ∧ (post.ret x).sv.Ok ∧ post.p x w) hg hd hk hf (fun v w w' ⟨x, h1, h2, h3⟩ hb => ⟨x, h1, h2, (hP x).later _ _ h3 hb⟩) how (fun w hw hu => ?_) ho (by rw [evSs_ok hx, ha fun x hx => (hst.var x hx).2.2]) fun v w _ hv => ?_
  · refine (hs w (fun _ => False) (fun _ => False) (fun _ h => h) (fun _ h => h.elim) (Stb.of_pst (hF w (hst.later hw).view hu) fun _ _ h => h.elim id id)).mono ?_
    rintro e w' ⟨x, S', h1, h2, h3, h4, h5, h6, h7⟩
    exact ⟨_, h1, ⟨x, rfl, h2, h6.now⟩, h3.up fun _ _ h => h⟩
  · obtain ⟨x, rfl, hok, _⟩ := hv
    intro a F ha hF
    refine hn x hok (hE.cons hok) a F (by rw [denE, RV.sv_den]; exact ha) fun y hy w hw => ?_
    rcases List.mem_cons.1 hy with rfl | hy
    · obtain ⟨z, e, _, h3⟩ := hF _ List.mem_cons_self w hw
      exact ⟨z, e, h3⟩
    · exact hF y (List.mem_cons_of_mem _ hy) w hw
theorem h_callS {F' : World → Prop} {f : FuncId} {xs : Array Operand} {ats : Array TypeId} {svs : List SV} {r : RV} [Pst F'] (hst : StW b G S L R F M w0) (args : List Value) (hf : farP i Fa = true) (hg : o.guard = none) (hd : o.dst = some k) (hk : Nat.blt k N = true) (how : Own f) (ho : o.op = .call { callee := .value (.func f), args := xs, argTypes := ats }) (hx : evSs E xs.toList = some svs)
    (ha : (∀ x ∈ L, ∀ g, x.g = some g → G x.j = g) → svs.map (SV.den G) = args) (hr : r.sv.Ok) (hs : Spec f args [] F' (one r)) (hF : ∀ G S w, View G S L R F M w → F' w)
    (hn : hS Try.prog ops Q N T' G w0 rest ((k, r.sv) :: E) Fa) : hS Try.prog ops Q N T' G w0 ((i, o) :: rest) E Fa :=
  h_call hst args hf hg hd hk how ho hx ha hr (fun w hv _ => (hs w (fun _ => False) (fun _ => False) (fun _ h => h) (fun _ h => h.elim) (Stb.of_pst (hF _ _ _ hv) fun _ _ h => h.elim id id)).mono fun _ _ ⟨_, _, h1, _, h2, _⟩ => ⟨h1, h2.up fun _ _ h => h⟩) hn
/-- Bytes that were told are a string. -/
theorem h_strU {x : Operand} {A : Option Addr} {c : Nat} (l : List UInt8) (hst : StW b G S L R F M w0) (hf : farP i Fa = true) (hg : o.guard = none) (hd : o.dst = some k) (hk : Nat.blt k N = true) (ho : o.op = .convert 32 9 x) (hx : evS E x = some (.v (.slice A l.length c)))
    (h : ∀ w, View G S L R F M w → Uses o Fa w → Rd 1 eB A c l w) (hn : hS Try.prog ops Q N T' G w0 rest ((k, vS l) :: E) Fa) : hS Try.prog ops Q N T' G w0 ((i, o) :: rest) E Fa :=
  h_f hst (vS l) trivial hf (fun _ _ hC hQ => f_strB (.slice A l.length c) l hg hd hk ho (evS_ok hx) (fun w' hw' => (h w' (hC w' hw').1 (hC w' hw').2).sb) hQ) hn
end
end Go.Proofs.Ythkbejheedffjaa
/-
  REGIONS THAT DRAW THEIR ORDER: 'x, ok := f(..)', where what is stored need not wait for the second part.
-/
namespace Go.Proofs.Ythkbejheedffjaa
open Go.RowKit Go.IntWalk

section
variable {P : Program} {Q : Exit → Act → World → Prop}

/-- What is asked behind the reads and calls of 'x, ok := ..'. -/
def tupEnd (P : Program) (Q : Exit → Act → World → Prop) (w : World) (t t2 : Tmp) (ty : TypeId) (x y : Operand) (n : Nat) (a' : Act) : Prop :=
  ∃ (cells : Array Value) (v2 : Value), (∀ v, (a'.put (some t) v).eval (.tmp t) = v) ∧ (∀ v, (a'.put (some t) v).eval x = .agg cells) ∧ (∀ v, (a'.put (some t) v).eval y = v2) ∧ n = cells.size ∧ (P.info? ty).map (·.size) = some cells.size ∧ (∀ v ∈ cells.toList, v.oneCell' = true) ∧
    ∀ g w', w.heap.size ≤ g → Up w w' → Blk w' g ty cells → Q .normal ((a'.put (some t) (.pointer (some ⟨g, 0, none⟩))).put (some t2) v2) w'

theorem reg_tup {id : Nat} {a : Act} {w : World} {l : List Oper} {oa os ot : Oper} (n : Nat) (t t2 : Tmp) (ty : TypeId) (x y : Operand) (zs : Array Value) (hl : l = l.take n ++ [oa, os, ot]) (hn : (l.take n).length = n)
    (hop : os.op = .store ty (.tmp t) x) (hot : ot.op = .assign y) (hsg : os.guard = none) (htg : ot.guard = none) (hsd : os.dst = none) (htd : ot.dst = some t2) (hag : oa.guard = none) (had : oa.dst = some t) (hm : P.follows .mixedOrders = true)
    (hs : Region.noSelect l.toArray = true) (hh : headC .any l.toArray n l 0 = true) (hch : chainB .any l 0 none = true)
    (hr0 : Region.ready .any l.toArray (marks n 0 (Array.replicate l.toArray.size false)) = [n])
    (hr1 : Region.ready .any l.toArray ((marks n 0 (Array.replicate l.toArray.size false)).setIfInBounds n true) = [n + 1])
    (hr2 : Region.ready .any l.toArray (((marks n 0 (Array.replicate l.toArray.size false)).setIfInBounds n true).setIfInBounds (n + 1) true) = [n + 2])
    (hr3 : Region.ready .any l.toArray ((((marks n 0 (Array.replicate l.toArray.size false)).setIfInBounds n true).setIfInBounds (n + 1) true).setIfInBounds (n + 2) true) = [])
    (hQ : ∀ c a d v w, Q (.panic c) (a.put d v) w → Q (.panic c) a w)
    (hrun : ∀ (a : Act) w, (execOp a.eval oa).run P w = .ok (.value (.pointer (some ⟨w.heap.size, 0, none⟩))) (w.alloc (.cells zs ty)))
    (h : wpB P l.toArray (Up w) (tupEnd P Q w t t2 ty x y zs.size) (l.take n) a) : (Code.region id l.toArray true).wp P Q a w := by
  have hB : headB .any l.toArray n 0 (Array.replicate l.toArray.size false) = true := headB_of (by simpa using hch) n l 0 _ Inv.start (by simp) hh
  generalize l.take n = L at *
  subst hl
  subst hn
  refine wp_region_any hm ?_
  have hoa : (L ++ [oa, os, ot]).toArray[L.length]? = some oa := by simp
  have hos : (L ++ [oa, os, ot]).toArray[L.length + 1]? = some os := by simp
  have hoT : (L ++ [oa, os, ot]).toArray[L.length + 2]? = some ot := by simp
  have hz : (L ++ [oa, os, ot]).toArray.size = 3 + L.length := by simp; omega
  have hG : wpAnyU P .any (L ++ [oa, os, ot]).toArray (Up w) Q (3 + L.length) 0 (3 + L.length) w.drew (Array.replicate (L ++ [oa, os, ot]).toArray.size false) a := by
    refine wpAnyU_head (fun _ _ h k => h.step k) hs hQ 3 w.drew (Up.drew w) L 0 _ a (Closed.none _) (by omega) (fun j hj => by simp [List.getElem?_append_left hj]) hB ?_
    refine wpB_mono (fun a' h' => ⟨by rw [hr0]; exact List.cons_ne_nil _ _, fun i hi => ?_⟩) L a h
    rw [hr0, List.mem_singleton] at hi
    subst hi
    obtain ⟨cells, v2, h1, h2, h2y, hsz, hi, ho, hk⟩ := h'
    refine wpAnyU_new (base := w.heap.size) hoa hag hrun (fun _ _ h k => h.step k) (fun _ h => h.size) (Up.drew w) fun w1 hw1 hC1 hp => ⟨by rw [hr1]; exact List.cons_ne_nil _ _, fun i hi => ?_⟩
    have hb1 : Blk (w1.alloc (.cells zs ty)) w1.heap.size ty zs := Blk.new w1 _ _
    rw [hr1, List.mem_singleton] at hi
    subst hi
    rw [had]
    generalize w1.heap.size = g at *
    intro w2 hw2
    have hb2 := hb1.later hw2
    have hC2 : Up w w2 := (hC1.alloc _).step hw2
    unfold wpOp
    simp only [hos]
    rw [if_pos (by simp [Region.wanted, hsg])]
    refine .inl ?_
    have hst := run_store_row (P := P) w2 ty g cells zs ty hb2 (by rw [hi]) hsz ho
    unfold Oper.wp execOp
    simp only [hop, h1, h2, Sem.run_bind, hst, Result.andThen_ok, Sem.run_pure, Oper.upon]
    rw [hsd]
    have hC3 : Up w (w2.setRow g cells) := up_row hC2 hp _
    have hb3 : Blk (w2.setRow g cells) g ty cells := hb2.row _
    refine ⟨hC3, by rw [hr2]; exact List.cons_ne_nil _ _, fun i hi => ?_⟩
    rw [hr2, List.mem_singleton] at hi
    subst hi
    intro w4 hw4
    have hb4 := hb3.later hw4
    have hC4 : Up w w4 := hC3.step hw4
    unfold wpOp
    simp only [hoT]
    rw [if_pos (by simp [Region.wanted, htg])]
    refine .inl ?_
    unfold Oper.wp execOp
    simp only [hot, Sem.run_pure, Oper.upon]
    refine ⟨hC4, ?_⟩
    refine ⟨fun j hj => ?_, fun w5 hw5 => ⟨hr3, ?_⟩⟩
    · rw [hr3] at hj
      cases hj
    rw [htd]
    have e : (Act.put (Act.put a' (some t) (.pointer (some ⟨g, 0, none⟩))) none undef).eval y = v2 := h2y _
    rw [e]
    exact hk g w5 hp (hC4.step hw5) (hb4.later hw5)
  have h2 := wpAny_of_U (3 + L.length) _ a w.drew hG
  rw [Nat.zero_add, ← hz] at h2
  exact h2
end
end Go.Proofs.Ythkbejheedffjaa
/-
  'x, ok := f(..)' OVER FRAMES BY WHAT IS KNOWN OF THEM, the order drawn.
-/
namespace Go.Proofs.Ythkbejheedffjaa
open Go.RowKit Go.IntWalk

section
variable {P : Program} {Q : Exit → Act → World → Prop} {N : Nat} {E : List (Nat × Value)} {w : World}
theorem c_tup {id : Nat} {l : List Oper} {oa os ot : Oper} (n : Nat) (t t2 : Tmp) (ty : TypeId) (x y : Operand) (zs : Array Value) (hl : l = l.take n ++ [oa, os, ot]) (hn : (l.take n).length = n)
    (hop : os.op = .store ty (.tmp t) x) (hot : ot.op = .assign y) (hsg : os.guard = none) (htg : ot.guard = none) (hsd : os.dst = none) (htd : ot.dst = some t2) (hag : oa.guard = none) (had : oa.dst = some t) (hm : P.follows .mixedOrders = true)
    (hs : Region.noSelect l.toArray = true) (hh : headC .any l.toArray n l 0 = true) (hch : chainB .any l 0 none = true)
    (hr0 : Region.ready .any l.toArray (marks n 0 (Array.replicate l.toArray.size false)) = [n])
    (hr1 : Region.ready .any l.toArray ((marks n 0 (Array.replicate l.toArray.size false)).setIfInBounds n true) = [n + 1])
    (hr2 : Region.ready .any l.toArray (((marks n 0 (Array.replicate l.toArray.size false)).setIfInBounds n true).setIfInBounds (n + 1) true) = [n + 2])
    (hr3 : Region.ready .any l.toArray ((((marks n 0 (Array.replicate l.toArray.size false)).setIfInBounds n true).setIfInBounds (n + 1) true).setIfInBounds (n + 2) true) = [])
    (hQ : ∀ c a d v w, Q (.panic c) (a.put d v) w → Q (.panic c) a w) (hoa : oa.op = .alloc ty) (hz : (P.info? ty).bind (fun i => i.zero.map (·.cells)) = some zs)
    (h : bF P l.toArray (Up w) (tupEnd P Q w t t2 ty x y zs.size) (l.take n) N E) : cF P (.region id l.toArray true) Q N E w := fun a ha =>
  reg_tup n t t2 ty x y zs hl hn hop hot hsg htg hsd htd hag had hm hs hh hch hr0 hr1 hr2 hr3 hQ (exec_alloc hoa hz) (h a ha)
theorem f_tupEnd {ops : Array Oper} {t t2 : Tmp} {ty : TypeId} {x y : Operand} {n : Nat} (cells : Array Value) (v2 : Value) (ht : Nat.blt t N = true) (ht2 : Nat.blt t2 N = true) (hx : ∀ v, ev ((t, v) :: E) x = some (.agg cells)) (hy : ∀ v, ev ((t, v) :: E) y = some v2) (hn : n = cells.size)
    (hi : (P.info? ty).map (·.size) = some cells.size) (h1 : ∀ v ∈ cells.toList, v.oneCell' = true) (h : ∀ g w', w.heap.size ≤ g → Up w w' → Blk w' g ty cells → kF (Q .normal) N ((t2, v2) :: (t, .pointer (some ⟨g, 0, none⟩)) :: E) w') :
    bF P ops (Up w) (tupEnd P Q w t t2 ty x y n) [] N E := fun a ha => wpB_nil ⟨cells, v2, fun v => (ha.put ht v).get t v (by rw [look_cons, if_pos rfl]), fun v => (ha.put ht v).eval (hx v), fun v => (ha.put ht v).eval (hy v), hn, hi, h1,
      fun g w' hg hU hb => h g w' hg hU hb _ ((ha.put ht _).put ht2 _)⟩
end
end Go.Proofs.Ythkbejheedffjaa
