/-
  SEVERAL TEXTS IN ONE: Vt, Vu, UsB, Ref02, Ws, DigS, DigR, DigW, DigM, DigB, DigP, DigO, DigF, Digest, RLong, Ref32, DigS32, DigR32, DigW32, DigM32.
-/
import Derived.Test.YtoecohpcnojokaaDoorMe
import Derived.Deep.RegionHeld3
import Derived.Laws.CopyOwn
import Derived.Test.YtoecohpcnojokaaDoorMb
import Derived.Test.YtoecohpcnojokaaDoorMc
import Derived.Laws.OwnMore
/-
  DRAWN REGIONS WITH MEMORY, over states: what only reads is taken as early as may be; what is left goes step by step.
-/
namespace Go.Proofs.YtoecohpcnojokaaDoor
open Go.RowKit Go.IntWalk

/-! ### Whatever order, from one world -/
section
variable {P : Program} {ops : Array Oper} {Q : Exit → Act → World → Prop} {Inv : World → Prop}
def wpAnyK (P : Program) (ops : Array Oper) (Q : Exit → Act → World → Prop) (Inv : World → Prop) (n m : Nat) : Nat → Array Bool → Act → World → Prop
  | 0, listed, a, w => (∀ j ∈ Region.ready .any ops listed, ∀ i, i < n → waitsT .any ops ops.size j i = true) ∧ wpAny P .any ops Q m listed a w
  | fuel + 1, listed, a, w => Region.ready .any ops listed ≠ [] ∧ ∀ i ∈ Region.ready .any ops listed, wpOp P ops Q i (fun a' w' => Inv w' ∧ wpAnyK P ops Q Inv n m fuel (listed.setIfInBounds i true) a' w') a w
theorem wpAny_of_K {n m : Nat} : ∀ (fuel : Nat) (listed : Array Bool) (a : Act) (w : World), wpAnyK P ops Q Inv n m fuel listed a w → wpAny P .any ops Q (m + fuel) listed a w
  | 0, _, _, _, h => h.2
  | fuel + 1, _, _, _, h => ⟨fun h0 => absurd h0 h.1, fun i hi => wpOp_mono (fun a' w' h' => wpAny_of_K fuel _ a' w' h'.2) (h.2 i hi)⟩
theorem still_wpOp {i : Nat} {oi : Oper} {v : Value} {K : Act → World → Prop} {a : Act} {w : World} (hi : ops[i]? = some oi) (hst : stillG oi.op = true) (hy : YieldsB P ops Inv oi (· = v) a) (hC : Inv w) (h : K (a.put oi.dst v) w) : wpOp P ops Q i K a w := by
  unfold Go.wpOp
  simp only [hi]
  rcases hy with ⟨hw, hv⟩ | ⟨hw, hv⟩
  · simp only [hw, if_true]
    refine .inl ?_
    have h3 := hv w hC
    unfold atB at h3
    unfold Oper.wp
    cases hr : (execOp a.eval oi).run P w with
    | ok n w' =>
      rw [hr] at h3
      rcases still_ok hst hr with ⟨u, rfl⟩ | rfl
      · simp only [uponB] at h3
        obtain ⟨e1, e2⟩ := h3
        subst e1 e2
        exact h
      · simp only [uponB] at h3
        obtain ⟨e1, e2⟩ := h3
        subst e1 e2
        exact h
    | halt x w' =>
      rw [hr] at h3
      simp only [uponB] at h3
  · simp only [hw, Bool.false_eq_true, if_false]
    rw [hv]
    exact h
theorem K_first {n m i : Nat} {oi : Oper} {v : Value} (hin : i < n) (hi : ops[i]? = some oi) (hst : stillG oi.op = true) (hsel : ∀ (j : Nat) (o : Oper) cs b, ops[j]? = some o → o.op ≠ .select cs b) (hQ : ∀ c a d v w, Q (.panic c) (a.put d v) w → Q (.panic c) a w) :
    ∀ (fuel : Nat) (listed : Array Bool) (a : Act) (w : World), Inv w → Closed .any ops listed →
      (∀ j oj, ops[j]? = some oj → j ≠ i → listed.getD j true = false → (∀ e ∈ oj.after, Region.binds .any e = true → e.on ≠ i) → oi.apart ops oj = true) →
      i ∈ Region.ready .any ops listed → YieldsB P ops Inv oi (· = v) a → wpAnyK P ops Q Inv n m fuel (listed.setIfInBounds i true) (a.put oi.dst v) w → wpAnyK P ops Q Inv n m (fuel + 1) listed a w := by
  intro fuel
  induction fuel with
  | zero =>
    intro listed a w hC hcs _ hr hy H
    refine ⟨fun h => (by rw [h] at hr; cases hr), fun j hj => ?_⟩
    by_cases hji : j = i
    · subst hji
      exact still_wpOp hi hst hy hC ⟨hC, H⟩
    · have h1 := H.1 j (ready_mono hj hji) i hin
      obtain ⟨_, oj, hoj, hall⟩ := mem_ready.1 hj
      have h6 := hcs.waits _ j i oj hoj hall h1
      rw [getD_ready hr] at h6
      cases h6
  | succ fuel ih =>
    intro listed a w hC hcs hfree hr hy H
    refine ⟨fun h => (by rw [h] at hr; cases hr), fun j hj => ?_⟩
    by_cases hji : j = i
    · subst hji
      exact still_wpOp hi hst hy hC ⟨hC, H⟩
    · obtain ⟨hjun, oj, hoj, hall⟩ := mem_ready.1 hj
      have hnot : ∀ e ∈ oj.after, Region.binds .any e = true → e.on ≠ i := fun e he hb heq => by
        have h1 := hall e he hb
        rw [heq, getD_ready hr] at h1
        cases h1
      have h2 := wpOp_putB (V := (· = v)) hoj (hfree j oj hoj hji hjun hnot) (fun cs b => hsel i oi cs b hi) (fun cs b => hsel j oj cs b hoj) ⟨v, rfl⟩ (.inr ⟨v, fun _ h => h⟩) hQ hy (fun u hu => by
        subst hu
        exact H.2 j (ready_mono hj hji))
      have hun' : ∀ k, (listed.setIfInBounds j true).getD k true = false → listed.getD k true = false := fun k hun => by
        by_cases hjk : j = k
        · subst hjk; exact hjun
        · rw [getD_set_ne true hjk] at hun; exact hun
      refine wpOp_mono (fun a' w' h3 => ?_) h2
      obtain ⟨hy', h4⟩ := h3
      obtain ⟨hC', h5⟩ := h4 v rfl
      refine ⟨hC', ih (listed.setIfInBounds j true) a' w' hC' (hcs.set hj) (fun k ok hk hki hun hno => hfree k ok hk hki (hun' k hun) hno) (ready_mono hr (Ne.symm hji)) hy' ?_⟩
      rw [Array.setIfInBounds_comm _ _ hji]
      exact h5
theorem upon_then {o : Oper} {a : Act} {K next : Act → World → Prop} (r : Result Next) (h : o.upon P a next (Exit.then K Q) r) : o.upon P a next Q r := by
  cases r with
  | ok n w' => cases n <;> exact h
  | halt x w' => cases x <;> exact h
theorem wpOp_of_list {i : Nat} {o : Oper} {K : Act → World → Prop} {a : Act} {w : World} (hi : ops[i]? = some o) (h : wpList P ops (Exit.then K Q) [o] a w) : wpOp P ops Q i K a w := by
  unfold Go.wpOp
  simp only [hi]
  unfold wpList at h
  split
  · rename_i hw
    rw [if_pos hw] at h
    refine h.imp (fun h => ?_) id
    exact Oper.wp_mono (fun a' w' h' => h') (upon_then _ h)
  · rename_i hw
    rw [if_neg hw] at h
    exact h
end
/-! ### Over states -/
/-- What the variables L hold, where they lie. -/
def InvL (L : List LV) (w : World) : Prop := ∀ x ∈ L, ∃ g, x.g = some g ∧ Blk w g x.t (catP x.ps)
def aS (P : Program) (b : Base) (Q : Exit → Act → World → Prop) (N : Nat) (ops : Array Oper) (Inv : World → Prop) (n m fuel : Nat) (listed : Array Bool) (e : Env) : Prop := Closed .any ops listed → ∀ a w, St b N e a w → Inv w → wpAnyK P ops (NoPanic Q) Inv n m fuel listed a w
/-- May it be taken here, ahead of all that is left? -/
def frontB (ops : Array Oper) (n i : Nat) (listed : Array Bool) : Bool := decide (i < n) && (Region.ready .any ops listed).contains i && Region.free .any ops listed i && Region.noSelect ops
section
variable {P : Program} {T : List TyR} {b : Base} {ops : Array Oper} {Q : Exit → Act → World → Prop} {N n m fuel : Nat} {listed : Array Bool} {E : SE} {L L0 : List LV} {R : List Res} {F M : World → Prop} {Inv : World → Prop} {e : Env}
theorem panic_put : ∀ c (a : Act) d v w, NoPanic Q (.panic c) (a.put d v) w → NoPanic Q (.panic c) a w := fun _ _ _ _ _ h => h
/-- A step that only reads is taken first. -/
theorem a_front {o : Oper} {k : Nat} {v : SV} (hT : OkT P T) (i : Nat) (hc : frontB ops n i listed = true) (ho : ops[i]? = some o) (hg : o.guard = none) (hd : o.dst = some k) (hk : Nat.blt k N = true) (hs : stillG o.op = true) (hv : stepS T E L0 o.op = some v) (hsub : ∀ x ∈ L0, x ∈ L)
    (hn : aS P b Q N ops (InvL L0) n m fuel (listed.setIfInBounds i true) ⟨(k, v) :: E, L, R, F, M⟩) : aS P b Q N ops (InvL L0) n m (fuel + 1) listed ⟨E, L, R, F, M⟩ := fun hcs a w hst hI => by
  obtain ⟨G, S, h1, h2, h3⟩ := hst
  simp only [frontB, Bool.and_eq_true, decide_eq_true_eq] at hc
  obtain ⟨⟨⟨hin, hr⟩, hfr⟩, hsel⟩ := hc
  have hr' : i ∈ Region.ready .any ops listed := by simpa using hr
  obtain ⟨h4, h5⟩ := stepS_ok hT h2 (fun x hx => (h3.var x (hsub x hx)).2.1) hv
  have h6 := hn (hcs.set hr') (a.put (some k) (v.den G)) w ⟨G, S, h1.put hk _, h2.cons h4, h3⟩ hI
  refine K_first hin ho hs (Region.noSelect_spec hsel) panic_put fuel listed a w hI hcs (Region.free_spec ho hfr) hr' (v := v.den G) (.inl ⟨by simp [Region.wanted, hg], fun w' hw' => ?_⟩) (by rw [hd]; exact h6)
  unfold atB
  rw [h5 h1 fun x hx => by
    obtain ⟨g, e1, e2⟩ := hw' x hx
    rw [(h3.var x (hsub x hx)).2.2 g e1]
    exact e2]
  exact ⟨rfl, rfl⟩
/-- A step whose value hangs on the frame alone is taken first. -/
theorem a_frontO {o : Oper} {k : Nat} (v : SV) (hvo : v.Ok) (i : Nat) (hc : frontB ops n i listed = true) (ho : ops[i]? = some o) (hg : o.guard = none) (hd : o.dst = some k) (hk : Nat.blt k N = true) (hs : stillG o.op = true) (hv : ∀ (G : Nat → Nat) (a : Act) (w : World), Fr N (denE G E) a → (execOp a.eval o).run P w = .ok (.value (v.den G)) w)
    (hn : aS P b Q N ops Inv n m fuel (listed.setIfInBounds i true) ⟨(k, v) :: E, L, R, F, M⟩) : aS P b Q N ops Inv n m (fuel + 1) listed ⟨E, L, R, F, M⟩ := fun hcs a w hst hI => by
  obtain ⟨G, S, h1, h2, h3⟩ := hst
  simp only [frontB, Bool.and_eq_true, decide_eq_true_eq] at hc
  obtain ⟨⟨⟨hin, hr⟩, hfr⟩, hsel⟩ := hc
  have hr' : i ∈ Region.ready .any ops listed := by simpa using hr
  have h6 := hn (hcs.set hr') (a.put (some k) (v.den G)) w ⟨G, S, h1.put hk _, h2.cons hvo, h3⟩ hI
  refine K_first hin ho hs (Region.noSelect_spec hsel) panic_put fuel listed a w hI hcs (Region.free_spec ho hfr) hr' (v := v.den G) (.inl ⟨by simp [Region.wanted, hg], fun w' _ => ?_⟩) (by rw [hd]; exact h6)
  unfold atB
  rw [hv G a w' h1]
  exact ⟨rfl, rfl⟩
/-- The only one that may come next. -/
theorem a_step {o : Oper} (i : Nat) (hr : Region.ready .any ops listed = [i]) (ho : ops[i]? = some o) (h : ∀ K : Act → World → Prop, (∀ e', (∀ a w, St b N e' a w → Inv w) → aS P b Q N ops Inv n m fuel (listed.setIfInBounds i true) e' → kS b K N e') → lS P b ops (Exit.then K (NoPanic Q)) N [o] e) : aS P b Q N ops Inv n m (fuel + 1) listed e := fun hcs a w hst _ =>
  ⟨by rw [hr]; simp, fun j hj => by
    rw [hr, List.mem_singleton] at hj
    subst hj
    have hcs' := hcs.set (i := j) (by rw [hr]; simp)
    exact wpOp_of_list ho (h (fun a' w' => Inv w' ∧ wpAnyK P ops (NoPanic Q) Inv n m fuel (listed.setIfInBounds j true) a' w') (fun e' hI' ha a' w' hs' => ⟨hI' a' w' hs', ha hcs' a' w' hs' (hI' a' w' hs')⟩) a w hst)⟩
/-- The rest is forced. -/
theorem a_tail {l : List Oper} (hB : (sinksB .any l.toArray n listed && forcedB .any l.toArray (l.drop n).length n listed) = true) (h : lS P b l.toArray (NoPanic Q) N (l.drop n) e) : aS P b Q N l.toArray Inv n (l.drop n).length 0 listed e := fun _ a w hst _ => by
  simp only [Bool.and_eq_true] at hB
  exact ⟨fun j hj i hi => List.all_eq_true.1 (List.all_eq_true.1 hB.1 j hj) i (List.mem_range.2 hi), wpAny_forced (l.drop n) n listed a w (fun j _ => by simp [List.getElem?_drop]) hB.2 (h a w hst)⟩
theorem inv_of {E' : SE} {L' : List LV} {R' : List Res} {F' M' : World → Prop} (hsub : ∀ x ∈ L0, x ∈ L' ∧ x.g.isSome = true) : ∀ a w, St b N ⟨E', L', R', F', M'⟩ a w → InvL L0 w := fun a w ⟨G, S, _, _, h3⟩ x hx => by
  obtain ⟨h1, h2⟩ := hsub x hx
  obtain ⟨g, hg⟩ := Option.isSome_iff_exists.1 h2
  have h4 := h3.var x h1
  refine ⟨g, hg, ?_⟩
  rw [← h4.2.2 g hg]
  exact h4.1
theorem StW.drew {G : Nat → Nat} {S : Nat → Prop} {w : World} (h : StW b G S L R F M w) : StW b G S L R F M w.drew := h.later (Up.drew w)
/-- A drawn region. -/
theorem s_any {l : List Oper} {id : Nat} (n : Nat) (L0 : List LV) (hm : P.follows .mixedOrders = true) (hn : n ≤ l.length) (h0 : ∀ a w, St b N e a w → InvL L0 w) (h : aS P b Q N l.toArray (InvL L0) n (l.drop n).length n (Array.replicate l.toArray.size false) e) : cS P b (.region id l.toArray true) Q N e := fun a w hst => by
  refine wp_region_noPanic (wp_region_any hm ?_)
  obtain ⟨G, S, h1, h2, h3⟩ := hst
  have hd : St b N e a w.drew := ⟨G, S, h1, h2, h3.drew⟩
  have h4 := wpAny_of_K n _ a w.drew (h (Closed.none _) a w.drew hd (h0 a _ hd))
  have e1 : (l.drop n).length + n = l.toArray.size := by simp; omega
  rw [e1] at h4
  exact h4
/-- A slice of all of a variable's row. -/
theorem runO_all {N : Nat} {E : SE} {o : Oper} {x : Operand} {t e : TypeId} {j off n sz : Nat} (ho : o.op = .slice t x none none none) (ht : P.underlying t = some (.array n e)) (he : (P.info? e).map (·.size) = some sz) (hx : evS E x = some (.a j off)) :
    ∀ (G : Nat → Nat) (a : Act) (w : World), Fr N (denE G E) a → (execOp a.eval o).run P w = .ok (.value ((SV.s j off n n).den G)) w := fun G a w ha => by
  have h1 : a.eval x = .pointer (some ⟨G j, off, none⟩) := ha.eval (evS_ok hx)
  have h5 := run_sizeOf he w
  unfold execOp
  simp only [ho]
  generalize a.eval = ρ at *
  simp only [Option.map, h1]
  show _ = Result.ok (Next.value (.slice (some ⟨G j, off, none⟩) n n)) w
  simp [Instr.sliceAt, Instr.sureAddr, run_underlying ht, Instr.sliceBounds, h5, Sem.run_bind, Addr.add_mid]
theorem putL_same : ∀ {L : List LV} {j : Nat} {ps : List Pt}, lookL L j = some ps → putL L j ps = L
  | [], _, _, h => by cases h
  | x :: L, j, ps, h => by
    unfold lookL at h
    unfold putL
    split at h
    · injection h with h
      subst h
      rfl
    · exact congrArg (x :: ·) (putL_same h)
/-- copy(v[:], s), v a variable. -/
theorem l_copyV {o : Oper} {rest : List Oper} {d s : Operand} {k j n' c : Nat} {A : Option Addr} {z l : List UInt8} (hg : o.guard = none) (hd : o.dst = some k) (hk : Nat.blt k N = true) (ho : o.op = .call { callee := .builtin .copy, args := #[d, s], argTypes := #[35, 35] })
    (hx : evS E d = some (.s j 0 n' n')) (hy : evS E s = some (.v (.slice A l.length c))) (hl : lookL L j = some [.agg n' (By z).toArray]) (hz : z.length = n') (hle : l.length ≤ n') (hrd : ∀ G S w, View G S L R F M w → Rd 1 eB A c l w)
    (hn : lS Tryd.prog b ops Q N rest ⟨(k, .v (.int .i64 (l.length : Int))) :: E, putL L j [.agg n' (By (l ++ z.drop l.length)).toArray], R, F, M⟩) : lS Tryd.prog b ops Q N (o :: rest) ⟨E, L, R, F, M⟩ := fun a w ⟨G, S, h1, h2, h3⟩ => by
  have hR := hrd G S w h3.view
  have e1 : a.eval d = .slice (some ⟨G j, 0, none⟩) n' n' := h1.eval (evS_ok hx)
  have e2 : a.eval s = .slice A l.length c := h1.eval (evS_ok hy)
  by_cases h0 : l.length = 0
  · obtain rfl := List.eq_nil_of_length_eq_zero h0
    rw [putL_same (by rw [hl]; rfl)] at hn
    refine wpList_copy_nothing hg d s 35 35 ho 5 Tryd.underlying35 size_u8 _ _ _ _ _ _ e1 e2 (Nat.zero_min _) ?_
    rw [hd]
    exact hn _ w ⟨G, S, h1.put hk _, h2.cons trivial, h3⟩
  · obtain ⟨bb, oo, rfl, _, hcell⟩ := hR.2.2.2.2 (by omega)
    obtain ⟨u, hu, rfl, hps⟩ := lookL_mem hl
    have hb := h3.at u hu
    rw [hps] at hb
    have hok : OkP [Pt.agg n' (By (l ++ z.drop l.length)).toArray] := fun p hp => by
      rw [List.mem_singleton.1 hp]
      exact ⟨by rw [List.size_toArray, By_len, List.length_append, List.length_drop]; omega, By_one _⟩
    refine wpList_copy_own hg d s 35 35 ho 5 Tryd.underlying35 size_u8 (G u.j) 0 n' n' ⟨bb, oo, none⟩ l.length c e1 e2 (By z).toArray u.t hb (By l) (by rw [By_len]; exact (Nat.min_eq_left hle).symm) ?_ (by rw [By_len, List.size_toArray, By_len]; omega) (By_one l) ?_
    · intro i v hv
      obtain ⟨x, hx1, rfl⟩ := By_at hv
      have := hcell i x hx1 0 (.int .u8 (x.toNat : Int)) rfl
      rw [Addr.add_mid]
      simpa using this
    · have e : (By z).toArray.toList.take 0 ++ (By l ++ (By z).toArray.toList.drop (0 + (By l).length)) = By (l ++ z.drop l.length) := by
        simp [By]
      rw [e, hd, By_len]
      exact hn _ _ ⟨G, S, h1.put hk _, h2.cons trivial, h3.set (lookL_name hl) hok⟩
/-- The variables, with where they lie. -/
def withG (G : Nat → Nat) : List LV → List LV
  | [] => []
  | x :: L => { x with g := some (G x.j) } :: withG G L
theorem withG_names (G : Nat → Nat) : ∀ L : List LV, namesL (withG G L) = namesL L
  | [] => rfl
  | x :: L => congrArg (x.j :: ·) (withG_names G L)
theorem withG_mem {G : Nat → Nat} : ∀ {L : List LV} {x : LV}, x ∈ withG G L → ∃ y ∈ L, x = { y with g := some (G y.j) }
  | [], _, h => by cases h
  | y :: L, x, h => by
    rcases List.mem_cons.1 h with rfl | h
    · exact ⟨y, List.mem_cons_self, rfl⟩
    · obtain ⟨z, hz, e⟩ := withG_mem h
      exact ⟨z, List.mem_cons_of_mem _ hz, e⟩
theorem s_locs {c : Code} (h : ∀ G : Nat → Nat, cS P b c Q N ⟨E, withG G L, R, F, M⟩) : cS P b c Q N ⟨E, L, R, F, M⟩ := fun a w ⟨G, S, h1, h2, h3⟩ => by
  have hM : ∀ k, Mine S G (withG G L) k ↔ Mine S G L k := fun k => by unfold Mine; rw [withG_names]
  refine h G a w ⟨G, S, h1, h2, ⟨fun x hx => ?_, by rw [withG_names]; exact h3.apart, h3.res, by rw [withG_names]; exact h3.sep, h3.fact.less fun k _ hk => hk.imp id (hM k).1, h3.fresh.less fun k _ hk => hk.imp id (hM k).1, h3.chg, fun k hk => h3.mine k ((hM k).1 hk), h3.old⟩⟩
  obtain ⟨y, hy, rfl⟩ := withG_mem hx
  exact ⟨(h3.var y hy).1, (h3.var y hy).2.1, fun g hg => Option.some.inj hg⟩
/-- Where a variable lies is told no more. -/
def noG : List LV → List LV
  | [] => []
  | x :: L => { x with g := none } :: noG L
theorem noG_names : ∀ L : List LV, namesL (noG L) = namesL L
  | [] => rfl
  | x :: L => congrArg (x.j :: ·) (noG_names L)
theorem noG_mem : ∀ {L : List LV} {x : LV}, x ∈ noG L → ∃ y ∈ L, x = { y with g := none }
  | [], _, h => by cases h
  | y :: L, x, h => by
    rcases List.mem_cons.1 h with rfl | h
    · exact ⟨y, List.mem_cons_self, rfl⟩
    · obtain ⟨z, hz, e⟩ := noG_mem h
      exact ⟨z, List.mem_cons_of_mem _ hz, e⟩
theorem k_noloc {K : Act → World → Prop} (h : kS b K N ⟨E, noG L, R, F, M⟩) : kS b K N ⟨E, L, R, F, M⟩ := fun a w ⟨G, S, h1, h2, h3⟩ => by
  have hM : ∀ k, Mine S G (noG L) k ↔ Mine S G L k := fun k => by unfold Mine; rw [noG_names]
  refine h a w ⟨G, S, h1, h2, ⟨fun x hx => ?_, by rw [noG_names]; exact h3.apart, h3.res, by rw [noG_names]; exact h3.sep, h3.fact.less fun k _ hk => hk.imp id (hM k).1, h3.fresh.less fun k _ hk => hk.imp id (hM k).1, h3.chg, fun k hk => h3.mine k ((hM k).1 hk), h3.old⟩⟩
  obtain ⟨y, hy, rfl⟩ := noG_mem hx
  exact ⟨(h3.var y hy).1, (h3.var y hy).2.1, fun g hg => by cases hg⟩
end
end Go.Proofs.YtoecohpcnojokaaDoor
/-
  DIGESTS OF PARTS, over states: a slice of slices and the call that reads it.
-/
namespace Go.Proofs.YtoecohpcnojokaaDoor
open Go.RowKit Go.IntWalk

theorem flat_cells : ∀ {vs : List Value}, (∀ v ∈ vs, v.cells = #[v]) → (vs.flatMap fun v => v.cells.toList) = vs
  | [], _ => rfl
  | v :: vs, h => by
    rw [List.flatMap_cons, h v List.mem_cons_self, flat_cells fun u hu => h u (List.mem_cons_of_mem _ hu)]
    rfl
section
variable {T : List TyR} {b : Base} {ops : Array Oper} {Q : Exit → Act → World → Prop} {N : Nat} {E : SE} {L : List LV} {R : List Res} {F M : World → Prop} {o1 o2 : Oper} {rest : List Oper} {k1 k2 bs e : Nat}
/-- The parts' slice is built, and handed to a call that answers the row r. -/
theorem l_dig {f : FuncId} {n m t : Nat} {parts : Array (Nat × Operand)} {ats : Array TypeId} (hT : OkT Tryd.prog T) (vs : List SV) (ls : List (List UInt8)) (r : List UInt8) (hg1 : o1.guard = none) (hg2 : o2.guard = none) (hd1 : o1.dst = some k1) (hd2 : o2.dst = some k2) (hk1 : Nat.blt k1 N = true) (hk2 : Nat.blt k2 N = true)
    (ho1 : o1.op = .buildSlice t n parts) (ho2 : o2.op = .call { callee := .value (.func f), args := #[.tmp k1], argTypes := ats }) (hs : slS T t = some (e, 1, bs)) (hf : Own f)
    (hp : ∀ G : Nat → Nat, parts.toList.map (fun p => (p.1, (evS E p.2).map (SV.den G))) = ((vs.map (SV.den G)).zipIdx 0).map fun x => (x.2, some x.1)) (hn : vs.length = n) (h0 : 0 < n) (h24 : n ≤ 16777216) (hr : r.length = m)
    (hc : ∀ A w, PT w A ls → F w → M w → Calls Tryd.prog f #[.slice A n n] w fun e w' => e = .returned (.agg (By r).toArray) ∧ Below w.heap.size w w')
    (hrd : ∀ G S w, View G S L R F M w → All2 w (vs.map (SV.den G)) ls)
    (hnx : ∀ A, lS Tryd.prog b ops Q N rest ⟨(k2, .q (eY m r)) :: (k1, .v (.slice A n n)) :: E, L, R, F, M⟩) : lS Tryd.prog b ops Q N (o1 :: o2 :: rest) ⟨E, L, R, F, M⟩ := fun a w ⟨G, S, h1, h2, h3⟩ => by
  have hA := hrd G S w h3.view
  obtain ⟨ht, ie, z, hi, hz, hsz, hbs, hzs, _⟩ := slS_ok hT hs
  have hrun := run_lit (P := Tryd.prog) ht hi hz hsz (vs.map (SV.den G)) n (parts.map fun (i, x) => (i, a.eval x)) (by rw [Array.toList_map]; exact map_parts h1 _ _ (hp G)) (by rw [List.length_map, hn]) (by omega) (by omega) (fun v hv => by
    rw [(hA.one v hv).1]
    rfl) w
  rw [flat_cells fun v hv => (hA.one v hv).1] at hrun
  have hal := (Below.refl w.heap.size w).alloc (Nat.le_refl _) (.cells (vs.map (SV.den G)).toArray e)
  have hPT : PT (w.alloc (.cells (vs.map (SV.den G)).toArray e)) (some ⟨w.heap.size, 0, none⟩) ls := pt_of (Blk.new w e (vs.map (SV.den G)).toArray) (fun j v hj => by simpa using hj) (All2.later hal hA)
  have h4 := h3.later hal
  have h5 := h1.put hk1 (.slice (some ⟨w.heap.size, 0, none⟩) n n)
  refine wpl_go (v := .slice (some ⟨w.heap.size, 0, none⟩) n n) (w' := w.alloc (.cells (vs.map (SV.den G)).toArray e)) (oneS hg1) (by
    unfold execOp
    simp only [ho1, Sem.run_bind, hrun, Result.andThen_ok, Sem.run_pure]) ?_
  rw [hd1]
  have hr2 := call_run (E := (k1, .v (.slice (some ⟨w.heap.size, 0, none⟩) n n)) :: E) (svs := [.v (.slice (some ⟨w.heap.size, 0, none⟩) n n)]) (w := w.alloc (.cells (vs.map (SV.den G)).toArray e)) hf ho2 (by simp [evSs, evS, lookS]) h5
  unfold wpList
  rw [if_pos (by simp [Region.wanted, hg2])]
  refine .inl ?_
  unfold Oper.wp
  rw [hr2]
  simp only [Oper.upon, hd2]
  refine (hc _ _ hPT h4.view.fact h4.view.fresh).mono ?_
  rintro e' w' ⟨rfl, hb⟩
  have h6 : OkE ((k1, .v (.slice (some ⟨w.heap.size, 0, none⟩) n n)) :: E) := h2.cons trivial
  exact hnx (some ⟨w.heap.size, 0, none⟩) _ w' ⟨G, S, h5.put hk2 _, h6.cons (v := .q (eY m r)) (eY_ok hr).1, h4.later hb⟩
/-- The whole of a variable's row. -/
theorem sb_var {j n : Nat} {l : List UInt8} (hj : lookL L j = some [.agg n (By l).toArray]) (hl : l.length = n) (hm : n ≤ 9223372036854775807) : ∀ G S w, View G S L R F M w → SB w ((SV.s j 0 n n).den G) l := fun G S w hv => by
  obtain ⟨z, hz, rfl, hps⟩ := lookL_mem hj
  have hb := (hv.var z hz).1
  rw [hps] at hb
  exact SB.all hb hl hm
end
end Go.Proofs.YtoecohpcnojokaaDoor
/-
  BYTES OF A NUMBER, ONE BY ONE.
-/
namespace Go.Proofs.YtoecohpcnojokaaDoor
open Go.RowKit Go.IntWalk

theorem bytes_get : ∀ (k v : Nat) {m : Nat}, m < k → ((Nums.bytes k v)[m]!).toNat = v / 256 ^ m % 256
  | k + 1, v, 0, _ => by
    show (UInt8.ofNat v).toNat = v / 1 % 256
    rw [UInt8.toNat_ofNat', Nat.div_one]
  | k + 1, v, m + 1, h => by
    have ih := bytes_get k (v / 256) (m := m) (by omega)
    show ((Nums.bytes k (v / 256))[m]!).toNat = v / 256 ^ (m + 1) % 256
    rw [ih, Nat.div_div_eq_div_mul, Nat.pow_succ, Nat.mul_comm 256]

end Go.Proofs.YtoecohpcnojokaaDoor
/-
  THE DOCUMENT'S OWN DIGESTS: turn, three, cut.
-/
namespace Go.Proofs.YtoecohpcnojokaaDoor
open Go.RowKit Go.IntWalk Nums

theorem rot_sum (w n x : Nat) (hn : n ≤ w) (hx : x < 2 ^ w) : x * 2 ^ (w - n) % 2 ^ w = x % 2 ^ n * 2 ^ (w - n) ∧ x / 2 ^ n < 2 ^ (w - n) := by
  have e : (2 : Nat) ^ w = 2 ^ n * 2 ^ (w - n) := by rw [← Nat.pow_add, Nat.add_sub_cancel' hn]
  refine ⟨?_, Nat.div_lt_of_lt_mul (by rw [← e]; exact hx)⟩
  rw [e, Nat.mul_mod_mul_right]

theorem rot_mod32 (x n : Nat) (hx : x < 4294967296) (hn : n < 32) : (x * 2 ^ (32 - n) + x / 2 ^ n) % 4294967296 = rotw 32 n x := by
  obtain ⟨e1, e2⟩ := rot_sum 32 n x (by omega) hx
  have h4 : x % 2 ^ n + 1 ≤ 2 ^ n := Nat.mod_lt _ (Nat.two_pow_pos n)
  have h5 := Nat.mul_le_mul_right (2 ^ (32 - n)) h4
  have h6 : (2 : Nat) ^ n * 2 ^ (32 - n) = 4294967296 := by
    rw [← Nat.pow_add, Nat.add_sub_cancel' (show n ≤ 32 by omega)]
  rw [h6, Nat.add_mul, Nat.one_mul] at h5
  rw [show (2 : Nat) ^ 32 = 4294967296 from rfl] at e1
  unfold rotw
  generalize x / 2 ^ n = d at *
  generalize x * 2 ^ (32 - n) = y at *
  generalize x % 2 ^ n * 2 ^ (32 - n) = z at *
  generalize (2 : Nat) ^ (32 - n) = c at *
  omega

set_option maxRecDepth 100000 in
set_option maxHeartbeats 1000000 in
theorem rturn32_f (x n : Nat) (hx : x < 4294967296) (hn : n < 32) (w : World) :
    Calls Tryd.prog 74 #[.int .u64 (x : Int), .int .u64 (n : Int), .int .u64 32] w fun e w' => e = .returned (.int .u64 ((rotw 32 n x : Nat) : Int)) ∧ w' = w := by
  obtain ⟨e1, e2⟩ := rot_sum 32 n x (by omega) hx
  have hp : (2 : Nat) ^ (32 - n) ≤ 2 ^ 32 := Nat.pow_le_pow_right (by decide) (by omega)
  have hb : x * 2 ^ (32 - n) < 18446744073709551616 := by
    have h1 := Nat.mul_le_mul (show x ≤ 4294967295 by omega) hp
    have : (4294967295 : Nat) * 2 ^ 32 < 18446744073709551616 := by decide
    omega
  have q3 : IntKind.u64.wrap ((x : Int) * 2 ^ (32 - n)) = ((x * 2 ^ (32 - n) : Nat) : Int) := by
    rw [show ((x : Int) * 2 ^ (32 - n)) = ((x * 2 ^ (32 - n) : Nat) : Int) by simp]
    exact wrapN _ hb
  have q4 : IntKind.u64.wrap (32 - (n : Int)) = ((32 - n : Nat) : Int) := by
    rw [IntKind.wrap_u64]
    omega
  have f1 : ((x : Int) / 2 ^ n) = ((x / 2 ^ n : Nat) : Int) := by simp
  have hd : x / 2 ^ n < 18446744073709551616 := Nat.lt_of_le_of_lt (Nat.div_le_self _ _) (by omega)
  have q5 : bits .or .u64 ((x / 2 ^ n : Nat) : Int) ((x * 2 ^ (32 - n) : Nat) : Int) = ((x * 2 ^ (32 - n) + x / 2 ^ n : Nat) : Int) := by
    rw [u64_or_nat _ _ hd hb, Nat.or_comm, nat_join (32 - n) _ _ (Nat.mul_mod_left _ _) e2]
  have q6 := rot_mod32 x n hx hn
  have q7 : ((x * 2 ^ (32 - n) + x / 2 ^ n : Nat) : Int).tmod 4294967296 = ((rotw 32 n x : Nat) : Int) := by
    rw [← q6]
    rfl
  have g1 : ((32 - n : Nat) : Int) ≤ 64 := by omega
  have g2 : (n : Int) ≤ 64 := by omega
  clear e1 e2 hb hd q6 hp
  generalize rotw 32 n x = r at *
  generalize x * 2 ^ (32 - n) + x / 2 ^ n = y at *
  generalize x * 2 ^ (32 - n) = m at *
  generalize x / 2 ^ n = d at *
  generalize hs : 32 - n = s at *
  clear hs
  go_enter Tryd.func74, Tryd.ntmps74
  go_wp2
  go_ret
  exact ⟨rfl, rfl⟩

theorem own_rthree : Own 67 := fun _ _ => by go_simp
theorem own_rcut : Own 66 := fun _ _ => by go_simp
theorem own_rcube : Own 68 := fun _ _ => by go_simp
theorem own_rsquare : Own 65 := fun _ _ => by go_simp

set_option maxRecDepth 100000 in
set_option maxHeartbeats 1000000 in
theorem rcut32_f (x : Nat) (w : World) : Calls Tryd.prog 66 #[.int .u64 (x : Int), .int .u64 32] w fun e w' => e = .returned (.int .u64 ((x % 4294967296 : Nat) : Int)) ∧ w' = w := by
  have q : (x : Int).tmod 4294967296 = ((x % 4294967296 : Nat) : Int) := rfl
  generalize x % 4294967296 = y at *
  go_enter Tryd.func66, Tryd.ntmps66
  go_wp2
  go_ret
  exact ⟨rfl, rfl⟩

set_option maxRecDepth 100000 in
set_option maxHeartbeats 2000000 in
theorem rcube_f (i : Nat) (hi : i < 80) (w : World) :
    Calls Tryd.prog 68 #[.int .i64 (i : Int)] w fun e w' => e = .returned (.int .u64 (cbs[i]! : Nat)) ∧ Below w.heap.size w w' := by
  go_enter Tryd.func68, Tryd.ntmps68
  go_wp2
  go_ret
  refine ⟨?_, (Below.refl _ _).alloc (Nat.le_refl _) _⟩
  have hod : i < cbs.length := hi
  have e : (Us cbs)[i]'(by rw [Us_len]; exact hod) = .int .u64 (cbs[i]! : Nat) := by
    rw [getElem!_pos cbs i hod]
    simp [Us]
  exact congrArg Ending.returned e
set_option maxRecDepth 100000 in
set_option maxHeartbeats 2000000 in
theorem rsquare_f (i : Nat) (hi : i < 8) (w : World) :
    Calls Tryd.prog 65 #[.int .i64 (i : Int)] w fun e w' => e = .returned (.int .u64 (sqs[i]! : Nat)) ∧ Below w.heap.size w w' := by
  go_enter Tryd.func65, Tryd.ntmps65
  go_wp2
  go_ret
  refine ⟨?_, (Below.refl _ _).alloc (Nat.le_refl _) _⟩
  have hod : i < sqs.length := hi
  have e : (Us sqs)[i]'(by rw [Us_len]; exact hod) = .int .u64 (sqs[i]! : Nat) := by
    rw [getElem!_pos sqs i hod]
    simp [Us]
  exact congrArg Ending.returned e
end Go.Proofs.YtoecohpcnojokaaDoor
/-
  PLAIN NUMBERS: a number as four words of 64 bits; sums with carries; the number modulo L out of five words. No program is imported.
-/
namespace Nums

/-- Four words of 64 bits, the least first. -/
def ws (n : Nat) : List Nat := [n % 18446744073709551616, n / 18446744073709551616 % 18446744073709551616, n / 340282366920938463463374607431768211456 % 18446744073709551616, n / 6277101735386680763835789423207666416102355444464034512896 % 18446744073709551616]
/-- The number of four words. -/
def v4 (a b c d : Nat) : Nat := a + 18446744073709551616 * b + 340282366920938463463374607431768211456 * c + 6277101735386680763835789423207666416102355444464034512896 * d
/-! ### Rows whose first k words have turned -/
def mxl (f : Nat → Nat) (l : List Nat) (k : Nat) : List Nat := (List.range l.length).map fun j => if j < k then f j else l[j]!
theorem mxl_len (f : Nat → Nat) (l : List Nat) (k : Nat) : (mxl f l k).length = l.length := by simp [mxl]
theorem mxl_zero (f : Nat → Nat) (l : List Nat) : mxl f l 0 = l := by
  apply List.ext_getElem (by simp [mxl])
  intro i h1 h2
  simp [mxl, h2]
theorem mxl_get (f : Nat → Nat) (l : List Nat) {k : Nat} (h : k < l.length) : (mxl f l k)[k]! = l[k]! := by
  rw [getElem!_pos _ k (by rw [mxl_len]; exact h)]
  simp [mxl]
theorem mxl_set (f : Nat → Nat) (l : List Nat) {k : Nat} : (mxl f l k).set k (f k) = mxl f l (k + 1) := by
  apply List.ext_getElem (by simp [mxl])
  intro j h1 h2
  rw [List.getElem_set]
  simp only [mxl, List.getElem_map, List.getElem_range]
  by_cases hjk : k = j
  · subst hjk
    simp
  · rw [if_neg hjk]
    by_cases hlt : j < k
    · rw [if_pos hlt, if_pos (by omega)]
    · rw [if_neg hlt, if_neg (by omega)]

/-! ### Sums -/
/-! ### Five words modulo L -/
end Nums
/-
  THE DOCUMENT'S OWN DIGESTS: Digest with words of 64 bits: its loops, over frames of which a part is told: the schedule.
-/
namespace Go.Proofs.YtoecohpcnojokaaDoor
open Go.RowKit Go.IntWalk Nums

/-- The loops of a text, the outer ahead of the inner. -/
noncomputable def dl (k : Nat) : Code := ((Tryd.f54.body.map loopsOf).getD [])[k]?.getD .skip

theorem mxl_at {f : Nat → Nat} {l : List Nat} {k j : Nat} (h : j < k) (hj : j < l.length) : (mxl f l k)[j]! = f j := by
  rw [getElem!_pos _ j (by rw [mxl_len]; exact hj)]
  simp [mxl, h]


end Go.Proofs.YtoecohpcnojokaaDoor
/-
  THE DOCUMENT'S OWN DIGESTS: Digest with words of 64 bits: the rounds.
-/
namespace Go.Proofs.YtoecohpcnojokaaDoor
open Go.RowKit Go.IntWalk Nums

theorem not64d {e : Nat} (he : e < 18446744073709551616) : bits .xor .u64 (if IntKind.u64.signed = true then -1 else IntKind.u64.max) (e : Int) = ((2 ^ 64 - 1 - e : Nat) : Int) := by
  have h := u64_xor_nat 18446744073709551615 e (by omega) he
  have h2 : 18446744073709551615 ^^^ e = 2 ^ 64 - 1 - e := by
    apply Nat.eq_of_testBit_eq
    intro i
    rw [show 2 ^ 64 - 1 - e = 2 ^ 64 - (e + 1) by omega, Nat.testBit_two_pow_sub_succ he, Nat.testBit_xor, show 18446744073709551615 = 2 ^ 64 - 1 from rfl, Nat.testBit_two_pow_sub_one]
    by_cases hi : i < 64
    · simp [hi]
    · have h3 : e.testBit i = false := Nat.testBit_lt_two_pow (Nat.lt_of_lt_of_le he (Nat.pow_le_pow_right (n := 2) (by decide) (show 64 ≤ i by omega)))
      simp [hi, h3]
  rw [h2] at h
  exact h
theorem cbs_lt' {t : Nat} (h : t < 80) : cbs[t]! < 18446744073709551616 := by
  have h1 : ∀ x ∈ cbs, x < 18446744073709551616 := by decide
  have h2 : t < cbs.length := h
  rw [getElem!_pos cbs t h2]
  exact h1 _ (List.getElem_mem _)

end Go.Proofs.YtoecohpcnojokaaDoor
/-
  THE DOCUMENT'S OWN DIGESTS: Digest with words of 64 bits: a block's words, and the sums at a block's end.
-/
namespace Go.Proofs.YtoecohpcnojokaaDoor
open Go.RowKit Go.IntWalk Nums

end Go.Proofs.YtoecohpcnojokaaDoor
/-
  THE DOCUMENT'S OWN DIGESTS: Digest with words of 64 bits: the sums at a block's end.
-/
namespace Go.Proofs.YtoecohpcnojokaaDoor
open Go.RowKit Go.IntWalk Nums

theorem mxl8 (f : Nat → Nat) (a b c d e g h i : Nat) : mxl f [a, b, c, d, e, g, h, i] 8 = [f 0, f 1, f 2, f 3, f 4, f 5, f 6, f 7] := rfl
end Go.Proofs.YtoecohpcnojokaaDoor
/-
  THE DOCUMENT'S OWN DIGESTS: Digest with words of 64 bits: block behind block.
-/
namespace Go.Proofs.YtoecohpcnojokaaDoor
open Go.RowKit Go.IntWalk Nums


end Go.Proofs.YtoecohpcnojokaaDoor
/-
  THE DOCUMENT'S OWN DIGESTS: Digest with words of 64 bits: the message's end.
-/
namespace Go.Proofs.YtoecohpcnojokaaDoor
open Go.RowKit Go.IntWalk Nums

def pad (l : List UInt8) (k : Nat) : List UInt8 := l ++ 128 :: List.replicate k 0
theorem pad_len (l : List UInt8) (k : Nat) : (pad l k).length = l.length + 1 + k := by
  unfold pad
  rw [List.length_append, List.length_cons, List.length_replicate]
  omega
theorem pad_next (l : List UInt8) (k : Nat) : By (pad l k) ++ [.int .u8 0] = By (pad l (k + 1)) := by
  have e : pad l (k + 1) = pad l k ++ [0] := by
    unfold pad
    rw [List.replicate_succ', List.append_assoc, List.cons_append]
  rw [e, By_app]
  rfl


/-! ### The length -/
theorem bytes_len : ∀ (k v : Nat), (Nums.bytes k v).length = k
  | 0, _ => rfl
  | k + 1, v => by
    show (Nums.bytes k (v / 256)).length + 1 = k + 1
    rw [bytes_len k]
theorem By_put (l : List UInt8) (k : Nat) (x : UInt8) : (By l).set k (.int .u8 (x.toNat : Int)) = By (l.set k x) := by
  simp [By, List.map_set]

end Go.Proofs.YtoecohpcnojokaaDoor
/-
  THE DOCUMENT'S OWN DIGESTS: Digest with words of 64 bits: the first words, and the words as bytes.
-/
namespace Go.Proofs.YtoecohpcnojokaaDoor
open Go.RowKit Go.IntWalk Nums

def z8 : List Nat := List.replicate 8 0
theorem z8_len : z8.length = 8 := rfl

/-! ### The words as bytes -/
theorem take_more {R : List UInt8} {n : Nat} (h : n < R.length) : R.take n ++ [R[n]!] = R.take (n + 1) := by
  rw [getElem!_pos R n h, List.take_add_one, List.getElem?_eq_getElem h]
  rfl

end Go.Proofs.YtoecohpcnojokaaDoor
/-
  THE DOCUMENT'S OWN DIGESTS: Digest with words of 64 bits, whole.
-/
namespace Go.Proofs.YtoecohpcnojokaaDoor
open Go.RowKit Go.IntWalk Nums

section
variable {ops : Array Oper} {C0 : World → Prop} {Q : Act → Prop} {N : Nat} {E : List (Nat × Value)} {o : Oper} {rest : List Oper} {k : Nat}
theorem f_eqlV {x y : Operand} {t : TypeId} (m n : Int) (q : Bool) (hg : o.guard = none) (hd : o.dst = some k) (hk : Nat.blt k N = true) (ho : o.op = .binOp .eql 123 x y t) (hx : ev E x = some (.int .u64 m)) (hy : ev E y = some (.int .u64 n))
    (hr : decide (m = n) = q) (hn : bF Tryd.prog ops C0 Q rest N ((k, .bool q) :: E)) : bF Tryd.prog ops C0 Q (o :: rest) N E :=
  f_val _ hg hd hk (fun a ha w _ => by
    have h1 := ha.eval hx
    have h2 := ha.eval hy
    subst hr
    unfold execOp
    simp only [ho, h1, h2]
    by_cases e : m = n <;> go_simp) hn
theorem f_quoV {x y : Operand} {t : TypeId} (m n r : Int) (hz : n ≠ 0) (hg : o.guard = none) (hd : o.dst = some k) (hk : Nat.blt k N = true) (ho : o.op = .binOp .quo 123 x y t) (hx : ev E x = some (.int .u64 m)) (hy : ev E y = some (.int .u64 n))
    (hr : IntKind.u64.wrap (m.tdiv n) = r) (hn : bF Tryd.prog ops C0 Q rest N ((k, .int .u64 r) :: E)) : bF Tryd.prog ops C0 Q (o :: rest) N E :=
  f_val _ hg hd hk (fun a ha w _ => by
    have h1 := ha.eval hx
    have h2 := ha.eval hy
    subst hr
    unfold execOp
    simp only [ho, h1, h2]
    go_simp) hn
theorem f_intV {x : Operand} (m r : Int) (hg : o.guard = none) (hd : o.dst = some k) (hk : Nat.blt k N = true) (ho : o.op = .convert 123 3 x) (hx : ev E x = some (.int .u64 m))
    (hr : IntKind.i64.wrap m = r) (hn : bF Tryd.prog ops C0 Q rest N ((k, .int .i64 r) :: E)) : bF Tryd.prog ops C0 Q (o :: rest) N E :=
  f_val _ hg hd hk (fun a ha w _ => by
    have h1 := ha.eval hx
    unfold execOp
    simp only [ho, h1]
    go_simp) hn
end
theorem run_slice12 (a b c d e f g h i j k l : Int) (w : World) :
    (Instr.buildSlice 133 12 #[(0, .int .u64 a), (1, .int .u64 b), (2, .int .u64 c), (3, .int .u64 d), (4, .int .u64 e), (5, .int .u64 f), (6, .int .u64 g), (7, .int .u64 h), (8, .int .u64 i), (9, .int .u64 j), (10, .int .u64 k), (11, .int .u64 l)]).run Tryd.prog w =
      .ok (.slice (some ⟨w.heap.size, 0, none⟩) 12 12) (w.alloc (.cells #[.int .u64 a, .int .u64 b, .int .u64 c, .int .u64 d, .int .u64 e, .int .u64 f, .int .u64 g, .int .u64 h, .int .u64 i, .int .u64 j, .int .u64 k, .int .u64 l] 123)) := by
  go_simp
section
variable {ops : Array Oper} {Q : Exit → Act → World → Prop} {N : Nat} {E : List (Nat × Value)} {w : World} {o : Oper} {rest : List Oper} {k : Nat}
theorem l_slice12 (a b c d e f g h i j k' l : Int) (hg : o.guard = none) (hd : o.dst = some k) (hk : Nat.blt k N = true)
    (ho : o.op = .buildSlice 133 12 #[(0, .const (.int .u64 a)), (1, .const (.int .u64 b)), (2, .const (.int .u64 c)), (3, .const (.int .u64 d)), (4, .const (.int .u64 e)), (5, .const (.int .u64 f)), (6, .const (.int .u64 g)), (7, .const (.int .u64 h)), (8, .const (.int .u64 i)), (9, .const (.int .u64 j)), (10, .const (.int .u64 k')), (11, .const (.int .u64 l))])
    (hn : lF Tryd.prog ops Q rest N ((k, .slice (some ⟨w.heap.size, 0, none⟩) 12 12) :: E) (w.alloc (.cells #[.int .u64 a, .int .u64 b, .int .u64 c, .int .u64 d, .int .u64 e, .int .u64 f, .int .u64 g, .int .u64 h, .int .u64 i, .int .u64 j, .int .u64 k', .int .u64 l] 123))) : lF Tryd.prog ops Q (o :: rest) N E w :=
  l_val _ hg hd hk (fun ac _ => by
    have hr := run_slice12 a b c d e f g h i j k' l w
    unfold execOp
    simp only [ho, List.map_toArray, List.map_cons, List.map_nil, Act.eval, Sem.run_bind, hr, Result.andThen_ok, Sem.run_pure]) hn
end

/-- The slice value '.slice A l.length d' reads the bytes l. -/
def RB (w : World) (A : Option Addr) (d : Nat) (l : List UInt8) : Prop := (A = none ∧ l = [] ∧ d = 0) ∨ ∃ ad, A = some ad ∧ ∀ j v, (By l)[j]? = some v → w.cell? (ad.add j) = some v
theorem RB.up {w w' : World} {A : Option Addr} {d : Nat} {l : List UInt8} (h : RB w A d l) (hu : Up w w') : RB w' A d l := by
  rcases h with h | ⟨ad, h1, h2⟩
  · exact .inl h
  · exact .inr ⟨ad, h1, fun j v hj => (hu.cell (World.block_lt_of_cell? w _ (h2 j v hj))).trans (h2 j v hj)⟩
section
variable {ops : Array Oper} {Q : Exit → Act → World → Prop} {N : Nat} {E : List (Nat × Value)} {w : World} {o : Oper} {rest : List Oper} {k : Nat}
/-- **append(s, b...)** of bytes, s the call's own, b any. -/
theorem l_appR {s x : Operand} {base c d : Nat} {A X : Option Addr} {xs l : List UInt8} (hg : o.guard = none) (hd : o.dst = some k) (hk : Nat.blt k N = true) (ho : o.op = .call { callee := .builtin .append, args := #[s, x], argTypes := #[35, 35] })
    (hs : ev E s = some (.slice A (By xs).length c)) (hx : ev E x = some (.slice X l.length d)) (hown : GS w base 5 A c (By xs)) (hR : RB w X d l) (hbytes : xs.length + l.length ≤ 140737488355328) (hbase : base ≤ w.heap.size)
    (hn : ∀ A' c' w', GS w' base 5 A' c' (By (xs ++ l)) → w.grownBy w' (A.map (·.block)) → lF Tryd.prog ops Q rest N ((k, .slice A' (By (xs ++ l)).length c') :: E) w') :
    lF Tryd.prog ops Q (o :: rest) N E w := by
  rcases hR with ⟨rfl, rfl, rfl⟩ | ⟨ad, rfl, h2⟩
  · obtain ⟨i, hi0, hz, hs0, hb⟩ := info_parts info_byte
    have hr := run_append_owned_none (P := Tryd.prog) w base 35 o.type 5 i 1 Tryd.underlying35 hi0 _ (By xs).length (By xs) hown
    have h1 := hn A c w (by rw [List.append_nil]; exact hown) (World.grownBy.refl _ _)
    rw [List.append_nil] at h1
    refine l_val _ hg hd hk (fun a ha => ?_) h1
    have h2 := ha.eval hs
    have h3 := ha.eval hx
    unfold execOp
    simp only [ho, resolve, invoke, builtin, Sem.run_bind, Sem.run_pure, Result.andThen_ok, List.map_toArray, List.map_cons, List.map_nil, h2, h3, List.length_nil, hr]
  · refine l_app (bytes := 1) (z := .int .u8 0) (news := By l) (base := base) (e := 5) (xs := By xs) (A := A) (c := c) (ad := ad) (m := l.length) (d := d) hg hd hk ho hs hx Tryd.underlying35 info_byte rfl hown (By_len l) h2 (By_one _) (by rw [By_len]; omega) (by rw [By_len]; unfold maxLen; omega) hbase ?_
    intro A' c' w' h3 h4 _
    rw [← By_app] at h3 ⊢
    exact hn A' c' w' h3 h4
end
end Go.Proofs.YtoecohpcnojokaaDoor
/-
  THE DOCUMENT'S OWN DIGESTS: Digest with words of 64 bits is SHA-512.
-/
namespace Go.Proofs.YtoecohpcnojokaaDoor
open Go.RowKit Go.IntWalk Nums

/-! ### The words as bytes -/

/-! ### The message's end -/
/-- Bytes of some capacity, the call's own. -/
def MadeB (w : World) (l : List UInt8) (e : Ending) (w' : World) : Prop :=
  ∃ A c, e = .returned (.slice A (By l).length c) ∧ GS w' w.heap.size 5 A c (By l) ∧ Below w.heap.size w w'
theorem GS.less {w : World} {base base' e c : Nat} {A : Option Addr} {xs : List Value} (h : GS w base e A c xs) (hb : base' ≤ base) : GS w base' e A c xs := by
  refine ⟨h.1, ?_⟩
  rcases h.2 with h1 | ⟨g, cap, cur, hv, hg, hr⟩
  · exact .inl h1
  · exact .inr ⟨g, cap, cur, hv, Nat.le_trans hb hg, hr⟩

end Go.Proofs.YtoecohpcnojokaaDoor
/-
  THE DOCUMENT'S OWN DIGESTS: Long: SHA-512 of parts.
-/
namespace Go.Proofs.YtoecohpcnojokaaDoor
open Go.RowKit Go.IntWalk Nums

section
variable {ops : Array Oper} {C0 : World → Prop} {Q : Act → Prop} {N : Nat} {E : List (Nat × Value)} {o : Oper} {rest : List Oper} {k : Nat}
theorem f_lenS {x : Operand} (p : Option Addr) (n c : Nat) (hg : o.guard = none) (hd : o.dst = some k) (hk : Nat.blt k N = true) (ho : o.op = .call { callee := .builtin .len, args := #[x], argTypes := #[121] }) (hx : ev E x = some (.slice p n c))
    (hn : bF Tryd.prog ops C0 Q rest N ((k, .int .i64 (n : Int)) :: E)) : bF Tryd.prog ops C0 Q (o :: rest) N E :=
  f_val _ hg hd hk (fun a ha w _ => by
    have h1 := ha.eval hx
    unfold execOp
    simp only [ho, resolve, invoke, builtin, Sem.run_bind, Sem.run_pure, Result.andThen_ok, List.map_toArray, List.map_cons, List.map_nil, h1]
    go_simp) hn
theorem f_idxS {x y : Operand} (ad : Addr) (n c i : Nat) (hi : i < n) (hg : o.guard = none) (hd : o.dst = some k) (hk : Nat.blt k N = true) (ho : o.op = .indexAddr 121 x y)
    (hx : ev E x = some (.slice (some ad) n c)) (hy : ev E y = some (.int .i64 (i : Int))) (hn : bF Tryd.prog ops C0 Q rest N ((k, .pointer (some (ad.add i))) :: E)) : bF Tryd.prog ops C0 Q (o :: rest) N E :=
  f_val _ hg hd hk (fun a ha w _ => by
    have h1 := ha.eval hx
    have h2 := ha.eval hy
    have h3 : (i : Int) < (n : Int) := by omega
    have h4 : (0 : Int) ≤ (i : Int) := by omega
    unfold execOp
    simp only [ho, h1, h2]
    go_simp) hn
theorem f_loadS {x : Operand} (p : Addr) (v : Value) (hg : o.guard = none) (hd : o.dst = some k) (hk : Nat.blt k N = true) (ho : o.op = .load 35 x) (hx : ev E x = some (.pointer (some p)))
    (hc : ∀ w, C0 w → w.cell? p = some v) (hn : bF Tryd.prog ops C0 Q rest N ((k, v) :: E)) : bF Tryd.prog ops C0 Q (o :: rest) N E :=
  f_val _ hg hd hk (fun a ha w hw => by
    have h1 := ha.eval hx
    have h2 := hc w hw
    unfold execOp
    simp only [ho, h1]
    go_simp) hn
end

theorem own_rdigest : Own 54 := fun _ _ => by go_simp
theorem flat_more (ls : List (List UInt8)) (k : Nat) (h : k < ls.length) : (ls.take (k + 1)).flatten = (ls.take k).flatten ++ ls[k] := by
  rw [List.take_succ_eq_append_getElem h, List.flatten_append, List.flatten_cons, List.flatten_nil, List.append_nil]
theorem flat_le (ls : List (List UInt8)) (k : Nat) : (ls.take k).flatten.length ≤ ls.flatten.length := by
  have h : ls.flatten = (ls.take k).flatten ++ (ls.drop k).flatten := by rw [← List.flatten_append, List.take_append_drop]
  rw [h, List.length_append]
  omega
end Go.Proofs.YtoecohpcnojokaaDoor
/-
  THE DOCUMENT'S OWN DIGESTS: three, with words of 32 bits.
-/
namespace Go.Proofs.YtoecohpcnojokaaDoor
open Go.RowKit Go.IntWalk Nums

theorem lt_64 {a : Nat} (h : a < 2 ^ 32) : a < 18446744073709551616 := Nat.lt_trans h (by decide)
theorem u64_xor_32 (a b : Nat) (ha : a < 2 ^ 32) (hb : b < 2 ^ 32) : bits .xor .u64 (a : Int) (b : Int) = ((a ^^^ b : Nat) : Int) := u64_xor_nat a b (lt_64 ha) (lt_64 hb)

set_option maxRecDepth 100000 in
set_option maxHeartbeats 1000000 in
theorem rbig32_f (x a b c : Nat) (hx : x < 4294967296) (ha : a < 32) (hb : b < 32) (hc : c < 32) (w : World) :
    Calls Tryd.prog 67 #[.int .u64 (x : Int), .int .u64 32, .int .u64 (a : Int), .int .u64 (b : Int), .int .u64 (c : Int), .bool false] w fun e w' => e = .returned (.int .u64 ((bigw 32 (a, b, c) x : Nat) : Int)) ∧ w' = w := by
  have r1 := rotw_lt (w := 32) (n := a) (x := x) (by omega) hx
  have r2 := rotw_lt (w := 32) (n := b) (x := x) (by omega) hx
  have r3 := rotw_lt (w := 32) (n := c) (x := x) (by omega) hx
  have R1 := fun w1 => Lib.hid (rturn32_f x a hx ha w1)
  have R2 := fun w1 => Lib.hid (rturn32_f x b hx hb w1)
  have R3 := fun w1 => Lib.hid (rturn32_f x c hx hc w1)
  have x1 := u64_xor_32 _ _ r1 r2
  have x2 := u64_xor_32 _ _ (xor_lt r1 r2) r3
  have e1 : bigw 32 (a, b, c) x = rotw 32 a x ^^^ rotw 32 b x ^^^ rotw 32 c x := rfl
  rw [← e1] at x2
  clear e1 r1 r2 r3
  generalize bigw 32 (a, b, c) x = z at *
  generalize rotw 32 a x ^^^ rotw 32 b x = y at *
  generalize rotw 32 a x = p1 at *
  generalize rotw 32 b x = p2 at *
  generalize rotw 32 c x = p3 at *
  go_enter Tryd.func67, Tryd.ntmps67
  go_wp2_with (fail)
  refine (R1 _).out.mono ?_
  rintro e w4 ⟨rfl, rfl⟩
  go_wp2_with (fail)
  refine (R2 _).out.mono ?_
  rintro e w4 ⟨rfl, rfl⟩
  go_wp2_with (fail)
  refine (R3 _).out.mono ?_
  rintro e w4 ⟨rfl, rfl⟩
  go_wp2_with (fail)
  go_ret
  exact ⟨rfl, rfl⟩

set_option maxRecDepth 100000 in
set_option maxHeartbeats 1000000 in
theorem rlow32_f (x a b c : Nat) (hx : x < 4294967296) (ha : a < 32) (hb : b < 32) (hc : c < 32) (w : World) :
    Calls Tryd.prog 67 #[.int .u64 (x : Int), .int .u64 32, .int .u64 (a : Int), .int .u64 (b : Int), .int .u64 (c : Int), .bool true] w fun e w' => e = .returned (.int .u64 ((loww 32 (a, b, c) x : Nat) : Int)) ∧ w' = w := by
  have r1 := rotw_lt (w := 32) (n := a) (x := x) (by omega) hx
  have r2 := rotw_lt (w := 32) (n := b) (x := x) (by omega) hx
  have r3 : x / 2 ^ c < 2 ^ 32 := Nat.lt_of_le_of_lt (Nat.div_le_self _ _) hx
  have R1 := fun w1 => Lib.hid (rturn32_f x a hx ha w1)
  have R2 := fun w1 => Lib.hid (rturn32_f x b hx hb w1)
  have x1 := u64_xor_32 _ _ r1 r2
  have x2 := u64_xor_32 _ _ (xor_lt r1 r2) r3
  have e1 : loww 32 (a, b, c) x = rotw 32 a x ^^^ rotw 32 b x ^^^ x / 2 ^ c := rfl
  rw [← e1] at x2
  clear e1 r1 r2 r3
  have f1 : ((x : Int) / 2 ^ c) = ((x / 2 ^ c : Nat) : Int) := by simp
  have g2 : (c : Int) ≤ 64 := by omega
  generalize loww 32 (a, b, c) x = z at *
  generalize rotw 32 a x ^^^ rotw 32 b x = y at *
  generalize rotw 32 a x = p1 at *
  generalize rotw 32 b x = p2 at *
  generalize x / 2 ^ c = p3 at *
  go_enter Tryd.func67, Tryd.ntmps67
  go_wp2_with (fail)
  refine (R1 _).out.mono ?_
  rintro e w4 ⟨rfl, rfl⟩
  go_wp2_with (fail)
  refine (R2 _).out.mono ?_
  rintro e w4 ⟨rfl, rfl⟩
  go_wp2_with (fail)
  go_ret
  exact ⟨rfl, rfl⟩

end Go.Proofs.YtoecohpcnojokaaDoor
/-
  THE DOCUMENT'S OWN DIGESTS: Digest with words of 32 bits: its loops, over frames of which a part is told: the schedule.
-/
namespace Go.Proofs.YtoecohpcnojokaaDoor
open Go.RowKit Go.IntWalk Nums

def n256 : List Nat := [2, 13, 22, 6, 11, 25, 7, 18, 3, 17, 19, 10]
def y64 : List Nat := List.replicate 64 0
theorem y64_len : y64.length = 64 := by decide

/-- What Digest's rows are: the message, the numbers of turns, the digest's words, the block's words. -/
structure DS32 (W0 w : World) (gm gn gh gx : Nat) (m : List UInt8) (h x : List Nat) : Prop where
  mm : VL w gm (By m)
  nn : VL w gn (Us n256)
  hh : VL w gh (Us h)
  xx : VL w gx (Us x)
  be : Below W0.heap.size W0 w
  ne : gm ≠ gh ∧ gm ≠ gx ∧ gn ≠ gh ∧ gn ≠ gx ∧ gh ≠ gx
  le : W0.heap.size ≤ gh ∧ W0.heap.size ≤ gx
section
variable {W0 w w' : World} {gm gn gh gx : Nat} {m : List UInt8} {h x : List Nat}
theorem DS32.up (d : DS32 W0 w gm gn gh gx m h x) (k : Up w w') : DS32 W0 w' gm gn gh gx m h x := ⟨d.mm.up k, d.nn.up k, d.hh.up k, d.xx.up k, below_up d.be k, d.ne, d.le⟩
theorem DS32.setX (d : DS32 W0 w gm gn gh gx m h x) (k v : Nat) : DS32 W0 (w.setCell ⟨gx, k, none⟩ (.int .u64 (v : Int))) gm gn gh gx m h (x.set k v) :=
  ⟨d.mm.far d.ne.2.1 _, d.nn.far d.ne.2.2.2.1 _, d.hh.far d.ne.2.2.2.2 _, by rw [← Us_put]; exact d.xx.set k _, d.be.setCell d.le.2 _, d.ne, d.le⟩
theorem DS32.setH (d : DS32 W0 w gm gn gh gx m h x) (k v : Nat) : DS32 W0 (w.setCell ⟨gh, k, none⟩ (.int .u64 (v : Int))) gm gn gh gx m (h.set k v) x :=
  ⟨d.mm.far d.ne.1 _, d.nn.far d.ne.2.2.1 _, by rw [← Us_put]; exact d.hh.set k _, d.xx.far (Ne.symm d.ne.2.2.2.2) _, d.be.setCell d.le.1 _, d.ne, d.le⟩
end

section
variable {W0 : World} {gm gn gh gx : Nat} {m : List UInt8} {h : List Nat} {b : List UInt8} {Q : Exit → Act → World → Prop}
/-- What is told of the frame in a block, and in the schedule's loop. -/
def FB32 (lm cm gm gn gh gx a : Nat) : List (Nat × Value) :=
  [(15, .slice (some ⟨gx, 0, none⟩) 64 64), (5, .slice (some ⟨gn, 0, none⟩) 12 12), (1, .int .u64 32), (6, .int .i64 64), (7, .int .i64 4),
    (8, .slice (some ⟨gm, 0, none⟩) lm cm), (12, .slice (some ⟨gh, 0, none⟩) 8 8), (14, .int .i64 (a : Int))]
def FS32 (lm cm gm gn gh gx a t : Nat) : List (Nat × Value) := (18, .int .i64 (t : Int)) :: FB32 lm cm gm gn gh gx a
set_option maxRecDepth 100000 in
set_option maxHeartbeats 4000000 in
theorem sched32 {w : World} (lm cm a : Nat) (F : Nat → Nat) (hlt : ∀ t, F t < 4294967296)
    (hrec : ∀ t, 16 ≤ t → F t = (loww 32 (17, 19, 10) (F (t - 2)) + F (t - 7) + loww 32 (7, 18, 3) (F (t - 15)) + F (t - 16)) % 4294967296)
    (h0 : DS32 W0 w gm gn gh gx m h (mxl F y64 16)) (hQ : ∀ c a d v w, Q (.panic c) (a.put d v) w → Q (.panic c) a w)
    (hend : ∀ w', DS32 W0 w' gm gn gh gx m h (mxl F y64 64) → kF (Q .normal) 359 (FS32 lm cm gm gn gh gx a 64) w') :
    cF Tryd.prog (.loop (dl 6)) (Exit.inBlock 12 Q) 359 (FS32 lm cm gm gn gh gx a 16) w := by
  refine c_loop (m := fun t : Nat => 64 - t) (F := FS32 lm cm gm gn gh gx a) (R := fun t w => 16 ≤ t ∧ t ≤ 64 ∧ DS32 W0 w gm gn gh gx m h (mxl F y64 t)) ?_ 16 ⟨by omega, by omega, h0⟩
  rintro t w ⟨h16, ht, hS⟩
  conv => arg 2; whnf
  refine c_seq fun K1 hK1 => ?_
  refine c_seq fun K2 hK2 => ?_
  refine c_qF ?_
  refine f_move (.int .i64 (t : Int)) rfl rfl rfl rfl rfl ?_
  refine f_move (.int .i64 64) rfl rfl rfl rfl rfl ?_
  by_cases htl : t < 64
  · refine f_lssI (t : Int) 64 true rfl rfl rfl rfl rfl rfl (decide_eq_true (by omega)) ?_
    refine f_end fun w1 hw1 => hK2 _ _ ?_
    refine c_cond true rfl ?_
    refine c_skip ?_
    refine hK1 _ _ ?_
    refine c_seq fun K3 hK3 => ?_
    refine c_block ?_
    have hS := hS.up hw1
    have hF := hrec t h16
    have hN := hS.up (Up.drew w1)
    have hl : (mxl F y64 t).length = 64 := by rw [mxl_len, y64_len]
    have c2 := hS.xx.word (j := t - 2) (by omega)
    have c7 := hS.xx.word (j := t - 7) (by omega)
    have c15 := hS.xx.word (j := t - 15) (by omega)
    have c16 := hS.xx.word (j := t - 16) (by omega)
    have ct := hS.xx.word (j := t) (by omega)
    have cf := hS.xx.free t (by rw [Us_len]; omega)
    rw [mxl_at (by omega) (by rw [y64_len]; omega)] at c2 c7 c15 c16
    have p2 := hlt (t - 2)
    have p7 := hlt (t - 7)
    have p15 := hlt (t - 15)
    have p16 := hlt (t - 16)
    have i2 : IntKind.i64.wrap ((t : Int) - 2) = ((t - 2 : Nat) : Int) := by rw [i64_left, wrap64_in _ (by omega)]; omega
    have i7 : IntKind.i64.wrap ((t : Int) - 7) = ((t - 7 : Nat) : Int) := by rw [i64_left, wrap64_in _ (by omega)]; omega
    have i15 : IntKind.i64.wrap ((t : Int) - 15) = ((t - 15 : Nat) : Int) := by rw [i64_left, wrap64_in _ (by omega)]; omega
    have i16 : IntKind.i64.wrap ((t : Int) - 16) = ((t - 16 : Nat) : Int) := by rw [i64_left, wrap64_in _ (by omega)]; omega
    have j2 : t - 2 < 64 := by omega
    have j7 : t - 7 < 64 := by omega
    have j15 : t - 15 < 64 := by omega
    have j16 : t - 16 < 64 := by omega
    have R1 := fun w1 => rlow32_f (F (t - 2)) 17 19 10 p2 (by decide) (by decide) (by decide) w1
    have R2 := fun w1 => rlow32_f (F (t - 15)) 7 18 3 p15 (by decide) (by decide) (by decide) w1
    have u2 := loww_lt (w := 32) (t := (17, 19, 10)) (x := F (t - 2)) (by decide) p2
    have u0 := loww_lt (w := 32) (t := (7, 18, 3)) (x := F (t - 15)) (by decide) p15
    have hset := mxl_set F y64 (k := t)
    generalize F (t - 2) = x2 at *
    generalize F (t - 7) = x7 at *
    generalize F (t - 15) = x15 at *
    generalize F (t - 16) = x16 at *
    generalize t - 2 = a2 at *
    generalize t - 7 = a7 at *
    generalize t - 15 = a15 at *
    generalize t - 16 = a16 at *
    generalize loww 32 (17, 19, 10) x2 = v1 at *
    generalize loww 32 (7, 18, 3) x15 = v0 at *
    have w1' : IntKind.u64.wrap ((v1 : Int) + (x7 : Int)) = ((v1 + x7 : Nat) : Int) := by rw [IntKind.wrap_u64]; omega
    have w2 : IntKind.u64.wrap (((v1 + x7 : Nat) : Int) + (v0 : Int)) = ((v1 + x7 + v0 : Nat) : Int) := by rw [IntKind.wrap_u64]; omega
    have w3 : IntKind.u64.wrap (((v1 + x7 + v0 : Nat) : Int) + (x16 : Int)) = ((v1 + x7 + v0 + x16 : Nat) : Int) := by rw [IntKind.wrap_u64]; omega
    have R3 := fun w1 => rcut32_f (v1 + x7 + v0 + x16) w1
    rw [← hF] at R3
    generalize v1 + x7 + v0 + x16 = z3 at *
    generalize v1 + x7 + v0 = z2 at *
    generalize v1 + x7 = z1 at *
    refine c_t 50 (by decide) (by kernel_rfl) (tail_ok (by kernel_rfl)) hQ ?_
    simp only [List.take_succ_cons, List.take_zero]
    -- walk sched32
    refine f_move (.slice (some ⟨gx, 0, none⟩) 64 64) rfl rfl rfl rfl rfl ?_
    refine f_move (.int .i64 (t : Int)) rfl rfl rfl rfl rfl ?_
    refine f_move (.slice (some ⟨gx, 0, none⟩) 64 64) rfl rfl rfl rfl rfl ?_
    refine f_move (.int .i64 (t : Int)) rfl rfl rfl rfl rfl ?_
    refine f_subI (t : Int) (2 : Int) (a2 : Int) rfl rfl rfl rfl rfl rfl i2 ?_
    refine f_idx0 gx 64 64 a2 (by omega) (by decide) rfl rfl rfl rfl rfl rfl ?_
    refine f_load ⟨gx, a2, none⟩ (.int .u64 (x2 : Int)) (by decide) rfl rfl rfl rfl rfl (fun _ h => (h.cell hS.xx.lt).trans c2) ?_
    refine f_move (.int .u64 32) rfl rfl rfl rfl rfl ?_
    refine f_move (.slice (some ⟨gn, 0, none⟩) 12 12) rfl rfl rfl rfl rfl ?_
    refine f_idx0 gn 12 12 9 (by decide) (by decide) rfl rfl rfl rfl rfl rfl ?_
    refine f_load ⟨gn, 9, none⟩ (.int .u64 ((17 : Nat) : Int)) (by decide) rfl rfl rfl rfl rfl (fun _ h => (hS.nn.up h).cell 9 _ rfl) ?_
    refine f_move (.slice (some ⟨gn, 0, none⟩) 12 12) rfl rfl rfl rfl rfl ?_
    refine f_idx0 gn 12 12 10 (by decide) (by decide) rfl rfl rfl rfl rfl rfl ?_
    refine f_load ⟨gn, 10, none⟩ (.int .u64 ((19 : Nat) : Int)) (by decide) rfl rfl rfl rfl rfl (fun _ h => (hS.nn.up h).cell 10 _ rfl) ?_
    refine f_move (.slice (some ⟨gn, 0, none⟩) 12 12) rfl rfl rfl rfl rfl ?_
    refine f_idx0 gn 12 12 11 (by decide) (by decide) rfl rfl rfl rfl rfl rfl ?_
    refine f_load ⟨gn, 11, none⟩ (.int .u64 ((10 : Nat) : Int)) (by decide) rfl rfl rfl rfl rfl (fun _ h => (hS.nn.up h).cell 11 _ rfl) ?_
    refine f_call #[.int .u64 (x2 : Int), .int .u64 32, .int .u64 ((17 : Nat) : Int), .int .u64 ((19 : Nat) : Int), .int .u64 ((10 : Nat) : Int), .bool true] (.int .u64 (v1 : Int)) rfl rfl rfl own_rthree (fun w _ => calls_still (R1 w)) rfl rfl ?_
    refine f_move (.slice (some ⟨gx, 0, none⟩) 64 64) rfl rfl rfl rfl rfl ?_
    refine f_move (.int .i64 (t : Int)) rfl rfl rfl rfl rfl ?_
    refine f_subI (t : Int) (7 : Int) (a7 : Int) rfl rfl rfl rfl rfl rfl i7 ?_
    refine f_idx0 gx 64 64 a7 (by omega) (by decide) rfl rfl rfl rfl rfl rfl ?_
    refine f_load ⟨gx, a7, none⟩ (.int .u64 (x7 : Int)) (by decide) rfl rfl rfl rfl rfl (fun _ h => (h.cell hS.xx.lt).trans c7) ?_
    refine f_addU (v1 : Int) (x7 : Int) (z1 : Int) rfl rfl rfl rfl rfl rfl w1' ?_
    refine f_move (.slice (some ⟨gx, 0, none⟩) 64 64) rfl rfl rfl rfl rfl ?_
    refine f_move (.int .i64 (t : Int)) rfl rfl rfl rfl rfl ?_
    refine f_subI (t : Int) (15 : Int) (a15 : Int) rfl rfl rfl rfl rfl rfl i15 ?_
    refine f_idx0 gx 64 64 a15 (by omega) (by decide) rfl rfl rfl rfl rfl rfl ?_
    refine f_load ⟨gx, a15, none⟩ (.int .u64 (x15 : Int)) (by decide) rfl rfl rfl rfl rfl (fun _ h => (h.cell hS.xx.lt).trans c15) ?_
    refine f_move (.int .u64 32) rfl rfl rfl rfl rfl ?_
    refine f_move (.slice (some ⟨gn, 0, none⟩) 12 12) rfl rfl rfl rfl rfl ?_
    refine f_idx0 gn 12 12 6 (by decide) (by decide) rfl rfl rfl rfl rfl rfl ?_
    refine f_load ⟨gn, 6, none⟩ (.int .u64 ((7 : Nat) : Int)) (by decide) rfl rfl rfl rfl rfl (fun _ h => (hS.nn.up h).cell 6 _ rfl) ?_
    refine f_move (.slice (some ⟨gn, 0, none⟩) 12 12) rfl rfl rfl rfl rfl ?_
    refine f_idx0 gn 12 12 7 (by decide) (by decide) rfl rfl rfl rfl rfl rfl ?_
    refine f_load ⟨gn, 7, none⟩ (.int .u64 ((18 : Nat) : Int)) (by decide) rfl rfl rfl rfl rfl (fun _ h => (hS.nn.up h).cell 7 _ rfl) ?_
    refine f_move (.slice (some ⟨gn, 0, none⟩) 12 12) rfl rfl rfl rfl rfl ?_
    refine f_idx0 gn 12 12 8 (by decide) (by decide) rfl rfl rfl rfl rfl rfl ?_
    refine f_load ⟨gn, 8, none⟩ (.int .u64 ((3 : Nat) : Int)) (by decide) rfl rfl rfl rfl rfl (fun _ h => (hS.nn.up h).cell 8 _ rfl) ?_
    refine f_call #[.int .u64 (x15 : Int), .int .u64 32, .int .u64 ((7 : Nat) : Int), .int .u64 ((18 : Nat) : Int), .int .u64 ((3 : Nat) : Int), .bool true] (.int .u64 (v0 : Int)) rfl rfl rfl own_rthree (fun w _ => calls_still (R2 w)) rfl rfl ?_
    refine f_addU (z1 : Int) (v0 : Int) (z2 : Int) rfl rfl rfl rfl rfl rfl w2 ?_
    refine f_move (.slice (some ⟨gx, 0, none⟩) 64 64) rfl rfl rfl rfl rfl ?_
    refine f_move (.int .i64 (t : Int)) rfl rfl rfl rfl rfl ?_
    refine f_subI (t : Int) (16 : Int) (a16 : Int) rfl rfl rfl rfl rfl rfl i16 ?_
    refine f_idx0 gx 64 64 a16 (by omega) (by decide) rfl rfl rfl rfl rfl rfl ?_
    refine f_load ⟨gx, a16, none⟩ (.int .u64 (x16 : Int)) (by decide) rfl rfl rfl rfl rfl (fun _ h => (h.cell hS.xx.lt).trans c16) ?_
    refine f_addU (z2 : Int) (x16 : Int) (z3 : Int) rfl rfl rfl rfl rfl rfl w3 ?_
    refine f_move (.int .u64 32) rfl rfl rfl rfl rfl ?_
    refine f_call #[.int .u64 (z3 : Int), .int .u64 32] (.int .u64 ((F t : Nat) : Int)) rfl rfl rfl own_rcut (fun w _ => calls_still (R3 w)) rfl rfl ?_
    refine f_idx0 gx 64 64 t htl (by decide) rfl rfl rfl rfl rfl rfl ?_
    -- end sched32
    refine f_store ⟨gx, t, none⟩ (F t : Int) _ (.inl ⟨rfl, rfl⟩) rfl rfl rfl rfl rfl ct cf hS.xx.lt fun w2 hw2 => ?_
    refine hK3 _ _ ?_
    refine c_qF ?_
    refine f_move (.int .i64 (t : Int)) rfl rfl rfl rfl rfl ?_
    refine f_addI (t : Int) 1 ((t + 1 : Nat) : Int) rfl rfl rfl rfl rfl rfl (by rw [i64_left, wrap64_in _ (by omega)]; omega) ?_
    refine f_assign (.int .i64 ((t + 1 : Nat) : Int)) rfl rfl rfl rfl rfl ?_
    refine f_end fun w3 hw3 => k_round (t + 1) ⟨rfl, rfl, rfl, rfl, rfl, rfl, rfl, rfl, rfl, trivial⟩ ⟨by omega, by omega, ?_⟩ (by omega)
    rw [← hset]
    exact ((hS.up hw2).setX t (F t)).up hw3
  · refine f_lssI (t : Int) 64 false rfl rfl rfl rfl rfl rfl (decide_eq_false (by omega)) ?_
    refine f_end fun w1 hw1 => hK2 _ _ ?_
    refine c_cond false rfl ?_
    refine c_exit ?_
    refine k_exit (id := 12) (Q := Q) ?_
    obtain rfl : t = 64 := by omega
    exact k_sub (E' := FS32 lm cm gm gn gh gx a 64) ⟨rfl, rfl, rfl, rfl, rfl, rfl, rfl, rfl, rfl, trivial⟩ (hend _ (hS.up hw1))
end
end Go.Proofs.YtoecohpcnojokaaDoor
/-
  THE DOCUMENT'S OWN DIGESTS: Digest with words of 32 bits: the rounds.
-/
namespace Go.Proofs.YtoecohpcnojokaaDoor
open Go.RowKit Go.IntWalk Nums

section
variable {W0 : World} {gm gn gh gx : Nat} {m : List UInt8} {hl : List Nat} {Q : Exit → Act → World → Prop}
def FR32 (lm cm gm gn gh gx a t gv cv : Nat) : List (Nat × Value) := (20, .int .i64 (t : Int)) :: (19, .slice (some ⟨gv, 0, none⟩) 8 cv) :: FB32 lm cm gm gn gh gx a
set_option maxRecDepth 100000 in
set_option maxHeartbeats 4000000 in
theorem rounds32 {w : World} (lm cm ac gv0 cv0 : Nat) (F : Nat → Nat) (hlt : ∀ t, F t < 4294967296) (R : Nat → Oct) (hO : ∀ t, OB 32 (R t)) (hstep : ∀ t, R (t + 1) = rnd s256 (cbs[t]! / 4294967296) (F t) (R t))
    (h0 : DS32 W0 w gm gn gh gx m hl (mxl F y64 64)) (hv0 : VL w gv0 (Us (R 0).list)) (hne0 : gv0 ≠ gh) (hQ : ∀ c a d v w, Q (.panic c) (a.put d v) w → Q (.panic c) a w)
    (hend : ∀ w' gv cv, DS32 W0 w' gm gn gh gx m hl (mxl F y64 64) → VL w' gv (Us (R 64).list) → gv ≠ gh → kF (Q .normal) 359 (FR32 lm cm gm gn gh gx ac 64 gv cv) w') :
    cF Tryd.prog (.loop (dl 7)) (Exit.inBlock 14 Q) 359 (FR32 lm cm gm gn gh gx ac 0 gv0 cv0) w := by
  refine c_loop (m := fun s : Nat × Nat × Nat => 64 - s.1) (F := fun s => FR32 lm cm gm gn gh gx ac s.1 s.2.1 s.2.2) (R := fun s w => s.1 ≤ 64 ∧ DS32 W0 w gm gn gh gx m hl (mxl F y64 64) ∧ VL w s.2.1 (Us (R s.1).list) ∧ s.2.1 ≠ gh) ?_ (0, gv0, cv0) ⟨by omega, h0, hv0, hne0⟩
  rintro ⟨t, gv, cv⟩ w ⟨ht, hS, hv, hne⟩
  dsimp only at ht hS hv hne ⊢
  conv => arg 2; whnf
  refine c_seq fun K1 hK1 => ?_
  refine c_seq fun K2 hK2 => ?_
  refine c_qF ?_
  refine f_move (.int .i64 (t : Int)) rfl rfl rfl rfl rfl ?_
  refine f_move (.int .i64 64) rfl rfl rfl rfl rfl ?_
  by_cases htl : t < 64
  · refine f_lssI (t : Int) 64 true rfl rfl rfl rfl rfl rfl (decide_eq_true (by omega)) ?_
    refine f_end fun w1 hw1 => hK2 _ _ ?_
    refine c_cond true rfl ?_
    refine c_skip ?_
    refine hK1 _ _ ?_
    refine c_seq fun K3 hK3 => ?_
    refine c_block ?_
    have hS := hS.up hw1
    have hv := hv.up hw1
    have hs := hstep t
    obtain ⟨ba, bb, bc, bd, be, bf, bg, bh⟩ := hO t
    have hX := hlt t
    have hKc := cbs_lt' (t := t) (by omega)
    have hKt : cbs[t]! / 4294967296 < 4294967296 := by omega
    have hsh : ((cbs[t]! : Nat) : Int) / 2 ^ 32 = ((cbs[t]! / 4294967296 : Nat) : Int) := by omega
    have cx := hS.xx.word (j := t) (by rw [mxl_len, y64_len]; exact htl)
    rw [mxl_at htl (by rw [y64_len]; exact htl)] at cx
    have RK := fun w1 => rcube_f t (by omega) w1
    have RC := fun (x : Nat) w1 => rcut32_f x w1
    generalize R t = q at *
    obtain ⟨a, b, c, d, e, f, g, h⟩ := q
    generalize F t = X at *
    generalize cbs[t]! / 4294967296 = Kt at *
    generalize cbs[t]! = Kc at *
    dsimp only at ba bb bc bd be bf bg bh hv
    have R1 := fun w1 => rbig32_f e 6 11 25 be (by decide) (by decide) (by decide) w1
    have R0 := fun w1 => rbig32_f a 2 13 22 ba (by decide) (by decide) (by decide) w1
    have hnew : rnd s256 Kt X ⟨a, b, c, d, e, f, g, h⟩ = ⟨(h + bigw 32 (6, 11, 25) e + chw 32 e f g + Kt + X + (bigw 32 (2, 13, 22) a + maw a b c)) % 4294967296, a, b, c, (d + (h + bigw 32 (6, 11, 25) e + chw 32 e f g + Kt + X)) % 4294967296, e, f, g⟩ := rfl
    rw [hnew] at hs
    clear hnew
    have u1 := bigw_lt (w := 32) (t := (6, 11, 25)) (x := e) (by decide) be
    have u0 := bigw_lt (w := 32) (t := (2, 13, 22)) (x := a) (by decide) ba
    have uc := chw_lt (w := 32) (e := e) (f := f) (g := g) be
    have um := maw_lt (w := 32) (a := a) (b := b) (c := c) ba bb
    generalize bigw 32 (6, 11, 25) e = s1 at *
    generalize bigw 32 (2, 13, 22) a = s0 at *
    have n1 := u64_and_nat e f (lt_64 be) (lt_64 bf)
    have n2 := u64_and_nat (2 ^ 32 - 1 - e) g (by omega) (lt_64 bg)
    have n3 : bits .or .u64 ((e &&& f : Nat) : Int) (((2 ^ 32 - 1 - e) &&& g : Nat) : Int) = ((chw 32 e f g : Nat) : Int) := by
      rw [u64_or_nat _ _ (lt_64 (and_lt (w := 32) be)) (lt_64 (and_lt (w := 32) (Nat.lt_of_le_of_lt (Nat.sub_le (2 ^ 32 - 1) e) (by decide)))), ch_or be]
    have n4 := u64_and_nat a b (lt_64 ba) (lt_64 bb)
    have n5 := u64_and_nat a c (lt_64 ba) (lt_64 bc)
    have n6 := u64_and_nat b c (lt_64 bb) (lt_64 bc)
    have n7 := u64_or_nat (a &&& b) (a &&& c) (lt_64 (and_lt (w := 32) ba)) (lt_64 (and_lt (w := 32) ba))
    have n8 : bits .or .u64 (((a &&& b) ||| (a &&& c) : Nat) : Int) ((b &&& c : Nat) : Int) = ((maw a b c : Nat) : Int) := by
      rw [u64_or_nat _ _ (lt_64 (Nat.or_lt_two_pow (n := 32) (and_lt (w := 32) ba) (and_lt (w := 32) ba))) (lt_64 (and_lt (w := 32) bb)), ma_or]
    have nn := not64d (lt_64 be)
    have hnc : (2 ^ 64 - 1 - e) % 4294967296 = 2 ^ 32 - 1 - e := by omega
    have RN := fun w1 => rcut32_f (2 ^ 64 - 1 - e) w1
    rw [hnc] at RN
    clear hnc
    generalize 2 ^ 64 - 1 - e = nl at *
    generalize chw 32 e f g = ch at *
    generalize maw a b c = ma at *
    generalize (a &&& b) ||| (a &&& c) = m4 at *
    generalize a &&& b = m1 at *
    generalize a &&& c = m2 at *
    generalize b &&& c = m3 at *
    generalize e &&& f = m5 at *
    generalize (2 ^ 32 - 1 - e) &&& g = m6 at *
    generalize 2 ^ 32 - 1 - e = ne at *
    obtain ⟨q1, hq1⟩ : ∃ z, z = h + s1 := ⟨_, rfl⟩
    obtain ⟨q2, hq2⟩ : ∃ z, z = q1 + ch := ⟨_, rfl⟩
    obtain ⟨q3, hq3⟩ : ∃ z, z = q2 + Kt := ⟨_, rfl⟩
    obtain ⟨q4, hq4⟩ : ∃ z, z = q3 + X := ⟨_, rfl⟩
    obtain ⟨q5, hq5⟩ : ∃ z, z = s0 + ma := ⟨_, rfl⟩
    obtain ⟨p6, hp6⟩ : ∃ z, z = d + q4 := ⟨_, rfl⟩
    obtain ⟨p7, hp7⟩ : ∃ z, z = q4 + q5 := ⟨_, rfl⟩
    have t1 : IntKind.u64.wrap ((h : Int) + (s1 : Int)) = (q1 : Int) := by rw [IntKind.wrap_u64]; omega
    have t2 : IntKind.u64.wrap ((q1 : Int) + (ch : Int)) = (q2 : Int) := by rw [IntKind.wrap_u64]; omega
    have t3 : IntKind.u64.wrap ((q2 : Int) + (Kt : Int)) = (q3 : Int) := by rw [IntKind.wrap_u64]; omega
    have t4 : IntKind.u64.wrap ((q3 : Int) + (X : Int)) = (q4 : Int) := by rw [IntKind.wrap_u64]; omega
    have t5 : IntKind.u64.wrap ((s0 : Int) + (ma : Int)) = (q5 : Int) := by rw [IntKind.wrap_u64]; omega
    have t6 : IntKind.u64.wrap ((d : Int) + (q4 : Int)) = (p6 : Int) := by rw [IntKind.wrap_u64]; omega
    have t7 : IntKind.u64.wrap ((q4 : Int) + (q5 : Int)) = (p7 : Int) := by rw [IntKind.wrap_u64]; omega
    have h6 : d + (h + s1 + ch + Kt + X) = p6 := by omega
    have h7 : h + s1 + ch + Kt + X + (s0 + ma) = p7 := by omega
    rw [h6, h7] at hs
    have R6 := fun w1 => rcut32_f p6 w1
    have R7 := fun w1 => rcut32_f p7 w1
    generalize p6 % 4294967296 = q6 at *
    generalize p7 % 4294967296 = q7 at *
    clear hq1 hq2 hq3 hq4 hq5 hp6 hp7 h6 h7
    refine c_seq fun K4 hK4 => ?_
    refine c_q (by kernel_rfl) (tail_ok (by kernel_rfl)) hQ ?_
    -- walk ch32
    refine f_move (.slice (some ⟨gv, 0, none⟩) 8 cv) rfl rfl rfl rfl rfl ?_
    refine f_idx0 gv 8 cv 4 (by decide) (by decide) rfl rfl rfl rfl rfl rfl ?_
    refine f_load ⟨gv, 4, none⟩ (.int .u64 (e : Int)) (by decide) rfl rfl rfl rfl rfl (fun _ h => (h.cell hv.lt).trans (hv.cell 4 _ rfl)) ?_
    refine f_move (.slice (some ⟨gv, 0, none⟩) 8 cv) rfl rfl rfl rfl rfl ?_
    refine f_idx0 gv 8 cv 5 (by decide) (by decide) rfl rfl rfl rfl rfl rfl ?_
    refine f_load ⟨gv, 5, none⟩ (.int .u64 (f : Int)) (by decide) rfl rfl rfl rfl rfl (fun _ h => (h.cell hv.lt).trans (hv.cell 5 _ rfl)) ?_
    refine f_andU (e : Int) (f : Int) (m5 : Int) rfl rfl rfl rfl rfl rfl n1 ?_
    refine f_move (.slice (some ⟨gv, 0, none⟩) 8 cv) rfl rfl rfl rfl rfl ?_
    refine f_idx0 gv 8 cv 4 (by decide) (by decide) rfl rfl rfl rfl rfl rfl ?_
    refine f_load ⟨gv, 4, none⟩ (.int .u64 (e : Int)) (by decide) rfl rfl rfl rfl rfl (fun _ h => (h.cell hv.lt).trans (hv.cell 4 _ rfl)) ?_
    refine f_notU (e : Int) (nl : Int) rfl rfl rfl rfl rfl nn ?_
    refine f_move (.int .u64 32) rfl rfl rfl rfl rfl ?_
    refine f_call #[.int .u64 (nl : Int), .int .u64 32] (.int .u64 (ne : Int)) rfl rfl rfl own_rcut (fun w _ => calls_still (RN w)) rfl rfl ?_
    refine f_move (.slice (some ⟨gv, 0, none⟩) 8 cv) rfl rfl rfl rfl rfl ?_
    refine f_idx0 gv 8 cv 6 (by decide) (by decide) rfl rfl rfl rfl rfl rfl ?_
    refine f_load ⟨gv, 6, none⟩ (.int .u64 (g : Int)) (by decide) rfl rfl rfl rfl rfl (fun _ h => (h.cell hv.lt).trans (hv.cell 6 _ rfl)) ?_
    refine f_andU (ne : Int) (g : Int) (m6 : Int) rfl rfl rfl rfl rfl rfl n2 ?_
    refine f_orU (m5 : Int) (m6 : Int) (ch : Int) rfl rfl rfl rfl rfl rfl n3 ?_
    refine f_assign (.int .u64 (ch : Int)) rfl rfl rfl rfl rfl ?_
    -- end ch32
    refine f_end fun w2 hw2 => ?_
    refine k_sub (E' := (21, .int .u64 (ch : Int)) :: FR32 lm cm gm gn gh gx ac t gv cv) ⟨rfl, rfl, rfl, rfl, rfl, rfl, rfl, rfl, rfl, rfl, rfl, trivial⟩ ?_
    refine hK4 _ _ ?_
    replace cx := (hw2.cell (by exact hS.xx.lt)).trans cx
    have hS := hS.up hw2
    have hv := hv.up hw2
    refine c_seq fun K5 hK5 => ?_
    refine c_q (by kernel_rfl) (tail_ok (by kernel_rfl)) hQ ?_
    -- walk maj32
    refine f_move (.slice (some ⟨gv, 0, none⟩) 8 cv) rfl rfl rfl rfl rfl ?_
    refine f_idx0 gv 8 cv 0 (by decide) (by decide) rfl rfl rfl rfl rfl rfl ?_
    refine f_load ⟨gv, 0, none⟩ (.int .u64 (a : Int)) (by decide) rfl rfl rfl rfl rfl (fun _ h => (h.cell hv.lt).trans (hv.cell 0 _ rfl)) ?_
    refine f_move (.slice (some ⟨gv, 0, none⟩) 8 cv) rfl rfl rfl rfl rfl ?_
    refine f_idx0 gv 8 cv 1 (by decide) (by decide) rfl rfl rfl rfl rfl rfl ?_
    refine f_load ⟨gv, 1, none⟩ (.int .u64 (b : Int)) (by decide) rfl rfl rfl rfl rfl (fun _ h => (h.cell hv.lt).trans (hv.cell 1 _ rfl)) ?_
    refine f_andU (a : Int) (b : Int) (m1 : Int) rfl rfl rfl rfl rfl rfl n4 ?_
    refine f_move (.slice (some ⟨gv, 0, none⟩) 8 cv) rfl rfl rfl rfl rfl ?_
    refine f_idx0 gv 8 cv 0 (by decide) (by decide) rfl rfl rfl rfl rfl rfl ?_
    refine f_load ⟨gv, 0, none⟩ (.int .u64 (a : Int)) (by decide) rfl rfl rfl rfl rfl (fun _ h => (h.cell hv.lt).trans (hv.cell 0 _ rfl)) ?_
    refine f_move (.slice (some ⟨gv, 0, none⟩) 8 cv) rfl rfl rfl rfl rfl ?_
    refine f_idx0 gv 8 cv 2 (by decide) (by decide) rfl rfl rfl rfl rfl rfl ?_
    refine f_load ⟨gv, 2, none⟩ (.int .u64 (c : Int)) (by decide) rfl rfl rfl rfl rfl (fun _ h => (h.cell hv.lt).trans (hv.cell 2 _ rfl)) ?_
    refine f_andU (a : Int) (c : Int) (m2 : Int) rfl rfl rfl rfl rfl rfl n5 ?_
    refine f_orU (m1 : Int) (m2 : Int) (m4 : Int) rfl rfl rfl rfl rfl rfl n7 ?_
    refine f_move (.slice (some ⟨gv, 0, none⟩) 8 cv) rfl rfl rfl rfl rfl ?_
    refine f_idx0 gv 8 cv 1 (by decide) (by decide) rfl rfl rfl rfl rfl rfl ?_
    refine f_load ⟨gv, 1, none⟩ (.int .u64 (b : Int)) (by decide) rfl rfl rfl rfl rfl (fun _ h => (h.cell hv.lt).trans (hv.cell 1 _ rfl)) ?_
    refine f_move (.slice (some ⟨gv, 0, none⟩) 8 cv) rfl rfl rfl rfl rfl ?_
    refine f_idx0 gv 8 cv 2 (by decide) (by decide) rfl rfl rfl rfl rfl rfl ?_
    refine f_load ⟨gv, 2, none⟩ (.int .u64 (c : Int)) (by decide) rfl rfl rfl rfl rfl (fun _ h => (h.cell hv.lt).trans (hv.cell 2 _ rfl)) ?_
    refine f_andU (b : Int) (c : Int) (m3 : Int) rfl rfl rfl rfl rfl rfl n6 ?_
    refine f_orU (m4 : Int) (m3 : Int) (ma : Int) rfl rfl rfl rfl rfl rfl n8 ?_
    refine f_assign (.int .u64 (ma : Int)) rfl rfl rfl rfl rfl ?_
    -- end maj32
    refine f_end fun w3 hw3 => ?_
    refine k_sub (E' := (22, .int .u64 (ma : Int)) :: (21, .int .u64 (ch : Int)) :: FR32 lm cm gm gn gh gx ac t gv cv) ⟨rfl, rfl, rfl, rfl, rfl, rfl, rfl, rfl, rfl, rfl, rfl, rfl, trivial⟩ ?_
    refine hK5 _ _ ?_
    replace cx := (hw3.cell (by exact hS.xx.lt)).trans cx
    have hS := hS.up hw3
    have hv := hv.up hw3
    refine c_seq fun K6 hK6 => ?_
    refine c_q (by kernel_rfl) (tail_ok (by kernel_rfl)) hQ ?_
    -- walk t132
    refine f_move (.slice (some ⟨gv, 0, none⟩) 8 cv) rfl rfl rfl rfl rfl ?_
    refine f_idx0 gv 8 cv 7 (by decide) (by decide) rfl rfl rfl rfl rfl rfl ?_
    refine f_load ⟨gv, 7, none⟩ (.int .u64 (h : Int)) (by decide) rfl rfl rfl rfl rfl (fun _ h => (h.cell hv.lt).trans (hv.cell 7 _ rfl)) ?_
    refine f_move (.slice (some ⟨gv, 0, none⟩) 8 cv) rfl rfl rfl rfl rfl ?_
    refine f_idx0 gv 8 cv 4 (by decide) (by decide) rfl rfl rfl rfl rfl rfl ?_
    refine f_load ⟨gv, 4, none⟩ (.int .u64 (e : Int)) (by decide) rfl rfl rfl rfl rfl (fun _ h => (h.cell hv.lt).trans (hv.cell 4 _ rfl)) ?_
    refine f_move (.int .u64 32) rfl rfl rfl rfl rfl ?_
    refine f_move (.slice (some ⟨gn, 0, none⟩) 12 12) rfl rfl rfl rfl rfl ?_
    refine f_idx0 gn 12 12 3 (by decide) (by decide) rfl rfl rfl rfl rfl rfl ?_
    refine f_load ⟨gn, 3, none⟩ (.int .u64 ((6 : Nat) : Int)) (by decide) rfl rfl rfl rfl rfl (fun _ h => (hS.nn.up h).cell 3 _ rfl) ?_
    refine f_move (.slice (some ⟨gn, 0, none⟩) 12 12) rfl rfl rfl rfl rfl ?_
    refine f_idx0 gn 12 12 4 (by decide) (by decide) rfl rfl rfl rfl rfl rfl ?_
    refine f_load ⟨gn, 4, none⟩ (.int .u64 ((11 : Nat) : Int)) (by decide) rfl rfl rfl rfl rfl (fun _ h => (hS.nn.up h).cell 4 _ rfl) ?_
    refine f_move (.slice (some ⟨gn, 0, none⟩) 12 12) rfl rfl rfl rfl rfl ?_
    refine f_idx0 gn 12 12 5 (by decide) (by decide) rfl rfl rfl rfl rfl rfl ?_
    refine f_load ⟨gn, 5, none⟩ (.int .u64 ((25 : Nat) : Int)) (by decide) rfl rfl rfl rfl rfl (fun _ h => (hS.nn.up h).cell 5 _ rfl) ?_
    refine f_call #[.int .u64 (e : Int), .int .u64 32, .int .u64 ((6 : Nat) : Int), .int .u64 ((11 : Nat) : Int), .int .u64 ((25 : Nat) : Int), .bool false] (.int .u64 (s1 : Int)) rfl rfl rfl own_rthree (fun w _ => calls_still (R1 w)) rfl rfl ?_
    refine f_addU (h : Int) (s1 : Int) (q1 : Int) rfl rfl rfl rfl rfl rfl t1 ?_
    refine f_move (.int .u64 (ch : Int)) rfl rfl rfl rfl rfl ?_
    refine f_addU (q1 : Int) (ch : Int) (q2 : Int) rfl rfl rfl rfl rfl rfl t2 ?_
    refine f_move (.int .i64 (t : Int)) rfl rfl rfl rfl rfl ?_
    refine f_call #[.int .i64 (t : Int)] (.int .u64 (Kc : Int)) rfl rfl rfl own_rcube (fun w _ => RK w) rfl rfl ?_
    refine f_move (.int .u64 32) rfl rfl rfl rfl rfl ?_
    refine f_subV (64 : Int) 32 32 rfl rfl rfl rfl rfl rfl (by decide) ?_
    refine f_shrU (Kc : Int) 32 (Kt : Int) (by omega) rfl rfl rfl rfl rfl rfl hsh ?_
    refine f_addU (q2 : Int) (Kt : Int) (q3 : Int) rfl rfl rfl rfl rfl rfl t3 ?_
    refine f_move (.slice (some ⟨gx, 0, none⟩) 64 64) rfl rfl rfl rfl rfl ?_
    refine f_move (.int .i64 (t : Int)) rfl rfl rfl rfl rfl ?_
    refine f_idx0 gx 64 64 t htl (by decide) rfl rfl rfl rfl rfl rfl ?_
    refine f_load ⟨gx, t, none⟩ (.int .u64 (X : Int)) (by decide) rfl rfl rfl rfl rfl (fun _ h => (h.cell hS.xx.lt).trans cx) ?_
    refine f_addU (q3 : Int) (X : Int) (q4 : Int) rfl rfl rfl rfl rfl rfl t4 ?_
    refine f_assign (.int .u64 (q4 : Int)) rfl rfl rfl rfl rfl ?_
    -- end t132
    refine f_end fun w4 hw4 => ?_
    refine k_sub (E' := (23, .int .u64 (q4 : Int)) :: (22, .int .u64 (ma : Int)) :: FR32 lm cm gm gn gh gx ac t gv cv) ⟨rfl, rfl, rfl, rfl, rfl, rfl, rfl, rfl, rfl, rfl, rfl, rfl, trivial⟩ ?_
    refine hK6 _ _ ?_
    have hS := hS.up hw4
    have hv := hv.up hw4
    refine c_seq fun K7 hK7 => ?_
    refine c_q (by kernel_rfl) (tail_ok (by kernel_rfl)) hQ ?_
    -- walk t232
    refine f_move (.slice (some ⟨gv, 0, none⟩) 8 cv) rfl rfl rfl rfl rfl ?_
    refine f_idx0 gv 8 cv 0 (by decide) (by decide) rfl rfl rfl rfl rfl rfl ?_
    refine f_load ⟨gv, 0, none⟩ (.int .u64 (a : Int)) (by decide) rfl rfl rfl rfl rfl (fun _ h => (h.cell hv.lt).trans (hv.cell 0 _ rfl)) ?_
    refine f_move (.int .u64 32) rfl rfl rfl rfl rfl ?_
    refine f_move (.slice (some ⟨gn, 0, none⟩) 12 12) rfl rfl rfl rfl rfl ?_
    refine f_idx0 gn 12 12 0 (by decide) (by decide) rfl rfl rfl rfl rfl rfl ?_
    refine f_load ⟨gn, 0, none⟩ (.int .u64 ((2 : Nat) : Int)) (by decide) rfl rfl rfl rfl rfl (fun _ h => (hS.nn.up h).cell 0 _ rfl) ?_
    refine f_move (.slice (some ⟨gn, 0, none⟩) 12 12) rfl rfl rfl rfl rfl ?_
    refine f_idx0 gn 12 12 1 (by decide) (by decide) rfl rfl rfl rfl rfl rfl ?_
    refine f_load ⟨gn, 1, none⟩ (.int .u64 ((13 : Nat) : Int)) (by decide) rfl rfl rfl rfl rfl (fun _ h => (hS.nn.up h).cell 1 _ rfl) ?_
    refine f_move (.slice (some ⟨gn, 0, none⟩) 12 12) rfl rfl rfl rfl rfl ?_
    refine f_idx0 gn 12 12 2 (by decide) (by decide) rfl rfl rfl rfl rfl rfl ?_
    refine f_load ⟨gn, 2, none⟩ (.int .u64 ((22 : Nat) : Int)) (by decide) rfl rfl rfl rfl rfl (fun _ h => (hS.nn.up h).cell 2 _ rfl) ?_
    refine f_call #[.int .u64 (a : Int), .int .u64 32, .int .u64 ((2 : Nat) : Int), .int .u64 ((13 : Nat) : Int), .int .u64 ((22 : Nat) : Int), .bool false] (.int .u64 (s0 : Int)) rfl rfl rfl own_rthree (fun w _ => calls_still (R0 w)) rfl rfl ?_
    refine f_move (.int .u64 (ma : Int)) rfl rfl rfl rfl rfl ?_
    refine f_addU (s0 : Int) (ma : Int) (q5 : Int) rfl rfl rfl rfl rfl rfl t5 ?_
    refine f_assign (.int .u64 (q5 : Int)) rfl rfl rfl rfl rfl ?_
    -- end t232
    refine f_end fun w5 hw5 => ?_
    refine k_sub (E' := (24, .int .u64 (q5 : Int)) :: (23, .int .u64 (q4 : Int)) :: FR32 lm cm gm gn gh gx ac t gv cv) ⟨rfl, rfl, rfl, rfl, rfl, rfl, rfl, rfl, rfl, rfl, rfl, rfl, trivial⟩ ?_
    refine hK7 _ _ ?_
    have hS := hS.up hw5
    have hv := hv.up hw5
    refine c_t 30 (by decide) (by kernel_rfl) (tail_okD 8 (by kernel_rfl)) hQ ?_
    simp only [List.take_succ_cons, List.take_zero]
    -- walk v32
    refine f_move (.int .u64 (q4 : Int)) rfl rfl rfl rfl rfl ?_
    refine f_move (.int .u64 (q5 : Int)) rfl rfl rfl rfl rfl ?_
    refine f_addU (q4 : Int) (q5 : Int) (p7 : Int) rfl rfl rfl rfl rfl rfl t7 ?_
    refine f_move (.int .u64 32) rfl rfl rfl rfl rfl ?_
    refine f_call #[.int .u64 (p7 : Int), .int .u64 32] (.int .u64 (q7 : Int)) rfl rfl rfl own_rcut (fun w _ => calls_still (R7 w)) rfl rfl ?_
    refine f_move (.slice (some ⟨gv, 0, none⟩) 8 cv) rfl rfl rfl rfl rfl ?_
    refine f_idx0 gv 8 cv 0 (by decide) (by decide) rfl rfl rfl rfl rfl rfl ?_
    refine f_load ⟨gv, 0, none⟩ (.int .u64 (a : Int)) (by decide) rfl rfl rfl rfl rfl (fun _ h => (h.cell hv.lt).trans (hv.cell 0 _ rfl)) ?_
    refine f_move (.slice (some ⟨gv, 0, none⟩) 8 cv) rfl rfl rfl rfl rfl ?_
    refine f_idx0 gv 8 cv 1 (by decide) (by decide) rfl rfl rfl rfl rfl rfl ?_
    refine f_load ⟨gv, 1, none⟩ (.int .u64 (b : Int)) (by decide) rfl rfl rfl rfl rfl (fun _ h => (h.cell hv.lt).trans (hv.cell 1 _ rfl)) ?_
    refine f_move (.slice (some ⟨gv, 0, none⟩) 8 cv) rfl rfl rfl rfl rfl ?_
    refine f_idx0 gv 8 cv 2 (by decide) (by decide) rfl rfl rfl rfl rfl rfl ?_
    refine f_load ⟨gv, 2, none⟩ (.int .u64 (c : Int)) (by decide) rfl rfl rfl rfl rfl (fun _ h => (h.cell hv.lt).trans (hv.cell 2 _ rfl)) ?_
    refine f_move (.slice (some ⟨gv, 0, none⟩) 8 cv) rfl rfl rfl rfl rfl ?_
    refine f_idx0 gv 8 cv 3 (by decide) (by decide) rfl rfl rfl rfl rfl rfl ?_
    refine f_load ⟨gv, 3, none⟩ (.int .u64 (d : Int)) (by decide) rfl rfl rfl rfl rfl (fun _ h => (h.cell hv.lt).trans (hv.cell 3 _ rfl)) ?_
    refine f_move (.int .u64 (q4 : Int)) rfl rfl rfl rfl rfl ?_
    refine f_addU (d : Int) (q4 : Int) (p6 : Int) rfl rfl rfl rfl rfl rfl t6 ?_
    refine f_move (.int .u64 32) rfl rfl rfl rfl rfl ?_
    refine f_call #[.int .u64 (p6 : Int), .int .u64 32] (.int .u64 (q6 : Int)) rfl rfl rfl own_rcut (fun w _ => calls_still (R6 w)) rfl rfl ?_
    refine f_move (.slice (some ⟨gv, 0, none⟩) 8 cv) rfl rfl rfl rfl rfl ?_
    refine f_idx0 gv 8 cv 4 (by decide) (by decide) rfl rfl rfl rfl rfl rfl ?_
    refine f_load ⟨gv, 4, none⟩ (.int .u64 (e : Int)) (by decide) rfl rfl rfl rfl rfl (fun _ h => (h.cell hv.lt).trans (hv.cell 4 _ rfl)) ?_
    refine f_move (.slice (some ⟨gv, 0, none⟩) 8 cv) rfl rfl rfl rfl rfl ?_
    refine f_idx0 gv 8 cv 5 (by decide) (by decide) rfl rfl rfl rfl rfl rfl ?_
    refine f_load ⟨gv, 5, none⟩ (.int .u64 (f : Int)) (by decide) rfl rfl rfl rfl rfl (fun _ h => (h.cell hv.lt).trans (hv.cell 5 _ rfl)) ?_
    refine f_move (.slice (some ⟨gv, 0, none⟩) 8 cv) rfl rfl rfl rfl rfl ?_
    refine f_idx0 gv 8 cv 6 (by decide) (by decide) rfl rfl rfl rfl rfl rfl ?_
    refine f_load ⟨gv, 6, none⟩ (.int .u64 (g : Int)) (by decide) rfl rfl rfl rfl rfl (fun _ h => (h.cell hv.lt).trans (hv.cell 6 _ rfl)) ?_
    -- end v32
    refine f_tail fun w6 hw6 => ?_
    simp only [List.drop_succ_cons, List.drop_zero]
    refine l_slice8 q7 a b c q6 e f g rfl rfl rfl rfl rfl rfl rfl rfl rfl rfl rfl rfl ?_
    refine l_assign (.slice (some ⟨w6.heap.size, 0, none⟩) 8 8) rfl rfl rfl rfl rfl ?_
    refine l_nil ?_
    refine hK3 _ _ ?_
    have hn6 : w6.heap.size ≠ gh := Nat.ne_of_gt (hS.up hw6).hh.lt
    have hS := (hS.up hw6).up ((Up.refl w6).alloc (.cells (Us [q7, a, b, c, q6, e, f, g]).toArray 134))
    have hv := VL.new w6 (Us [q7, a, b, c, q6, e, f, g]) 134
    refine c_qF ?_
    refine f_move (.int .i64 (t : Int)) rfl rfl rfl rfl rfl ?_
    refine f_addI (t : Int) 1 ((t + 1 : Nat) : Int) rfl rfl rfl rfl rfl rfl (by rw [i64_left, wrap64_in _ (by omega)]; omega) ?_
    refine f_assign (.int .i64 ((t + 1 : Nat) : Int)) rfl rfl rfl rfl rfl ?_
    refine f_end fun w7 hw7 => ?_
    have hv := hv.up hw7
    have hw : VL w7 w6.heap.size (Us (R (t + 1)).list) := by
      rw [hs]
      exact hv
    exact k_round (F := fun s : Nat × Nat × Nat => FR32 lm cm gm gn gh gx ac s.1 s.2.1 s.2.2) (m := fun s : Nat × Nat × Nat => 64 - s.1) (R := fun s w => s.1 ≤ 64 ∧ DS32 W0 w gm gn gh gx m hl (mxl F y64 64) ∧ VL w s.2.1 (Us (R s.1).list) ∧ s.2.1 ≠ gh) (s := (t, gv, cv)) (t + 1, w6.heap.size, 8) ⟨rfl, rfl, rfl, rfl, rfl, rfl, rfl, rfl, rfl, rfl, trivial⟩ ⟨Nat.succ_le_of_lt htl, hS.up hw7, hw, hn6⟩ (Nat.sub_lt_sub_left htl (Nat.lt_succ_self t))
  · refine f_lssI (t : Int) 64 false rfl rfl rfl rfl rfl rfl (decide_eq_false (by omega)) ?_
    refine f_end fun w1 hw1 => hK2 _ _ ?_
    refine c_cond false rfl ?_
    refine c_exit ?_
    refine k_exit (id := 14) (Q := Q) ?_
    obtain rfl : t = 64 := by omega
    exact k_sub (E' := FR32 lm cm gm gn gh gx ac 64 gv cv) ⟨rfl, rfl, rfl, rfl, rfl, rfl, rfl, rfl, rfl, rfl, trivial⟩ (hend _ _ _ (hS.up hw1) (hv.up hw1) hne)
end
end Go.Proofs.YtoecohpcnojokaaDoor
/-
  THE DOCUMENT'S OWN DIGESTS: Digest with words of 32 bits: a block's words, and the sums at a block's end.
-/
namespace Go.Proofs.YtoecohpcnojokaaDoor
open Go.RowKit Go.IntWalk Nums

theorem y64_get (k : Nat) : y64[k]! = 0 := by
  unfold y64
  by_cases h : k < 64
  · rw [getElem!_pos _ k (by rw [List.length_replicate]; exact h), List.getElem_replicate]
  · rw [getElem!_neg _ k (by rw [List.length_replicate]; exact h)]
    rfl
theorem set_zero64 {F : Nat → Nat} {k : Nat} : (mxl F y64 k).set k 0 = mxl F y64 k := by
  apply List.ext_getElem (by simp)
  intro i h1 h2
  rw [List.getElem_set]
  have h3 : i < 64 := by simpa [mxl_len, y64_len] using h2
  by_cases e : k = i
  · subst e
    rw [if_pos rfl]
    have := mxl_get F y64 (k := k) (by rw [y64_len]; exact h3)
    rw [getElem!_pos _ k h2, y64_get] at this
    exact this.symm
  · rw [if_neg e]

section
variable {W0 : World} {gm gn gh gx : Nat} {m : List UInt8} {hl : List Nat} {Q : Exit → Act → World → Prop}
def FT32 (lm cm gm gn gh gx a t : Nat) : List (Nat × Value) := (16, .int .i64 (t : Int)) :: FB32 lm cm gm gn gh gx a
def FK32 (lm cm gm gn gh gx a t k : Nat) : List (Nat × Value) := (17, .int .i64 (k : Int)) :: FT32 lm cm gm gn gh gx a t
set_option maxRecDepth 100000 in
set_option maxHeartbeats 4000000 in
theorem bytes32 {w : World} (cm ac t : Nat) (f : Nat → Nat) (x : List Nat) (hx : x.length = 64) (ht : t < 16) (hf : ∀ j, f j < 256) (hm : ac + 64 ≤ m.length) (hmax : m.length ≤ 9223372036854775807) (hfm : ∀ k, k < 4 → f k = (m[ac + t * 4 + k]!).toNat)
    (h0 : DS32 W0 w gm gn gh gx m hl (x.set t 0)) (hQ : ∀ c a d v w, Q (.panic c) (a.put d v) w → Q (.panic c) a w)
    (hend : ∀ w', DS32 W0 w' gm gn gh gx m hl (x.set t (ben f 4)) → kF (Q .normal) 359 (FK32 m.length cm gm gn gh gx ac t 4) w') :
    cF Tryd.prog (.loop (dl 5)) (Exit.inBlock 10 Q) 359 (FK32 m.length cm gm gn gh gx ac t 0) w := by
  refine c_loop (m := fun k : Nat => 4 - k) (F := FK32 m.length cm gm gn gh gx ac t) (R := fun k w => k ≤ 4 ∧ DS32 W0 w gm gn gh gx m hl (x.set t (ben f k))) ?_ 0 ⟨by omega, h0⟩
  rintro k w ⟨hk, hS⟩
  conv => arg 2; whnf
  refine c_seq fun K1 hK1 => ?_
  refine c_seq fun K2 hK2 => ?_
  refine c_qF ?_
  refine f_move (.int .i64 (k : Int)) rfl rfl rfl rfl rfl ?_
  refine f_move (.int .i64 4) rfl rfl rfl rfl rfl ?_
  by_cases hkl : k < 4
  · refine f_lssI (k : Int) 4 true rfl rfl rfl rfl rfl rfl (decide_eq_true (by omega)) ?_
    refine f_end fun w1 hw1 => hK2 _ _ ?_
    refine c_cond true rfl ?_
    refine c_skip ?_
    refine hK1 _ _ ?_
    refine c_seq fun K3 hK3 => ?_
    refine c_block ?_
    have hS := hS.up hw1
    have hN := hS.setX t (ben f (k + 1))
    rw [List.set_set] at hN
    have hB : ben f (k + 1) = ben f k * 256 + f k := rfl
    have hy := ben_lt (f := f) hf k
    have hy2 : (256 : Nat) ^ k ≤ 256 ^ 7 := Nat.pow_le_pow_right (by decide) (by omega)
    have hb := hf k
    have c0 := hS.mm.byte (j := ac + t * 4 + k) (by omega)
    rw [← hfm k hkl] at c0
    have ct := hS.xx.word (j := t) (by rw [List.length_set]; omega)
    have ex : (x.set t (ben f k))[t]! = ben f k := by
      rw [getElem!_pos _ t (by rw [List.length_set]; omega), List.getElem_set_self]
    rw [ex] at ct
    have cf := hS.xx.free t (by rw [Us_len, List.length_set]; omega)
    have hyx : ben f k * 256 + f k < 18446744073709551616 := by
      have : (256 : Nat) ^ 7 = 72057594037927936 := by decide
      omega
    rw [hB] at hN
    generalize ben f k = y at *
    generalize f k = z at *
    have w1' : IntKind.u64.wrap ((y : Int) * 256) = ((y * 256 : Nat) : Int) := by rw [IntKind.wrap_u64]; omega
    have w2 : IntKind.u64.wrap (z : Int) = (z : Int) := by rw [IntKind.wrap_u64]; omega
    have w3 : IntKind.u64.wrap (((y * 256 : Nat) : Int) + (z : Int)) = ((y * 256 + z : Nat) : Int) := by rw [IntKind.wrap_u64]; omega
    have i1 : IntKind.i64.wrap ((t : Int) * 4) = ((t * 4 : Nat) : Int) := by rw [i64_left, wrap64_in _ (by omega)]; omega
    have i2 : IntKind.i64.wrap ((ac : Int) + ((t * 4 : Nat) : Int)) = ((ac + t * 4 : Nat) : Int) := by rw [i64_left, wrap64_in _ (by omega)]; omega
    have i3 : IntKind.i64.wrap (((ac + t * 4 : Nat) : Int) + (k : Int)) = ((ac + t * 4 + k : Nat) : Int) := by rw [i64_left, wrap64_in _ (by omega)]; omega
    refine c_t 20 (by decide) (by kernel_rfl) (tail_ok (by kernel_rfl)) hQ ?_
    simp only [List.take_succ_cons, List.take_zero]
    -- walk bytes32
    refine f_move (.slice (some ⟨gx, 0, none⟩) 64 64) rfl rfl rfl rfl rfl ?_
    refine f_move (.int .i64 (t : Int)) rfl rfl rfl rfl rfl ?_
    refine f_move (.slice (some ⟨gx, 0, none⟩) 64 64) rfl rfl rfl rfl rfl ?_
    refine f_move (.int .i64 (t : Int)) rfl rfl rfl rfl rfl ?_
    refine f_idx0 gx 64 64 t (by omega) (by decide) rfl rfl rfl rfl rfl rfl ?_
    refine f_load ⟨gx, t, none⟩ (.int .u64 (y : Int)) (by decide) rfl rfl rfl rfl rfl (fun _ h => (h.cell hS.xx.lt).trans ct) ?_
    refine f_mulU (y : Int) (256 : Int) ((y * 256 : Nat) : Int) rfl rfl rfl rfl rfl rfl w1' ?_
    refine f_move (.slice (some ⟨gm, 0, none⟩) m.length cm) rfl rfl rfl rfl rfl ?_
    refine f_move (.int .i64 (ac : Int)) rfl rfl rfl rfl rfl ?_
    refine f_move (.int .i64 (t : Int)) rfl rfl rfl rfl rfl ?_
    refine f_move (.int .i64 4) rfl rfl rfl rfl rfl ?_
    refine f_mulI (t : Int) 4 ((t * 4 : Nat) : Int) rfl rfl rfl rfl rfl rfl i1 ?_
    refine f_addI (ac : Int) ((t * 4 : Nat) : Int) ((ac + t * 4 : Nat) : Int) rfl rfl rfl rfl rfl rfl i2 ?_
    refine f_move (.int .i64 (k : Int)) rfl rfl rfl rfl rfl ?_
    refine f_addI ((ac + t * 4 : Nat) : Int) (k : Int) ((ac + t * 4 + k : Nat) : Int) rfl rfl rfl rfl rfl rfl i3 ?_
    refine f_idx0 gm m.length cm (ac + t * 4 + k) (by omega) (by decide) rfl rfl rfl rfl rfl rfl ?_
    refine f_load ⟨gm, (ac + t * 4 + k), none⟩ (.int .u8 (z : Int)) (by decide) rfl rfl rfl rfl rfl (fun _ h => (h.cell hS.mm.lt).trans c0) ?_
    refine f_wordB (z : Int) (z : Int) rfl rfl rfl rfl rfl w2 ?_
    refine f_addU ((y * 256 : Nat) : Int) (z : Int) ((y * 256 + z : Nat) : Int) rfl rfl rfl rfl rfl rfl w3 ?_
    refine f_idx0 gx 64 64 t (by omega) (by decide) rfl rfl rfl rfl rfl rfl ?_
    -- end bytes32
    refine f_store ⟨gx, t, none⟩ ((y * 256 + z : Nat) : Int) _ (.inl ⟨rfl, rfl⟩) rfl rfl rfl rfl rfl ct cf hS.xx.lt fun w2 hw2 => ?_
    refine hK3 _ _ ?_
    refine c_qF ?_
    refine f_move (.int .i64 (k : Int)) rfl rfl rfl rfl rfl ?_
    refine f_addI (k : Int) 1 ((k + 1 : Nat) : Int) rfl rfl rfl rfl rfl rfl (by rw [i64_left, wrap64_in _ (by omega)]; omega) ?_
    refine f_assign (.int .i64 ((k + 1 : Nat) : Int)) rfl rfl rfl rfl rfl ?_
    refine f_end fun w3 hw3 => k_round (k + 1) ⟨rfl, rfl, rfl, rfl, rfl, rfl, rfl, rfl, rfl, rfl, trivial⟩ ⟨by omega, ?_⟩ (by omega)
    rw [hB]
    have hN := (hS.up hw2).setX t (y * 256 + z)
    rw [List.set_set] at hN
    exact hN.up hw3
  · refine f_lssI (k : Int) 4 false rfl rfl rfl rfl rfl rfl (decide_eq_false (by omega)) ?_
    refine f_end fun w1 hw1 => hK2 _ _ ?_
    refine c_cond false rfl ?_
    refine c_exit ?_
    refine k_exit (id := 10) (Q := Q) ?_
    obtain rfl : k = 4 := by omega
    exact k_sub (E' := FK32 m.length cm gm gn gh gx ac t 4) ⟨rfl, rfl, rfl, rfl, rfl, rfl, rfl, rfl, rfl, rfl, trivial⟩ (hend _ (hS.up hw1))

set_option maxRecDepth 100000 in
set_option maxHeartbeats 4000000 in
theorem words32 {w : World} (cm ac : Nat) (b : List UInt8) (F : Nat → Nat) (hF : ∀ t, t < 16 → F t = ben (fun k => (b[t * 4 + k]!).toNat) 4) (hm : ac + 64 ≤ m.length) (hmax : m.length ≤ 9223372036854775807) (hbm : ∀ j, j < 64 → b[j]! = m[ac + j]!)
    (h0 : DS32 W0 w gm gn gh gx m hl y64) (hQ : ∀ c a d v w, Q (.panic c) (a.put d v) w → Q (.panic c) a w)
    (hend : ∀ w', DS32 W0 w' gm gn gh gx m hl (mxl F y64 16) → kF (Q .normal) 359 (FT32 m.length cm gm gn gh gx ac 16) w') :
    cF Tryd.prog (.loop (dl 4)) (Exit.inBlock 8 Q) 359 (FT32 m.length cm gm gn gh gx ac 0) w := by
  refine c_loop (m := fun t : Nat => 16 - t) (F := FT32 m.length cm gm gn gh gx ac) (R := fun t w => t ≤ 16 ∧ DS32 W0 w gm gn gh gx m hl (mxl F y64 t)) ?_ 0 ⟨by omega, by rw [mxl_zero]; exact h0⟩
  rintro t w ⟨ht, hS⟩
  conv => arg 2; whnf
  refine c_seq fun K1 hK1 => ?_
  refine c_seq fun K2 hK2 => ?_
  refine c_qF ?_
  refine f_move (.int .i64 (t : Int)) rfl rfl rfl rfl rfl ?_
  by_cases htl : t < 16
  · refine f_lssI (t : Int) 16 true rfl rfl rfl rfl rfl rfl (decide_eq_true (by omega)) ?_
    refine f_end fun w1 hw1 => hK2 _ _ ?_
    refine c_cond true rfl ?_
    refine c_skip ?_
    refine hK1 _ _ ?_
    refine c_seq fun K3 hK3 => ?_
    refine c_block ?_
    refine c_seq fun K4 hK4 => ?_
    refine c_qF ?_
    refine f_assign (.int .i64 0) rfl rfl rfl rfl rfl ?_
    refine f_end fun w2 hw2 => ?_
    refine k_sub (E' := FK32 m.length cm gm gn gh gx ac t 0) ⟨rfl, rfl, rfl, rfl, rfl, rfl, rfl, rfl, rfl, rfl, trivial⟩ ?_
    refine hK4 _ _ ?_
    refine c_block ?_
    have hS := (hS.up hw1).up hw2
    refine bytes32 cm ac t (fun k => (b[t * 4 + k]!).toNat) (mxl F y64 t) (by rw [mxl_len, y64_len]) htl (fun j => UInt8.toNat_lt _) hm hmax (fun k hk => by rw [hbm _ (by omega), Nat.add_assoc]) (by rw [set_zero64]; exact hS) hQ fun w3 hS3 => ?_
    rw [← hF t htl, mxl_set] at hS3
    refine hK3 _ _ ?_
    refine c_qF ?_
    refine f_move (.int .i64 (t : Int)) rfl rfl rfl rfl rfl ?_
    refine f_addI (t : Int) 1 ((t + 1 : Nat) : Int) rfl rfl rfl rfl rfl rfl (by rw [i64_left, wrap64_in _ (by omega)]; omega) ?_
    refine f_assign (.int .i64 ((t + 1 : Nat) : Int)) rfl rfl rfl rfl rfl ?_
    exact f_end fun w4 hw4 => k_round (t + 1) ⟨rfl, rfl, rfl, rfl, rfl, rfl, rfl, rfl, rfl, trivial⟩ ⟨by omega, hS3.up hw4⟩ (by omega)
  · refine f_lssI (t : Int) 16 false rfl rfl rfl rfl rfl rfl (decide_eq_false (by omega)) ?_
    refine f_end fun w1 hw1 => hK2 _ _ ?_
    refine c_cond false rfl ?_
    refine c_exit ?_
    refine k_exit (id := 8) (Q := Q) ?_
    obtain rfl : t = 16 := by omega
    exact k_sub (E' := FT32 m.length cm gm gn gh gx ac 16) ⟨rfl, rfl, rfl, rfl, rfl, rfl, rfl, rfl, rfl, trivial⟩ (hend _ (hS.up hw1))
end
end Go.Proofs.YtoecohpcnojokaaDoor
/-
  THE DOCUMENT'S OWN DIGESTS: Digest with words of 32 bits: the sums at a block's end.
-/
namespace Go.Proofs.YtoecohpcnojokaaDoor
open Go.RowKit Go.IntWalk Nums

section
variable {W0 : World} {gm gn gh gx : Nat} {m : List UInt8} {Q : Exit → Act → World → Prop}
def FM32 (lm cm gm gn gh gx a gv cv i : Nat) : List (Nat × Value) := (318, .int .i64 (i : Int)) :: (317, .int .i64 8) :: (19, .slice (some ⟨gv, 0, none⟩) 8 cv) :: FB32 lm cm gm gn gh gx a
set_option maxRecDepth 100000 in
set_option maxHeartbeats 4000000 in
theorem sums32 {w : World} (lm cm ac gv cv' : Nat) (h v x : List Nat) (hl : h.length = 8) (vl : v.length = 8) (h0 : DS32 W0 w gm gn gh gx m h x) (hv0 : VL w gv (Us v)) (hne : gv ≠ gh) (hhb : ∀ i, i < 8 → h[i]! < 4294967296) (hvb : ∀ i, i < 8 → v[i]! < 4294967296) (hQ : ∀ c a d v w, Q (.panic c) (a.put d v) w → Q (.panic c) a w)
    (hend : ∀ w', DS32 W0 w' gm gn gh gx m (mxl (fun i => (h[i]! + v[i]!) % 4294967296) h 8) x → kF (Q .normal) 359 (FM32 lm cm gm gn gh gx ac gv cv' 8) w') :
    cF Tryd.prog (.loop (dl 8)) (Exit.inBlock 16 Q) 359 (FM32 lm cm gm gn gh gx ac gv cv' 0) w := by
  obtain ⟨G, hG⟩ : ∃ G : Nat → Nat, G = fun i => (h[i]! + v[i]!) % 4294967296 := ⟨_, rfl⟩
  rw [← hG] at hend
  refine c_loop (m := fun i : Nat => 8 - i) (F := FM32 lm cm gm gn gh gx ac gv cv') (R := fun i w => i ≤ 8 ∧ DS32 W0 w gm gn gh gx m (mxl G h i) x ∧ VL w gv (Us v)) ?_ 0 ⟨by omega, by rw [mxl_zero]; exact h0, hv0⟩
  rintro i w ⟨hi, hS, hv⟩
  conv => arg 2; whnf
  refine c_seq fun K1 hK1 => ?_
  refine c_qF ?_
  by_cases hil : i < 8
  · refine f_lssI (i : Int) 8 true rfl rfl rfl rfl rfl rfl (decide_eq_true (by omega)) ?_
    refine f_end fun w1 hw1 => hK1 _ _ ?_
    refine c_seq fun K2 hK2 => ?_
    refine c_cond true rfl ?_
    refine c_skip ?_
    refine hK2 _ _ ?_
    refine c_seq fun K3 hK3 => ?_
    refine c_block ?_
    refine c_seq fun K4 hK4 => ?_
    refine c_qF ?_
    refine f_move (.int .i64 (i : Int)) rfl rfl rfl rfl rfl ?_
    refine f_assign (.int .i64 (i : Int)) rfl rfl rfl rfl rfl ?_
    refine f_end fun w2 hw2 => hK4 _ _ ?_
    have hS := (hS.up hw1).up hw2
    have hv := (hv.up hw1).up hw2
    have hlm : (mxl G h i).length = 8 := by rw [mxl_len, hl]
    have ch := hS.hh.word (j := i) (by omega)
    have cf := hS.hh.free i (by rw [Us_len]; omega)
    rw [mxl_get G h (by omega)] at ch
    have cv := hv.word (j := i) (by omega)
    have hset := mxl_set G h (k := i)
    have e : G i = (h[i]! + v[i]!) % 4294967296 := by rw [hG]
    have p1 := hhb i hil
    have p2 := hvb i hil
    have RC := fun (x : Nat) w1 => rcut32_f x w1
    generalize h[i]! = y at *
    generalize v[i]! = z at *
    have w1' : IntKind.u64.wrap ((y : Int) + (z : Int)) = ((y + z : Nat) : Int) := by rw [IntKind.wrap_u64]; omega
    have RG := fun w1 => RC (y + z) w1
    rw [← e] at RG
    refine c_t 14 (by decide) (by kernel_rfl) (tail_ok (by kernel_rfl)) hQ ?_
    simp only [List.take_succ_cons, List.take_zero]
    -- walk sums32
    refine f_move (.slice (some ⟨gh, 0, none⟩) 8 8) rfl rfl rfl rfl rfl ?_
    refine f_move (.int .i64 (i : Int)) rfl rfl rfl rfl rfl ?_
    refine f_move (.slice (some ⟨gh, 0, none⟩) 8 8) rfl rfl rfl rfl rfl ?_
    refine f_move (.int .i64 (i : Int)) rfl rfl rfl rfl rfl ?_
    refine f_idx0 gh 8 8 i hil (by decide) rfl rfl rfl rfl rfl rfl ?_
    refine f_load ⟨gh, i, none⟩ (.int .u64 (y : Int)) (by decide) rfl rfl rfl rfl rfl (fun _ h => (h.cell hS.hh.lt).trans ch) ?_
    refine f_move (.slice (some ⟨gv, 0, none⟩) 8 cv') rfl rfl rfl rfl rfl ?_
    refine f_move (.int .i64 (i : Int)) rfl rfl rfl rfl rfl ?_
    refine f_idx0 gv 8 cv' i hil (by decide) rfl rfl rfl rfl rfl rfl ?_
    refine f_load ⟨gv, i, none⟩ (.int .u64 (z : Int)) (by decide) rfl rfl rfl rfl rfl (fun _ h => (h.cell hv.lt).trans cv) ?_
    refine f_addU (y : Int) (z : Int) ((y + z : Nat) : Int) rfl rfl rfl rfl rfl rfl w1' ?_
    refine f_move (.int .u64 32) rfl rfl rfl rfl rfl ?_
    refine f_call #[.int .u64 ((y + z : Nat) : Int), .int .u64 32] (.int .u64 ((G i : Nat) : Int)) rfl rfl rfl own_rcut (fun w _ => calls_still (RG w)) rfl rfl ?_
    refine f_idx0 gh 8 8 i hil (by decide) rfl rfl rfl rfl rfl rfl ?_
    -- end sums32
    refine f_store ⟨gh, i, none⟩ ((G i : Nat) : Int) _ (.inl ⟨rfl, rfl⟩) rfl rfl rfl rfl rfl ch cf hS.hh.lt fun w3 hw3 => ?_
    refine hK3 _ _ ?_
    refine c_qF ?_
    refine f_addI (i : Int) 1 ((i + 1 : Nat) : Int) rfl rfl rfl rfl rfl rfl (by rw [i64_left, wrap64_in _ (by omega)]; omega) ?_
    refine f_move (.int .i64 ((i + 1 : Nat) : Int)) rfl rfl rfl rfl rfl ?_
    refine f_end fun w4 hw4 => k_round (i + 1) ⟨rfl, rfl, rfl, rfl, rfl, rfl, rfl, rfl, rfl, rfl, rfl, trivial⟩ ⟨by omega, ?_, ((hv.up hw3).far hne _).up hw4⟩ (by omega)
    rw [← hset]
    exact ((hS.up hw3).setH i (G i)).up hw4
  · refine f_lssI (i : Int) 8 false rfl rfl rfl rfl rfl rfl (decide_eq_false (by omega)) ?_
    refine f_end fun w1 hw1 => hK1 _ _ ?_
    refine c_seq fun K2 hK2 => ?_
    refine c_cond false rfl ?_
    refine c_exit ?_
    refine k_exit (id := 16) (Q := Q) ?_
    obtain rfl : i = 8 := by omega
    exact k_sub (E' := FM32 lm cm gm gn gh gx ac gv cv' 8) ⟨rfl, rfl, rfl, rfl, rfl, rfl, rfl, rfl, rfl, rfl, rfl, trivial⟩ (hend _ (hS.up hw1))
end
end Go.Proofs.YtoecohpcnojokaaDoor
