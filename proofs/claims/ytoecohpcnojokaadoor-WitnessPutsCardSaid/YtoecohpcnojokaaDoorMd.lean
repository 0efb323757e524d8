/-
  SEVERAL TEXTS IN ONE: Vc, Vd, Ve, Vf, Vg, Vh, Ty.
-/
import Derived.Test.YtoecohpcnojokaaDoorMc
import Derived.Laws.MakeOwn
import Derived.Maps.AppendAt
import Derived.Great.BuildSlice
/-
  REGIONS OVER STATES: what is reckoned at once, the order forced.
-/
namespace Go.Proofs.YtoecohpcnojokaaDoor
open Go.RowKit Go.IntWalk

/-- Is the operation wanted, as far as the state tells? -/
def wantS (ops : Array Oper) (N : Nat) (E : SE) (o : Oper) : Option Bool :=
  match o.guard with
  | none => some true
  | some (j, b) => match (ops[j]?).bind (·.dst) with
    | some t => match Nat.blt t N with
      | true => match lookS E t with
        | some (.q (.c (.v (.bool true)))) => some b
        | some (.q (.c (.v (.bool false)))) => some (!b)
        | _ => none
      | false => none
    | none => none
theorem wantS_ok {ops : Array Oper} {N : Nat} {G : Nat → Nat} {E : SE} {a : Act} {o : Oper} {q : Bool} (ha : Fr N (denE G E) a) (h : wantS ops N E o = some q) : Region.wanted o (yielded ops a.tmps) = q := by
  refine wantG_ok ha ?_
  unfold wantS at h
  unfold wantG
  split at h
  · rename_i hg
    rw [hg]
    exact h
  · rename_i j b hg
    rw [hg]
    split at h
    · rename_i t hj
      dsimp only
      rw [hj]
      split at h
      · rename_i hN
        dsimp only
        rw [hN]
        split at h
        · rename_i hc
          dsimp only
          rw [look_den, hc]
          exact h
        · rename_i hc
          dsimp only
          rw [look_den, hc]
          exact h
        · cases h
      · cases h
    · cases h
def farE (j : Nat) (E : SE) : Bool := E.all fun x => x.2.farB j
/-- A new variable. -/
def newS (T : List TyR) (E : SE) (L : List LV) (k : Nat) : Op → Option (TypeId × List Pt)
  | .alloc ty => match findT T ty, farL k L, farE k E with
    | some r, true, true => some (ty, r.zero)
    | _, _, _ => none
  | .box ty x => match evS E x, farL k L, farE k E with
    | some (.q (.p ps)), true, true => some (ty, ps)
    | some (.q (.c s)), true, true => match fitC s with
      | true => some (ty, [.one s])
      | false => none
    | _, _, _ => none
  | _ => none
/-- A variable that is written. -/
def setS (T : List TyR) (E : SE) (L : List LV) : Op → Option (Nat × List Pt)
  | .store t x y => match evS E x, evS E y with
    | some (.a j off), some (.q q) => match lookL L j with
      | some ps => match storeS T ps t off q with
        | some qs => some (j, qs)
        | none => none
      | none => none
    | _, _ => none
  | _ => none
/-- What is left behind the operations that are reckoned. -/
def autoS (T : List TyR) (ops : Array Oper) (N : Nat) : List Oper → SE → List LV → List Oper × SE × List LV
  | [], E, L => ([], E, L)
  | o :: l, E, L => match wantS ops N E o with
    | none => (o :: l, E, L)
    | some false => match o.dst with
      | some k => match Nat.blt k N with
        | true => autoS T ops N l ((k, .v undef) :: E) L
        | false => (o :: l, E, L)
      | none => autoS T ops N l E L
    | some true => match o.dst with
      | some k => match Nat.blt k N with
        | true => match stepS T E L o.op with
          | some v => autoS T ops N l ((k, v) :: E) L
          | none => match newS T E L k o.op with
            | some (ty, ps) => autoS T ops N l ((k, .a k 0) :: E) (⟨k, none, ty, ps⟩ :: L)
            | none => (bareO o :: l, E, L)
        | false => (o :: l, E, L)
      | none => match setS T E L o.op with
        | some (j, ps) => autoS T ops N l E (putL L j ps)
        | none => (bareO o :: l, E, L)

/-! ### What becomes of states -/
theorem StW.okL {b : Base} {G : Nat → Nat} {S : Nat → Prop} {L : List LV} {R : List Res} {F M : World → Prop} {w : World} (h : StW b G S L R F M w) : OkL L := fun x hx => (h.var x hx).2.1
theorem StW.at {b : Base} {G : Nat → Nat} {S : Nat → Prop} {L : List LV} {R : List Res} {F M : World → Prop} {w : World} (h : StW b G S L R F M w) : LAt G L w := fun x hx => (h.var x hx).1
theorem farL_mem : ∀ {L : List LV} {j : Nat}, farL j L = true → j ∉ namesL L
  | [], _, _, h => by cases h
  | x :: r, j, h, hm => by
    unfold farL at h
    simp only [Bool.and_eq_true, Bool.not_eq_true'] at h
    rcases List.mem_cons.1 hm with e | hm
    · rw [e] at h
      simp at h
    · exact farL_mem h.2 hm
theorem den_far {G : Nat → Nat} {j g : Nat} {v : SV} (h : v.farB j = true) : v.den (fun i => if i = j then g else G i) = v.den G := by
  cases v with
  | q x => rfl
  | a i off =>
    have : i ≠ j := by
      rintro rfl
      simp [SV.farB] at h
    simp [SV.den, this]
  | s i off n c =>
    have : i ≠ j := by
      rintro rfl
      simp [SV.farB] at h
    simp [SV.den, this]
  | t vs => rfl
theorem denE_far {G : Nat → Nat} {j g : Nat} : ∀ {E : SE}, farE j E = true → denE (fun i => if i = j then g else G i) E = denE G E
  | [], _ => rfl
  | (k, v) :: r, h => by
    unfold farE at h
    rw [List.all_cons, Bool.and_eq_true] at h
    rw [denE, denE, den_far h.1, denE_far h.2]
section
variable {b : Base} {G : Nat → Nat} {S : Nat → Prop} {L : List LV} {R : List Res} {F M : World → Prop} {w : World}
/-- A new variable. -/
theorem StW.new (h : StW b G S L R F M w) {j : Nat} {t : TypeId} {ps : List Pt} (hj : farL j L = true) (hp : OkP ps) : StW b (fun i => if i = j then w.heap.size else G i) S (⟨j, none, t, ps⟩ :: L) R F M (w.alloc (.cells (catP ps) t)) := by
  have hal := (Below.refl w.heap.size w).alloc (Nat.le_refl _) (.cells (catP ps) t)
  have hn := farL_mem hj
  have hne : ∀ i, i ∈ namesL L → i ≠ j := fun i hi e => hn (e ▸ hi)
  have hG : ∀ i ∈ namesL L, (if i = j then w.heap.size else G i) = G i := fun i hi => if_neg (hne i hi)
  have hlt : ∀ i ∈ namesL L, G i < w.heap.size := fun i hi => h.lt _ (.inr ⟨i, hi, rfl⟩)
  have h1 := h.later hal
  have hM : ∀ k, Mine S (fun i => if i = j then w.heap.size else G i) (⟨j, none, t, ps⟩ :: L) k → k = w.heap.size ∨ Mine S G L k := fun k hk => by
    rcases hk with hk | ⟨i, hi, rfl⟩
    · exact .inr (.inl hk)
    · rcases List.mem_cons.1 hi with rfl | hi
      · exact .inl (if_pos rfl)
      · exact .inr (.inr ⟨i, hi, (hG i hi).symm⟩)
  refine ⟨fun x hx => ?_, List.Pairwise.cons (fun i hi => ?_) ?_, h1.res, fun i hi => ?_, ?_, ?_, h1.chg, fun k hk hlt => ?_, h.old⟩
  · rcases List.mem_cons.1 hx with rfl | hx
    · refine ⟨?_, hp, fun g hg => by cases hg⟩
      show Blk _ (if j = j then w.heap.size else G j) t (catP ps)
      rw [if_pos rfl]
      exact Blk.new w _ _
    · rw [hG _ (List.mem_map.2 ⟨x, hx, rfl⟩)]
      exact h1.var x hx
  · show (if j = j then w.heap.size else G j) ≠ _
    rw [if_pos rfl, hG i hi]
    exact Nat.ne_of_gt (hlt i hi)
  · refine List.Pairwise.imp_of_mem (fun {x y} hx hy hxy => ?_) h.apart
    rw [hG x hx, hG y hy]
    exact hxy
  · rcases List.mem_cons.1 hi with rfl | hi
    · show ¬ S (if i = i then w.heap.size else G i)
      rw [if_pos rfl]
      exact fun hs => Nat.lt_irrefl _ (h.res.lt _ hs)
    · rw [hG i hi]
      exact h.sep i hi
  · refine h.fact.past (Chg.of_up hal) fun i hi hd => ?_
    rcases hd with hd | hd
    · exact .inl hd
    · rcases hM i hd with rfl | hd
      · exact absurd hi (Nat.lt_irrefl _)
      · exact .inr hd
  · refine h.fresh.past (Chg.of_up hal) fun i hi hd => ?_
    rcases hd with hd | hd
    · exact .inl hd
    · rcases hM i hd with rfl | hd
      · exact absurd hi (Nat.lt_irrefl _)
      · exact .inr hd
  · rcases hM k hk with rfl | hk
    · exact absurd (Nat.lt_of_le_of_lt h.chg.size hlt) (Nat.lt_irrefl _)
    · exact h.mine k hk hlt
theorem putL_mem {j : Nat} {ps : List Pt} : ∀ {L : List LV}, (namesL L).Nodup → ∀ y ∈ putL L j ps, (y ∈ L ∧ y.j ≠ j) ∨ ∃ x ∈ L, x.j = j ∧ y = { x with ps := ps }
  | [], _, y, h => by cases h
  | x :: r, hd, y, h => by
    unfold putL at h
    have hd' := List.nodup_cons.1 hd
    split at h
    · rename_i e
      have e := Nat.eq_of_beq_eq_true e
      rcases List.mem_cons.1 h with rfl | h
      · exact .inr ⟨x, List.mem_cons_self, e, rfl⟩
      · refine .inl ⟨List.mem_cons_of_mem _ h, fun e2 => hd'.1 ?_⟩
        show x.j ∈ namesL r
        rw [e, ← e2]
        exact List.mem_map.2 ⟨y, h, rfl⟩
    · rename_i e
      rcases List.mem_cons.1 h with rfl | h
      · exact .inl ⟨List.mem_cons_self, fun e2 => by rw [e2] at e; simp at e⟩
      · rcases putL_mem hd'.2 y h with ⟨h1, h2⟩ | ⟨z, h1, h2, h3⟩
        · exact .inl ⟨List.mem_cons_of_mem _ h1, h2⟩
        · exact .inr ⟨z, List.mem_cons_of_mem _ h1, h2, h3⟩
theorem StW.nodup (h : StW b G S L R F M w) : (namesL L).Nodup := h.apart.imp fun hxy e => hxy (congrArg G e)
/-- A variable is written. -/
theorem StW.set (h : StW b G S L R F M w) {j : Nat} {ps : List Pt} (hj : j ∈ namesL L) (hp : OkP ps) : StW b G S (putL L j ps) R F M (w.setRow (G j) (catP ps)) := by
  have hc := Chg.row w (G j) (catP ps)
  have hmine : Mine S G L (G j) := .inr ⟨j, hj, rfl⟩
  have hne : ∀ i ∈ namesL L, i ≠ j → G i ≠ G j := fun i hi e => by
    have := h.apart
    obtain ⟨p, hp, rfl⟩ := List.getElem_of_mem hi
    obtain ⟨q, hq, rfl⟩ := List.getElem_of_mem hj
    rcases Nat.lt_trichotomy p q with h1 | h1 | h1
    · exact List.pairwise_iff_getElem.1 this p q hp hq h1
    · subst h1; exact absurd rfl e
    · exact (List.pairwise_iff_getElem.1 this q p hq hp h1).symm
  have hM : ∀ k, Mine S G (putL L j ps) k ↔ Mine S G L k := fun k => by unfold Mine; rw [putL_names]
  refine ⟨fun y hy => ?_, by rw [putL_names]; exact h.apart, h.res.keep fun k hk => hc.block k (h.res.lt k hk) (fun e => h.sep j hj (e ▸ hk)), by rw [putL_names]; exact h.sep, ?_, ?_, h.chg.step hc (fun i hi e => by subst e; exact h.mine _ hmine hi), fun k hk => h.mine k ((hM k).1 hk), h.old⟩
  · rcases putL_mem h.nodup y hy with ⟨h1, h2⟩ | ⟨x, h1, h2, rfl⟩
    · refine ⟨(h.var y h1).1.rowFar (hne _ (List.mem_map.2 ⟨y, h1, rfl⟩) h2) _, (h.var y h1).2⟩
    · subst h2
      exact ⟨(h.var x h1).1.row _, hp, (h.var x h1).2.2⟩
  · refine h.fact.past (D' := Dof b.X S G (putL L j ps)) (hc.mono (D' := Dof b.X S G L) fun i _ e => by subst e; exact .inr hmine) fun i _ hd => ?_
    exact hd.imp id (hM i).1
  · refine h.fresh.past (D' := Nof b S G (putL L j ps)) (hc.mono (D' := Nof b S G L) fun i _ e => by subst e; exact .inr hmine) fun i _ hd => ?_
    exact hd.imp id (hM i).1
end

/-! ### Regions, the order forced -/
def lS (P : Program) (b : Base) (ops : Array Oper) (Q : Exit → Act → World → Prop) (N : Nat) (l : List Oper) (e : Env) : Prop := ∀ a w, St b N e a w → wpList P ops Q l a w
theorem runBox {P : Program} {o : Oper} {ty : TypeId} {x : Operand} (ho : o.op = .box ty x) (a : Act) (w : World) : (execOp a.eval o).run P w = .ok (.value (.pointer (some ⟨w.heap.size, 0, none⟩))) (w.alloc (.cells (a.eval x).cells ty)) := by
  unfold execOp
  simp [ho, Instr.box, newVar, newRow]
theorem lookL_name {L : List LV} {j : Nat} {ps : List Pt} (h : lookL L j = some ps) : j ∈ namesL L := by
  obtain ⟨x, hx, rfl, _⟩ := lookL_mem h
  exact List.mem_map.2 ⟨x, hx, rfl⟩
section
variable {P : Program} {b : Base} {T : List TyR} {ops : Array Oper} {Q : Exit → Act → World → Prop} {N : Nat} {R : List Res} {F M : World → Prop}
theorem wpl_go {o : Oper} {l : List Oper} {a : Act} {w w' : World} {v : Value} (hw : Region.wanted o (yielded ops a.tmps) = true) (hr : (execOp a.eval o).run P w = .ok (.value v) w') (h : wpList P ops Q l (a.put o.dst v) w') : wpList P ops Q (o :: l) a w := by
  unfold wpList
  rw [if_pos hw]
  refine .inl ?_
  unfold Oper.wp
  rw [hr]
  exact h
theorem wpl_skip {o : Oper} {l : List Oper} {a : Act} {w w' : World} (hw : Region.wanted o (yielded ops a.tmps) = true) (hr : (execOp a.eval o).run P w = .ok .skip w') (h : wpList P ops Q l (a.put o.dst undef) w') : wpList P ops Q (o :: l) a w := by
  unfold wpList
  rw [if_pos hw]
  refine .inl ?_
  unfold Oper.wp
  rw [hr]
  exact h
theorem wpl_bare {o : Oper} {l : List Oper} {a : Act} {w : World} (hw : Region.wanted o (yielded ops a.tmps) = true) (h : wpList P ops Q (bareO o :: l) a w) : wpList P ops Q (o :: l) a w := by
  obtain ⟨dst, op, ty, pos, af, gd⟩ := o
  unfold wpList at h ⊢
  rw [if_pos hw]
  rw [if_pos (by rfl)] at h
  exact h
theorem StA.put {e : Env} {G : Nat → Nat} {S : Nat → Prop} {a : Act} {w : World} (h : StA b N e G S a w) {k : Nat} (hk : Nat.blt k N = true) {v : SV} (hv : v.Ok) : StA b N { e with E := (k, v) :: e.E } G S (a.put (some k) (v.den G)) w := ⟨h.fr.put hk _, h.ok.cons hv, h.st⟩
theorem autoS_ok (hT : OkT P T) : ∀ {l : List Oper} {E : SE} {L : List LV}, lS P b ops Q N (autoS T ops N l E L).1 ⟨(autoS T ops N l E L).2.1, (autoS T ops N l E L).2.2, R, F, M⟩ → lS P b ops Q N l ⟨E, L, R, F, M⟩
  | [], _, _, h => h
  | o :: l, E, L, h => by
    intro a w ⟨G, S, hs⟩
    have hst := hs.st
    dsimp only at hst
    unfold autoS at h
    cases hw : wantS ops N E o with
    | none => rw [hw] at h; exact h a w ⟨G, S, hs⟩
    | some q =>
      rw [hw] at h
      have hwt := wantS_ok hs.fr hw
      cases q with
      | false =>
        dsimp only at h
        have key : ∀ K, wpList P ops Q l (a.put o.dst undef) w → K = (o :: l) → wpList P ops Q K a w := fun K hk e => by
          rw [e]
          unfold wpList
          rw [hwt, if_neg (by decide)]
          exact hk
        cases hd : o.dst with
        | none =>
          rw [hd] at h
          exact key _ (by rw [hd]; exact autoS_ok hT h a w ⟨G, S, hs⟩) rfl
        | some k =>
          rw [hd] at h
          dsimp only at h
          cases hk : Nat.blt k N with
          | false => rw [hk] at h; exact h a w ⟨G, S, hs⟩
          | true =>
            rw [hk] at h
            exact key _ (by rw [hd]; exact autoS_ok hT h _ w ⟨G, S, hs.put (v := .v undef) hk trivial⟩) rfl
      | true =>
        dsimp only at h
        cases hd : o.dst with
        | none =>
          rw [hd] at h
          dsimp only at h
          cases hv : setS T E L o.op with
          | none => rw [hv] at h; exact wpl_bare hwt (h a w ⟨G, S, hs⟩)
          | some jp =>
            obtain ⟨j, qs⟩ := jp
            rw [hv] at h
            dsimp only at h
            obtain ⟨dst, op, ty, pos, af, gd⟩ := o
            dsimp only at hv hd
            subst hd
            cases op <;> first | (cases hv; done) | skip
            rename_i t x y
            simp only [setS] at hv
            split at hv
            · rename_i i off q hx hy
              split at hv
              · rename_i ps hps
                split at hv
                · rename_i qs' hq
                  injection hv with hv
                  injection hv with e1 e2
                  subst e1 e2
                  obtain ⟨z, hz, rfl, rfl⟩ := lookL_mem hps
                  obtain ⟨h3, h4⟩ := storeS_ok hT (hst.okL z hz) (hs.ok.ev hy) hq
                  have e1 := hs.fr.eval (evS_ok hx)
                  have e2 := hs.fr.eval (evS_ok hy)
                  refine wpl_skip (w' := w.setRow (G z.j) (catP qs')) hwt ?_ (autoS_ok hT h _ _ ⟨G, S, hs.fr, hs.ok, hst.set (lookL_name hps) h3⟩)
                  unfold execOp
                  simp only [e1, e2, SV.den, h4 (hst.at z hz), Sem.run_bind, Sem.run_pure, Result.andThen_ok]
                · cases hv
              · cases hv
            · cases hv
        | some k =>
          rw [hd] at h
          dsimp only at h
          cases hk : Nat.blt k N with
          | false => rw [hk] at h; exact h a w ⟨G, S, hs⟩
          | true =>
            rw [hk] at h
            dsimp only at h
            cases hv : stepS T E L o.op with
            | some v =>
              rw [hv] at h
              obtain ⟨h1, h2⟩ := stepS_ok hT hs.ok hst.okL hv
              exact wpl_go hwt (h2 hs.fr hst.at) (by rw [hd]; exact autoS_ok hT h _ w ⟨G, S, hs.put hk h1⟩)
            | none =>
              rw [hv] at h
              dsimp only at h
              cases hn : newS T E L k o.op with
              | none => rw [hn] at h; exact wpl_bare hwt (h a w ⟨G, S, hs⟩)
              | some tp =>
                obtain ⟨ty, ps⟩ := tp
                rw [hn] at h
                dsimp only at h
                have key : OkP ps → farL k L = true → farE k E = true → (execOp a.eval o).run P w = .ok (.value (.pointer (some ⟨w.heap.size, 0, none⟩))) (w.alloc (.cells (catP ps) ty)) → wpList P ops Q (o :: l) a w := fun hp hf hfe hr => by
                  refine wpl_go hwt hr ?_
                  rw [hd]
                  have hfr := hs.fr.put hk (.pointer (some ⟨w.heap.size, 0, none⟩))
                  refine autoS_ok hT h _ _ ⟨_, S, ?_, hs.ok.cons trivial, hst.new hf hp⟩
                  show Fr N ((k, .pointer (some ⟨if k = k then w.heap.size else G k, 0, none⟩)) :: denE _ E) _
                  rw [if_pos rfl, denE_far hfe]
                  exact hfr
                obtain ⟨dst, op, ty', pos, af, gd⟩ := o
                dsimp only at hn hd
                subst hd
                cases op <;> first | (cases hn; done) | skip
                · simp only [newS] at hn
                  split at hn
                  · rename_i r hr hf hfe
                    injection hn with hn
                    injection hn with e1 e2
                    subst e1 e2
                    obtain ⟨h3, h4⟩ := findT_ok hT hr
                    subst h4
                    obtain ⟨it, d, h5, _, _, h6, _⟩ := h3.info
                    exact key h3.2 hf hfe (exec_alloc rfl (by rw [h5]; exact h6) a w)
                  · cases hn
                · simp only [newS] at hn
                  split at hn
                  · rename_i qs hx hf hfe
                    injection hn with hn
                    injection hn with e1 e2
                    subst e1 e2
                    have e1 := hs.fr.eval (evS_ok hx)
                    refine key (hs.ok.ev hx) hf hfe ?_
                    rw [runBox rfl, e1]
                    rfl
                  · rename_i s hx hf hfe
                    split at hn
                    · rename_i hfc
                      injection hn with hn
                      injection hn with e1 e2
                      subst e1 e2
                      have e1 := hs.fr.eval (evS_ok hx)
                      have hso : s.Ok := hs.ok.ev hx
                      obtain ⟨h5, h6⟩ := fitC_ok hso hfc
                      refine key (fun p hp => by rw [List.mem_singleton.1 hp]; exact ⟨hso, h5, h6⟩) hf hfe ?_
                      rw [runBox rfl, e1]
                      show _ = Result.ok _ (w.alloc (.cells #[s.den] _))
                      rw [← h6]
                      rfl
                    · cases hn
                  · cases hn
theorem l_autoS (hT : OkT P T) {l l' : List Oper} {E E' : SE} {L L' : List LV} (h : autoS T ops N l E L = (l', E', L')) (hn : lS P b ops Q N l' ⟨E', L', R, F, M⟩) : lS P b ops Q N l ⟨E, L, R, F, M⟩ := autoS_ok hT (by rw [h]; exact hn)
end
end Go.Proofs.YtoecohpcnojokaaDoor
/-
  CODE OVER STATES; what a call does: contracts that speak of what is owned, of facts, of what is new.
-/
namespace Go.Proofs.YtoecohpcnojokaaDoor
open Go.RowKit Go.IntWalk

def cS (P : Program) (b : Base) (c : Code) (Q : Exit → Act → World → Prop) (N : Nat) (e : Env) : Prop := ∀ a w, St b N e a w → c.wp P Q a w
def kS (b : Base) (K : Act → World → Prop) (N : Nat) (e : Env) : Prop := ∀ a w, St b N e a w → K a w

/-! ### Less is known -/
def SubS : SE → SE → Prop
  | [], _ => True
  | p :: r, E => lookS E p.1 = some p.2 ∧ SubS r E
def findL : List LV → Nat → Option LV
  | [], _ => none
  | x :: r, j => match Nat.beq x.j j with
    | true => some x
    | false => findL r j
def SubL : List LV → List LV → Prop
  | [], _ => True
  | x :: r, L => findL L x.j = some x ∧ farL x.j r = true ∧ SubL r L
theorem SubS.ok : ∀ {E' E : SE}, SubS E' E → OkE E → OkE E'
  | [], _, _, _ => fun _ hx => by cases hx
  | (j, u) :: r, E, hs, h => fun x hx => by
    rcases List.mem_cons.1 hx with rfl | hx
    · exact h.get hs.1
    · exact SubS.ok hs.2 h x hx
theorem findL_mem : ∀ {L : List LV} {j : Nat} {x : LV}, findL L j = some x → x ∈ L ∧ x.j = j
  | [], _, _, h => by cases h
  | y :: r, j, x, h => by
    unfold findL at h
    split at h
    · rename_i e
      injection h with h
      subst h
      exact ⟨List.mem_cons_self, Nat.eq_of_beq_eq_true e⟩
    · exact ⟨List.mem_cons_of_mem _ (findL_mem h).1, (findL_mem h).2⟩
theorem SubL.mem : ∀ {L' L : List LV}, SubL L' L → ∀ x ∈ L', x ∈ L
  | [], _, _, _, h => by cases h
  | y :: r, L, h, x, hx => by
    rcases List.mem_cons.1 hx with rfl | hx
    · exact (findL_mem h.1).1
    · exact SubL.mem h.2.2 x hx
theorem SubL.names {L' L : List LV} (h : SubL L' L) : ∀ j ∈ namesL L', j ∈ namesL L := fun j hj => by
  obtain ⟨x, hx, rfl⟩ := List.mem_map.1 hj
  exact List.mem_map.2 ⟨x, h.mem x hx, rfl⟩
theorem SubL.nodup : ∀ {L' L : List LV}, SubL L' L → (namesL L').Nodup
  | [], _, _ => List.nodup_nil
  | _ :: _, _, h => List.nodup_cons.2 ⟨farL_mem h.2.1, SubL.nodup h.2.2⟩
theorem pair_of {G : Nat → Nat} {l m : List Nat} (h : m.Pairwise fun i j => G i ≠ G j) (hl : ∀ j ∈ l, j ∈ m) (hd : l.Nodup) : l.Pairwise fun i j => G i ≠ G j := by
  refine List.Pairwise.imp_of_mem (fun {x y} hx hy hxy => ?_) hd
  obtain ⟨p, hp, e1⟩ := List.getElem_of_mem (hl x hx)
  obtain ⟨q, hq, e2⟩ := List.getElem_of_mem (hl y hy)
  rw [← e1, ← e2]
  rcases Nat.lt_trichotomy p q with h1 | h1 | h1
  · exact List.pairwise_iff_getElem.1 h p q hp hq h1
  · subst h1; exact absurd (e1.symm.trans e2) hxy
  · exact (List.pairwise_iff_getElem.1 h q p hq hp h1).symm
theorem denE_sub {G : Nat → Nat} : ∀ {E' E : SE}, SubS E' E → Sub (denE G E') (denE G E)
  | [], _, _ => trivial
  | (k, v) :: r, E, h => ⟨by rw [look_den, h.1]; rfl, denE_sub h.2⟩
/-- What is known in e is enough for e'. -/
structure Weak (e e' : Env) : Prop where
  E : SubS e'.E e.E
  L : SubL e'.L e.L
  R : e.R.Perm e'.R
  F : ∀ w, e.F w → e.M w → e'.F w
  M : ∀ w, e.M w → e'.M w
section
variable {b : Base} {N : Nat} {e e' : Env} {a : Act} {w : World}
theorem StW.less {G : Nat → Nat} {S : Nat → Prop} {L L' : List LV} {R : List Res} {F M : World → Prop} (h : StW b G S L R F M w) (hL : SubL L' L) : StW b G S L' R F M w := by
  have hM : ∀ k, Mine S G L' k → Mine S G L k := fun k hk => hk.imp id fun ⟨j, hj, e⟩ => ⟨j, hL.names j hj, e⟩
  exact ⟨fun x hx => h.var x (hL.mem x hx), pair_of h.apart hL.names hL.nodup, h.res, fun j hj => h.sep j (hL.names j hj), h.fact.less fun k _ hk => hk.imp id (hM k), h.fresh.less fun k _ hk => hk.imp id (hM k), h.chg, fun k hk => h.mine k (hM k hk), h.old⟩
theorem St.weak (h : St b N e a w) (hw : Weak e e') : St b N e' a w := by
  obtain ⟨G, S, h1, h2, h3⟩ := h
  refine ⟨G, S, h1.sub (denE_sub hw.E), hw.E.ok h2, ?_⟩
  have h4 := (h3.less hw.L).imp hw.F hw.M
  exact { h4 with res := h4.res.perm hw.R }
end
section
variable {P : Program} {b : Base} {Q : Exit → Act → World → Prop} {N : Nat} {e e' : Env}
theorem k_weak {K : Act → World → Prop} (hw : Weak e e') (h : kS b K N e') : kS b K N e := fun a w hs => h a w (hs.weak hw)
theorem c_weak {c : Code} (hw : Weak e e') (h : cS P b c Q N e') : cS P b c Q N e := fun a w hs => h a w (hs.weak hw)
/-! ### Code -/
theorem s_seq {x y : Code} (h : ∀ K : Act → World → Prop, (∀ e', cS P b y Q N e' → kS b K N e') → cS P b x (Exit.then K Q) N e) : cS P b (.seq x y) Q N e := fun a w hs =>
  wp_seq_k fun K hK => h K (fun _ h' a' w' hs' => hK _ _ (h' a' w' hs')) a w hs
theorem s_lit {id : Nat} {l : List Oper} (h : lS P b l.toArray Q N l e) : cS P b (.region id l.toArray false) Q N e := fun a w hs => wp_region_lit (h a w hs)
/-- A region, the order forced, and what comes behind it. -/
theorem s_reg {id : Nat} {l : List Oper} {y : Code} (h : ∀ K : Act → World → Prop, (∀ e', cS P b y Q N e' → kS b K N e') → lS P b l.toArray (Exit.then K Q) N l e) : cS P b (.seq (.region id l.toArray false) y) Q N e := s_seq fun K hK => s_lit (h K hK)
theorem s_end {ops : Array Oper} (h : kS b (Q .normal) N e) : lS P b ops Q N [] e := fun a w hs => wpl_nil (h a w hs)
theorem s_if {c : Operand} {x y : Code} {E : SE} {L : List LV} {R : List Res} {F M : World → Prop} (t : Bool) (hc : evS E c = some (.b t)) (h1 : t = true → cS P b x Q N ⟨E, L, R, F, M⟩) (h2 : t = false → cS P b y Q N ⟨E, L, R, F, M⟩) : cS P b (.cond c x y) Q N ⟨E, L, R, F, M⟩ := fun a w hs => by
  have hs' := hs
  obtain ⟨G, S, h3⟩ := hs
  exact wp_cond_split (h3.fr.eval (evS_ok hc)) (fun ht => h1 ht a w hs') (fun ht => h2 ht a w hs')
theorem s_ifD {c : Operand} {x y : Code} {E : SE} {L : List LV} {R : List Res} {F M : World → Prop} (p : Prop) [Decidable p] (hc : evS E c = some (.b (decide p))) (h1 : p → cS P b x Q N ⟨E, L, R, F, M⟩) (h2 : ¬ p → cS P b y Q N ⟨E, L, R, F, M⟩) : cS P b (.cond c x y) Q N ⟨E, L, R, F, M⟩ :=
  s_if (decide p) hc (fun h => h1 (of_decide_eq_true h)) (fun h => h2 (of_decide_eq_false h))
theorem s_yes {c : Operand} {x y : Code} {E : SE} {L : List LV} {R : List Res} {F M : World → Prop} (hc : evS E c = some (.v (.bool true))) (h1 : cS P b x Q N ⟨E, L, R, F, M⟩) : cS P b (.cond c x y) Q N ⟨E, L, R, F, M⟩ := fun a w hs => by
  have hs' := hs
  obtain ⟨G, S, h3⟩ := hs
  exact wp_cond_true (h3.fr.eval (evS_ok hc)) (h1 a w hs')
theorem s_no {c : Operand} {x y : Code} {E : SE} {L : List LV} {R : List Res} {F M : World → Prop} (hc : evS E c = some (.v (.bool false))) (h1 : cS P b y Q N ⟨E, L, R, F, M⟩) : cS P b (.cond c x y) Q N ⟨E, L, R, F, M⟩ := fun a w hs => by
  have hs' := hs
  obtain ⟨G, S, h3⟩ := hs
  exact wp_cond_false (h3.fr.eval (evS_ok hc)) (h1 a w hs')
theorem s_block {id : Nat} {c : Code} (h : cS P b c (Exit.inBlock id Q) N e) : cS P b (.block id c) Q N e := fun a w hs => wp_block (h a w hs)
theorem s_skip (h : kS b (Q .normal) N e) : cS P b .skip Q N e := fun a w hs => wp_skip (h a w hs)
theorem s_exit {id : Nat} (h : kS b (Q (.exit id)) N e) : cS P b (.exit id) Q N e := fun a w hs => wp_exit (h a w hs)
theorem s_ret (h : kS b (Q .ret) N e) : cS P b .ret Q N e := fun a w hs => wp_ret (h a w hs)
/-- The end of a block by its exit. -/
theorem k_out {id : Nat} (h : kS b (Q .normal) N e) : kS b (Exit.inBlock id Q (.exit id)) N e := fun a w hs => by
  simp only [Exit.inBlock, if_true]
  exact h a w hs
theorem k_pass {id : Nat} {K : Act → World → Prop} (h : kS b (Q (.exit id)) N e) : kS b (Exit.then K Q (.exit id)) N e := h
theorem k_passB {id id' : Nat} (hne : (id == id') = false) (h : kS b (Q (.exit id)) N e) : kS b (Exit.inBlock id' Q (.exit id)) N e := fun a w hs => by
  simp only [Exit.inBlock]
  rw [if_neg (by simpa using hne)]
  exact h a w hs
/-- **A loop**: its states, what is known at each, what gets less. -/
theorem s_loop {σ : Type} {c : Code} (m : σ → Nat) (F : σ → Env) (I : σ → Prop)
    (round : ∀ s, I s → cS P b c (Exit.then (fun a' w' => ∃ s', I s' ∧ St b N (F s') a' w' ∧ m s' < m s) Q) N (F s)) (s0 : σ) (h0 : I s0) : cS P b (.loop c) Q N (F s0) := fun a w hs => by
  obtain ⟨G, S, h1, h2, h3⟩ := hs
  refine c_loop (σ := σ × (Nat → Nat) × (Nat → Prop)) (m := fun x => m x.1) (F := fun x => denE x.2.1 (F x.1).E) (R := fun x w => I x.1 ∧ OkE (F x.1).E ∧ StW b x.2.1 x.2.2 (F x.1).L (F x.1).R (F x.1).F (F x.1).M w) ?_ (s0, G, S) ⟨h0, h2, h3⟩ a h1
  rintro ⟨s, G, S⟩ w ⟨hI, hE, hW⟩ a ha
  refine wp_mono (round s hI a w ⟨G, S, ha, hE, hW⟩) fun x a' w' hx => ?_
  cases x with
  | normal =>
    obtain ⟨s', hI', ⟨G', S', h4, h5, h6⟩, hm⟩ := hx
    exact ⟨(s', G', S'), ⟨hI', h5, h6⟩, h4, hm⟩
  | exit _ => exact hx
  | goto _ => exact hx
  | ret => exact hx
  | panic _ => exact hx
  | outgrown => exact hx
/-- The end of a loop's round. -/
theorem k_next {σ : Type} {m : σ → Nat} {F : σ → Env} {I : σ → Prop} {s : σ} (s' : σ) (hI : I s') (hm : m s' < m s) (hw : Weak e (F s')) : kS b (fun a' w' => ∃ s', I s' ∧ St b N (F s') a' w' ∧ m s' < m s) N e := fun _ _ hs => ⟨s', hI, hs.weak hw, hm⟩
end

/-! ### Contracts -/
/-- What is handed back. -/
inductive RV where
  | q (x : SQ)
  | t (vs : List SQ)
def RV.sv : RV → SV
  | .q x => .q x
  | .t vs => .t vs
def RV.den : RV → Value
  | .q x => x.den
  | .t vs => .tuple (vs.map SQ.den).toArray
theorem RV.sv_den (r : RV) (G : Nat → Nat) : r.sv.den G = r.den := by cases r <;> rfl
abbrev RV.v (x : Value) : RV := .q (.c (.v x))
/-- What holds behind a call: for some x, what is handed back, what is owned, facts, facts of new memory alone. -/
structure Post (α : Type) where
  ret : α → RV
  own : α → List Res := fun _ => []
  p : α → World → Prop := fun _ _ => True
  n : α → World → Prop := fun _ _ => True
/-- **A contract.** -/
def Spec (f : FuncId) (args : List Value) (own : List Res) (F : World → Prop) {α : Type} (post : Post α) : Prop :=
  ∀ (w : World) (S X : Nat → Prop), starL own w S → (∀ k, X k → k < w.heap.size ∧ ¬ S k) → Stb (fun k => X k ∨ S k) F w →
    Calls Tryd.prog f args.toArray w fun e w' => ∃ x S', e = .returned (post.ret x).den ∧ (post.ret x).sv.Ok ∧ Chg S w w' ∧ starL (post.own x) w' S' ∧ (∀ k, S' k → k < w.heap.size → S k) ∧
      Stb (fun k => X k ∨ S' k) (post.p x) w' ∧ Stb (fun k => k < w.heap.size ∨ S' k) (post.n x) w'
/-- One value, no memory. -/
abbrev one (r : RV) : Post Unit := { ret := fun _ => r }
theorem Spec.imp {f : FuncId} {args : List Value} {own : List Res} {F F' : World → Prop} {α : Type} {post : Post α} (h : Spec f args own F post) (hF : ∀ w, F' w → F w) : Spec f args own F' post := fun w S X hS hX hf => h w S X hS hX (hf.imp hF)

/-! ### Begin and end -/
def argS : Nat → List SQ → SE
  | _, [] => []
  | j, v :: vs => (j, .q v) :: argS (j + 1) vs
theorem argS_den (G : Nat → Nat) : ∀ (vs : List SQ) (j : Nat), denE G (argS j vs) = argE j (vs.map SQ.den)
  | [], _ => rfl
  | v :: vs, j => by rw [argS, denE, argS_den G vs (j + 1)]; rfl
theorem argS_ok : ∀ {vs : List SQ} {j : Nat}, (∀ v ∈ vs, v.Ok) → OkE (argS j vs)
  | [], _, _ => fun _ h => by cases h
  | v :: vs, j, h => OkE.cons (argS_ok fun u hu => h u (by simp [hu])) (h v (by simp))
/-- What is asked at a call's end. -/
def endS {α : Type} (b : Base) (post : Post α) (e : Ending) (w' : World) : Prop := ∃ x S', e = .returned (post.ret x).den ∧ (post.ret x).sv.Ok ∧ Chg b.D b.B w' ∧ starL (post.own x) w' S' ∧ (∀ k, S' k → k < b.B.heap.size → b.D k) ∧
  Stb (fun k => b.X k ∨ S' k) (post.p x) w' ∧ Stb (fun k => k < b.B.heap.size ∨ S' k) (post.n x) w'
theorem spec_S {f : FuncId} {fn : Func} {c : Code} {own : List Res} {F : World → Prop} {α : Type} {post : Post α} (vs : List SQ) (N : Nat) (hf : Tryd.prog.funcs[f]? = some fn) (hb : fn.body = some c) (hn : vs.length + (fn.ntmps - vs.length) = N) (hv : ∀ v ∈ vs, v.Ok)
    (h : ∀ b : Base, cS Tryd.prog b c (bodyPost Tryd.prog fn (endS b post)) N ⟨argS 0 vs, [], own, F, fun _ => True⟩) : Spec f (vs.map SQ.den) own F post := fun w S X hS hX hF => by
  refine calls_F N hf hb (by simpa using hn) fun a ha => ?_
  refine h ⟨X, w, S⟩ a w ⟨fun _ => 0, S, by rw [argS_den]; exact ha, argS_ok hv, fun x hx => (by cases hx), List.Pairwise.nil, hS, fun x hx => (by cases hx), ?_, fun _ _ => trivial, Chg.refl _ _, fun k hk _ => ?_, hX⟩
  · exact hF.less fun k _ hk => hk.imp id fun hk => hk.elim id fun ⟨j, hj, _⟩ => by cases hj
  · exact hk.elim id fun ⟨j, hj, _⟩ => by cases hj
/-- What lies where the results are. -/
def resS (T : List TyR) (E : SE) (L : List LV) : List ResultVar → Option (List SQ)
  | [] => some []
  | .tmp t :: r => match lookS E t, resS T E L r with
    | some (.q q), some qs => some (q :: qs)
    | _, _ => none
  | .cell t ty :: r => match lookS E t, resS T E L r with
    | some (.a j off), some qs => match lookL L j with
      | some ps => match loadS T ps ty off with
        | some q => some (q :: qs)
        | none => none
      | none => none
    | _, _ => none
def retOf : List SQ → RV
  | [q] => .q q
  | qs => .t qs
def elemR (tmps : Array Value) : ResultVar → Sem Value
  | .tmp t => pure (tmps.getD t undef)
  | .cell p t => do loadVar t (← asAddr (tmps.getD p undef))
theorem elemR_ok {P : Program} {T : List TyR} (hT : OkT P T) {E : SE} {L : List LV} (hE : OkE E) (hL : OkL L) {N : Nat} {G : Nat → Nat} {a : Act} {w : World} (ha : Fr N (denE G E) a) (hl : LAt G L w) {r : ResultVar} {rs : List ResultVar} {qs : List SQ} (h : resS T E L (r :: rs) = some qs) :
    ∃ q qs', qs = q :: qs' ∧ q.Ok ∧ (elemR a.tmps r).run P w = .ok q.den w ∧ resS T E L rs = some qs' := by
  cases r with
  | tmp t =>
    simp only [resS] at h
    split at h
    · rename_i q qs' h1 h2
      injection h with h
      subst h
      have e : a.tmps.getD t undef = q.den := ha.get t _ (by rw [look_den, h1]; rfl)
      exact ⟨q, qs', rfl, hE.get h1, by simp only [elemR, Sem.run_pure, e], h2⟩
    · cases h
  | cell t ty =>
    simp only [resS] at h
    split at h
    · rename_i j off qs' h1 h2
      split at h
      · rename_i ps hps
        split at h
        · rename_i q hq
          injection h with h
          subst h
          obtain ⟨y, hy, rfl, rfl⟩ := lookL_mem hps
          obtain ⟨h5, h6⟩ := loadS_ok hT (hL y hy) hq
          have e : a.tmps.getD t undef = .pointer (some ⟨G y.j, off, none⟩) := ha.get t _ (by rw [look_den, h1]; rfl)
          have h7 := h6 (hl y hy)
          simp only [Instr.loadAt, Instr.sureAddr, Sem.run_bind, Sem.run_pure, Result.andThen_ok] at h7
          exact ⟨q, qs', rfl, h5, by simp only [elemR, Sem.run_bind, Sem.run_pure, Result.andThen_ok, e, asAddr, h7], h2⟩
        · cases h
      · cases h
    · cases h
theorem results_eq (fn : Func) (tmps : Array Value) : results fn tmps = (do
    let vs ← fn.results.mapM (elemR tmps)
    pure (if h : vs.size = 1 then vs[0] else .tuple vs)) := by
  unfold results
  congr 2
theorem run_results {P : Program} {T : List TyR} (hT : OkT P T) {E : SE} {L : List LV} (hE : OkE E) (hL : OkL L) {N : Nat} {G : Nat → Nat} {fn : Func} {a : Act} {w : World} (ha : Fr N (denE G E) a) (hl : LAt G L w) {rs : List ResultVar} {qs : List SQ} (hr : fn.results = rs.toArray) (hs : rs.length ≤ 3) (h : resS T E L rs = some qs) :
    (retOf qs).sv.Ok ∧ (results fn a.tmps).run P w = .ok (retOf qs).den w := by
  rw [results_eq, hr]
  rcases rs with _ | ⟨r1, _ | ⟨r2, _ | ⟨r3, _ | ⟨r4, rs⟩⟩⟩⟩
  · cases h
    exact ⟨fun _ h => (by cases h), by simp [retOf, RV.den]⟩
  · obtain ⟨q1, qs, rfl, o1, e1, h⟩ := elemR_ok hT hE hL ha hl h
    cases h
    exact ⟨o1, by simp [retOf, RV.den, e1]⟩
  · obtain ⟨q1, qs, rfl, o1, e1, h⟩ := elemR_ok hT hE hL ha hl h
    obtain ⟨q2, qs, rfl, o2, e2, h⟩ := elemR_ok hT hE hL ha hl h
    cases h
    refine ⟨fun x hx => ?_, by simp [retOf, RV.den, e1, e2]⟩
    simp only [List.mem_cons, List.not_mem_nil, or_false] at hx
    rcases hx with rfl | rfl <;> assumption
  · obtain ⟨q1, qs, rfl, o1, e1, h⟩ := elemR_ok hT hE hL ha hl h
    obtain ⟨q2, qs, rfl, o2, e2, h⟩ := elemR_ok hT hE hL ha hl h
    obtain ⟨q3, qs, rfl, o3, e3, h⟩ := elemR_ok hT hE hL ha hl h
    cases h
    refine ⟨fun x hx => ?_, by simp [retOf, RV.den, e1, e2, e3]⟩
    simp only [List.mem_cons, List.not_mem_nil, or_false] at hx
    rcases hx with rfl | rfl | rfl <;> assumption
  · simp at hs
/-- **The end of a call.** -/
theorem k_ret {T : List TyR} (hT : OkT Tryd.prog T) {b : Base} {fn : Func} {N : Nat} {E : SE} {L : List LV} {R : List Res} {F M : World → Prop} {α : Type} {post : Post α} {rs : List ResultVar} {qs : List SQ} (x : α) (hr : fn.results = rs.toArray) (hs : rs.length ≤ 3) (h : resS T E L rs = some qs)
    (hx : post.ret x = retOf qs) (hR : post.own x = R) (hp : ∀ w, F w → M w → post.p x w) (hn : ∀ w, M w → post.n x w) : kS b (bodyPost Tryd.prog fn (endS b post) .ret) N ⟨E, L, R, F, M⟩ := fun a w ⟨G, S, h1, h2, h3⟩ => by
  obtain ⟨h4, h5⟩ := run_results hT h2 h3.okL h1 h3.at hr hs h
  refine bodyPost_ret h5 h1.defers ⟨x, S, by rw [hx], by rw [hx]; exact h4, h3.chg, by rw [hR]; exact h3.res, fun k hk hlt => h3.mine k (.inl hk) hlt, (h3.all.imp fun w hw => hp w hw.1 hw.2).less fun k _ hk => hk.imp id .inl, (h3.fresh.imp hn).less fun k _ hk => hk.imp id .inl⟩
/-- The same, where what is handed back is said otherwise. -/
theorem k_retD {T : List TyR} (hT : OkT Tryd.prog T) {b : Base} {fn : Func} {N : Nat} {E : SE} {L : List LV} {R : List Res} {F M : World → Prop} {α : Type} {post : Post α} {rs : List ResultVar} {qs : List SQ} (x : α) (hr : fn.results = rs.toArray) (hs : rs.length ≤ 3) (h : resS T E L rs = some qs)
    (hx : (post.ret x).den = (retOf qs).den) (ho : (post.ret x).sv.Ok) (hR : post.own x = R) (hp : ∀ w, F w → M w → post.p x w) (hn : ∀ w, M w → post.n x w) : kS b (bodyPost Tryd.prog fn (endS b post) .ret) N ⟨E, L, R, F, M⟩ := fun a w ⟨G, S, h1, h2, h3⟩ => by
  obtain ⟨h4, h5⟩ := run_results hT h2 h3.okL h1 h3.at hr hs h
  refine bodyPost_ret h5 h1.defers ⟨x, S, by rw [hx], ho, h3.chg, by rw [hR]; exact h3.res, fun k hk hlt => h3.mine k (.inl hk) hlt, (h3.all.imp fun w hw => hp w hw.1 hw.2).less fun k _ hk => hk.imp id .inl, (h3.fresh.imp hn).less fun k _ hk => hk.imp id .inl⟩
end Go.Proofs.YtoecohpcnojokaaDoor
/-
  STEPS OVER STATES: elder steps, calls by their contracts; regions whose order is drawn.
-/
namespace Go.Proofs.YtoecohpcnojokaaDoor
open Go.RowKit Go.IntWalk

/-! ### Calls -/
/-- What can be seen: the variables, what is owned, the facts. -/
structure View (G : Nat → Nat) (S : Nat → Prop) (L : List LV) (R : List Res) (F M : World → Prop) (w : World) : Prop where
  var : ∀ x ∈ L, Blk w (G x.j) x.t (catP x.ps) ∧ OkP x.ps ∧ ∀ g, x.g = some g → G x.j = g
  res : starL R w S
  fact : F w
  fresh : M w
section
variable {b : Base} {G : Nat → Nat} {S : Nat → Prop} {L : List LV} {R R' own : List Res} {F M F' : World → Prop} {w w' : World} {α : Type} {post : Post α} {f : FuncId} {args : List Value}
theorem StW.view (h : StW b G S L R F M w) : View G S L R F M w := ⟨h.var, h.res, h.fact.now, h.all.now.2⟩
/-- The own blocks, split. -/
theorem StW.split (h : StW b G S L (own ++ R') F M w) : ∃ S1 S2, starL own w S1 ∧ starL R' w S2 ∧ (∀ k, S k ↔ S1 k ∨ S2 k) ∧ ∀ k, S1 k → ¬ S2 k := starL.app.1 h.res
/-- Behind a change of what is one's own. -/
theorem StW.chgd (h : StW b G S L R F M w) {S1 S2 S' : Nat → Prop} (hS : ∀ k, S k ↔ S1 k ∨ S2 k) (hc : Chg S1 w w') (hr : starL R' w' fun k => S' k ∨ S2 k) (hS' : ∀ k, S' k → k < w.heap.size → S1 k) : StW b G (fun k => S' k ∨ S2 k) L R' F M w' := by
  have hSm : ∀ k, S1 k → Mine S G L k := fun k hk => .inl ((hS k).2 (.inl hk))
  have hM : ∀ k, k < w.heap.size → Mine (fun k => S' k ∨ S2 k) G L k → Mine S G L k := fun k hlt hk => hk.imp (fun hk => (hS k).2 (hk.imp (fun h => hS' k h hlt) id)) id
  refine ⟨fun x hx => ⟨(hc.block _ (h.var x hx).1.lt fun hs => h.sep x.j (List.mem_map.2 ⟨x, hx, rfl⟩) ((hS _).2 (.inl hs))).trans (h.var x hx).1, (h.var x hx).2⟩, h.apart, hr, fun j hj hs => ?_, ?_, ?_, h.chg.step hc fun i hi hs => h.mine i (hSm i hs) hi, fun k hk hlt => h.mine k (hM k (Nat.lt_of_lt_of_le hlt h.chg.size) hk) hlt, h.old⟩
  · have hlt := h.lt (G j) (.inr ⟨j, hj, rfl⟩)
    exact h.sep j hj ((hS _).2 (hs.imp (fun h => hS' _ h hlt) id))
  · exact h.fact.past (D' := Dof b.X (fun k => S' k ∨ S2 k) G L) (hc.mono (D' := Dof b.X S G L) fun i _ hs => .inr (hSm i hs)) fun i hi hd => hd.imp id (hM i hi)
  · exact h.fresh.past (D' := Nof b (fun k => S' k ∨ S2 k) G L) (hc.mono (D' := Nof b S G L) fun i _ hs => .inr (hSm i hs)) fun i hi hd => hd.imp id (hM i hi)
/-- Behind a call that changed what it was lent. -/
theorem StW.lent (h : StW b G S L (own ++ R') F M w) {S1 S2 S' : Nat → Prop} {own' : List Res} (h2 : starL R' w S2) (hS : ∀ k, S k ↔ S1 k ∨ S2 k) (hd : ∀ k, S1 k → ¬ S2 k) (hc : Chg S1 w w') (h1' : starL own' w' S') (hS' : ∀ k, S' k → k < w.heap.size → S1 k) :
    StW b G (fun k => S' k ∨ S2 k) L (own' ++ R') F M w' := h.chgd hS hc (starL.app.2 ⟨S', S2, h1', h2.keep fun k hk => hc.block k (h2.lt k hk) fun hs => hd k hs hk, fun _ => Iff.rfl, fun k hk hk2 => hd k (hS' k hk (h2.lt k hk2)) hk2⟩) hS'
/-- One of what is owned is changed. -/
theorem StW.put (h : StW b G S L R F M w) {i : Nat} {r : Res} (hi : R[i]? = some r) : ∃ S1, r.holds w S1 ∧ ∀ (r' : Res) (w' : World) (S' : Nat → Prop), Chg S1 w w' → r'.holds w' S' → (∀ k, S' k → k < w.heap.size → S1 k) → ∃ S'', StW b G S'' L (R.set i r') F M w' := by
  obtain ⟨S1, S2, h1, h2, h3, h4, h5⟩ := h.res.at hi
  refine ⟨S1, h1, fun r' w' S' hc hr hS' => ⟨_, h.chgd h2 hc (h5 r' w' S' hr (fun k hk => hc.block k (h4.lt k hk) fun hs => h3 k hs hk) fun k hk hk2 => h3 k (hS' k hk (h4.lt k hk2)) hk2) hS'⟩⟩
/-- Something more is owned: of new blocks alone. -/
theorem StW.gain (h : StW b G S L R F M w) (k : Below w.heap.size w w') {r : Res} {S' : Nat → Prop} (hr : r.holds w' S') (hn : ∀ k, S' k → w.heap.size ≤ k) : ∃ S'', StW b G S'' L (r :: R) F M w' := by
  refine ⟨_, h.chgd (S1 := fun _ => False) (S2 := S) (S' := S') (fun k => ⟨.inr, fun h => h.elim False.elim id⟩) (Chg.of_up k) ⟨S', S, hr, h.res.keep fun i hi => k.block i (h.res.lt i hi), fun _ => Iff.rfl, fun i hi hs => ?_⟩ fun i hi hlt => ?_⟩
  · exact Nat.lt_irrefl _ (Nat.lt_of_lt_of_le (h.res.lt i hs) (hn i hi))
  · exact Nat.lt_irrefl _ (Nat.lt_of_lt_of_le hlt (hn i hi))
/-- What is owned no more, and what stays of it. -/
theorem StW.let (h : StW b G S L R F M w) {i : Nat} {r : Res} (hi : R[i]? = some r) : ∃ S1 S2, r.holds w S1 ∧ (∀ k, S1 k → ¬ S2 k) ∧ (∀ k, S k ↔ S1 k ∨ S2 k) ∧ StW b G S2 L (R.eraseIdx i) F M w := by
  obtain ⟨S1, S2, h1, h2, h3, h4, _⟩ := h.res.at hi
  have hM : ∀ k, Mine S2 G L k → Mine S G L k := fun k hk => hk.imp (fun h => (h2 k).2 (.inr h)) id
  exact ⟨S1, S2, h1, h3, h2, { h with res := h4, sep := fun j hj hs => h.sep j hj ((h2 _).2 (.inr hs)), fact := h.fact.less fun k _ hk => hk.imp id (hM k), fresh := h.fresh.less fun k _ hk => hk.imp id (hM k), mine := fun k hk => h.mine k (hM k hk) }⟩
/-- **A call**: its facts from facts; what it tells stays. -/
theorem StW.callA (h : StW b G S L (own ++ R') F M w) (hs : Spec f args own F' post) (hF : ∀ w, F w → M w → F' w) :
    Calls Tryd.prog f args.toArray w fun e w' => ∃ x S', e = .returned (post.ret x).den ∧ (post.ret x).sv.Ok ∧ StW b G S' L (post.own x ++ R') (fun w => post.p x w ∧ F w) (fun w => post.n x w ∧ M w) w' := by
  obtain ⟨S1, S2, h1, h2, hS, hd⟩ := h.split
  have hX : ∀ k, b.X k ∨ (S2 k ∨ ∃ j ∈ namesL L, G j = k) → k < w.heap.size ∧ ¬ S1 k := fun k hk => by
    rcases hk with hk | hk | ⟨j, hj, rfl⟩
    · exact ⟨Nat.lt_of_lt_of_le (h.old k hk).1 h.chg.size, fun hs => (h.old k hk).2 (h.mine k (.inl ((hS k).2 (.inl hs))) (h.old k hk).1)⟩
    · exact ⟨h2.lt k hk, fun hs => hd k hs hk⟩
    · exact ⟨h.lt _ (.inr ⟨j, hj, rfl⟩), fun hs => h.sep j hj ((hS _).2 (.inl hs))⟩
  refine (hs w S1 (fun k => b.X k ∨ (S2 k ∨ ∃ j ∈ namesL L, G j = k)) h1 hX ((h.all.imp fun w hw => hF w hw.1 hw.2).less fun k _ hk => ?_)).mono ?_
  · rcases hk with (hk | hk | hk) | hk
    · exact .inl hk
    · exact .inr (.inl ((hS k).2 (.inr hk)))
    · exact .inr (.inr hk)
    · exact .inr (.inl ((hS k).2 (.inl hk)))
  · rintro e w' ⟨x, S', he, hok, hc, h1', hS', hp, hn⟩
    have h3 := h.lent h2 hS hd hc h1' hS'
    refine ⟨x, _, he, hok, (h3.and (p := post.p x) (hp.less fun k _ hk => ?_)).andM (p := post.n x) (hn.less fun k _ hk => ?_)⟩
    · rcases hk with hk | (hk | hk) | hk
      · exact .inl (.inl hk)
      · exact .inr hk
      · exact .inl (.inr (.inl hk))
      · exact .inl (.inr (.inr hk))
    · rcases hk with hk | (hk | hk) | ⟨j, hj, rfl⟩
      · exact .inl (Nat.lt_of_lt_of_le hk h.chg.size)
      · exact .inr hk
      · exact .inl (h2.lt k hk)
      · exact .inl (h.lt _ (.inr ⟨j, hj, rfl⟩))
end

/-! ### The order forced -/
section
variable {b : Base} {ops : Array Oper} {Q : Exit → Act → World → Prop} {N : Nat} {E : SE} {L : List LV} {R R' own : List Res} {F M F' : World → Prop} {o : Oper} {rest : List Oper} {k : Nat} {α : Type} {post : Post α} {f : FuncId} {xs : Array Operand} {ats : Array TypeId} {svs : List SV}
theorem call_run {G : Nat → Nat} {a : Act} {w : World} (hf : Own f) (ho : o.op = .call { callee := .value (.func f), args := xs, argTypes := ats }) (hx : evSs E xs.toList = some svs) (ha : Fr N (denE G E) a) :
    (execOp a.eval o).run Tryd.prog w = .ok (.enter f (svs.map (SV.den G)).toArray) w := by
  rw [run_call_fn hf ho, map_eval (ha.evals _ _ (by rw [evSs_ok hx]))]
theorem l_callA (args : List Value) (hg : o.guard = none) (hd : o.dst = some k) (hk : Nat.blt k N = true) (hf : Own f) (ho : o.op = .call { callee := .value (.func f), args := xs, argTypes := ats }) (hx : evSs E xs.toList = some svs)
    (ha : ∀ G : Nat → Nat, (∀ x ∈ L, ∀ g, x.g = some g → G x.j = g) → svs.map (SV.den G) = args) (hs : Spec f args own F' post) (hF : ∀ w, F w → M w → F' w)
    (hn : ∀ x, lS Tryd.prog b ops Q N rest ⟨(k, (post.ret x).sv) :: E, L, post.own x ++ R', fun w => post.p x w ∧ F w, fun w => post.n x w ∧ M w⟩) : lS Tryd.prog b ops Q N (o :: rest) ⟨E, L, own ++ R', F, M⟩ := fun a w ⟨G, S, h1, h2, h3⟩ => by
  have hr := call_run (w := w) hf ho hx h1
  rw [ha G fun x hx => (h3.var x hx).2.2] at hr
  unfold wpList
  rw [if_pos (by simp [Region.wanted, hg])]
  refine .inl ?_
  unfold Oper.wp
  rw [hr]
  simp only [Oper.upon, hd]
  refine (h3.callA hs hF).mono ?_
  rintro e w' ⟨x, S', rfl, hok, h4⟩
  have h5 := h1.put hk (post.ret x).den
  rw [← RV.sv_den _ G] at h5
  have h6 := hn x _ w' ⟨G, S', h5, h2.cons hok, h4⟩
  rw [RV.sv_den] at h6
  exact h6
/-- A call that hands back one value and leaves nothing. -/
theorem l_call1 {r : RV} (args : List Value) (hg : o.guard = none) (hd : o.dst = some k) (hk : Nat.blt k N = true) (hf : Own f) (ho : o.op = .call { callee := .value (.func f), args := xs, argTypes := ats }) (hx : evSs E xs.toList = some svs)
    (ha : ∀ G : Nat → Nat, (∀ x ∈ L, ∀ g, x.g = some g → G x.j = g) → svs.map (SV.den G) = args) (hr : r.sv.Ok) (hs : ∀ G S w, View G S L R F M w → Calls Tryd.prog f args.toArray w fun e w' => e = .returned r.den ∧ Below w.heap.size w w')
    (hn : lS Tryd.prog b ops Q N rest ⟨(k, r.sv) :: E, L, R, F, M⟩) : lS Tryd.prog b ops Q N (o :: rest) ⟨E, L, R, F, M⟩ := fun a w ⟨G, S, h1, h2, h3⟩ => by
  have hr' := call_run (w := w) hf ho hx h1
  rw [ha G fun x hx => (h3.var x hx).2.2] at hr'
  unfold wpList
  rw [if_pos (by simp [Region.wanted, hg])]
  refine .inl ?_
  unfold Oper.wp
  rw [hr']
  simp only [Oper.upon, hd]
  refine (hs G S w h3.view).mono ?_
  rintro e w' ⟨rfl, hb⟩
  have h5 := h1.put hk r.den
  rw [← RV.sv_den _ G] at h5
  have h6 := hn _ w' ⟨G, S, h5, h2.cons hr, h3.later hb⟩
  rw [RV.sv_den] at h6
  exact h6
/-- An elder step, of the usual kind. -/
theorem l_f {P : Program} (v : SV) (hv : v.Ok) (h : ∀ (G : Nat → Nat) (S : Nat → Prop) (w : World) (C0 : World → Prop) (Q' : Act → Prop), View G S L R F M w → (∀ w', C0 w' → w' = w) → bF P ops C0 Q' [] N ((k, v.den G) :: denE G E) → bF P ops C0 Q' [o] N (denE G E)) (hs : stillG o.op = true)
    (hn : lS P b ops Q N rest ⟨(k, v) :: E, L, R, F, M⟩) : lS P b ops Q N (o :: rest) ⟨E, L, R, F, M⟩ := fun a w ⟨G, S, h1, h2, h3⟩ => by
  refine wpList_of_Bs [o] a w (by simp [hs]) (h G S w (· = w) _ h3.view (fun _ h => h) (fun a' ha' => wpB_nil ?_) a h1)
  exact hn a' w ⟨G, S, ha', h2.cons hv, h3⟩
/-- What a slot holds, said otherwise. -/
theorem l_eq {P : Program} {l : List Oper} (k : Nat) {v : SV} (v' : SV) (h : lookS E k = some v) (he : v = v') (hn : lS P b ops Q N l ⟨(k, v') :: E, L, R, F, M⟩) : lS P b ops Q N l ⟨E, L, R, F, M⟩ := fun a w ⟨G, S, h1, h2, h3⟩ => by
  subst he
  exact hn a w ⟨G, S, h1.more (h1.get k _ (by rw [look_den, h]; rfl)), h2.cons (h2.get h), h3⟩
/-- A bool that is known. -/
theorem l_is {P : Program} {l : List Oper} (k : Nat) {t : Bool} (q : Bool) (h : lookS E k = some (.b t)) (he : t = q) (hn : lS P b ops Q N l ⟨(k, .v (.bool q)) :: E, L, R, F, M⟩) : lS P b ops Q N l ⟨E, L, R, F, M⟩ := fun a w ⟨G, S, h1, h2, h3⟩ => by
  subst he
  exact hn a w ⟨G, S, h1.more (h1.get k _ (by rw [look_den, h]; rfl)), h2.cons trivial, h3⟩
/-- A number, said otherwise. -/
theorem l_num {P : Program} {l : List Oper} (k : Nat) {K : IntKind} {m : Int} (n : Int) (h : lookS E k = some (.v (.int K m))) (he : m = n) (hn : lS P b ops Q N l ⟨(k, .v (.int K n)) :: E, L, R, F, M⟩) : lS P b ops Q N l ⟨E, L, R, F, M⟩ := l_eq k _ h (by rw [he]) hn
end

/-! ### The order drawn -/
/-- What is left of a drawn region's operations: over whatever world that came of w0. -/
def gS (P : Program) (_b : Base) (ops : Array Oper) (Q : Exit → Act → World → Prop) (N : Nat) (T : List Oper) (G : Nat → Nat) (w0 : World) (l : List (Nat × Oper)) (E : SE) : Prop := OkE E → gF P Bel ops (Up w0) (endG P ops Q (Up w0) T) l N (denE G E) []
section
variable {P : Program} {b : Base} {Q : Exit → Act → World → Prop} {N : Nat} {E : SE} {L : List LV} {R : List Res} {F M : World → Prop} {id : Nat} {l : List Oper}
theorem s_drawn (n : Nat) (hn : n ≤ l.length) (hm : P.follows .mixedOrders = true) (hB : tailH l.toArray n (l.drop n).length = true)
    (h : ∀ G S w0, StW b G S L R F M w0 → gS P b l.toArray Q N (l.drop n) G w0 (idx 0 (l.take n)) E) : cS P b (.region id l.toArray true) Q N ⟨E, L, R, F, M⟩ := fun a w ⟨G, S, h1, h2, h3⟩ =>
  c_g n hn hm hB (h G S w h3 h2) a h1
/-- A drawn region and what comes behind it. -/
theorem s_regD {y : Code} (n : Nat) (hn : n ≤ l.length) (hm : P.follows .mixedOrders = true) (hB : tailH l.toArray n (l.drop n).length = true)
    (h : ∀ K : Act → World → Prop, (∀ e', cS P b y Q N e' → kS b K N e') → ∀ G S w0, StW b G S L R F M w0 → gS P b l.toArray (Exit.then K Q) N (l.drop n) G w0 (idx 0 (l.take n)) E) : cS P b (.seq (.region id l.toArray true) y) Q N ⟨E, L, R, F, M⟩ := s_seq fun K hK => s_drawn n hn hm hB (h K hK)
end
/-- What is left behind the operations that are reckoned. -/
def autoD (T : List TyR) (ops : Array Oper) (N : Nat) (L : List LV) : List (Nat × Oper) → SE → List (Nat × Oper) × SE
  | [], E => ([], E)
  | (i, o) :: l, E => match wantS ops N E o with
    | none => ((i, o) :: l, E)
    | some false => match o.dst with
      | some k => match Nat.blt k N with
        | true => autoD T ops N L l ((k, .v undef) :: E)
        | false => ((i, o) :: l, E)
      | none => ((i, o) :: l, E)
    | some true => match o.dst with
      | some k => match Nat.blt k N with
        | true => match stepS T E L o.op with
          | some v => autoD T ops N L l ((k, v) :: E)
          | none => ((i, bareO o) :: l, E)
        | false => ((i, o) :: l, E)
      | none => ((i, bareO o) :: l, E)
section
variable {P : Program} {b : Base} {T : List TyR} {ops : Array Oper} {Q : Exit → Act → World → Prop} {N : Nat} {T' : List Oper} {G : Nat → Nat} {S : Nat → Prop} {L : List LV} {R : List Res} {F M : World → Prop} {w0 : World}
theorem autoD_ok (hT : OkT P T) (hst : StW b G S L R F M w0) : ∀ {l : List (Nat × Oper)} {E : SE}, gS P b ops Q N T' G w0 (autoD T ops N L l E).1 (autoD T ops N L l E).2 → gS P b ops Q N T' G w0 l E
  | [], _, h => h
  | (i, o) :: l, E, h => by
    unfold autoD at h
    cases hw : wantS ops N E o with
    | none => rw [hw] at h; exact h
    | some q =>
      rw [hw] at h
      intro hE a Fa ha hF
      have hwt := wantS_ok ha hw
      cases q with
      | false =>
        dsimp only at h
        cases hd : o.dst with
        | none => rw [hd] at h; exact h hE a Fa ha hF
        | some k =>
          rw [hd] at h
          dsimp only at h
          cases hk : Nat.blt k N with
          | false => rw [hk] at h; exact h hE a Fa ha hF
          | true =>
            rw [hk] at h
            unfold wpG
            rw [hwt, if_neg (by decide)]
            dsimp only
            rw [hd]
            exact autoD_ok hT hst h (hE.cons (v := .v undef) trivial) _ _ (ha.put hk undef) (hF.up rfl)
      | true =>
        dsimp only at h
        have hgd : gS P b ops Q N T' G w0 ((i, bareO o) :: l) E → wpG P Bel ops (Up w0) (endG P ops Q (Up w0) T') ((i, o) :: l) Fa a := fun h1 => by
          have h1 := h1 hE a Fa ha hF
          obtain ⟨dst, op, ty, pos, af, gd⟩ := o
          unfold wpG at h1 ⊢
          rw [if_pos hwt]
          rw [if_pos (by rfl)] at h1
          exact h1
        cases hd : o.dst with
        | none => rw [hd] at h; exact hgd h
        | some k =>
          rw [hd] at h
          dsimp only at h
          cases hk : Nat.blt k N with
          | false => rw [hk] at h; exact h hE a Fa ha hF
          | true =>
            rw [hk] at h
            dsimp only at h
            cases hv : stepS T E L o.op with
            | none => rw [hv] at h; exact hgd h
            | some v =>
              rw [hv] at h
              obtain ⟨h1, h2⟩ := stepS_ok hT hE hst.okL hv
              refine g_op rfl (fun a ha => b_val (wantS_ok ha hw) (fun w hw => h2 ha (hst.later hw.1).at) ?_) a Fa ha hF
              rw [hd]
              exact g_go (o := o) (autoD_ok hT hst h (hE.cons h1)) _ (ha.put hk _)
theorem g_autoS (hT : OkT P T) (hst : StW b G S L R F M w0) {l l' : List (Nat × Oper)} {E E' : SE} (h : autoD T ops N L l E = (l', E')) (hn : gS P b ops Q N T' G w0 l' E') : gS P b ops Q N T' G w0 l E := autoD_ok hT hst (by rw [h]; exact hn)
/-- The end of what may be taken in any order. -/
theorem g_endS (hst : StW b G S L R F M w0) {E : SE} (h : lS P b ops Q N T' ⟨E, L, R, F, M⟩) : gS P b ops Q N T' G w0 [] E := fun hE => g_end fun w hw _ a ha => h a w ⟨G, S, ha, hE, hst.later hw⟩
variable {E : SE} {o : Oper} {rest : List (Nat × Oper)} {i k : Nat}
/-- An elder step. -/
theorem g_f (hst : StW b G S L R F M w0) (v : SV) (hv : v.Ok) (h : ∀ (C0 : World → Prop) (Q' : Act → Prop), (∀ w, C0 w → View G S L R F M w) → bF P ops C0 Q' [] N ((k, v.den G) :: denE G E) → bF P ops C0 Q' [o] N (denE G E)) (hn : gS P b ops Q N T' G w0 rest ((k, v) :: E)) : gS P b ops Q N T' G w0 ((i, o) :: rest) E := fun hE =>
  g_op rfl (h _ _ (fun _ hw => (hst.later hw.1).view) (g_go (o := o) (hn (hE.cons hv))))
theorem g_eq {l : List (Nat × Oper)} (k : Nat) {v : SV} (v' : SV) (h : lookS E k = some v) (he : v = v') (hn : gS P b ops Q N T' G w0 l ((k, v') :: E)) : gS P b ops Q N T' G w0 l E := fun hE => by
  subst he
  intro a Fa ha hF
  exact hn (hE.cons (hE.get h)) a Fa (ha.more (ha.get k _ (by rw [look_den, h]; rfl))) hF
theorem g_is {l : List (Nat × Oper)} (k : Nat) {t : Bool} (q : Bool) (h : lookS E k = some (.b t)) (he : t = q) (hn : gS P b ops Q N T' G w0 l ((k, .v (.bool q)) :: E)) : gS P b ops Q N T' G w0 l E := fun hE => by
  subst he
  intro a Fa ha hF
  exact hn (hE.cons trivial) a Fa (ha.more (ha.get k _ (by rw [look_den, h]; rfl))) hF
theorem g_num {l : List (Nat × Oper)} (k : Nat) {K : IntKind} {m : Int} (n : Int) (h : lookS E k = some (.v (.int K m))) (he : m = n) (hn : gS P b ops Q N T' G w0 l ((k, .v (.int K n)) :: E)) : gS P b ops Q N T' G w0 l E := g_eq k _ h (by rw [he]) hn
end
/-- A call that hands back one value and leaves nothing, the order drawn. -/
theorem g_call1 {b : Base} {ops : Array Oper} {Q : Exit → Act → World → Prop} {N : Nat} {T' : List Oper} {G : Nat → Nat} {S : Nat → Prop} {L : List LV} {R : List Res} {F M : World → Prop} {w0 : World} {E : SE} {o : Oper} {rest : List (Nat × Oper)} {i k : Nat} {f : FuncId} {xs : Array Operand} {ats : Array TypeId} {svs : List SV} {r : RV}
    (hst : StW b G S L R F M w0) (args : List Value) (hg : o.guard = none) (hd : o.dst = some k) (hk : Nat.blt k N = true) (hf : Own f) (ho : o.op = .call { callee := .value (.func f), args := xs, argTypes := ats }) (hx : evSs E xs.toList = some svs)
    (ha : (∀ x ∈ L, ∀ g, x.g = some g → G x.j = g) → svs.map (SV.den G) = args) (hr : r.sv.Ok) (hs : ∀ w, View G S L R F M w → Calls Tryd.prog f args.toArray w fun e w' => e = .returned r.den ∧ Below w.heap.size w w')
    (hn : gS Tryd.prog b ops Q N T' G w0 rest ((k, r.sv) :: E)) : gS Tryd.prog b ops Q N T' G w0 ((i, o) :: rest) E := by
  refine g_f hst r.sv hr (fun C0 Q' hC hQ => ?_) hn
  rw [RV.sv_den] at hQ
  exact f_call args.toArray r.den hg hd hk hf (fun w hw => hs w (hC w hw)) ho (by rw [evSs_ok hx, ha fun x hx => (hst.var x hx).2.2]) hQ
end Go.Proofs.YtoecohpcnojokaaDoor
/-
  SLICES OF WHATEVER ELEMENTS: read, owned, grown, made, written.
-/
namespace Go.Proofs.YtoecohpcnojokaaDoor
open Go.RowKit Go.IntWalk

/-- An element's cells. -/
def SQ.cl (q : SQ) : List Value := q.den.cells.toList
def SQ.parts1 : SQ → List Pt
  | .c s => [.one s]
  | .p ps => ps
/-- Each element is of k cells. -/
def OkF {α : Type} (k : Nat) (fe : α → SQ) (l : List α) : Prop := ∀ x ∈ l, OkP (fe x).parts1 ∧ (fe x).cl.length = k
theorem SQ.cl_parts {q : SQ} (h : OkP q.parts1) : q.cl = (catP q.parts1).toList := by
  cases q with
  | c s => exact congrArg Array.toList (h _ List.mem_cons_self).2.2
  | p ps => rfl
theorem SQ.ok_parts {q : SQ} (h : OkP q.parts1) : q.Ok := by
  cases q with
  | c s => exact (h _ List.mem_cons_self).1
  | p ps => exact h
theorem SQ.cl_one {q : SQ} (h : OkP q.parts1) : ∀ v ∈ q.cl, v.oneCell' = true := by
  rw [SQ.cl_parts h]
  exact h.one
/-- The elements l lie at A, k cells each. -/
def Rd {α : Type} (k : Nat) (fe : α → SQ) (A : Option Addr) (c : Nat) (l : List α) (w : World) : Prop :=
  l.length ≤ c ∧ c ≤ 9223372036854775807 ∧ (A = none → c = 0) ∧ OkF k fe l ∧ (0 < l.length → ∃ b o, A = some ⟨b, o, none⟩ ∧ b < w.heap.size ∧ ∀ (i : Nat) x, l[i]? = some x → w.rangeAt b (o + k * i) (fe x).cl)
section
variable {α : Type} {k c : Nat} {fe : α → SQ} {A : Option Addr} {l : List α} {w w' : World}
theorem Rd.keep (h : Rd k fe A c l w) (hs : w.heap.size ≤ w'.heap.size) (hk : ∀ b, A.map (·.block) = some b → b < w.heap.size → w'.heap[b]? = w.heap[b]?) : Rd k fe A c l w' := by
  obtain ⟨h1, h2, h3, h4, h5⟩ := h
  refine ⟨h1, h2, h3, h4, fun hl => ?_⟩
  obtain ⟨b, o, e, hb, hr⟩ := h5 hl
  subst e
  exact ⟨b, o, rfl, Nat.lt_of_lt_of_le hb hs, fun i x hi j v hj => (World.cell?_of_block (w := w) (w' := w') (a := ⟨b, o + k * i + j, none⟩) (hk b rfl hb)).trans (hr i x hi j v hj)⟩
instance : Pst (Rd k fe A c l) := ⟨fun _ _ h hb => h.keep hb.size fun b _ hlt => hb.block b hlt⟩
theorem Rd.later (h : Rd k fe A c l w) (hb : Below w.heap.size w w') : Rd k fe A c l w' := h.keep hb.size fun b _ hlt => hb.block b hlt
theorem Rd.nil (k : Nat) (fe : α → SQ) (w : World) : Rd k fe none 0 [] w := ⟨Nat.le_refl _, by decide, fun _ => rfl, fun _ h => (by cases h), fun h => absurd h (Nat.lt_irrefl _)⟩
theorem Rd.take (h : Rd k fe A c l w) (n : Nat) : Rd k fe A c (l.take n) w := by
  obtain ⟨h1, h2, h3, h4, h5⟩ := h
  refine ⟨Nat.le_trans (List.length_take_le' _ _) h1, h2, h3, fun x hx => h4 x (List.mem_of_mem_take hx), fun hl => ?_⟩
  obtain ⟨b, o, e, hb, hr⟩ := h5 (by rw [List.length_take] at hl; omega)
  refine ⟨b, o, e, hb, fun i x hi => hr i x ?_⟩
  rw [List.getElem?_take] at hi
  split at hi
  · exact hi
  · cases hi
end
/-- The address behind some cells. -/
def ptrAt (A : Option Addr) (n : Nat) : Value := match A with
  | some a => .pointer (some ⟨a.block, a.off + n, none⟩)
  | none => .pointer none
/-- What a pair of operations that read an element says. -/
structure EL where
  k1 : Nat
  k2 : Nat
  sz : Nat
  t : TypeId
  A : Option Addr
  n : Nat
  c : Nat
  i : Int
def elemS (T : List TyR) (N : Nat) (E : SE) (o1 o2 : Oper) : Option EL := match o1.dst, o2.dst, o1.op, o2.op with
  | some k1, some k2, .indexAddr t x y, .load t' (.tmp z) => match Nat.beq z k1, Nat.blt k1 N, Nat.blt k2 N, findT T t with
    | true, true, true, some r => match r.el with
      | some e => match findT T e, evS E x, evS E y with
        | some re, some (.q (.c (.v (.slice A n c)))), some (.q (.c (.v (.int _ i)))) => some ⟨k1, k2, sizeP re.zero, t', A, n, c, i⟩
        | _, _, _ => none
      | none => none
    | _, _, _, _ => none
  | _, _, _, _ => none
theorem el_of {P : Program} {r : TyR} (h : r.ok P) {e : TypeId} (he : r.el = some e) : P.underlying r.t = some (.slice e) := by
  obtain ⟨it, d, h5, h6, -, -, -, -, h7, -⟩ := h.info
  rw [he] at h7
  cases d <;> first | (cases h7; done) | skip
  injection h7 with h7
  subst h7
  exact h6
theorem run_index {P : Program} {t e : TypeId} {k : Nat} (ht : P.underlying t = some (.slice e)) (he : (P.info? e).map (·.size) = some k) (b o n c : Nat) (K : IntKind) (i : Nat) (hi : i < n) (w : World) :
    (Instr.indexAt t (.slice (some ⟨b, o, none⟩) n c) (.int K (i : Int))).run P w = .ok (.pointer (some ⟨b, o + k * i, none⟩)) w := by
  cases hq : P.info? e with
  | none => simp [hq] at he
  | some ie =>
    have hs : ie.size = k := by simpa [hq] using he
    have h1 : (i : Int) < (n : Int) := by omega
    have h2 : (0 : Int) ≤ (i : Int) := by omega
    simp [Instr.indexAt, asIntOf, run_underlying ht, sizeOf, typeInfo, hq, hs, Addr.add_mid, Nat.mul_comm, hi]
theorem elemS_ok {P : Program} {T : List TyR} (hT : OkT P T) {N : Nat} {E : SE} {o1 o2 : Oper} {u : EL} (h : elemS T N E o1 o2 = some u) :
    o1.dst = some u.k1 ∧ o2.dst = some u.k2 ∧ Nat.blt u.k1 N = true ∧ Nat.blt u.k2 N = true ∧ o2.op = .load u.t (.tmp u.k1) ∧ ∃ t e x y K, o1.op = .indexAddr t x y ∧ P.underlying t = some (.slice e) ∧ (P.info? e).map (·.size) = some u.sz ∧ evS E x = some (.v (.slice u.A u.n u.c)) ∧ evS E y = some (.v (.int K u.i)) := by
  unfold elemS at h
  split at h
  · rename_i k1 k2 t x y t' z e1 e2 e3 e4
    split at h
    · rename_i r e5 e6 e7 hr
      split at h
      · rename_i e he
        split at h
        · rename_i re A n c K i hre hx hy
          injection h with h
          subst h
          obtain ⟨h1, rfl⟩ := findT_ok hT hr
          have h2 := findT_ok hT hre
          clear hre
          obtain ⟨h2, rfl⟩ := h2
          obtain ⟨it, d, h5, _, h6, -⟩ := h2.info
          have e5 := Nat.eq_of_beq_eq_true e5
          subst e5
          exact ⟨e1, e2, e6, e7, e4, _, _, x, y, K, e3, el_of h1 he, by rw [h5, Option.map_some, h6], hx, hy⟩
        · cases h
      · cases h
    · cases h
  · cases h
section
variable {α : Type} {fe : α → SQ} {l : List α} {P : Program} {T : List TyR} {b : Base} {ops : Array Oper} {Q : Exit → Act → World → Prop} {N : Nat} {E : SE} {L : List LV} {R : List Res} {F M : World → Prop} {o1 o2 : Oper} {u : EL}
/-- What the two operations hand back. -/
theorem elem_run (hT : OkT P T) (h : elemS T N E o1 o2 = some u) (j : Nat) {x : α} (hj : u.i = (j : Int)) (hx : l[j]? = some x) (hn : u.n = l.length) (hl : loadS T (fe x).parts1 u.t 0 = some (fe x)) :
    ∀ {G : Nat → Nat} {a : Act} {w : World}, Rd u.sz fe u.A u.c l w → Fr N (denE G E) a → (execOp a.eval o1).run P w = .ok (.value (ptrAt u.A (u.sz * j))) w ∧ (fe x).Ok ∧
      ∀ a' : Act, a'.eval (.tmp u.k1) = ptrAt u.A (u.sz * j) → (execOp a'.eval o2).run P w = .ok (.value (fe x).den) w := by
  intro G a w hrd ha
  obtain ⟨h1, h2, h3, h4, h5, t, e, y1, y2, K, h6, h7, h8, h9, h10⟩ := elemS_ok hT h
  have hlt := (List.getElem?_eq_some_iff.1 hx).1
  obtain ⟨_, _, _, hok, hr⟩ := hrd
  obtain ⟨bk, o, hA, hb, hr⟩ := hr (by omega)
  obtain ⟨hp, hsz⟩ := hok x (List.mem_of_getElem? hx)
  have e1 := ha.eval (evS_ok h9)
  have e2 := ha.eval (evS_ok h10)
  have hq : ptrAt u.A (u.sz * j) = .pointer (some ⟨bk, o + u.sz * j, none⟩) := by rw [hA]; rfl
  refine ⟨?_, SQ.ok_parts hp, fun a' ha' => ?_⟩
  · have hi := run_index (P := P) h7 h8 bk o u.n u.c K j (by omega) w
    rw [← hA, ← hj] at hi
    unfold execOp
    simp only [h6, e1, e2, SV.den, SQ.den, SC.den, hi, Sem.run_bind, Sem.run_pure, Result.andThen_ok, hq]
  · obtain ⟨_, h12⟩ := loadS_at hT hp hl
    have h13 := h12 (w := w) (g := bk) (base := o + u.sz * j) (by rw [← SQ.cl_parts hp]; exact hr j x hx)
    rw [Nat.add_zero] at h13
    unfold execOp
    simp only [h5, ha', hq, h13, Sem.run_bind, Sem.run_pure, Result.andThen_ok]
theorem ptrAt_ok (A : Option Addr) (n : Nat) : (SV.o (ptrAt A n)).Ok := by
  cases A <;> exact ⟨rfl, rfl⟩
/-- Whether an operation is wanted hangs on no slot that is no bool. -/
theorem want_any {ops : Array Oper} {N k : Nat} {E : SE} {o : Oper} {v : SV} {q : Bool} (h : wantS ops N ((k, .v undef) :: E) o = some q) : wantS ops N ((k, v) :: E) o = some q := by
  unfold wantS at h ⊢
  cases hgd : o.guard with
  | none => rw [hgd] at h; exact h
  | some jb =>
    obtain ⟨j, b⟩ := jb
    rw [hgd] at h
    dsimp only at h ⊢
    cases ht : (ops[j]?).bind (·.dst) with
    | none => rw [ht] at h; cases h
    | some t =>
      rw [ht] at h
      dsimp only at h ⊢
      cases hN : Nat.blt t N with
      | false => rw [hN] at h; cases h
      | true =>
        rw [hN] at h
        simp only [lookS] at h ⊢
        cases he : Nat.beq k t with
        | true => rw [he] at h; cases h
        | false => rw [he] at h; exact h
/-- **An element is read**, the order forced. -/
theorem l_elem {rest : List Oper} (hT : OkT P T) (h : elemS T N E o1 o2 = some u) (hg : o1.guard = none) (hw : wantS ops N ((u.k1, .v undef) :: E) o2 = some true) (j : Nat) {x : α} (hj : u.i = (j : Int)) (hx : l[j]? = some x) (hn : u.n = l.length) (hl : loadS T (fe x).parts1 u.t 0 = some (fe x))
    (hrd : ∀ G S w, View G S L R F M w → Rd u.sz fe u.A u.c l w) (hk : lS P b ops Q N rest ⟨(u.k2, .q (fe x)) :: (u.k1, .o (ptrAt u.A (u.sz * j))) :: E, L, R, F, M⟩) : lS P b ops Q N (o1 :: o2 :: rest) ⟨E, L, R, F, M⟩ := fun a w ⟨G, S, h1, h2, h3⟩ => by
  obtain ⟨d1, d2, n1, n2, ho2, -⟩ := elemS_ok hT h
  obtain ⟨r1, hok, r2⟩ := elem_run hT h j hj hx hn hl (hrd G S w h3.view) h1
  have hw1 : Region.wanted o1 (yielded ops a.tmps) = true := by simp [Region.wanted, hg]
  refine wpl_go hw1 r1 ?_
  rw [d1]
  have f1 : Fr N (denE G ((u.k1, .o (ptrAt u.A (u.sz * j))) :: E)) (a.put (some u.k1) (ptrAt u.A (u.sz * j))) := h1.put n1 _
  refine wpl_go (wantS_ok (E := (u.k1, .o (ptrAt u.A (u.sz * j))) :: E) f1 (want_any hw)) (r2 _ (eval_put_same h1 n1 _)) ?_
  rw [d2]
  exact hk _ w ⟨G, S, f1.put n2 _, (h2.cons (ptrAt_ok _ _)).cons hok, h3⟩
/-- **An element is read**, the order drawn. -/
theorem g_elem {T' : List Oper} {G : Nat → Nat} {S : Nat → Prop} {w0 : World} {rest : List (Nat × Oper)} {i1 i2 : Nat} (hT : OkT P T) (hst : StW b G S L R F M w0) (h : elemS T N E o1 o2 = some u) (hg : o1.guard = none) (hw : wantS ops N ((u.k1, .v undef) :: E) o2 = some true) (j : Nat) {x : α} (hj : u.i = (j : Int)) (hx : l[j]? = some x) (hn : u.n = l.length) (hl : loadS T (fe x).parts1 u.t 0 = some (fe x))
    (hrd : ∀ G S w, View G S L R F M w → Rd u.sz fe u.A u.c l w) (hk : gS P b ops Q N T' G w0 rest ((u.k2, .q (fe x)) :: (u.k1, .o (ptrAt u.A (u.sz * j))) :: E)) : gS P b ops Q N T' G w0 ((i1, o1) :: (i2, o2) :: rest) E := fun hE => by
  obtain ⟨d1, d2, n1, n2, ho2, -⟩ := elemS_ok hT h
  have hv := fun w (hw : Up w0 w) => hrd G S w (hst.later hw).view
  have hok : (fe x).Ok := by
    obtain ⟨_, _, _, h4, _⟩ := hv w0 (Up.refl _)
    exact SQ.ok_parts (h4 x (List.mem_of_getElem? hx)).1
  refine g_op rfl (fun a ha => b_val (v := ptrAt u.A (u.sz * j)) (by simp [Region.wanted, hg]) (fun w hw => (elem_run hT h j hj hx hn hl (hv w hw.1) ha).1) ?_)
  rw [d1]
  have f1 : Fr N (denE G ((u.k1, .o (ptrAt u.A (u.sz * j))) :: E)) (a.put (some u.k1) (ptrAt u.A (u.sz * j))) := ha.put n1 _
  refine g_go (o := o1) (E := denE G ((u.k1, .o (ptrAt u.A (u.sz * j))) :: E)) (g_op rfl (fun a2 ha2 => b_val (v := (fe x).den) (wantS_ok (E := (u.k1, .o (ptrAt u.A (u.sz * j))) :: E) ha2 (want_any hw)) (fun w hw => ?_) ?_)) _ f1
  · have hev : a2.eval (.tmp u.k1) = ptrAt u.A (u.sz * j) := ha2.get u.k1 _ (by rw [denE, look_cons, if_pos rfl]; rfl)
    exact (elem_run hT h j hj hx hn hl (hv w hw.1) ha).2.2 a2 hev
  · rw [d2]
    exact g_go (o := o2) (hk ((hE.cons (ptrAt_ok _ _)).cons hok)) _ (ha2.put n2 _)
end
end Go.Proofs.YtoecohpcnojokaaDoor
/-
  SLICES OF ONE'S OWN: literals, make, append, elements written; what becomes of them when they are owned no more.
-/
namespace Go.Proofs.YtoecohpcnojokaaDoor
open Go.RowKit Go.IntWalk

/-- The cells of elements, one behind the other. -/
def flatF {α : Type} (fe : α → SQ) (l : List α) : List Value := l.flatMap fun x => (fe x).cl
section
variable {α : Type} {k : Nat} {fe : α → SQ} {l m : List α}
theorem flatF_app : flatF fe (l ++ m) = flatF fe l ++ flatF fe m := List.flatMap_append
theorem flatF_len (h : OkF k fe l) : (flatF fe l).length = l.length * k := by
  induction l with
  | nil => simp [flatF]
  | cons x l ih =>
    have h1 := ih fun y hy => h y (by simp [hy])
    have h2 := (h x (by simp)).2
    simp only [flatF, List.flatMap_cons, List.length_append, List.length_cons] at h1 ⊢
    rw [h1, h2, Nat.add_mul]
    omega
theorem flatF_one (h : OkF k fe l) : ∀ v ∈ flatF fe l, v.oneCell' = true := fun v hv => by
  obtain ⟨x, hx, hv⟩ := List.mem_flatMap.1 hv
  exact SQ.cl_one (h x hx).1 v hv
theorem flatF_split (h : OkF k fe l) {i : Nat} {x : α} (hi : l[i]? = some x) : ∃ A Z, flatF fe l = A ++ ((fe x).cl ++ Z) ∧ A.length = k * i ∧ ∀ y : α, flatF fe (l.set i y) = A ++ ((fe y).cl ++ Z) := by
  induction l generalizing i with
  | nil => simp at hi
  | cons y l ih =>
    cases i with
    | zero =>
      simp only [List.getElem?_cons_zero, Option.some.injEq] at hi
      subst hi
      exact ⟨[], flatF fe l, by simp [flatF], rfl, fun z => by simp [flatF]⟩
    | succ i =>
      obtain ⟨A, Z, h1, h2, h3⟩ := ih (fun z hz => h z (by simp [hz])) (by simpa using hi)
      refine ⟨(fe y).cl ++ A, Z, ?_, ?_, fun z => ?_⟩
      · rw [List.append_assoc, ← h1]
        simp [flatF]
      · rw [List.length_append, h2, (h y (by simp)).2, Nat.mul_succ]
        omega
      · rw [List.append_assoc, ← h3 z]
        simp [flatF]
theorem OkF.app (h : OkF k fe l) (h' : OkF k fe m) : OkF k fe (l ++ m) := fun x hx => (List.mem_append.1 hx).elim (h x) (h' x)
end
/-- **A slice of one's own**, in blocks from lo on: the elements l. -/
def OwnS {α : Type} (lo : Nat) (e : TypeId) (k : Nat) (fe : α → SQ) (A : Option Addr) (c : Nat) (l : List α) : Res where
  holds w S := OkF k fe l ∧ w.ownsRow lo e k (.slice A l.length c) l.length (flatF fe l) ∧ ∀ j, S j ↔ A.map (·.block) = some j
  keep := fun {w w' S} ⟨h1, h2, h3⟩ hk => by
    refine ⟨h1, ⟨h2.1, ?_⟩, h3⟩
    rcases h2.2 with h4 | ⟨g, cap, cur, hv, hb, hg, hr⟩
    · exact .inl h4
    · injection hv with h5 h6 h7
      refine .inr ⟨g, cap, cur, by rw [h5, h7], hb, ?_, hr⟩
      rw [hk g ((h3 g).2 (by rw [h5]; rfl))]
      exact hg
  lt := fun {w S} ⟨_, h2, h3⟩ j hj => by
    have h4 := (h3 j).1 hj
    cases A with
    | none => cases h4
    | some a =>
      have := (h2.lt a.block rfl).2
      simp only [Option.map_some, Option.some.injEq] at h4
      rw [← h4]
      exact this
section
variable {α : Type} {lo e k c : Nat} {fe : α → SQ} {A : Option Addr} {l : List α} {w : World} {S : Nat → Prop}
theorem OwnS.rd (h : (OwnS lo e k fe A c l).holds w S) : Rd k fe A c l w := by
  obtain ⟨h1, h2, h3⟩ := h
  rcases h2.2 with ⟨h4, h5⟩ | ⟨g, cap, cur, hv, hb, hg, hn, hm, hs, ht⟩
  · injection h4 with h6 h7 h8
    have := List.eq_nil_of_length_eq_zero h5
    subst h6 h8 this
    exact Rd.nil _ _ _
  · injection hv with h6 h7 h8
    subst h6 h8
    refine ⟨hn, by simp only [maxLen] at hm; omega, fun h => (by cases h), h1, fun _ => ⟨g, 0, rfl, (Array.getElem?_eq_some_iff.1 hg).1, fun i x hi j v hj => ?_⟩⟩
    obtain ⟨B, Z, h9, h10, _⟩ := flatF_split h1 hi
    have hB : Blk w g e cur := hg
    rw [hB.cell, Nat.zero_add]
    have hlt := (List.getElem?_eq_some_iff.1 hj).1
    have h11 : (flatF fe l)[k * i + j]? = some v := by
      rw [h9, List.getElem?_append_right (by omega), h10, Nat.add_sub_cancel_left, List.getElem?_append_left hlt]
      exact hj
    rw [← ht, List.getElem?_take] at h11
    split at h11
    · simpa using h11
    · cases h11
theorem OwnS.nil (lo e k : Nat) (fe : α → SQ) (w : World) : (OwnS lo e k fe none 0 []).holds w fun _ => False :=
  ⟨fun _ h => (by cases h), ⟨by simp [flatF], .inl ⟨rfl, rfl⟩⟩, fun j => ⟨False.elim, fun h => (by cases h)⟩⟩
theorem OwnS.inb (h : (OwnS lo e k fe A c l).holds w S) : ∀ a, A = some a → lo ≤ a.block ∧ a.block < w.heap.size := fun a ha => h.2.1.lt a.block (by rw [ha]; rfl)
end

/-! ### Literals -/
theorem fill_row {k : Nat} : ∀ (vs : List Value) (A Z : List Value) (i : Nat), A.length = i * k → Z.length = k * vs.length → (∀ v ∈ vs, v.cells.size = k) →
    Instr.fill (fun i => some (i * k, k)) (A ++ Z).toArray ((vs.zipIdx i).map fun x => (x.2, x.1)) = some (A ++ vs.flatMap fun v => v.cells.toList).toArray
  | [], A, Z, i, _, hZ, _ => by
    obtain rfl := List.eq_nil_of_length_eq_zero (show Z.length = 0 by simpa using hZ)
    rfl
  | v :: vs, A, Z, i, hA, hZ, hl => by
    rw [List.length_cons, Nat.mul_succ] at hZ
    have hk := hl v (by simp)
    have e : Z = Z.take k ++ Z.drop k := (List.take_append_drop k Z).symm
    have tk : (Z.take k).length = k := by rw [List.length_take]; omega
    rw [e, List.zipIdx_cons, List.map_cons]
    rw [fill_cells (fun i => some (i * k, k)) i k A (Z.take k) (Z.drop k) v.cells.toList _ v (by rw [hA]) (by rw [Array.length_toList, hk]) tk (by simp), ← List.append_assoc]
    rw [fill_row vs (A ++ v.cells.toList) (Z.drop k) (i + 1) (by rw [List.length_append, show v.cells.toList.length = k from by rw [Array.length_toList, hk], hA, Nat.succ_mul]) (by rw [List.length_drop]; omega) (fun u hu => hl u (by simp [hu]))]
    rw [List.flatMap_cons, List.append_assoc]
theorem run_lit {P : Program} {t e : TypeId} {ie : TypeInfo} {z : Value} {k : Nat} (ht : P.underlying t = some (.slice e)) (hi : P.info? e = some ie) (hz : ie.zero = some z) (hs : ie.size = k) (vs : List Value) (n : Nat) (parts : Array (Nat × Value)) (hp : parts.toList = (vs.zipIdx 0).map fun x => (x.2, x.1)) (hn : vs.length = n) (h0 : 0 < n * k) (h24 : n * k ≤ 16777216) (hl : ∀ v ∈ vs, v.cells.size = k) (w : World) :
    (Instr.buildSlice t n parts).run P w = .ok (.slice (some ⟨w.heap.size, 0, none⟩) n n) (w.alloc (.cells (vs.flatMap fun v => v.cells.toList).toArray e)) := by
  subst hs
  refine run_buildSlice w t e n parts _ ie z ht hi hz (by omega) (by omega) ?_
  rw [hp]
  have hsz : ((Array.range (n * ie.size)).map (z.cells[· % z.cells.size]!)).size = n * ie.size := by simp
  generalize (Array.range (n * ie.size)).map (z.cells[· % z.cells.size]!) = Z at *
  have := fill_row (k := ie.size) vs [] Z.toList 0 (by simp) (by rw [Array.length_toList, hsz, hn, Nat.mul_comm]) hl
  rwa [List.nil_append, List.nil_append, Array.toArray_toList] at this
/-- What is told of a slice type: its elements' type, cells, bytes. -/
def slS (T : List TyR) (t : TypeId) : Option (TypeId × Nat × Nat) := match findT T t with
  | some r => match r.el with
    | some e => match findT T e with
      | some re => some (e, sizeP re.zero, re.w)
      | none => none
    | none => none
  | none => none
theorem slS_ok {P : Program} {T : List TyR} (hT : OkT P T) {t e : TypeId} {k bs : Nat} (h : slS T t = some (e, k, bs)) : P.underlying t = some (.slice e) ∧ ∃ ie z, P.info? e = some ie ∧ ie.zero = some z ∧ ie.size = k ∧ ie.bytes = bs ∧ z.cells.size = k ∧ ∃ zs, OkP zs ∧ z.cells = catP zs ∧ ∃ r, findT T e = some r ∧ r.zero = zs := by
  unfold slS at h
  split at h
  · rename_i r hr
    split at h
    · rename_i e' he
      split at h
      · rename_i re hre
        injection h with h
        injection h with e1 h
        injection h with e2 e3
        subst e1 e2 e3
        obtain ⟨h1, rfl⟩ := findT_ok hT hr
        have hre' := hre
        have h2 := findT_ok hT hre
        clear hre
        obtain ⟨h2, rfl⟩ := h2
        obtain ⟨it, d, h5, _, h6, h7, _, _, _, _, _, h8⟩ := h2.info
        cases hz : it.zero with
        | none => rw [hz] at h7; cases h7
        | some z =>
          rw [hz] at h7
          simp only [Option.map_some, Option.some.injEq] at h7
          exact ⟨el_of h1 he, it, z, h5, hz, h6, h8, by rw [h7, h2.2.size], re.zero, h2.2, h7, re, hre', rfl⟩
      · cases h
    · cases h
  · cases h
/-- A new block of elements is a slice of one's own. -/
theorem OwnS.new {α : Type} {lo e k : Nat} {fe : α → SQ} {l : List α} (w : World) (hlo : lo ≤ w.heap.size) (h : OkF k fe l) (hm : l.length ≤ 9223372036854775807) : (OwnS lo e k fe (some ⟨w.heap.size, 0, none⟩) l.length l).holds (w.alloc (.cells (flatF fe l).toArray e)) fun j => j = w.heap.size :=
  ⟨h, ⟨flatF_len h, .inr ⟨w.heap.size, l.length, (flatF fe l).toArray, rfl, hlo, heap_alloc_new w _, Nat.le_refl _, by simp only [maxLen]; omega, by simp [flatF_len h], List.take_of_length_le (Nat.le_of_eq (flatF_len h))⟩⟩, fun j => by simp [eq_comm]⟩
section
variable {α : Type} {fe : α → SQ} {l : List α} {P : Program} {T : List TyR} {b : Base} {ops : Array Oper} {Q : Exit → Act → World → Prop} {N : Nat} {E : SE} {L : List LV} {R : List Res} {F M : World → Prop} {o o2 : Oper} {rest : List Oper} {k e sz bs : Nat} {t : TypeId}
theorem oneS (hg : o.guard = none) {a : Act} : Region.wanted o (yielded ops a.tmps) = true := by simp [Region.wanted, hg]
theorem map_parts {G : Nat → Nat} {a : Act} (ha : Fr N (denE G E) a) : ∀ (l : List (Nat × Operand)) (m : List (Value × Nat)), l.map (fun p => (p.1, (evS E p.2).map (SV.den G))) = m.map (fun x => (x.2, some x.1)) → l.map (fun (i, x) => (i, a.eval x)) = m.map fun x => (x.2, x.1)
  | [], [], _ => rfl
  | [], _ :: _, h => by cases h
  | _ :: _, [], h => by cases h
  | p :: l, u :: m, h => by
    simp only [List.map_cons, List.cons.injEq, Prod.mk.injEq] at h ⊢
    refine ⟨⟨h.1.1, ?_⟩, map_parts ha l m h.2⟩
    cases hx : evS E p.2 with
    | none => rw [hx] at h; cases h.1.2
    | some v =>
      rw [hx] at h
      simp only [Option.map_some, Option.some.injEq] at h
      exact (ha.eval (evS_ok hx)).trans h.1.2
/-- **A literal**: a slice of one's own. -/
theorem l_list {n : Nat} {parts : Array (Nat × Operand)} (hT : OkT P T) (lo : Nat) (l : List α) (hg : o.guard = none) (hd : o.dst = some k) (hk : Nat.blt k N = true) (ho : o.op = .buildSlice t n parts) (hs : slS T t = some (e, sz, bs))
    (hp : ∀ G : Nat → Nat, parts.toList.map (fun p => (p.1, (evS E p.2).map (SV.den G))) = ((l.map fun x => (fe x).den).zipIdx 0).map fun x => (x.2, some x.1)) (hn : l.length = n) (h0 : 0 < n * sz) (h24 : n * sz ≤ 16777216) (hok : OkF sz fe l) (hlo : lo ≤ b.B.heap.size)
    (hc : ∀ A, lS P b ops Q N rest ⟨(k, .v (.slice A n n)) :: E, L, OwnS lo e sz fe A n l :: R, F, M⟩) : lS P b ops Q N (o :: rest) ⟨E, L, R, F, M⟩ := fun a w ⟨G, S, h1, h2, h3⟩ => by
  obtain ⟨ht, ie, z, hi, hz, hsz, hbs, hzs, _⟩ := slS_ok hT hs
  have hr := run_lit (P := P) ht hi hz hsz (l.map fun x => (fe x).den) n (parts.map fun (i, x) => (i, a.eval x)) (by rw [Array.toList_map]; exact map_parts h1 _ _ (hp G)) (by rw [List.length_map, hn]) h0 h24 (fun v hv => by
    obtain ⟨x, hx, rfl⟩ := List.mem_map.1 hv
    have := (hok x hx).2
    rwa [SQ.cl, Array.length_toList] at this) w
  have e1 : ((l.map fun x => (fe x).den).flatMap fun v => v.cells.toList) = flatF fe l := by rw [List.flatMap_map]; rfl
  rw [e1] at hr
  subst hn
  refine wpl_go (v := .slice (some ⟨w.heap.size, 0, none⟩) l.length l.length) (w' := w.alloc (.cells (flatF fe l).toArray e)) (oneS hg) (by
    unfold execOp
    simp only [ho, Sem.run_bind, hr, Result.andThen_ok, Sem.run_pure]) ?_
  rw [hd]
  have hsz' : 0 < sz := Nat.pos_of_mul_pos_left h0
  obtain ⟨S', h4⟩ := h3.gain ((Below.refl w.heap.size w).alloc (Nat.le_refl _) _) (OwnS.new (lo := lo) w (Nat.le_trans hlo h3.chg.size) hok (by
    have := Nat.le_mul_of_pos_right l.length hsz'
    omega)) (fun j hj => Nat.le_of_eq hj.symm)
  exact hc _ _ _ ⟨G, S', h1.put hk _, h2.cons trivial, h4⟩
/-- A slice of one's own that is nil. -/
theorem l_nil0 {l' : List Oper} (lo e sz : Nat) (fe : α → SQ) (h : lS P b ops Q N l' ⟨E, L, OwnS lo e sz fe none 0 [] :: R, F, M⟩) : lS P b ops Q N l' ⟨E, L, R, F, M⟩ := fun a w ⟨G, S, h1, h2, h3⟩ => by
  obtain ⟨S', h4⟩ := h3.gain (Below.refl _ _) (OwnS.nil lo e sz fe w) (fun _ h => h.elim)
  exact h a w ⟨G, S', h1, h2, h4⟩
theorem s_nil0 {c : Code} (lo e sz : Nat) (fe : α → SQ) (h : cS P b c Q N ⟨E, L, OwnS lo e sz fe none 0 [] :: R, F, M⟩) : cS P b c Q N ⟨E, L, R, F, M⟩ := fun a w ⟨G, S, h1, h2, h3⟩ => by
  obtain ⟨S', h4⟩ := h3.gain (Below.refl _ _) (OwnS.nil lo e sz fe w) (fun _ h => h.elim)
  exact h a w ⟨G, S', h1, h2, h4⟩
end

/-! ### Append -/
/-- append(s, x), x an element: what the two operations say. -/
structure PU where
  k1 : Nat
  k2 : Nat
  t : TypeId
  A : Option Addr
  n : Nat
  c : Nat
  q : SQ
def pushS (N : Nat) (E : SE) (o1 o2 : Oper) : Option PU := match o1.dst, o2.dst, o1.op, o2.op with
  | some k1, some k2, .buildSlice t 1 ⟨[(0, z)]⟩, .call { callee := .builtin .append, args := ⟨[s, .tmp y]⟩, argTypes := ⟨[t1, t2]⟩ } => match Nat.beq y k1, Nat.beq t1 t, Nat.beq t2 t, Nat.blt k1 N, Nat.blt k2 N with
    | true, true, true, true, true => match evS E z, evS E s, lookS E k1 with
      | some (.q q), some (.q (.c (.v (.slice A n c)))), none => some ⟨k1, k2, t, A, n, c, q⟩
      | _, _, _ => none
    | _, _, _, _, _ => none
  | _, _, _, _ => none
theorem pushS_ok {N : Nat} {E : SE} {o1 o2 : Oper} {u : PU} (h : pushS N E o1 o2 = some u) : o1.dst = some u.k1 ∧ o2.dst = some u.k2 ∧ Nat.blt u.k1 N = true ∧ Nat.blt u.k2 N = true ∧ lookS E u.k1 = none ∧
    ∃ z s, o1.op = .buildSlice u.t 1 #[(0, z)] ∧ o2.op = .call { callee := .builtin .append, args := #[s, .tmp u.k1], argTypes := #[u.t, u.t] } ∧ evS E z = some (.q u.q) ∧ evS E s = some (.v (.slice u.A u.n u.c)) := by
  unfold pushS at h
  split at h
  · rename_i k1 k2 t z s y t1 t2 e1 e2 e3 e4
    split at h
    · rename_i e5 e6 e7 e8 e9
      split at h
      · rename_i q A n c e10 e11 e12
        injection h with h
        subst h
        obtain rfl := Nat.eq_of_beq_eq_true e5
        obtain rfl := Nat.eq_of_beq_eq_true e6
        obtain rfl := Nat.eq_of_beq_eq_true e7
        exact ⟨e1, e2, e8, e9, e12, z, s, e3, e4, e10, e11⟩
      · cases h
    · cases h
  · cases h
theorem slice_of {w : World} {lo e k n : Nat} {v : Value} {xs : List Value} (h : w.ownsRow lo e k v n xs) : ∃ A c, v = .slice A n c := by
  rcases h.2 with ⟨h1, h2⟩ | ⟨g, cap, cur, hv, _⟩
  · exact ⟨none, 0, by rw [h1, h2]⟩
  · exact ⟨_, _, hv⟩
theorem ownBlock_slice (A : Option Addr) (n c : Nat) : (Value.slice A n c).ownBlock = A.map (·.block) := by cases A <;> rfl
/-- An append to what is one's own: what becomes of it. -/
theorem OwnS.grow {α : Type} {P : Program} {T : List TyR} (hT : OkT P T) {t e : TypeId} {lo sz bs c d : Nat} {fe : α → SQ} {A : Option Addr} {l m : List α} {ad : Addr} {w : World} {S : Nat → Prop} (ty : TypeId) (hs : slS T t = some (e, sz, bs)) (h0 : 0 < sz) (h : (OwnS lo e sz fe A c l).holds w S) (hok : OkF sz fe m)
    (hcells : ∀ j u, (flatF fe m)[j]? = some u → w.cell? (ad.add j) = some u) (hb : (l.length + m.length) * bs ≤ 140737488355328) (hm : l.length + m.length ≤ 9223372036854775807 - 64) (hlo : lo ≤ w.heap.size) :
    ∃ A' c' w' S', (Builtin.append_ #[t, t] ty #[.slice A l.length c, .slice (some ad) m.length d]).run P w = .ok (.slice A' (l ++ m).length c') w' ∧ Chg S w w' ∧ (OwnS lo e sz fe A' c' (l ++ m)).holds w' S' ∧ ∀ k, S' k → k < w.heap.size → S k := by
  obtain ⟨ht, ie, z, hi, hz, hsz, hbs, hzs, _⟩ := slS_ok hT hs
  obtain ⟨h1, h2, h3⟩ := h
  obtain ⟨v', w', hr, ho, hg, _, hat⟩ := run_append_own_at (P := P) w lo t ty e ie z sz bs ht hi hz hsz hbs hzs h0 _ l.length (flatF fe l) h2 ad m.length d (flatF fe m) (flatF_len hok) hcells (flatF_one hok) (by simp only [maxLen]; omega) hb hlo
  rw [← flatF_app] at ho
  obtain ⟨A', c', rfl⟩ := slice_of ho
  rw [ownBlock_slice] at hg hat
  rw [ownBlock_slice] at hat
  rw [← List.length_append] at hr ho
  refine ⟨A', c', w', fun j => A'.map (·.block) = some j, hr, (Chg.of_grown hg).mono fun i _ hi => (h3 i).2 hi, ⟨h1.app hok, ho, fun _ => Iff.rfl⟩, fun j hj hlt => ?_⟩
  rcases hat with e1 | e1
  · exact (h3 j).2 (e1.symm.trans hj)
  · rw [hj] at e1
    injection e1 with e1
    omega
section
variable {α : Type} {fe : α → SQ} {l : List α} {P : Program} {T : List TyR} {b : Base} {ops : Array Oper} {Q : Exit → Act → World → Prop} {N : Nat} {E : SE} {L : List LV} {R : List Res} {F M : World → Prop} {o1 o2 : Oper} {rest : List Oper} {e sz bs lo : Nat} {u : PU}
/-- **append(s, x)**. -/
theorem l_push (hT : OkT P T) (i : Nat) (x : α) (h : pushS N E o1 o2 = some u) (hg : o1.guard = none) (hg2 : o2.guard = none) (hs : slS T u.t = some (e, sz, bs)) (hq : fe x = u.q) (hi : R[i]? = some (OwnS lo e sz fe u.A u.c l)) (hn : u.n = l.length) (hx : OkP (fe x).parts1 ∧ (fe x).cl.length = sz) (h0 : 0 < sz) (h24 : sz ≤ 16777216)
    (hb : (l.length + 1) * bs ≤ 140737488355328) (hm : l.length < 9223372036854775000) (hlo : lo ≤ b.B.heap.size)
    (hc : ∀ A' c', lS P b ops Q N rest ⟨(u.k2, .v (.slice A' (l ++ [x]).length c')) :: E, L, R.set i (OwnS lo e sz fe A' c' (l ++ [x])), F, M⟩) : lS P b ops Q N (o1 :: o2 :: rest) ⟨E, L, R, F, M⟩ := fun a w ⟨G, S, h1, h2, h3⟩ => by
  obtain ⟨d1, d2, n1, n2, hf, z, s, p1, p2, p3, p4⟩ := pushS_ok h
  obtain ⟨ht, ie, zz, hie, hz, hsz, hbs, hzs, _⟩ := slS_ok hT hs
  have hok : OkF sz fe [x] := fun y hy => by rw [List.mem_singleton.1 hy]; exact hx
  have hfl : flatF fe [x] = (fe x).cl := by simp [flatF]
  have e1 := h1.eval (evS_ok p3)
  have hr := run_lit (P := P) ht hie hz hsz [(fe x).den] 1 #[(0, a.eval z)] (by rw [e1, hq]; rfl) rfl (by omega) (by omega) (fun v hv => by
    rw [List.mem_singleton.1 hv]
    have := hx.2
    rwa [SQ.cl, Array.length_toList] at this) w
  have e2 : ([(fe x).den].flatMap fun v => v.cells.toList) = flatF fe [x] := by simp [flatF, SQ.cl]
  rw [e2] at hr
  have hal := (Below.refl w.heap.size w).alloc (Nat.le_refl _) (.cells (flatF fe [x]).toArray e)
  refine wpl_go (v := .slice (some ⟨w.heap.size, 0, none⟩) 1 1) (w' := w.alloc (.cells (flatF fe [x]).toArray e)) (oneS hg) (by
    unfold execOp
    simp only [p1, List.map_toArray, List.map_cons, List.map_nil, Sem.run_bind, hr, Result.andThen_ok, Sem.run_pure]) ?_
  rw [d1]
  have hnew := Blk.new w e (flatF fe [x]).toArray
  have h4 := h3.later hal
  generalize w.alloc (.cells (flatF fe [x]).toArray e) = w1 at *
  have f1 := h1.putFar (k := u.k1) (by rw [look_den, hf]; rfl) (.slice (some ⟨w.heap.size, 0, none⟩) 1 1)
  have e3 := f1.eval (evS_ok p4)
  have e4 : (a.put (some u.k1) (.slice (some ⟨w.heap.size, 0, none⟩) 1 1)).eval (.tmp u.k1) = .slice (some ⟨w.heap.size, 0, none⟩) 1 1 := eval_put_same h1 n1 _
  obtain ⟨S1, h5, hput⟩ := h4.put hi
  obtain ⟨A', c', w', S', hr2, hch, ho, hS'⟩ := OwnS.grow hT (d := 1) (ad := ⟨w.heap.size, 0, none⟩) o2.type hs h0 h5 hok (fun j v hj => by
    rw [Addr.add_mid, hnew.cell, Nat.zero_add]
    simpa using hj) hb (by simp; omega) (Nat.le_trans hlo h4.chg.size)
  obtain ⟨S'', h6⟩ := hput _ _ _ hch ho hS'
  have hr3 : (Builtin.append_ #[u.t, u.t] o2.type #[.slice u.A u.n u.c, .slice (some ⟨w.heap.size, 0, none⟩) 1 1]).run P w1 = .ok (.slice A' (l ++ [x]).length c') w' := by rw [hn]; exact hr2
  refine wpl_go (v := .slice A' (l ++ [x]).length c') (w' := w') (oneS hg2) (by
    unfold execOp
    simp only [p2, resolve, invoke, builtin, Sem.run_bind, Sem.run_pure, Result.andThen_ok, List.map_toArray, List.map_cons, List.map_nil, e3, e4, SV.den, SQ.den, SC.den, hr3]) ?_
  rw [d2]
  exact hc A' c' _ _ ⟨G, S'', f1.put n2 _, h2.cons trivial, h6⟩
end
end Go.Proofs.YtoecohpcnojokaaDoor
/-
  SLICES OF ONE'S OWN, more: make, elements written, read, given up.
-/
namespace Go.Proofs.YtoecohpcnojokaaDoor
open Go.RowKit Go.IntWalk

/-- What is owned is read. -/
theorem rd_own {α : Type} {lo e k c : Nat} {fe : α → SQ} {A : Option Addr} {l : List α} {L : List LV} {R : List Res} {F M : World → Prop} (i : Nat) (hi : R[i]? = some (OwnS lo e k fe A c l)) : ∀ G S w, View G S L R F M w → Rd k fe A c l w := fun _ _ _ h => by
  obtain ⟨S1, _, h1, _⟩ := h.res.at hi
  exact OwnS.rd h1
theorem rd_fact {α : Type} {k c : Nat} {fe : α → SQ} {A : Option Addr} {l : List α} {L : List LV} {R : List Res} {F M : World → Prop} (h : ∀ w, F w → M w → Rd k fe A c l w) : ∀ G S w, View G S L R F M w → Rd k fe A c l w := fun _ _ w hv => h w hv.fact hv.fresh
section
variable {α : Type} {fe : α → SQ} {b : Base} {G : Nat → Nat} {S : Nat → Prop} {L : List LV} {R : List Res} {F M : World → Prop} {w : World} {lo e k c : Nat} {A : Option Addr} {l : List α}
/-- A slice of one's own is given up: it stays as it is. -/
theorem StW.free (h : StW b G S L R F M w) {i : Nat} (hi : R[i]? = some (OwnS lo e k fe A c l)) : ∃ S', StW b G S' L (R.eraseIdx i) (fun w => Rd k fe A c l w ∧ F w) M w := by
  obtain ⟨S1, S2, h1, h2, h3, h4⟩ := h.let hi
  refine ⟨S2, h4.and fun w' hw => OwnS.rd h1 |>.keep hw.size fun g hg hlt => hw.block g hlt ?_⟩
  have hS1 : S1 g := (h1.2.2 g).2 hg
  rintro (hx | hx | ⟨j, hj, rfl⟩)
  · exact (h.old g hx).2 (h.mine g (.inl ((h3 g).2 (.inl hS1))) (h.old g hx).1)
  · exact h2 g hS1 hx
  · exact h.sep j hj ((h3 _).2 (.inl hS1))
/-- The same, of a new one. -/
theorem StW.freeM (h : StW b G S L R F M w) {i : Nat} (hi : R[i]? = some (OwnS lo e k fe A c l)) (hlo : b.B.heap.size ≤ lo) : ∃ S', StW b G S' L (R.eraseIdx i) F (fun w => Rd k fe A c l w ∧ M w) w := by
  obtain ⟨S1, S2, h1, h2, h3, h4⟩ := h.let hi
  refine ⟨S2, h4.andM fun w' hw => OwnS.rd h1 |>.keep hw.size fun g hg hlt => hw.block g hlt ?_⟩
  have hS1 : S1 g := (h1.2.2 g).2 hg
  rintro (hx | hx | ⟨j, hj, rfl⟩)
  · cases A with
    | none => cases hg
    | some a =>
      have := (OwnS.inb h1 a rfl).1
      simp only [Option.map_some, Option.some.injEq] at hg
      omega
  · exact h2 g hS1 hx
  · exact h.sep j hj ((h3 _).2 (.inl hS1))
end
section
variable {α : Type} {fe : α → SQ} {P : Program} {b : Base} {ops : Array Oper} {Q : Exit → Act → World → Prop} {N : Nat} {E : SE} {L : List LV} {R : List Res} {F M : World → Prop} {lo e k c : Nat} {A : Option Addr} {l : List α}
theorem l_free {l' : List Oper} (i : Nat) (hi : R[i]? = some (OwnS lo e k fe A c l)) (h : lS P b ops Q N l' ⟨E, L, R.eraseIdx i, fun w => Rd k fe A c l w ∧ F w, M⟩) : lS P b ops Q N l' ⟨E, L, R, F, M⟩ := fun a w ⟨G, S, h1, h2, h3⟩ => by
  obtain ⟨S', h4⟩ := h3.free hi
  exact h a w ⟨G, S', h1, h2, h4⟩
theorem s_free {x : Code} (i : Nat) (hi : R[i]? = some (OwnS lo e k fe A c l)) (h : cS P b x Q N ⟨E, L, R.eraseIdx i, fun w => Rd k fe A c l w ∧ F w, M⟩) : cS P b x Q N ⟨E, L, R, F, M⟩ := fun a w ⟨G, S, h1, h2, h3⟩ => by
  obtain ⟨S', h4⟩ := h3.free hi
  exact h a w ⟨G, S', h1, h2, h4⟩
theorem s_freeM {x : Code} (i : Nat) (hi : R[i]? = some (OwnS lo e k fe A c l)) (hlo : b.B.heap.size ≤ lo) (h : cS P b x Q N ⟨E, L, R.eraseIdx i, F, fun w => Rd k fe A c l w ∧ M w⟩) : cS P b x Q N ⟨E, L, R, F, M⟩ := fun a w ⟨G, S, h1, h2, h3⟩ => by
  obtain ⟨S', h4⟩ := h3.freeM hi hlo
  exact h a w ⟨G, S', h1, h2, h4⟩
theorem k_freeM {K : Act → World → Prop} (i : Nat) (hi : R[i]? = some (OwnS lo e k fe A c l)) (hlo : b.B.heap.size ≤ lo) (h : kS b K N ⟨E, L, R.eraseIdx i, F, fun w => Rd k fe A c l w ∧ M w⟩) : kS b K N ⟨E, L, R, F, M⟩ := fun a w ⟨G, S, h1, h2, h3⟩ => by
  obtain ⟨S', h4⟩ := h3.freeM hi hlo
  exact h a w ⟨G, S', h1, h2, h4⟩
end

/-! ### make -/
end Go.Proofs.YtoecohpcnojokaaDoor
/-
  THE TYPES, by the parts of their noughts; laid by a program (tools/types.py) that reads the translation; checked here.
-/
namespace Go.Proofs.YtoecohpcnojokaaDoor
open Go.RowKit Go.IntWalk

def TY : List TyR := [
  { t := 2, kind := 0, zero := [.one (.v (.int .i64 0))], ik := some .i64, w := 8 },
  { t := 3, kind := 0, zero := [.one (.v (.int .i64 0))], ik := some .i64, w := 8 },
  { t := 4, kind := 0, zero := [.one (.v (.bool false))], w := 1 },
  { t := 5, kind := 0, zero := [.one (.v (.int .u8 0))], ik := some .u8, w := 1 },
  { t := 9, kind := 0, zero := [.one (.v (.string ⟨#[]⟩))], w := 16 },
  { t := 12, kind := 0, zero := [.one (.v (.int .u64 0))], ik := some .u64, w := 8 },
  { t := 13, kind := 2, zero := [.one (.v (.string ⟨#[]⟩)), .one (.v (.int .u64 0))], w := 24 },
  { t := 21, kind := 0, zero := [.one (.v (.int .i32 0))], ik := some .i32, w := 4 },
  { t := 22, kind := 0, zero := [.one (.v (.slice none 0 0))], el := some 42, w := 24 },
  { t := 23, kind := 0, zero := [.one (.v (.slice none 0 0))], el := some 38, w := 24 },
  { t := 25, kind := 0, zero := [.one (.v (.pointer none))], pt := true, w := 8 },
  { t := 26, kind := 2, zero := [.one (.v (.pointer none)), .one (.v (.int .u8 0))], w := 16 },
  { t := 27, kind := 2, zero := [.one (.v (.pointer none)), .one (.v (.int .u8 0))], w := 16 },
  { t := 31, kind := 0, zero := [.one (.v (.nilIface))], w := 16 },
  { t := 32, kind := 2, zero := [.one (.v (.nilIface))], w := 16 },
  { t := 33, kind := 2, zero := [.one (.v (.nilIface))], w := 16 },
  { t := 35, kind := 0, zero := [.one (.v (.slice none 0 0))], el := some 5, w := 24 },
  { t := 38, kind := 1, zero := [.agg 32 (By (List.replicate 32 0)).toArray], w := 32 },
  { t := 41, kind := 2, zero := [.agg 32 (By (List.replicate 32 0)).toArray, .agg 32 (By (List.replicate 32 0)).toArray], w := 64 },
  { t := 42, kind := 2, zero := [.agg 32 (By (List.replicate 32 0)).toArray, .agg 32 (By (List.replicate 32 0)).toArray], w := 64 },
  { t := 43, kind := 0, zero := [.one (.v (.int .i64 0))], ik := some .i64, w := 8 },
  { t := 46, kind := 0, zero := [.one (.v (.pointer none))], pt := true, w := 8 },
  { t := 72, kind := 2, zero := [.one (.v (.slice none 0 0)), .one (.v (.int .i64 0))], w := 32 },
  { t := 73, kind := 2, zero := [.one (.v (.slice none 0 0)), .one (.v (.int .i64 0))], w := 32 },
  { t := 75, kind := 2, zero := [.agg 32 (By (List.replicate 32 0)).toArray, .one (.v (.int .i64 0))], w := 40 },
  { t := 76, kind := 2, zero := [.agg 32 (By (List.replicate 32 0)).toArray, .one (.v (.int .i64 0))], w := 40 },
  { t := 78, kind := 0, zero := [.one (.v (.pointer none))], pt := true, w := 8 },
  { t := 79, kind := 2, zero := [.one (.v (.slice none 0 0)), .one (.v (.int .i64 0)), .one (.v (.int .i64 0))], w := 40 },
  { t := 80, kind := 2, zero := [.one (.v (.slice none 0 0)), .one (.v (.int .i64 0)), .one (.v (.int .i64 0))], w := 40 },
  { t := 81, kind := 0, zero := [.one (.v (.slice none 0 0))], el := some 86, w := 24 },
  { t := 82, kind := 2, zero := [.one (.v (.slice none 0 0))], w := 24 },
  { t := 83, kind := 2, zero := [.one (.v (.slice none 0 0))], w := 24 },
  { t := 85, kind := 2, zero := [.one (.v (.int .i64 0)), .agg 32 (By (List.replicate 32 0)).toArray, .agg 32 (By (List.replicate 32 0)).toArray, .one (.v (.int .i64 0)), .one (.v (.int .i64 0))], w := 88 },
  { t := 86, kind := 2, zero := [.one (.v (.int .i64 0)), .agg 32 (By (List.replicate 32 0)).toArray, .agg 32 (By (List.replicate 32 0)).toArray, .one (.v (.int .i64 0)), .one (.v (.int .i64 0))], w := 88 },
  { t := 91, kind := 2, zero := [.agg 32 (By (List.replicate 32 0)).toArray, .agg 32 (By (List.replicate 32 0)).toArray, .agg 32 (By (List.replicate 32 0)).toArray], w := 96 },
  { t := 92, kind := 2, zero := [.agg 32 (By (List.replicate 32 0)).toArray, .agg 32 (By (List.replicate 32 0)).toArray, .agg 32 (By (List.replicate 32 0)).toArray], w := 96 },
  { t := 95, kind := 0, zero := [.one (.v (.pointer none))], pt := true, w := 8 },
  { t := 97, kind := 2, zero := [.agg 32 (By (List.replicate 32 0)).toArray, .agg 32 (By (List.replicate 32 0)).toArray], w := 64 },
  { t := 98, kind := 2, zero := [.agg 32 (By (List.replicate 32 0)).toArray, .agg 32 (By (List.replicate 32 0)).toArray], w := 64 },
  { t := 101, kind := 2, zero := [], w := 0 },
  { t := 102, kind := 2, zero := [], w := 0 },
  { t := 103, kind := 2, zero := [.agg 32 (By (List.replicate 32 0)).toArray], w := 32 },
  { t := 104, kind := 2, zero := [.agg 32 (By (List.replicate 32 0)).toArray], w := 32 },
  { t := 111, kind := 1, zero := [.agg 2 (List.replicate 2 (.nilIface)).toArray], w := 32 },
  { t := 112, kind := 2, zero := [.agg 32 (By (List.replicate 32 0)).toArray, .agg 2 (List.replicate 2 (.nilIface)).toArray], w := 64 },
  { t := 113, kind := 2, zero := [.agg 32 (By (List.replicate 32 0)).toArray, .agg 2 (List.replicate 2 (.nilIface)).toArray], w := 64 },
  { t := 114, kind := 1, zero := [.agg 2 (List.replicate 2 (.pointer none)).toArray], w := 16 },
  { t := 115, kind := 2, zero := [.agg 32 (By (List.replicate 32 0)).toArray, .one (.v (.int .i64 0)), .one (.v (.pointer none)), .agg 2 (List.replicate 2 (.pointer none)).toArray], w := 64 },
  { t := 116, kind := 2, zero := [.agg 32 (By (List.replicate 32 0)).toArray, .one (.v (.int .i64 0)), .one (.v (.pointer none)), .agg 2 (List.replicate 2 (.pointer none)).toArray], w := 64 },
  { t := 117, kind := 0, zero := [.one (.v (.pointer none))], pt := true, w := 8 },
  { t := 119, kind := 0, zero := [.one (.v (.slice none 0 0))], el := some 3, w := 24 },
  { t := 121, kind := 0, zero := [.one (.v (.slice none 0 0))], el := some 35, w := 24 },
  { t := 123, kind := 0, zero := [.one (.v (.int .u64 0))], ik := some .u64, w := 8 },
  { t := 128, kind := 1, zero := [.agg 1 (By (List.replicate 1 0)).toArray], w := 1 },
  { t := 133, kind := 0, zero := [.one (.v (.slice none 0 0))], el := some 123, w := 24 },
  { t := 134, kind := 0, zero := [.one (.v (.int .u64 0))], ik := some .u64, w := 8 },
  { t := 135, kind := 0, zero := [.one (.v (.slice none 0 0))], el := some 134, w := 24 },
  { t := 139, kind := 0, zero := [.one (.v (.int .u32 0))], ik := some .u32, w := 4 },
  { t := 140, kind := 1, zero := [.agg 8 (List.replicate 8 (.int .u32 0)).toArray], w := 32 },
  { t := 142, kind := 1, zero := [.agg 64 (By (List.replicate 64 0)).toArray], w := 64 },
  { t := 147, kind := 1, zero := [.agg 8 (List.replicate 8 (.int .u64 0)).toArray], w := 64 },
  { t := 149, kind := 1, zero := [.agg 64 (List.replicate 64 (.int .u32 0)).toArray], w := 256 },
  { t := 152, kind := 1, zero := [.agg 80 (List.replicate 80 (.int .u64 0)).toArray], w := 640 },
  { t := 162, kind := 0, zero := [.one (.v (.pointer none))], pt := true, w := 8 }]
set_option maxRecDepth 100000 in
theorem TY_ok : OkT Tryd.prog TY := okT_of (by kernel_rfl) (by kernel_rfl)
end Go.Proofs.YtoecohpcnojokaaDoor
