/-
  SEVERAL TEXTS IN ONE: Vo, Vq, Vr, Vt, Vu, Vx, Vz, Wa, Vy, Wb, Wd.
-/
import Derived.Test.YtlaikmpnijlcbaaDoorMd
import Derived.Deep.RegionHeld3
import Derived.Laws.CopyOwn
import Derived.Test.YtlaikmpnijlcbaaDoorMb
import Derived.RangeFuncNested
import Derived.RangeFuncBound
import Derived.RangeFuncCalls
import Derived.RangeFuncLeaves
import Derived.OrdersIn
/-
  CELLS WITHIN ROWS, over states: a byte of a variable's row, a byte of a row in a slice of one's own; a slice appended to one's own.
-/
namespace Go.Proofs.YtlaikmpnijlcbaaDoor
open Go.RowKit Go.IntWalk

theorem run_ixArr {P : Program} {t e : TypeId} {n sz : Nat} (ht : P.underlying t = some (.array n e)) (he : (P.info? e).map (·.size) = some sz) (g o : Nat) (K : IntKind) (i : Nat) (hi : i < n) (w : World) :
    (Instr.indexAt t (.pointer (some ⟨g, o, none⟩)) (.int K (i : Int))).run P w = .ok (.pointer (some ⟨g, o + sz * i, none⟩)) w := by
  cases hq : P.info? e with
  | none => simp [hq] at he
  | some ie =>
    have hs : ie.size = sz := by simpa [hq] using he
    have h1 : (i : Int) < (n : Int) := by omega
    have h2 : (0 : Int) ≤ (i : Int) := by omega
    simp [Instr.indexAt, asIntOf, Instr.sureAddr, run_underlying ht, sizeOf, typeInfo, hq, hs, Addr.add_mid, Nat.mul_comm, hi]
section
variable {P : Program} {T : List TyR} {b : Base} {ops : Array Oper} {Q : Exit → Act → World → Prop} {N : Nat} {E : SE} {L : List LV} {R : List Res} {F M : World → Prop} {o : Oper} {rest : List Oper} {k : Nat} {t e : TypeId} {x y z : Operand} {K : IntKind} {j off n sz g : Nat}
/-- The address of a part of a variable's row. -/
theorem runO_ixA (i : Nat) (ho : o.op = .indexAddr t x y) (ht : P.underlying t = some (.array n e)) (he : (P.info? e).map (·.size) = some sz) (hx : evS E x = some (.a j off)) (hy : evS E y = some (.v (.int K (i : Int)))) (hi : i < n) :
    ∀ (G : Nat → Nat) (a : Act) (w : World), Fr N (denE G E) a → (execOp a.eval o).run P w = .ok (.value ((SV.a j (off + sz * i)).den G)) w := fun G a w ha => by
  have e1 := ha.eval (evS_ok hx)
  have e2 := ha.eval (evS_ok hy)
  unfold execOp
  simp only [ho, e1, e2, SV.den, SQ.den, SC.den, Sem.run_bind, run_ixArr ht he _ _ _ _ hi, Result.andThen_ok, Sem.run_pure]
/-- The address of a part of a row behind an address. -/
theorem runO_ixP (i : Nat) (ho : o.op = .indexAddr t x y) (ht : P.underlying t = some (.array n e)) (he : (P.info? e).map (·.size) = some sz) (hx : evS E x = some (.v (.pointer (some ⟨g, off, none⟩)))) (hy : evS E y = some (.v (.int K (i : Int)))) (hi : i < n) :
    ∀ (G : Nat → Nat) (a : Act) (w : World), Fr N (denE G E) a → (execOp a.eval o).run P w = .ok (.value ((SV.v (.pointer (some ⟨g, off + sz * i, none⟩))).den G)) w := fun G a w ha => by
  have e1 := ha.eval (evS_ok hx)
  have e2 := ha.eval (evS_ok hy)
  unfold execOp
  simp only [ho, e1, e2, SV.den, SQ.den, SC.den, Sem.run_bind, run_ixArr ht he _ _ _ _ hi, Result.andThen_ok, Sem.run_pure]
/-- A cell of a variable is read. -/
theorem runO_ldA {d : TypeDesc} {ps : List Pt} (v : Value) (ho : o.op = .load t x) (hx : evS E x = some (.a j off)) (hl : lookL L j = some ps) (hv : (catP ps)[off]? = some v) (hu : P.underlying t = some d) (hr : d.isRow = false) :
    ∀ (G : Nat → Nat) (S : Nat → Prop) (a : Act) (w : World), Fr N (denE G E) a → View G S L R F M w → (execOp a.eval o).run P w = .ok (.value ((SV.v v).den G)) w := fun G S a w ha hvw => by
  obtain ⟨z, hz, rfl, rfl⟩ := lookL_mem hl
  have hb := (hvw.var z hz).1
  have hc : w.cell? ⟨G z.j, off, none⟩ = some v := by rw [hb.cell]; exact hv
  have e1 := ha.eval (evS_ok hx)
  unfold execOp
  simp only [ho, e1, SV.den, SQ.den, SC.den, run_load_cell hu hr hc, Sem.run_bind, Sem.run_pure, Result.andThen_ok]
/-- A cell of a variable is written. -/
theorem l_stA {ps : List Pt} {v : Value} (ps' : List Pt) (hg : o.guard = none) (hd : o.dst = none) (ho : o.op = .store t x z) (hx : evS E x = some (.a j off)) (hz : evS E z = some (.v v)) (hl : lookL L j = some ps) (ht : (P.info? t).map (·.size) = some 1) (h1 : v.cells = #[v]) (h2 : v.oneCell' = true) (hlt : off < (catP ps).size) (hp : OkP ps')
    (hs : (catP ps').toList = (catP ps).toList.set off v) (hn : lS P b ops Q N rest ⟨E, putL L j ps', R, F, M⟩) : lS P b ops Q N (o :: rest) ⟨E, L, R, F, M⟩ := fun a w ⟨G, S, f1, f2, f3⟩ => by
  obtain ⟨u, hu, rfl, rfl⟩ := lookL_mem hl
  have e1 := f1.eval (evS_ok hx)
  have e2 := f1.eval (evS_ok hz)
  have hst := run_store_part (P := P) (t := t) (v := v) (off := off) (f3.at u hu) (by rw [ht, h1]; rfl) (by rw [h1]; exact hlt) (by rw [h1]; intro u hu; simp at hu; subst hu; exact h2)
  have e3 : ((catP u.ps).toList.take off ++ v.cells.toList ++ (catP u.ps).toList.drop (off + v.cells.size)).toArray = catP ps' := by
    apply Array.ext'
    rw [hs, List.set_eq_take_append_cons_drop, if_pos (by simpa using hlt), h1]
    simp
  rw [e3] at hst
  refine wpl_skip (w' := w.setRow (G u.j) (catP ps')) (oneS hg) (by
    unfold execOp
    simp only [ho, e1, e2, SV.den, SQ.den, SC.den, hst, Sem.run_bind, Sem.run_pure, Result.andThen_ok]) ?_
  rw [hd]
  exact hn _ _ ⟨G, S, f1, f2, f3.set (lookL_name hl) hp⟩
end
section
variable {α : Type} {fe : α → SQ} {l : List α} {P : Program} {T : List TyR} {b : Base} {ops : Array Oper} {Q : Exit → Act → World → Prop} {N : Nat} {E : SE} {L : List LV} {R : List Res} {F M : World → Prop} {o : Oper} {rest : List Oper} {k : Nat} {t e : TypeId} {x y z : Operand} {A : Option Addr} {lo c sz bs g m : Nat}
theorem OwnS.cell {w : World} {S : Nat → Prop} (h : (OwnS lo e sz fe (some ⟨g, 0, none⟩) c l).holds w S) {v : Value} (hv : (flatF fe l)[m]? = some v) : w.cell? ⟨g, m, none⟩ = some v := by
  obtain ⟨h1, h2, _⟩ := h
  rcases h2.2 with ⟨h4, _⟩ | ⟨g', cap, cur, hv', _, hg, _, _, _, ht⟩
  · injection h4 with h6
    cases h6
  · injection hv' with h6
    injection h6 with h6
    injection h6 with h6
    subst h6
    have hB : Blk w g e cur := hg
    rw [hB.cell]
    rw [← ht, List.getElem?_take] at hv
    split at hv
    · simpa using hv
    · cases hv
end
section
variable {α : Type} {P : Program} {T : List TyR} {b : Base} {ops : Array Oper} {Q : Exit → Act → World → Prop} {N : Nat} {E : SE} {L : List LV} {R : List Res} {F M : World → Prop} {T' : List Oper} {G : Nat → Nat} {S : Nat → Prop} {w0 : World} {rest : List (Nat × Oper)} {o : Oper} {i k sz bs : Nat} {t e : TypeId} {z : Operand}
/-- A step whose value hangs on what can be seen, the order drawn. -/
theorem g_opV (hst : StW b G S L R F M w0) (v : SV) (hv : v.Ok) (hg : o.guard = none) (hd : o.dst = some k) (hk : Nat.blt k N = true) (h : ∀ (G : Nat → Nat) (S : Nat → Prop) (a : Act) (w : World), Fr N (denE G E) a → View G S L R F M w → (execOp a.eval o).run P w = .ok (.value (v.den G)) w)
    (hn : gS P b ops Q N T' G w0 rest ((k, v) :: E)) : gS P b ops Q N T' G w0 ((i, o) :: rest) E := fun hE =>
  g_op rfl (fun a ha => b_val (by simp [Region.wanted, hg]) (fun w hw => h G S a w ha (hst.later hw.1).view) (by
    rw [hd]
    exact g_go (o := o) (hn (hE.cons hv)) _ (ha.put hk _)))
end
end Go.Proofs.YtlaikmpnijlcbaaDoor
/-
  MORE STEPS, over states: remainders by what is known, bytes that are turned.
-/
namespace Go.Proofs.YtlaikmpnijlcbaaDoor
open Go.RowKit Go.IntWalk

section
variable {α : Type} {fe : α → SQ} {l : List α} {P : Program} {b : Base} {ops : Array Oper} {Q : Exit → Act → World → Prop} {N : Nat} {E : SE} {L : List LV} {R : List Res} {F M : World → Prop} {e : TypeId} {A : Option Addr} {lo c sz : Nat}
theorem OwnS.cut {w : World} {S : Nat → Prop} (h : (OwnS lo e sz fe A c l).holds w S) (m : Nat) : (OwnS lo e sz fe A c (l.take m)).holds w S := by
  obtain ⟨h1, h2, h3⟩ := h
  have hok : OkF sz fe (l.take m) := fun x hx => h1 x (List.mem_of_mem_take hx)
  refine ⟨hok, ⟨flatF_len hok, ?_⟩, h3⟩
  rcases h2.2 with ⟨h4, h5⟩ | ⟨g, cap, cur, hv, hb, hg, hnc, hm, hs, ht⟩
  · have hl := List.eq_nil_of_length_eq_zero h5
    subst hl
    exact .inl ⟨by simpa using h4, by simp⟩
  · injection hv with v1 _ v3
    refine .inr ⟨g, cap, cur, by rw [v1, v3], hb, hg, Nat.le_trans (List.length_take_le' _ _) hnc, hm, hs, ?_⟩
    have e1 : flatF fe l = flatF fe (l.take m) ++ flatF fe (l.drop m) := by rw [← flatF_app, List.take_append_drop]
    have e2 : (flatF fe (l.take m)).length = (l.take m).length * sz := flatF_len hok
    have e3 : (l.take m).length * sz ≤ l.length * sz := Nat.mul_le_mul_right _ (List.length_take_le' _ _)
    have e4 := congrArg (List.take ((l.take m).length * sz)) ht
    rw [List.take_take, Nat.min_eq_left e3, e1, ← e2, List.take_left] at e4
    rw [← e2]
    exact e4
end
end Go.Proofs.YtlaikmpnijlcbaaDoor
/-
  OBJECTS, over states: written behind pointers; variables that are handed out as objects; slices cut at their begin.
-/
namespace Go.Proofs.YtlaikmpnijlcbaaDoor
open Go.RowKit Go.IntWalk

section
variable {P : Program} {T : List TyR} {b : Base} {ops : Array Oper} {Q : Exit → Act → World → Prop} {N : Nat} {E E' : SE} {L : List LV} {R : List Res} {F M : World → Prop} {o : Oper} {rest : List Oper} {k : Nat} {t ty : TypeId} {x z : Operand} {off g : Nat} {ps ps' : List Pt} {q : SQ}
/-- What lies behind a pointer of one's own is written. -/
theorem l_stO (hT : OkT P T) (i : Nat) (hi : R[i]? = some (ObjS g ty ps)) (hg : o.guard = none) (hd : o.dst = none) (ho : o.op = .store t x z) (hx : evS E x = some (.v (.pointer (some ⟨g, off, none⟩)))) (hz : evS E z = some (.q q)) (hs : storeS T ps t off q = some ps')
    (hn : lS P b ops Q N rest ⟨E, L, R.set i (ObjS g ty ps'), F, M⟩) : lS P b ops Q N (o :: rest) ⟨E, L, R, F, M⟩ := fun a w ⟨G, S, f1, f2, f3⟩ => by
  obtain ⟨S1, ⟨⟨hb, hok⟩, hS1⟩, hput⟩ := f3.put hi
  have e1 : a.eval x = .pointer (some ⟨g, off, none⟩) := f1.eval (evS_ok hx)
  have e2 : a.eval z = q.den := f1.eval (evS_ok hz)
  obtain ⟨h3, h4⟩ := storeS_ok hT hok (f2.ev hz) hs
  obtain ⟨S'', h6⟩ := hput (ObjS g ty ps') (w.setRow g (catP ps')) S1 ((Chg.row w g _).mono fun k _ hk => (hS1 k).2 hk) ⟨⟨hb.row _, h3⟩, hS1⟩ (fun k hk _ => hk)
  refine wpl_skip (w' := w.setRow g (catP ps')) (oneS hg) (by
    unfold execOp
    simp only [ho, e1, e2, h4 hb, Sem.run_bind, Sem.run_pure, Result.andThen_ok]) ?_
  rw [hd]
  exact hn _ _ ⟨G, S'', f1, f2, h6⟩
theorem StW.give {G : Nat → Nat} {S : Nat → Prop} {y : LV} {w : World} (h : StW b G S (y :: L) R F M w) : StW b G (fun k => k = G y.j ∨ S k) L (ObjS (G y.j) y.t y.ps :: R) F M w := by
  have hM : ∀ k, Mine (fun k => k = G y.j ∨ S k) G L k → Mine S G (y :: L) k := fun k hk => by
    rcases hk with (rfl | hk) | ⟨j, hj, rfl⟩
    · exact .inr ⟨y.j, List.mem_cons_self, rfl⟩
    · exact .inl hk
    · exact .inr ⟨j, List.mem_cons_of_mem _ hj, rfl⟩
  have hy := h.var y List.mem_cons_self
  have hap := List.pairwise_cons.1 (show (y.j :: namesL L).Pairwise fun i j => G i ≠ G j from h.apart)
  refine ⟨fun x hx => h.var x (List.mem_cons_of_mem _ hx), hap.2, ⟨fun k => k = G y.j, S, ⟨⟨hy.1, hy.2.1⟩, fun _ => Iff.rfl⟩, h.res, fun _ => Iff.rfl, fun k hk hs => h.sep y.j List.mem_cons_self (by rw [← hk]; exact hs)⟩, fun j hj hs => ?_, h.fact.less fun k _ hk => hk.imp id (hM k), h.fresh.less fun k _ hk => hk.imp id (hM k), h.chg, fun k hk => h.mine k (hM k hk), h.old⟩
  rcases hs with hs | hs
  · exact hap.1 j hj hs.symm
  · exact h.sep j (List.mem_cons_of_mem _ hj) hs
/-- The newest variable is an object from here on. -/
theorem k_give {K : Act → World → Prop} {y : LV} (i : Nat) (hx : lookS E i = some (.a y.j 0)) (hs : SubS E' E) (h : ∀ g, kS b K N ⟨(i, .v (.pointer (some ⟨g, 0, none⟩))) :: E', L, ObjS g y.t y.ps :: R, F, M⟩) : kS b K N ⟨E, y :: L, R, F, M⟩ := fun a w ⟨G, S, h1, h2, h3⟩ => by
  refine h (G y.j) a w ⟨G, _, ?_, (hs.ok h2).cons trivial, h3.give⟩
  exact (h1.sub (denE_sub hs)).more (h1.get i _ (by rw [look_den, hx]; rfl))
end
/-- The address behind a cut at the begin. -/
def cutA (A : Option Addr) (c n : Nat) : Option Addr := if c = n then A else A.map (·.add n)
theorem Rd.part {A : Option Addr} {c n : Nat} {l : List UInt8} {w : World} (h : Rd 1 eB A c l w) (hn : n ≤ l.length) : Rd 1 eB (cutA A c n) (c - n) (l.drop n) w := by
  have h1 := h.sl.part (n := l.length - n) hn
  rw [List.take_of_length_le (by rw [List.length_drop]; exact Nat.le_refl _)] at h1
  exact Rd.of_sl h1
end Go.Proofs.YtlaikmpnijlcbaaDoor
/-
  DRAWN REGIONS WITH MEMORY, over states: what only reads is taken as early as may be; what is left goes step by step.
-/
namespace Go.Proofs.YtlaikmpnijlcbaaDoor
open Go.RowKit Go.IntWalk

/-! ### Whatever order, from one world -/
section
variable {P : Program} {ops : Array Oper} {Q : Exit → Act → World → Prop} {Inv : World → Prop}
def wpAnyK (P : Program) (ops : Array Oper) (Q : Exit → Act → World → Prop) (Inv : World → Prop) (n m : Nat) : Nat → Array Bool → Act → World → Prop
  | 0, listed, a, w => (∀ j ∈ Region.ready .any ops listed, ∀ i, i < n → waitsT .any ops ops.size j i = true) ∧ wpAny P .any ops Q m listed a w
  | fuel + 1, listed, a, w => Region.ready .any ops listed ≠ [] ∧ ∀ i ∈ Region.ready .any ops listed, wpOp P ops Q i (fun a' w' => Inv w' ∧ wpAnyK P ops Q Inv n m fuel (listed.setIfInBounds i true) a' w') a w
theorem still_wpOp {i : Nat} {oi : Oper} {v : Value} {K : Act → World → Prop} {a : Act} {w : World} (hi : ops[i]? = some oi) (hst : stillG oi.op = true) (hy : YieldsB P ops Inv oi (· = v) a) (hC : Inv w) (h : K (a.put oi.dst v) w) : wpOp P ops Q i K a w := by
  unfold Go.wpOp
  simp only [hi]
  rcases hy with ⟨hw, hv⟩ | ⟨hw, hv⟩
  · simp only [hw, if_true]
    refine .inl ?_
    have h3 := hv w hC
    unfold atB at h3
    unfold Oper.wp
    cases hr : (execOp a.eval oi).run P w with
    | ok n w' =>
      rw [hr] at h3
      rcases still_ok hst hr with ⟨u, rfl⟩ | rfl
      · simp only [uponB] at h3
        obtain ⟨e1, e2⟩ := h3
        subst e1 e2
        exact h
      · simp only [uponB] at h3
        obtain ⟨e1, e2⟩ := h3
        subst e1 e2
        exact h
    | halt x w' =>
      rw [hr] at h3
      simp only [uponB] at h3
  · simp only [hw, Bool.false_eq_true, if_false]
    rw [hv]
    exact h
theorem upon_then {o : Oper} {a : Act} {K next : Act → World → Prop} (r : Result Next) (h : o.upon P a next (Exit.then K Q) r) : o.upon P a next Q r := by
  cases r with
  | ok n w' => cases n <;> exact h
  | halt x w' => cases x <;> exact h
theorem wpOp_of_list {i : Nat} {o : Oper} {K : Act → World → Prop} {a : Act} {w : World} (hi : ops[i]? = some o) (h : wpList P ops (Exit.then K Q) [o] a w) : wpOp P ops Q i K a w := by
  unfold Go.wpOp
  simp only [hi]
  unfold wpList at h
  split
  · rename_i hw
    rw [if_pos hw] at h
    refine h.imp (fun h => ?_) id
    exact Oper.wp_mono (fun a' w' h' => h') (upon_then _ h)
  · rename_i hw
    rw [if_neg hw] at h
    exact h
end
/-! ### Over states -/
/-- What the variables L hold, where they lie. -/
def InvL (L : List LV) (w : World) : Prop := ∀ x ∈ L, ∃ g, x.g = some g ∧ Blk w g x.t (catP x.ps)
def aS (P : Program) (b : Base) (Q : Exit → Act → World → Prop) (N : Nat) (ops : Array Oper) (Inv : World → Prop) (n m fuel : Nat) (listed : Array Bool) (e : Env) : Prop := Closed .any ops listed → ∀ a w, St b N e a w → Inv w → wpAnyK P ops (NoPanic Q) Inv n m fuel listed a w
section
variable {P : Program} {T : List TyR} {b : Base} {ops : Array Oper} {Q : Exit → Act → World → Prop} {N n m fuel : Nat} {listed : Array Bool} {E : SE} {L L0 : List LV} {R : List Res} {F M : World → Prop} {Inv : World → Prop} {e : Env}
theorem inv_of {E' : SE} {L' : List LV} {R' : List Res} {F' M' : World → Prop} (hsub : ∀ x ∈ L0, x ∈ L' ∧ x.g.isSome = true) : ∀ a w, St b N ⟨E', L', R', F', M'⟩ a w → InvL L0 w := fun a w ⟨G, S, _, _, h3⟩ x hx => by
  obtain ⟨h1, h2⟩ := hsub x hx
  obtain ⟨g, hg⟩ := Option.isSome_iff_exists.1 h2
  have h4 := h3.var x h1
  refine ⟨g, hg, ?_⟩
  rw [← h4.2.2 g hg]
  exact h4.1
theorem StW.drew {G : Nat → Nat} {S : Nat → Prop} {w : World} (h : StW b G S L R F M w) : StW b G S L R F M w.drew := h.later (Up.drew w)
/-- A slice of all of a variable's row. -/
theorem runO_all {N : Nat} {E : SE} {o : Oper} {x : Operand} {t e : TypeId} {j off n sz : Nat} (ho : o.op = .slice t x none none none) (ht : P.underlying t = some (.array n e)) (he : (P.info? e).map (·.size) = some sz) (hx : evS E x = some (.a j off)) :
    ∀ (G : Nat → Nat) (a : Act) (w : World), Fr N (denE G E) a → (execOp a.eval o).run P w = .ok (.value ((SV.s j off n n).den G)) w := fun G a w ha => by
  have h1 : a.eval x = .pointer (some ⟨G j, off, none⟩) := ha.eval (evS_ok hx)
  have h5 := run_sizeOf he w
  unfold execOp
  simp only [ho]
  generalize a.eval = ρ at *
  simp only [Option.map, h1]
  show _ = Result.ok (Next.value (.slice (some ⟨G j, off, none⟩) n n)) w
  simp [Instr.sliceAt, Instr.sureAddr, run_underlying ht, Instr.sliceBounds, h5, Sem.run_bind, Addr.add_mid]
/-- The variables, with where they lie. -/
def withG (G : Nat → Nat) : List LV → List LV
  | [] => []
  | x :: L => { x with g := some (G x.j) } :: withG G L
theorem withG_names (G : Nat → Nat) : ∀ L : List LV, namesL (withG G L) = namesL L
  | [] => rfl
  | x :: L => congrArg (x.j :: ·) (withG_names G L)
theorem withG_mem {G : Nat → Nat} : ∀ {L : List LV} {x : LV}, x ∈ withG G L → ∃ y ∈ L, x = { y with g := some (G y.j) }
  | [], _, h => by cases h
  | y :: L, x, h => by
    rcases List.mem_cons.1 h with rfl | h
    · exact ⟨y, List.mem_cons_self, rfl⟩
    · obtain ⟨z, hz, e⟩ := withG_mem h
      exact ⟨z, List.mem_cons_of_mem _ hz, e⟩
theorem s_locs {c : Code} (h : ∀ G : Nat → Nat, cS P b c Q N ⟨E, withG G L, R, F, M⟩) : cS P b c Q N ⟨E, L, R, F, M⟩ := fun a w ⟨G, S, h1, h2, h3⟩ => by
  have hM : ∀ k, Mine S G (withG G L) k ↔ Mine S G L k := fun k => by unfold Mine; rw [withG_names]
  refine h G a w ⟨G, S, h1, h2, ⟨fun x hx => ?_, by rw [withG_names]; exact h3.apart, h3.res, by rw [withG_names]; exact h3.sep, h3.fact.less fun k _ hk => hk.imp id (hM k).1, h3.fresh.less fun k _ hk => hk.imp id (hM k).1, h3.chg, fun k hk => h3.mine k ((hM k).1 hk), h3.old⟩⟩
  obtain ⟨y, hy, rfl⟩ := withG_mem hx
  exact ⟨(h3.var y hy).1, (h3.var y hy).2.1, fun g hg => Option.some.inj hg⟩
end
end Go.Proofs.YtlaikmpnijlcbaaDoor
/-
  DIGESTS OF PARTS, over states: a slice of slices and the call that reads it.
-/
namespace Go.Proofs.YtlaikmpnijlcbaaDoor
open Go.RowKit Go.IntWalk

section
variable {T : List TyR} {b : Base} {ops : Array Oper} {Q : Exit → Act → World → Prop} {N : Nat} {E : SE} {L : List LV} {R : List Res} {F M : World → Prop} {o1 o2 : Oper} {rest : List Oper} {k1 k2 bs e : Nat}
/-- The whole of a variable's row. -/
theorem sb_var {j n : Nat} {l : List UInt8} (hj : lookL L j = some [.agg n (By l).toArray]) (hl : l.length = n) (hm : n ≤ 9223372036854775807) : ∀ G S w, View G S L R F M w → SB w ((SV.s j 0 n n).den G) l := fun G S w hv => by
  obtain ⟨z, hz, rfl, hps⟩ := lookL_mem hj
  have hb := (hv.var z hz).1
  rw [hps] at hb
  exact SB.all hb hl hm
end
end Go.Proofs.YtlaikmpnijlcbaaDoor
/-
  DRAWN REGIONS, over states: those that make some new variables at once ('x, y := ..'); those of which any operations may be taken first, the others in their order.
-/
namespace Go.Proofs.YtlaikmpnijlcbaaDoor
open Go.RowKit Go.IntWalk

/-! ### New variables, some at once -/
/-- Where the new ones lie, and the elder ones. -/
def gOf : List LV → Nat → (Nat → Nat) → (Nat → Nat) → Nat → Nat
  | [], _, _, G, j => G j
  | u :: us, i, gs, G, j => if j = u.j then gs i else gOf us (i + 1) gs G j
def ptrV : List LV → SE → SE
  | [], E => E
  | u :: us, E => (u.j, .a u.j 0) :: ptrV us E
/-- The variables' slots, types, first cells. -/
def nvL : List LV → List (Array Value) → List NV
  | u :: us, z :: zs => ⟨u.j, u.t, z⟩ :: nvL us zs
  | _, _ => []
def freeV (E : SE) (L : List LV) : List LV → Bool
  | [] => true
  | u :: us => farL u.j L && farE u.j E && (match u.g with | none => true | some _ => false) && farL u.j us && freeV E L us
theorem gOf_far {gs G : Nat → Nat} {j : Nat} : ∀ {us : List LV} {i : Nat}, j ∉ namesL us → gOf us i gs G j = G j
  | [], _, _ => rfl
  | u :: us, i, h => by
    unfold gOf
    rw [if_neg fun e => h (by rw [e]; exact List.mem_cons_self)]
    exact gOf_far fun h2 => h (List.mem_cons_of_mem _ h2)
theorem gOf_mem {gs G : Nat → Nat} : ∀ {us : List LV} {i j : Nat} , j ∈ namesL us → ∃ k, i ≤ k ∧ k < i + us.length ∧ gOf us i gs G j = gs k
  | [], _, _, h => by cases h
  | u :: us, i, j, h => by
    unfold gOf
    by_cases e : j = u.j
    · rw [if_pos e]
      exact ⟨i, Nat.le_refl _, by simp, rfl⟩
    · rw [if_neg e]
      rcases List.mem_cons.1 h with e2 | h
      · exact absurd e2 e
      · obtain ⟨k, h1, h2, h3⟩ := gOf_mem (i := i + 1) h
        exact ⟨k, by omega, by simp only [List.length_cons]; omega, h3⟩
theorem freeV_far {E : SE} {L : List LV} : ∀ {us : List LV}, freeV E L us = true → ∀ u ∈ us, farL u.j L = true ∧ farE u.j E = true ∧ u.g = none
  | [], _, u, h => by cases h
  | v :: us, hf, u, h => by
    simp only [freeV, Bool.and_eq_true] at hf
    obtain ⟨⟨⟨⟨h1, h2⟩, h3⟩, h4⟩, h5⟩ := hf
    rcases List.mem_cons.1 h with rfl | h
    · refine ⟨h1, h2, ?_⟩
      cases hg : u.g with
      | none => rfl
      | some x => rw [hg] at h3; cases h3
    · exact freeV_far h5 u h
section
variable {P : Program} {T : List TyR} {b : Base} {ops : Array Oper} {Q : Exit → Act → World → Prop} {N : Nat} {G gs : Nat → Nat} {S : Nat → Prop} {E : SE} {L : List LV} {R : List Res} {F M : World → Prop} {w0 w' : World}
theorem gOf_pair {i0 : Nat} : ∀ {us : List LV} {i : Nat}, freeV E L us = true → (∀ k l, i0 ≤ k → k < i + us.length → i0 ≤ l → l < i + us.length → k ≠ l → gs k ≠ gs l) → i0 ≤ i → (namesL us).Pairwise fun x y => gOf us i gs G x ≠ gOf us i gs G y
  | [], _, _, _, _ => List.Pairwise.nil
  | u :: us, i, hf, hd, hi => by
    simp only [freeV, Bool.and_eq_true] at hf
    obtain ⟨⟨_, h4⟩, h5⟩ := hf
    have hn := farL_mem h4
    have hne : ∀ j ∈ namesL us, gOf (u :: us) i gs G j = gOf us (i + 1) gs G j := fun j hj => by
      show (if j = u.j then _ else _) = _
      rw [if_neg fun e => hn (by rw [← e]; exact hj)]
    refine List.Pairwise.cons (fun j hj => ?_) ?_
    · rw [hne j hj]
      show (if u.j = u.j then gs i else _) ≠ _
      rw [if_pos rfl]
      obtain ⟨k, h1, h2, h3⟩ := gOf_mem (gs := gs) (G := G) (i := i + 1) hj
      rw [h3]
      exact hd i k (by omega) (by simp only [List.length_cons]; omega) (by omega) (by simp only [List.length_cons]; omega) (by omega)
    · refine (gOf_pair (us := us) (i := i + 1) h5 (fun k l a b c d => hd k l a (by simp only [List.length_cons]; omega) c (by simp only [List.length_cons]; omega)) (by omega)).imp_of_mem fun {x y} hx hy h => ?_
      rw [hne x hx, hne y hy]
      exact h
theorem gOf_blk (G : Nat → Nat) : ∀ {us : List LV} {zs : List (Array Value)} {i : Nat}, freeV E L us = true → us.length = zs.length → blks w' (nvL us zs) (us.map fun u => catP u.ps) i gs → ∀ u ∈ us, Blk w' (gOf us i gs G u.j) u.t (catP u.ps)
  | [], _, _, _, _, _, u, h => by cases h
  | _ :: _, [], _, _, hl, _, _, _ => by cases hl
  | v :: us, z :: zs, i, hf, hl, hb, u, h => by
    simp only [freeV, Bool.and_eq_true] at hf
    obtain ⟨⟨_, h4⟩, h5⟩ := hf
    have hn := farL_mem h4
    obtain ⟨hb1, hb2⟩ := hb
    rcases List.mem_cons.1 h with rfl | h
    · show Blk w' (if u.j = u.j then gs i else _) _ _
      rw [if_pos rfl]
      exact hb1
    · have := gOf_blk G h5 (by simpa using hl) hb2 u h
      show Blk w' (if u.j = v.j then _ else _) _ _
      rw [if_neg fun e => hn (by rw [← e]; exact List.mem_map.2 ⟨u, h, rfl⟩)]
      exact this
/-- Some new variables. -/
theorem StW.news (h : StW b G S L R F M w0) (hU : Up w0 w') (us : List LV) (hf : freeV E L us = true) (hp : ∀ u ∈ us, OkP u.ps) (hge : ∀ j, j < us.length → w0.heap.size ≤ gs j) (hd : ∀ i j, i < us.length → j < us.length → i ≠ j → gs i ≠ gs j) (hb : ∀ u ∈ us, Blk w' (gOf us 0 gs G u.j) u.t (catP u.ps)) :
    StW b (gOf us 0 gs G) S (us ++ L) R F M w' := by
  have h1 := h.later hU
  have hfr := freeV_far hf
  have hno : ∀ j ∈ namesL L, j ∉ namesL us := fun j hj hj2 => by
    obtain ⟨u, hu, rfl⟩ := List.mem_map.1 hj2
    exact farL_mem (hfr u hu).1 hj
  have hG : ∀ j ∈ namesL L, gOf us 0 gs G j = G j := fun j hj => gOf_far (hno j hj)
  have hlt : ∀ i ∈ namesL L, G i < w0.heap.size := fun i hi => h.lt _ (.inr ⟨i, hi, rfl⟩)
  have hnew : ∀ j ∈ namesL us, w0.heap.size ≤ gOf us 0 gs G j := fun j hj => by
    obtain ⟨k, h2, h3, h4⟩ := gOf_mem (gs := gs) (G := G) (i := 0) hj
    rw [h4]
    exact hge k (by omega)
  have hnames : namesL (us ++ L) = namesL us ++ namesL L := List.map_append
  have hM : ∀ k, Mine S (gOf us 0 gs G) (us ++ L) k → w0.heap.size ≤ k ∨ Mine S G L k := fun k hk => by
    rcases hk with hk | ⟨i, hi, rfl⟩
    · exact .inr (.inl hk)
    · rw [hnames] at hi
      rcases List.mem_append.1 hi with hi | hi
      · exact .inl (hnew i hi)
      · exact .inr (.inr ⟨i, hi, (hG i hi).symm⟩)
  refine ⟨fun x hx => ?_, ?_, h1.res, fun i hi => ?_, ?_, ?_, h1.chg, fun k hk hlt2 => ?_, h.old⟩
  · rcases List.mem_append.1 hx with hx | hx
    · exact ⟨hb x hx, hp x hx, fun g hg => by rw [(hfr x hx).2.2] at hg; cases hg⟩
    · rw [hG _ (List.mem_map.2 ⟨x, hx, rfl⟩)]
      exact h1.var x hx
  · rw [hnames]
    refine List.pairwise_append.2 ⟨gOf_pair (i0 := 0) hf (fun k l _ a _ c => hd k l (by omega) (by omega)) (Nat.le_refl _), h.apart.imp_of_mem fun {x y} hx hy e => ?_, fun i hi j hj => ?_⟩
    · rw [hG x hx, hG y hy]
      exact e
    · have := hnew i hi
      have := hlt j hj
      rw [hG j hj]
      omega
  · rw [hnames] at hi
    rcases List.mem_append.1 hi with hi | hi
    · intro hs
      have := h.res.lt _ hs
      have := hnew i hi
      omega
    · rw [hG i hi]
      exact h.sep i hi
  · refine h.fact.past (Chg.of_up hU) fun i hi hd => ?_
    rcases hd with hd | hd
    · exact .inl hd
    · rcases hM i hd with h2 | hd
      · exact absurd hi (Nat.not_lt.2 h2)
      · exact .inr hd
  · refine h.fresh.past (Chg.of_up hU) fun i hi hd => ?_
    rcases hd with hd | hd
    · exact .inl hd
    · rcases hM i hd with h2 | hd
      · exact absurd hi (Nat.not_lt.2 h2)
      · exact .inr hd
  · rcases hM k hk with h2 | h2
    · have := h.chg.size
      omega
    · exact h.mine k h2 hlt2
theorem den_gOf {us : List LV} {i : Nat} {v : SV} (h : ∀ u ∈ us, v.farB u.j = true) : v.den (gOf us i gs G) = v.den G := by
  induction us generalizing i with
  | nil => rfl
  | cons u us ih =>
    have h1 := h u List.mem_cons_self
    have h2 := ih (i := i + 1) fun x hx => h x (List.mem_cons_of_mem _ hx)
    rw [← h2]
    cases v with
    | a j off =>
      have h1 : (!Nat.beq j u.j) = true := h1
      have : j ≠ u.j := fun e => by rw [e] at h1; simp at h1
      show Value.pointer (some ⟨gOf (u :: us) i gs G j, off, none⟩) = _
      unfold gOf
      rw [if_neg this]
      rfl
    | s j off n c =>
      have h1 : (!Nat.beq j u.j) = true := h1
      have : j ≠ u.j := fun e => by rw [e] at h1; simp at h1
      show Value.slice (some ⟨gOf (u :: us) i gs G j, off, none⟩) n c = _
      unfold gOf
      rw [if_neg this]
      rfl
    | q x => rfl
    | t vs => rfl
theorem denE_gOf {us : List LV} : ∀ {E : SE}, (∀ u ∈ us, farE u.j E = true) → denE (gOf us 0 gs G) E = denE G E
  | [], _ => rfl
  | (k, v) :: r, h => by
    have h1 : ∀ u ∈ us, v.farB u.j = true ∧ farE u.j r = true := fun u hu => by
      have := h u hu
      unfold farE at this
      rw [List.all_cons, Bool.and_eq_true] at this
      exact this
    rw [denE, denE, den_gOf fun u hu => (h1 u hu).1, denE_gOf fun u hu => (h1 u hu).2]
theorem ptrV_den : ∀ {us : List LV} {zs : List (Array Value)} {i : Nat} {E1 : List (Nat × Value)} {G0 : Nat → Nat}, freeV E L us = true → us.length = zs.length → (∀ j ∈ namesL us, G0 j = gOf us i gs G j) → denE G0 E = E1 → denE G0 (ptrV us E) = ptrs (nvL us zs) i gs E1
  | [], [], _, _, _, _, _, _, h => h
  | u :: us, z :: zs, i, E1, G0, hf, hl, hg, h => by
    simp only [freeV, Bool.and_eq_true] at hf
    obtain ⟨⟨_, h4⟩, h5⟩ := hf
    have hn := farL_mem h4
    have h0 := hg u.j List.mem_cons_self
    have e0 : G0 u.j = gs i := by
      rw [h0]
      unfold gOf
      rw [if_pos rfl]
    show (u.j, Value.pointer (some ⟨G0 u.j, 0, none⟩)) :: denE G0 (ptrV us E) = (u.j, Value.pointer (some ⟨gs i, 0, none⟩)) :: ptrs (nvL us zs) (i + 1) gs E1
    rw [e0, ptrV_den (i := i + 1) h5 (by simpa using hl) (fun j hj => ?_) h]
    rw [hg j (List.mem_cons_of_mem _ hj)]
    show (if j = u.j then _ else _) = _
    rw [if_neg fun e => hn (by rw [← e]; exact hj)]
  | [], _ :: _, _, _, _, _, hl, _, _ => by cases hl
  | _ :: _, [], _, _, _, _, hl, _, _ => by cases hl
theorem ptrV_ok : ∀ {us : List LV}, OkE E → OkE (ptrV us E)
  | [], h => h
  | _ :: us, h => (ptrV_ok (us := us) h).cons trivial
/-! ### The steps ahead of them -/
/-- What is left of the operations ahead of the new variables. -/
def nS (P : Program) (ops : Array Oper) (Q : Exit → Act → World → Prop) (N : Nat) (vs : List NV) (T' : List Oper) (G : Nat → Nat) (w0 : World) (l : List Oper) (E : SE) : Prop := OkE E → bF P ops (Up w0) (newPost P ops Q w0 vs T' N) l N (denE G E)
variable {vs : List NV} {T' l rest : List Oper} {o : Oper} {k : Nat}
theorem n_f (hst : StW b G S L R F M w0) (v : SV) (hv : v.Ok) (h : ∀ (C0 : World → Prop) (Q' : Act → Prop), (∀ w, C0 w → View G S L R F M w) → bF P ops C0 Q' [] N ((k, v.den G) :: denE G E) → bF P ops C0 Q' [o] N (denE G E)) (hn : nS P ops Q N vs T' G w0 rest ((k, v) :: E)) : nS P ops Q N vs T' G w0 (o :: rest) E := fun hE =>
  h (Up w0) (fun a' => wpB P ops (Up w0) (newPost P ops Q w0 vs T' N) rest a') (fun _ hw => (hst.later hw).view) (fun a' ha' => hn (hE.cons hv) a' ha')
theorem n_op (hst : StW b G S L R F M w0) (v : SV) (hv : v.Ok) (hg : o.guard = none) (hd : o.dst = some k) (hk : Nat.blt k N = true) (h : ∀ (G : Nat → Nat) (a : Act) (w : World), Fr N (denE G E) a → (execOp a.eval o).run P w = .ok (.value (v.den G)) w) (hn : nS P ops Q N vs T' G w0 rest ((k, v) :: E)) : nS P ops Q N vs T' G w0 (o :: rest) E :=
  n_f hst v hv (fun _ _ _ hQ => f_val _ hg hd hk (fun a ha w _ => h G a w ha) hQ) hn
theorem n_opV (hst : StW b G S L R F M w0) (v : SV) (hv : v.Ok) (hg : o.guard = none) (hd : o.dst = some k) (hk : Nat.blt k N = true) (h : ∀ (G : Nat → Nat) (S : Nat → Prop) (a : Act) (w : World), Fr N (denE G E) a → View G S L R F M w → (execOp a.eval o).run P w = .ok (.value (v.den G)) w) (hn : nS P ops Q N vs T' G w0 rest ((k, v) :: E)) : nS P ops Q N vs T' G w0 (o :: rest) E :=
  n_f hst v hv (fun _ _ hC hQ => f_val _ hg hd hk (fun a ha w hw => h G S a w ha (hC w hw)) hQ) hn
theorem n_st {v : SV} (hT : OkT P T) (hst : StW b G S L R F M w0) (hE : OkE E) (hg : o.guard = none) (hd : o.dst = some k) (hk : Nat.blt k N = true) (h : stepS T E L o.op = some v) (hn : nS P ops Q N vs T' G w0 rest ((k, v) :: E)) : nS P ops Q N vs T' G w0 (o :: rest) E :=
  n_f hst v (stepS_ok hT (N := N) (o := o) hE hst.okL h).1 (fun _ _ hC hQ => f_val _ hg hd hk (fun _ ha w hw => (stepS_ok hT hE hst.okL h).2 ha fun x hx => ((hC w hw).var x hx).1) hQ) hn
/-- What is left behind those that are reckoned. -/
def autoN (T : List TyR) (ops : Array Oper) (N : Nat) (L : List LV) : List Oper → SE → List Oper × SE
  | [], E => ([], E)
  | o :: l, E => match o.guard, o.dst with
    | none, some k => match Nat.blt k N with
      | true => match stepS T E L o.op with
        | some v => autoN T ops N L l ((k, v) :: E)
        | none => (o :: l, E)
      | false => (o :: l, E)
    | _, _ => (o :: l, E)
theorem autoN_ok (hT : OkT P T) (hst : StW b G S L R F M w0) : ∀ {l : List Oper} {E : SE}, OkE E → nS P ops Q N vs T' G w0 (autoN T ops N L l E).1 (autoN T ops N L l E).2 → nS P ops Q N vs T' G w0 l E
  | [], _, _, h => h
  | o :: l, E, hE, h => by
    unfold autoN at h
    split at h
    · rename_i k hg hd
      split at h
      · rename_i hk
        split at h
        · rename_i v hv
          exact n_st hT hst hE hg hd hk hv (autoN_ok hT hst (hE.cons (stepS_ok hT (N := N) (o := o) hE hst.okL hv).1) h)
        · exact h
      · exact h
    · exact h
theorem n_auto {l' : List Oper} {E' : SE} (hT : OkT P T) (hst : StW b G S L R F M w0) (h : autoN T ops N L l E = (l', E')) (hn : nS P ops Q N vs T' G w0 l' E') : nS P ops Q N vs T' G w0 l E := fun hE => autoN_ok hT hst hE (by rw [h]; exact hn) hE
/-- The new variables, and what they hold at first. -/
theorem n_new {T2 : List Oper} (hst : StW b G S L R F M w0) (us : List LV) (zs : List (Array Value)) (xs : List Operand) (hvs : nvL us zs = vs) (hl : us.length = zs.length) (hf : freeV E L us = true) (hp : ∀ u ∈ us, OkP u.ps) (hfar : far (denE G E) vs) (hap : tsApart vs = true) (hso : stOk vs xs T' T2) (hv : valOk P (denE G E) vs xs (us.map fun u => catP u.ps))
    (h : lS P b ops Q N T2 ⟨ptrV us E, us ++ L, R, F, M⟩) : nS P ops Q N vs T' G w0 [] E := fun hE => by
  subst hvs
  have hlen : (nvL us zs).length = us.length := by
    clear hf hp hfar hap hso hv h
    induction us generalizing zs with
    | nil => rfl
    | cons u us ih =>
      cases zs with
      | nil => cases hl
      | cons z zs => exact congrArg (· + 1) (ih zs (by simpa using hl))
  refine f_new xs (us.map fun u => catP u.ps) hfar hap hso hv fun gs w' hge hd hU hb a ha => ?_
  rw [hlen] at hge hd
  have hfr := freeV_far hf
  refine h a w' ⟨gOf us 0 gs G, S, ?_, ptrV_ok hE, hst.news hU us hf hp hge hd (gOf_blk G hf hl hb)⟩
  rw [ptrV_den (L := L) hf hl (fun _ _ => rfl) (denE_gOf fun u hu => (hfr u hu).2.1)]
  exact ha
end
section
variable {T : List TyR} {b : Base} {ops : Array Oper} {Q : Exit → Act → World → Prop} {N : Nat} {G : Nat → Nat} {S : Nat → Prop} {E : SE} {L : List LV} {R : List Res} {F M : World → Prop} {w0 : World} {vs : List NV} {T' rest : List Oper} {o : Oper} {k : Nat}
/-- A call that hands back one value and leaves nothing. -/
theorem n_callS {F' : World → Prop} {f : FuncId} {xs : Array Operand} {ats : Array TypeId} {svs : List SV} {r : RV} [Pst F']
    (hst : StW b G S L R F M w0) (args : List Value) (hg : o.guard = none) (hd : o.dst = some k) (hk : Nat.blt k N = true) (hf : Own f) (ho : o.op = .call { callee := .value (.func f), args := xs, argTypes := ats }) (hx : evSs E xs.toList = some svs)
    (ha : (∀ x ∈ L, ∀ g, x.g = some g → G x.j = g) → svs.map (SV.den G) = args) (hs : Spec f args [] F' (one r)) (hr : r.sv.Ok) (hF : ∀ G S w, View G S L R F M w → F' w)
    (hn : nS Tryd.prog ops Q N vs T' G w0 rest ((k, r.sv) :: E)) : nS Tryd.prog ops Q N vs T' G w0 (o :: rest) E := by
  refine n_f hst r.sv hr (fun C0 Q' hC hQ => ?_) hn
  rw [RV.sv_den] at hQ
  exact f_call args.toArray r.den hg hd hk hf (fun w hw => (hs w (fun _ => False) (fun _ => False) (fun _ h => h) (fun _ h => h.elim) (Stb.of_pst (hF _ _ _ (hC w hw)) fun _ _ h => h.elim id id)).mono fun _ _ ⟨_, _, h1, _, h2, _⟩ => ⟨h1, h2.up fun _ _ h => h⟩) ho (by rw [evSs_ok hx, ha fun x hx => (hst.var x hx).2.2]) hQ
end
section
variable {P : Program} {T : List TyR} {b : Base} {Q : Exit → Act → World → Prop} {N : Nat} {E : SE} {L : List LV} {R : List Res} {F M : World → Prop} {l : List Oper} {id : Nat} {y : Code}
/-- **'x, y, .. := u, v, ..'**, the order drawn: n operations ahead, the new variables vs, then the rest. -/
theorem s_new (n : Nat) (vs : List NV) (hn : n + vs.length ≤ l.length) (hap : tsApart vs = true) (hnv : nvOk P N (l.drop n) vs) (hm : P.follows .mixedOrders = true)
    (hB : tailB l.toArray n vs.length (l.drop (n + vs.length)).length = true)
    (hC : newC l.toArray n (marks vs.length n (marks n 0 (Array.replicate l.toArray.size false))) vs.length (List.range vs.length) (marks n 0 (Array.replicate l.toArray.size false)) = true)
    (h : ∀ K : Act → World → Prop, (∀ e', cS P b y Q N e' → kS b K N e') → ∀ G S w0, StW b G S L R F M w0 → nS P l.toArray (NoPanic (Exit.then K Q)) N vs (l.drop (n + vs.length)) G w0 (l.take n) E) : cS P b (.seq (.region id l.toArray true) y) Q N ⟨E, L, R, F, M⟩ :=
  s_seq fun K hK a w ⟨G, S, h1, h2, h3⟩ => by
    refine wp_region_noPanic ?_
    exact c_new n vs hn hap hnv hm hB hC (fun _ _ _ _ _ h => h) (h K hK G S w h3 h2) a h1
end
end Go.Proofs.YtlaikmpnijlcbaaDoor
/-
  DRAWN REGIONS THAT MAKE DIGESTS, over states: in the text's order, each operation by what those told that it waits for.
-/
namespace Go.Proofs.YtlaikmpnijlcbaaDoor
open Go.RowKit Go.IntWalk

/-! ### Operations that hang on one that was left out -/
def nopB : SV → Bool
  | .q (.c (.v (.tuple ⟨[]⟩))) => true
  | _ => false
def skipUD (ops : Array Oper) (N : Nat) : List (Nat × Oper) → SE → List (Nat × Oper) × SE
  | [], E => ([], E)
  | (i, o) :: l, E => match o.guard, o.dst with
    | some (j, _), some k => match (ops[j]?).bind (·.dst), Nat.blt k N with
      | some t, true => match Nat.blt t N, lookS E t with
        | true, some v => match nopB v with
          | true => skipUD ops N l ((k, .v undef) :: E)
          | false => ((i, o) :: l, E)
        | _, _ => ((i, o) :: l, E)
      | _, _ => ((i, o) :: l, E)
    | _, _ => ((i, o) :: l, E)
theorem wanted_nop {ops : Array Oper} {N : Nat} {G : Nat → Nat} {E : SE} {a : Act} {o : Oper} {j t : Nat} {q : Bool} {v : SV} (h1 : Fr N (denE G E) a) (hgd : o.guard = some (j, q)) (hj : (ops[j]?).bind (·.dst) = some t) (hN : Nat.blt t N = true) (ht : lookS E t = some v) (hv : nopB v = true) : Region.wanted o (yielded ops a.tmps) = false := by
  have hv : v = .v undef := by
    unfold nopB at hv
    split at hv
    · rfl
    · cases hv
  subst hv
  have h4 := h1.get t undef (by rw [look_den, ht]; rfl)
  have htN : t < a.tmps.size := by rw [h1.size]; simpa using hN
  simp only [Act.eval, Array.getD_eq_getD_getElem?] at h4
  have h5 : a.tmps[t]? = some undef := by
    rw [Array.getElem?_eq_getElem htN] at h4 ⊢
    simpa using h4
  unfold Region.wanted
  rw [hgd]
  simp [yielded, hj, h5, undef]
section
variable {P : Program} {b : Base} {ops : Array Oper} {Q : Exit → Act → World → Prop} {N : Nat} {R : List Res} {L : List LV} {F M : World → Prop} {T' : List Oper} {G : Nat → Nat} {w0 : World}
theorem skipUD_ok : ∀ {l : List (Nat × Oper)} {E : SE}, gS P b ops Q N T' G w0 (skipUD ops N l E).1 (skipUD ops N l E).2 → gS P b ops Q N T' G w0 l E
  | [], _, h => h
  | (i, o) :: l, E, h => by
    unfold skipUD at h
    split at h
    · rename_i j q k hg hd
      split at h
      · rename_i t hj hk
        split at h
        · rename_i v hN ht
          split at h
          · rename_i hv
            intro hE a Fa ha hF
            unfold wpG
            rw [wanted_nop ha hg hj hN ht hv, if_neg (by decide)]
            dsimp only
            rw [hd]
            exact skipUD_ok h (hE.cons (v := .v undef) trivial) _ _ (ha.put hk undef) (hF.up rfl)
          · exact h
        · exact h
      · exact h
    · exact h
theorem g_skips {l l' : List (Nat × Oper)} {E E' : SE} (h : skipUD ops N l E = (l', E')) (hn : gS P b ops Q N T' G w0 l' E') : gS P b ops Q N T' G w0 l E := skipUD_ok (by rw [h]; exact hn)
end

/-- What is left of a drawn region's operations, and what is told of memory. -/
def hS (P : Program) (ops : Array Oper) (Q : Exit → Act → World → Prop) (N : Nat) (T' : List Oper) (G : Nat → Nat) (w0 : World) (l : List (Nat × Oper)) (E : SE) (Fa : Told) : Prop := OkE E → gF P Bel ops (Up w0) (endG P ops Q (Up w0) T') l N (denE G E) Fa
section
variable {P : Program} {T : List TyR} {b : Base} {ops : Array Oper} {Q : Exit → Act → World → Prop} {N : Nat} {G : Nat → Nat} {S : Nat → Prop} {E : SE} {L : List LV} {R : List Res} {F M : World → Prop} {w0 : World} {T' : List Oper} {Fa : Told} {i k : Nat} {o : Oper} {rest : List (Nat × Oper)} {l : List Oper} {id : Nat} {y : Code}
theorem s_regH (n : Nat) (hn : n ≤ l.length) (hm : P.follows .mixedOrders = true) (hB : tailH l.toArray n (l.drop n).length = true)
    (h : ∀ K : Act → World → Prop, (∀ e', cS P b y Q N e' → kS b K N e') → ∀ G S w0, StW b G S L R F M w0 → hS P l.toArray (Exit.then K Q) N (l.drop n) G w0 (idx 0 (l.take n)) E []) : cS P b (.seq (.region id l.toArray true) y) Q N ⟨E, L, R, F, M⟩ :=
  s_regD n hn hm hB fun K hK G S w0 hst => h K hK G S w0 hst
theorem h_f (hst : StW b G S L R F M w0) (v : SV) (hv : v.Ok) (hf : farP i Fa = true) (h : ∀ (C0 : World → Prop) (Q' : Act → Prop), (∀ w, C0 w → View G S L R F M w ∧ Uses o Fa w) → bF P ops C0 Q' [] N ((k, v.den G) :: denE G E) → bF P ops C0 Q' [o] N (denE G E)) (hn : hS P ops Q N T' G w0 rest ((k, v) :: E) Fa) : hS P ops Q N T' G w0 ((i, o) :: rest) E Fa := fun hE =>
  g_op hf (h _ _ (fun _ hw => ⟨(hst.later hw.1).view, hw.2⟩) (g_go (o := o) (hn (hE.cons hv))))
theorem h_op (hst : StW b G S L R F M w0) (v : SV) (hv : v.Ok) (hf : farP i Fa = true) (hg : o.guard = none) (hd : o.dst = some k) (hk : Nat.blt k N = true) (h : ∀ (G : Nat → Nat) (a : Act) (w : World), Fr N (denE G E) a → (execOp a.eval o).run P w = .ok (.value (v.den G)) w) (hn : hS P ops Q N T' G w0 rest ((k, v) :: E) Fa) : hS P ops Q N T' G w0 ((i, o) :: rest) E Fa :=
  h_f hst v hv hf (fun _ _ _ hQ => f_val _ hg hd hk (fun _ ha w _ => h G _ w ha) hQ) hn
theorem h_opV (hst : StW b G S L R F M w0) (v : SV) (hv : v.Ok) (hf : farP i Fa = true) (hg : o.guard = none) (hd : o.dst = some k) (hk : Nat.blt k N = true) (h : ∀ (G : Nat → Nat) (S : Nat → Prop) (a : Act) (w : World), Fr N (denE G E) a → View G S L R F M w → (execOp a.eval o).run P w = .ok (.value (v.den G)) w) (hn : hS P ops Q N T' G w0 rest ((k, v) :: E) Fa) : hS P ops Q N T' G w0 ((i, o) :: rest) E Fa :=
  h_f hst v hv hf (fun _ _ hC hQ => f_val _ hg hd hk (fun _ ha w hw => h G S _ w ha (hC w hw).1) hQ) hn
theorem h_st {v : SV} (hT : OkT P T) (hst : StW b G S L R F M w0) (hE : OkE E) (hf : farP i Fa = true) (hg : o.guard = none) (hd : o.dst = some k) (hk : Nat.blt k N = true) (h : stepS T E L o.op = some v) (hn : hS P ops Q N T' G w0 rest ((k, v) :: E) Fa) : hS P ops Q N T' G w0 ((i, o) :: rest) E Fa :=
  h_f hst v (stepS_ok hT (N := N) (o := o) hE hst.okL h).1 hf (fun _ _ hC hQ => f_val _ hg hd hk (fun _ ha w hw => (stepS_ok hT hE hst.okL h).2 ha fun x hx => ((hC w hw).1.var x hx).1) hQ) hn
/-- What is left behind those that are reckoned. -/
def autoH (T : List TyR) (ops : Array Oper) (N : Nat) (L : List LV) (Fa : Told) : List (Nat × Oper) → SE → List (Nat × Oper) × SE
  | [], E => ([], E)
  | (i, o) :: l, E => match wantS ops N E o, farP i Fa, o.dst with
    | some false, true, some k => match Nat.blt k N with
      | true => autoH T ops N L Fa l ((k, .v undef) :: E)
      | false => ((i, o) :: l, E)
    | some true, true, some k => match Nat.blt k N with
      | true => match stepS T E L o.op with
        | some v => autoH T ops N L Fa l ((k, v) :: E)
        | none => ((i, bareO o) :: l, E)
      | false => ((i, o) :: l, E)
    | some true, true, none => ((i, bareO o) :: l, E)
    | _, _, _ => ((i, o) :: l, E)
theorem h_bare (hw : wantS ops N E o = some true) (h : hS P ops Q N T' G w0 ((i, bareO o) :: rest) E Fa) : hS P ops Q N T' G w0 ((i, o) :: rest) E Fa := fun hE a F ha hF => by
  have hwt := wantS_ok ha hw
  have h1 := h hE a F ha hF
  obtain ⟨dst, op, ty, pos, af, gd⟩ := o
  unfold wpG at h1 ⊢
  rw [if_pos hwt]
  rw [if_pos (by rfl)] at h1
  exact h1
theorem h_undef (hw : wantS ops N E o = some false) (hf : farP i Fa = true) (hd : o.dst = some k) (hk : Nat.blt k N = true) (h : hS P ops Q N T' G w0 rest ((k, .v undef) :: E) Fa) : hS P ops Q N T' G w0 ((i, o) :: rest) E Fa := fun hE a F ha hF => by
  have hwt := wantS_ok ha hw
  unfold wpG
  rw [hwt, if_neg (by decide)]
  dsimp only
  rw [hd]
  exact h (hE.cons (v := .v undef) trivial) _ _ (ha.put hk undef) (hF.up hf)
theorem autoH_ok (hT : OkT P T) (hst : StW b G S L R F M w0) : ∀ {l : List (Nat × Oper)} {E : SE}, OkE E → hS P ops Q N T' G w0 (autoH T ops N L Fa l E).1 (autoH T ops N L Fa l E).2 Fa → hS P ops Q N T' G w0 l E Fa
  | [], _, _, h => h
  | (i, o) :: l, E, hE, h => by
    unfold autoH at h
    split at h
    · rename_i k hw hf hd
      split at h
      · rename_i hk
        exact h_undef hw hf hd hk (autoH_ok hT hst (hE.cons (v := .v undef) trivial) h)
      · exact h
    · rename_i k hw hf hd
      split at h
      · rename_i hk
        split at h
        · rename_i v hv
          have h2 := autoH_ok hT hst (hE.cons (stepS_ok hT (N := N) (o := bareO o) hE hst.okL hv).1) h
          exact h_bare hw (h_st hT hst hE hf rfl hd hk hv h2)
        · exact h_bare hw h
      · exact h
    · rename_i hw hf hd
      exact h_bare hw h
    · exact h
theorem h_auto {l l' : List (Nat × Oper)} {E' : SE} (hT : OkT P T) (hst : StW b G S L R F M w0) (h : autoH T ops N L Fa l E = (l', E')) (hn : hS P ops Q N T' G w0 l' E' Fa) : hS P ops Q N T' G w0 l E Fa := fun hE => autoH_ok hT hst hE (by rw [h]; exact hn) hE
theorem h_num {l : List (Nat × Oper)} (k : Nat) {K : IntKind} {m : Int} (n : Int) (h : lookS E k = some (.v (.int K m))) (he : m = n) (hn : hS P ops Q N T' G w0 l ((k, .v (.int K n)) :: E) Fa) : hS P ops Q N T' G w0 l E Fa := fun hE => by
  subst he
  intro a F ha hF
  exact hn (hE.cons trivial) a F (ha.more (ha.get k _ (by rw [look_den, h]; rfl))) hF
theorem h_is {l : List (Nat × Oper)} (k : Nat) {t : Bool} (q : Bool) (h : lookS E k = some (.b t)) (he : t = q) (hn : hS P ops Q N T' G w0 l ((k, .v (.bool q)) :: E) Fa) : hS P ops Q N T' G w0 l E Fa := fun hE => by
  subst he
  intro a F ha hF
  exact hn (hE.cons trivial) a F (ha.more (ha.get k _ (by rw [look_den, h]; rfl))) hF
/-- The end of what may be taken in any order. -/
theorem h_end (hst : StW b G S L R F M w0) (h : lS P b ops Q N T' ⟨E, L, R, F, M⟩) : hS P ops Q N T' G w0 [] E Fa := fun hE => g_end fun w hw _ => fun a ha => h a w ⟨G, S, ha, hE, hst.later hw⟩
end
section
variable {T : List TyR} {b : Base} {ops : Array Oper} {Q : Exit → Act → World → Prop} {N : Nat} {G : Nat → Nat} {S : Nat → Prop} {E : SE} {L : List LV} {R : List Res} {F M : World → Prop} {w0 : World} {T' : List Oper} {Fa : Told} {i k e bs : Nat} {o : Oper} {rest : List (Nat × Oper)}
/-- A literal of bytes. -/
theorem h_lit {t n : Nat} {parts : Array (Nat × Operand)} (hT : OkT Tryd.prog T) (l : List UInt8) (hg : o.guard = none) (hd : o.dst = some k) (hk : Nat.blt k N = true) (hf : farP i Fa = true) (ho : o.op = .buildSlice t n parts) (hs : slS T t = some (e, 1, bs))
    (hp : ∀ G : Nat → Nat, parts.toList.map (fun p => (p.1, (evS E p.2).map (SV.den G))) = ((l.map fun x => (eB x).den).zipIdx 0).map fun x => (x.2, some x.1)) (hn : l.length = n) (h0 : 0 < n) (h24 : n ≤ 16777216)
    (hc : ∀ g, hS Tryd.prog ops Q N T' G w0 rest ((k, .v (.slice (some ⟨g, 0, none⟩) n n)) :: E) ((i, fun w => Rd 1 eB (some ⟨g, 0, none⟩) n l w) :: Fa)) : hS Tryd.prog ops Q N T' G w0 ((i, o) :: rest) E Fa := fun hE => by
  refine g_mem (fun v w => ∃ g, v = .slice (some ⟨g, 0, none⟩) n n ∧ Rd 1 eB (some ⟨g, 0, none⟩) n l w) hg hd hk hf (by rw [ho]; rfl) (fun v w w' ⟨g, h1, h2⟩ hb => ⟨g, h1, h2.later hb⟩) (fun a ha w _ _ => ?_) fun v w _ hv => ?_
  · obtain ⟨ht, ie, z, hi, hz, hsz, _⟩ := slS_ok hT hs
    have hrun := run_lit (P := Tryd.prog) ht hi hz hsz (l.map fun x => (eB x).den) n (parts.map fun (i, x) => (i, a.eval x)) (by rw [Array.toList_map]; exact map_parts ha _ _ (hp G)) (by rw [List.length_map, hn]) (by omega) (by omega) (fun v hv => by
      obtain ⟨x, _, rfl⟩ := List.mem_map.1 hv
      rfl) w
    have e1 : ((l.map fun x => (eB x).den).flatMap fun v => v.cells.toList) = flatF eB l := by
      rw [flatF, List.flatMap_map]
      rfl
    rw [e1] at hrun
    have h1 : (execOp a.eval o).run Tryd.prog w = .ok (.value (.slice (some ⟨w.heap.size, 0, none⟩) n n)) (w.alloc (.cells (flatF eB l).toArray e)) := by
      unfold execOp
      simp only [ho, Sem.run_bind, hrun, Result.andThen_ok, Sem.run_pure]
    rw [h1]
    refine ⟨(Below.refl w.heap.size w).alloc (Nat.le_refl _) _, w.heap.size, rfl, ?_⟩
    subst hn
    exact OwnS.rd (OwnS.new (lo := 0) w (Nat.zero_le _) (okF_B l) (by omega))
  · obtain ⟨g, rfl, h2⟩ := hv
    intro a F ha hF
    refine hc g (hE.cons trivial) a F ha fun x hx w hw => ?_
    rcases List.mem_cons.1 hx with rfl | hx
    · obtain ⟨g', e, h3⟩ := hF _ List.mem_cons_self w hw
      cases e
      exact h3
    · exact hF x (List.mem_cons_of_mem _ hx) w hw
/-- A slice of slices: what they read. -/
theorem h_parts {n : Nat} {parts : Array (Nat × Operand)} (vs : List Value) (ls : List (List UInt8)) (hst : StW b G S L R F M w0) (hg : o.guard = none) (hd : o.dst = some k) (hk : Nat.blt k N = true) (hf : farP i Fa = true) (ho : o.op = .buildSlice 69 n parts)
    (hv : parts.toList.map (fun p => (p.1, (evS E p.2).map (SV.den G))) = (vs.zipIdx 0).map fun x => (x.2, some x.1)) (hn : vs.length = n) (h0 : 0 < n) (h24 : n ≤ 16777216) (h : ∀ w, View G S L R F M w → Uses o Fa w → All2 w vs ls)
    (hc : ∀ g, hS Tryd.prog ops Q N T' G w0 rest ((k, .v (.slice (some ⟨g, 0, none⟩) n n)) :: E) ((i, fun w => PT w (some ⟨g, 0, none⟩) ls) :: Fa)) : hS Tryd.prog ops Q N T' G w0 ((i, o) :: rest) E Fa := fun hE => by
  have hv2 : parts.toList.map (fun p => (p.1, ev (denE G E) p.2)) = (vs.zipIdx 0).map fun x => (x.2, some x.1) := by
    have key : ∀ (l : List (Nat × Operand)) (m : List (Value × Nat)), l.map (fun p => (p.1, (evS E p.2).map (SV.den G))) = m.map (fun x => (x.2, some x.1)) → l.map (fun p => (p.1, ev (denE G E) p.2)) = m.map fun x => (x.2, some x.1) := by
      intro l
      induction l with
      | nil => intro m h; cases m with
        | nil => rfl
        | cons => cases h
      | cons p l ih => intro m h; cases m with
        | nil => cases h
        | cons u m =>
          simp only [List.map_cons, List.cons.injEq, Prod.mk.injEq] at h ⊢
          refine ⟨⟨h.1.1, ?_⟩, ih m h.2⟩
          cases hx : evS E p.2 with
          | none => rw [hx] at h; cases h.1.2
          | some v =>
            rw [hx] at h
            rw [evS_ok hx]
            exact h.1.2
    exact key _ _ hv
  refine g_slices vs ls 0 hg hd hk hf ho hv2 hn h0 h24 (fun _ _ => Nat.zero_le _) (fun w hw hu => h w (hst.later hw).view hu) fun g w _ _ => ?_
  intro a F ha hF
  refine hc g (hE.cons trivial) a F ha fun x hx w hw => ?_
  rcases List.mem_cons.1 hx with rfl | hx
  · exact (hF _ List.mem_cons_self w hw).pt
  · exact hF x (List.mem_cons_of_mem _ hx) w hw
/-- A call that hands back one value and leaves nothing. -/
theorem h_call {f : FuncId} {xs : Array Operand} {ats : Array TypeId} {svs : List SV} {r : RV} (hst : StW b G S L R F M w0) (args : List Value) (hf : farP i Fa = true) (hg : o.guard = none) (hd : o.dst = some k) (hk : Nat.blt k N = true) (how : Own f) (ho : o.op = .call { callee := .value (.func f), args := xs, argTypes := ats }) (hx : evSs E xs.toList = some svs)
    (ha : (∀ x ∈ L, ∀ g, x.g = some g → G x.j = g) → svs.map (SV.den G) = args) (hr : r.sv.Ok) (hs : ∀ w, View G S L R F M w → Uses o Fa w → Calls Tryd.prog f args.toArray w fun e w' => e = .returned r.den ∧ Below w.heap.size w w')
    (hn : hS Tryd.prog ops Q N T' G w0 rest ((k, r.sv) :: E) Fa) : hS Tryd.prog ops Q N T' G w0 ((i, o) :: rest) E Fa := by
  refine h_f hst r.sv hr hf (fun C0 Q' hC hQ => ?_) hn
  rw [RV.sv_den] at hQ
  exact f_call args.toArray r.den hg hd hk how (fun w hw => hs w (hC w hw).1 (hC w hw).2) ho (by rw [evSs_ok hx, ha fun x hx => (hst.var x hx).2.2]) hQ
theorem h_callS {F' : World → Prop} {f : FuncId} {xs : Array Operand} {ats : Array TypeId} {svs : List SV} {r : RV} [Pst F'] (hst : StW b G S L R F M w0) (args : List Value) (hf : farP i Fa = true) (hg : o.guard = none) (hd : o.dst = some k) (hk : Nat.blt k N = true) (how : Own f) (ho : o.op = .call { callee := .value (.func f), args := xs, argTypes := ats }) (hx : evSs E xs.toList = some svs)
    (ha : (∀ x ∈ L, ∀ g, x.g = some g → G x.j = g) → svs.map (SV.den G) = args) (hr : r.sv.Ok) (hs : Spec f args [] F' (one r)) (hF : ∀ G S w, View G S L R F M w → F' w)
    (hn : hS Tryd.prog ops Q N T' G w0 rest ((k, r.sv) :: E) Fa) : hS Tryd.prog ops Q N T' G w0 ((i, o) :: rest) E Fa :=
  h_call hst args hf hg hd hk how ho hx ha hr (fun w hv _ => (hs w (fun _ => False) (fun _ => False) (fun _ h => h) (fun _ h => h.elim) (Stb.of_pst (hF _ _ _ hv) fun _ _ h => h.elim id id)).mono fun _ _ ⟨_, _, h1, _, h2, _⟩ => ⟨h1, h2.up fun _ _ h => h⟩) hn
end
end Go.Proofs.YtlaikmpnijlcbaaDoor
/-
  ROUNDS, over states: code in the rounds of a range over a function; what is walked outside of rounds is walked in them.
-/
namespace Go.Proofs.YtlaikmpnijlcbaaDoor
open Go.RowKit Go.IntWalk

/-! ### The wide fence, in a round or not -/
abbrev FW (ro : Option Nat) : Fence := { Fence.wide with round := ro }
/-- It is not left by running out of stack. -/
class NoOut (Q : Exit → Act → World → Prop) : Prop where
  no : ∀ a w, ¬ Q .outgrown a w
instance {K : Act → World → Prop} {Q : Exit → Act → World → Prop} [h : NoOut Q] : NoOut (Exit.then K Q) := ⟨fun a w hq => h.no a w hq⟩
instance {id : Nat} {Q : Exit → Act → World → Prop} [h : NoOut Q] : NoOut (Exit.inBlock id Q) := ⟨fun a w hq => h.no a w hq⟩
instance {Q : Exit → Act → World → Prop} [h : NoOut Q] : NoOut (NoPanic Q) := ⟨fun a w hq => h.no a w hq⟩
theorem calls_in {ro : Option Nat} {n : Nat} {P : Program} {f : FuncId} {args : Array Value} {w : World} {R : Ending → World → Prop} (h : Calls P f args w R) : CallsIn (FW ro) n P f args w R := (callsIn_wide (n := n)).2 h
theorem rows_in {ro : Option Nat} {n : Nat} {P : Program} {row : String} {args : Array Value} {w : World} {R : Value → World → Prop} (h : Rows P row args w R) : RowsIn (FW ro) n P row args w R := fun c cs _ => by
  obtain ⟨v, w', r, s⟩ := h c cs
  exact ⟨v, w', r, (stepsIn_wide (P := P)).2 s⟩
section
variable {P : Program} {ro : Option Nat} {n : Nat} {Q : Exit → Act → World → Prop} {ops : Array Oper}
theorem op_in [hQ : NoOut Q] {o : Oper} {a : Act} {w : World} {next : Act → World → Prop} (hd : ∀ c, o.op ≠ .defer c) (h : o.wp P a w next Q ∨ (o.asks P a w ∧ LetsOut Q)) : o.wpIn (FW ro) n P a w next Q := by
  rcases h with h | ⟨_, a', w', h⟩
  · refine ⟨fun _ _ => trivial, ?_⟩
    rw [Oper.semAt_eq _ _ _ hd]
    unfold Oper.wp at h
    generalize (execOp a.eval o).run P w = r at *
    cases r with
    | ok x w' =>
      cases x with
      | enter f args => exact ⟨fun e => (by cases e), calls_in h⟩
      | row row args => exact ⟨fun e => (by cases e), rows_in h⟩
      | _ => first | exact h | exact h.elim
    | halt x w' => cases x <;> exact h
  · exact absurd h (hQ.no a' w')
def noDef (l : List Oper) : Bool := l.all fun o => match o.op with | .defer _ => false | _ => true
theorem noDef_mem {l : List Oper} (h : noDef l = true) {o : Oper} (ho : o ∈ l) : ∀ c, o.op ≠ .defer c := fun c e => by
  have := List.all_eq_true.1 h o ho
  rw [e] at this
  cases this
theorem list_in [NoOut Q] : ∀ {l : List Oper} {a : Act} {w : World}, noDef l = true → wpList P ops Q l a w → wpListIn (FW ro) n P ops Q l a w
  | [], _, _, _, h => h
  | o :: l, a, w, hd, h => by
    have hd' : noDef l = true := by
      unfold noDef at hd ⊢
      rw [List.all_cons, Bool.and_eq_true] at hd
      exact hd.2
    unfold wpList at h
    unfold wpListIn
    split
    · rename_i hw
      rw [if_pos hw] at h
      exact op_in (noDef_mem hd List.mem_cons_self) (h.imp (Oper.wp_mono fun a' w' h' => list_in hd' h') id)
    · rename_i hw
      rw [if_neg hw] at h
      exact ⟨fun _ _ => trivial, list_in hd' h⟩
end
/-! ### Code -/
def rS (ro : Option Nat) (n : Nat) (b : Base) (c : Code) (Q : Exit → Act → World → Prop) (N : Nat) (e : Env) : Prop := ∀ a w, St b N e a w → c.wpIn (FW ro) n Tryd.prog Q a w
section
variable {T : List TyR} {ro : Option Nat} {n : Nat} {b : Base} {Q : Exit → Act → World → Prop} {N : Nat} {e e' : Env} {E : SE} {L : List LV} {R : List Res} {F M : World → Prop} {id : Nat} {l l' : List Oper} {x y : Code}
theorem r_seq (h : ∀ K : Act → World → Prop, (∀ e', rS ro n b y Q N e' → kS b K N e') → rS ro n b x (Exit.then K Q) N e) : rS ro n b (.seq x y) Q N e := fun a w hs =>
  wpIn_seq_k fun K hK => h K (fun _ h' a' w' hs' => hK _ _ (h' a' w' hs')) a w hs
theorem r_lit [NoOut Q] (hd : noDef l = true) (h : lS Tryd.prog b l.toArray Q N l e) : rS ro n b (.region id l.toArray false) Q N e := fun a w hs => wpIn_region_lit (list_in hd (h a w hs))
theorem r_auto {E' : SE} {L' : List LV} [NoOut Q] (hd : noDef l = true) (hT : OkT Tryd.prog T) (h : autoS T l.toArray N l E L = ([], E', L')) (hn : rS ro n b y Q N ⟨E', L', R, F, M⟩) : rS ro n b (.seq (.region id l.toArray false) y) Q N ⟨E, L, R, F, M⟩ :=
  r_seq fun _ hK => r_lit hd (l_autoS hT h (s_end (hK _ hn)))
theorem r_autoE {E' : SE} {L' : List LV} [NoOut Q] (hd : noDef l = true) (hT : OkT Tryd.prog T) (h : autoS T l.toArray N l E L = ([], E', L')) (hn : kS b (Q .normal) N ⟨E', L', R, F, M⟩) : rS ro n b (.region id l.toArray false) Q N ⟨E, L, R, F, M⟩ := r_lit hd (l_autoS hT h (s_end hn))
theorem r_block {c : Code} (h : rS ro n b c (Exit.inBlock id Q) N e) : rS ro n b (.block id c) Q N e := fun a w hs => wpIn_block (h a w hs)
theorem r_ret (h : kS b (Q .ret) N e) : rS ro n b .ret Q N e := fun a w hs => wpIn_ret (h a w hs)
end
end Go.Proofs.YtlaikmpnijlcbaaDoor
/-
  DRAWN REGIONS WITH MEMORY, over states: any operations that only read may be taken first, the others in their order.
-/
namespace Go.Proofs.YtlaikmpnijlcbaaDoor
open Go.RowKit Go.IntWalk

section
variable {P : Program} {ops : Array Oper} {Q : Exit → Act → World → Prop} {Inv : World → Prop}
def wpAnyP (P : Program) (ops : Array Oper) (Q : Exit → Act → World → Prop) (Inv : World → Prop) (p : Nat → Bool) (Fin : Array Bool → Act → World → Prop) : Nat → Array Bool → Act → World → Prop
  | 0, listed, a, w => (∀ j ∈ Region.ready .any ops listed, ∀ i, p i = true → waitsT .any ops ops.size j i = true) ∧ Fin listed a w
  | fuel + 1, listed, a, w => Region.ready .any ops listed ≠ [] ∧ ∀ i ∈ Region.ready .any ops listed, wpOp P ops Q i (fun a' w' => Inv w' ∧ wpAnyP P ops Q Inv p Fin fuel (listed.setIfInBounds i true) a' w') a w
/-- The rest, whatever the order. -/
abbrev FinA (P : Program) (ops : Array Oper) (Q : Exit → Act → World → Prop) (m : Nat) : Array Bool → Act → World → Prop := fun listed a w => wpAny P .any ops Q m listed a w
theorem wpAny_of_P {p : Nat → Bool} {m : Nat} : ∀ (fuel : Nat) (listed : Array Bool) (a : Act) (w : World), wpAnyP P ops Q Inv p (FinA P ops Q m) fuel listed a w → wpAny P .any ops Q (m + fuel) listed a w
  | 0, _, _, _, h => h.2
  | fuel + 1, _, _, _, h => ⟨fun h0 => absurd h0 h.1, fun i hi => wpOp_mono (fun a' w' h' => wpAny_of_P fuel _ a' w' h'.2) (h.2 i hi)⟩
theorem P_first {p : Nat → Bool} {Fin : Array Bool → Act → World → Prop} {i : Nat} {oi : Oper} {v : Value} (hin : p i = true) (hi : ops[i]? = some oi) (hst : stillG oi.op = true) (hsel : ∀ (j : Nat) (o : Oper) cs b, ops[j]? = some o → o.op ≠ .select cs b) (hQ : ∀ c a d v w, Q (.panic c) (a.put d v) w → Q (.panic c) a w) :
    ∀ (fuel : Nat) (listed : Array Bool) (a : Act) (w : World), Inv w → Closed .any ops listed →
      (∀ j oj, ops[j]? = some oj → j ≠ i → listed.getD j true = false → (∀ e ∈ oj.after, Region.binds .any e = true → e.on ≠ i) → oi.apart ops oj = true) →
      i ∈ Region.ready .any ops listed → YieldsB P ops Inv oi (· = v) a → wpAnyP P ops Q Inv p Fin fuel (listed.setIfInBounds i true) (a.put oi.dst v) w → wpAnyP P ops Q Inv p Fin (fuel + 1) listed a w := by
  intro fuel
  induction fuel with
  | zero =>
    intro listed a w hC hcs _ hr hy H
    refine ⟨fun h => (by rw [h] at hr; cases hr), fun j hj => ?_⟩
    by_cases hji : j = i
    · subst hji
      exact still_wpOp hi hst hy hC ⟨hC, H⟩
    · have h1 := H.1 j (ready_mono hj hji) i hin
      obtain ⟨_, oj, hoj, hall⟩ := mem_ready.1 hj
      have h6 := hcs.waits _ j i oj hoj hall h1
      rw [getD_ready hr] at h6
      cases h6
  | succ fuel ih =>
    intro listed a w hC hcs hfree hr hy H
    refine ⟨fun h => (by rw [h] at hr; cases hr), fun j hj => ?_⟩
    by_cases hji : j = i
    · subst hji
      exact still_wpOp hi hst hy hC ⟨hC, H⟩
    · obtain ⟨hjun, oj, hoj, hall⟩ := mem_ready.1 hj
      have hnot : ∀ e ∈ oj.after, Region.binds .any e = true → e.on ≠ i := fun e he hb heq => by
        have h1 := hall e he hb
        rw [heq, getD_ready hr] at h1
        cases h1
      have h2 := wpOp_putB (V := (· = v)) hoj (hfree j oj hoj hji hjun hnot) (fun cs b => hsel i oi cs b hi) (fun cs b => hsel j oj cs b hoj) ⟨v, rfl⟩ (.inr ⟨v, fun _ h => h⟩) hQ hy (fun u hu => by
        subst hu
        exact H.2 j (ready_mono hj hji))
      have hun' : ∀ k, (listed.setIfInBounds j true).getD k true = false → listed.getD k true = false := fun k hun => by
        by_cases hjk : j = k
        · subst hjk; exact hjun
        · rw [getD_set_ne true hjk] at hun; exact hun
      refine wpOp_mono (fun a' w' h3 => ?_) h2
      obtain ⟨hy', h4⟩ := h3
      obtain ⟨hC', h5⟩ := h4 v rfl
      refine ⟨hC', ih (listed.setIfInBounds j true) a' w' hC' (hcs.set hj) (fun k ok hk hki hun hno => hfree k ok hk hki (hun' k hun) hno) (ready_mono hr (Ne.symm hji)) hy' ?_⟩
      rw [Array.setIfInBounds_comm _ _ hji]
      exact h5
end
def pS (P : Program) (b : Base) (Q : Exit → Act → World → Prop) (N : Nat) (ops : Array Oper) (Inv : World → Prop) (p : Nat → Bool) (Fin : Array Bool → Act → World → Prop) (fuel : Nat) (listed : Array Bool) (e : Env) : Prop := Closed .any ops listed → ∀ a w, St b N e a w → Inv w → wpAnyP P ops (NoPanic Q) Inv p Fin fuel listed a w
/-- May it be taken here, ahead of all that is left? -/
def frontP (ops : Array Oper) (p : Nat → Bool) (i : Nat) (listed : Array Bool) : Bool := p i && (Region.ready .any ops listed).contains i && Region.free .any ops listed i && Region.noSelect ops
section
variable {P : Program} {T : List TyR} {b : Base} {ops : Array Oper} {Q : Exit → Act → World → Prop} {N fuel : Nat} {p : Nat → Bool} {Fin : Array Bool → Act → World → Prop} {listed : Array Bool} {E : SE} {L L0 : List LV} {R : List Res} {F M : World → Prop} {Inv : World → Prop} {e : Env}
theorem panic_putP : ∀ c (a : Act) d v w, NoPanic Q (.panic c) (a.put d v) w → NoPanic Q (.panic c) a w := fun _ _ _ _ _ h => h
/-- A step whose value hangs on the frame alone is taken first. -/
theorem p_frontO {o : Oper} {k : Nat} (v : SV) (hvo : v.Ok) (i : Nat) (hc : frontP ops p i listed = true) (ho : ops[i]? = some o) (hg : o.guard = none) (hd : o.dst = some k) (hk : Nat.blt k N = true) (hs : stillG o.op = true) (hv : ∀ (G : Nat → Nat) (a : Act) (w : World), Fr N (denE G E) a → (execOp a.eval o).run P w = .ok (.value (v.den G)) w)
    (hn : pS P b Q N ops Inv p Fin fuel (listed.setIfInBounds i true) ⟨(k, v) :: E, L, R, F, M⟩) : pS P b Q N ops Inv p Fin (fuel + 1) listed ⟨E, L, R, F, M⟩ := fun hcs a w hst hI => by
  obtain ⟨G, S, h1, h2, h3⟩ := hst
  simp only [frontP, Bool.and_eq_true] at hc
  obtain ⟨⟨⟨hin, hr⟩, hfr⟩, hsel⟩ := hc
  have hr' : i ∈ Region.ready .any ops listed := by simpa using hr
  have h6 := hn (hcs.set hr') (a.put (some k) (v.den G)) w ⟨G, S, h1.put hk _, h2.cons hvo, h3⟩ hI
  refine P_first hin ho hs (Region.noSelect_spec hsel) panic_putP fuel listed a w hI hcs (Region.free_spec ho hfr) hr' (v := v.den G) (.inl ⟨by simp [Region.wanted, hg], fun w' _ => ?_⟩) (by rw [hd]; exact h6)
  unfold atB
  rw [hv G a w' h1]
  exact ⟨rfl, rfl⟩
/-- The only one that may come next. -/
theorem p_step {o : Oper} (i : Nat) (hr : Region.ready .any ops listed = [i]) (ho : ops[i]? = some o) (h : ∀ K : Act → World → Prop, (∀ e', (∀ a w, St b N e' a w → Inv w) → pS P b Q N ops Inv p Fin fuel (listed.setIfInBounds i true) e' → kS b K N e') → lS P b ops (Exit.then K (NoPanic Q)) N [o] e) : pS P b Q N ops Inv p Fin (fuel + 1) listed e := fun hcs a w hst _ =>
  ⟨by rw [hr]; simp, fun j hj => by
    rw [hr, List.mem_singleton] at hj
    subst hj
    have hcs' := hcs.set (i := j) (by rw [hr]; simp)
    exact wpOp_of_list ho (h (fun a' w' => Inv w' ∧ wpAnyP P ops (NoPanic Q) Inv p Fin fuel (listed.setIfInBounds j true) a' w') (fun e' hI' ha a' w' hs' => ⟨hI' a' w' hs', ha hcs' a' w' hs' (hI' a' w' hs')⟩) a w hst)⟩
/-- What can be seen, taken first: whatever the worlds with Inv say. -/
theorem p_frontI {o : Oper} {k : Nat} (v : SV) (hvo : v.Ok) (i : Nat) (hc : frontP ops p i listed = true) (ho : ops[i]? = some o) (hg : o.guard = none) (hd : o.dst = some k) (hk : Nat.blt k N = true) (hs : stillG o.op = true) (hv : ∀ (G : Nat → Nat) (a : Act) (w : World), Fr N (denE G E) a → Inv w → (execOp a.eval o).run P w = .ok (.value (v.den G)) w)
    (hn : pS P b Q N ops Inv p Fin fuel (listed.setIfInBounds i true) ⟨(k, v) :: E, L, R, F, M⟩) : pS P b Q N ops Inv p Fin (fuel + 1) listed ⟨E, L, R, F, M⟩ := fun hcs a w hst hI => by
  obtain ⟨G, S, h1, h2, h3⟩ := hst
  simp only [frontP, Bool.and_eq_true] at hc
  obtain ⟨⟨⟨hin, hr⟩, hfr⟩, hsel⟩ := hc
  have hr' : i ∈ Region.ready .any ops listed := by simpa using hr
  have h6 := hn (hcs.set hr') (a.put (some k) (v.den G)) w ⟨G, S, h1.put hk _, h2.cons hvo, h3⟩ hI
  refine P_first hin ho hs (Region.noSelect_spec hsel) panic_putP fuel listed a w hI hcs (Region.free_spec ho hfr) hr' (v := v.den G) (.inl ⟨by simp [Region.wanted, hg], fun w' hw' => ?_⟩) (by rw [hd]; exact h6)
  unfold atB
  rw [hv G a w' h1 hw']
  exact ⟨rfl, rfl⟩
theorem p_frontS {o : Oper} {k : Nat} {v : SV} (hT : OkT P T) (i : Nat) (hc : frontP ops p i listed = true) (ho : ops[i]? = some o) (hg : o.guard = none) (hd : o.dst = some k) (hk : Nat.blt k N = true) (hs : stillG o.op = true) (hv : stepS T E L0 o.op = some v) (hsub : ∀ x ∈ L0, x ∈ L) (hI : ∀ w, Inv w → InvL L0 w)
    (hn : pS P b Q N ops Inv p Fin fuel (listed.setIfInBounds i true) ⟨(k, v) :: E, L, R, F, M⟩) : pS P b Q N ops Inv p Fin (fuel + 1) listed ⟨E, L, R, F, M⟩ := fun hcs a w hst hI0 => by
  obtain ⟨G, S, h1, h2, h3⟩ := hst
  simp only [frontP, Bool.and_eq_true] at hc
  obtain ⟨⟨⟨hin, hr⟩, hfr⟩, hsel⟩ := hc
  have hr' : i ∈ Region.ready .any ops listed := by simpa using hr
  obtain ⟨h4, h5⟩ := stepS_ok hT h2 (fun x hx => (h3.var x (hsub x hx)).2.1) hv
  have h6 := hn (hcs.set hr') (a.put (some k) (v.den G)) w ⟨G, S, h1.put hk _, h2.cons h4, h3⟩ hI0
  refine P_first hin ho hs (Region.noSelect_spec hsel) panic_putP fuel listed a w hI0 hcs (Region.free_spec ho hfr) hr' (v := v.den G) (.inl ⟨by simp [Region.wanted, hg], fun w' hw' => ?_⟩) (by rw [hd]; exact h6)
  unfold atB
  rw [h5 h1 fun x hx => by
    obtain ⟨g, e1, e2⟩ := hI w' hw' x hx
    rw [(h3.var x (hsub x hx)).2.2 g e1]
    exact e2]
  exact ⟨rfl, rfl⟩
theorem p_frontA {o : Oper} {k : Nat} (v : SV) (hvo : v.Ok) (i : Nat) (hc : frontP ops p i listed = true) (ho : ops[i]? = some o) (hg : o.guard = none) (hd : o.dst = some k) (hk : Nat.blt k N = true) (hs : stillG o.op = true) (hsub : ∀ x ∈ L0, x ∈ L) (hI : ∀ w, Inv w → InvL L0 w)
    (hv : ∀ (G : Nat → Nat) (a : Act) (w : World), Fr N (denE G E) a → LAt G L0 w → (execOp a.eval o).run P w = .ok (.value (v.den G)) w)
    (hn : pS P b Q N ops Inv p Fin fuel (listed.setIfInBounds i true) ⟨(k, v) :: E, L, R, F, M⟩) : pS P b Q N ops Inv p Fin (fuel + 1) listed ⟨E, L, R, F, M⟩ := fun hcs a w hst hI0 => by
  obtain ⟨G, S, h1, h2, h3⟩ := hst
  simp only [frontP, Bool.and_eq_true] at hc
  obtain ⟨⟨⟨hin, hr⟩, hfr⟩, hsel⟩ := hc
  have hr' : i ∈ Region.ready .any ops listed := by simpa using hr
  have h6 := hn (hcs.set hr') (a.put (some k) (v.den G)) w ⟨G, S, h1.put hk _, h2.cons hvo, h3⟩ hI0
  refine P_first hin ho hs (Region.noSelect_spec hsel) panic_putP fuel listed a w hI0 hcs (Region.free_spec ho hfr) hr' (v := v.den G) (.inl ⟨by simp [Region.wanted, hg], fun w' hw' => ?_⟩) (by rw [hd]; exact h6)
  unfold atB
  rw [hv G a w' h1 fun x hx => by
    obtain ⟨g, e1, e2⟩ := hI w' hw' x hx
    rw [(h3.var x (hsub x hx)).2.2 g e1]
    exact e2]
  exact ⟨rfl, rfl⟩
/-- A cell of a variable. -/
theorem runO_ldL {o : Oper} {t : TypeId} {x : Operand} {j off : Nat} {d : TypeDesc} {ps : List Pt} (v : Value) (ho : o.op = .load t x) (hx : evS E x = some (.a j off)) (hl : lookL L0 j = some ps) (hv : (catP ps)[off]? = some v) (hu : P.underlying t = some d) (hr : d.isRow = false) :
    ∀ (G : Nat → Nat) (a : Act) (w : World), Fr N (denE G E) a → LAt G L0 w → (execOp a.eval o).run P w = .ok (.value ((SV.v v).den G)) w := fun G a w ha hw => by
  have h1 : a.eval x = .pointer (some ⟨G j, off, none⟩) := ha.eval (evS_ok hx)
  obtain ⟨u, hu2, rfl, hps⟩ := lookL_mem hl
  have h2 := (hw u hu2).cell off
  rw [hps, hv] at h2
  have h3 := run_load_cell hu hr h2
  unfold execOp
  simp only [ho, h1, Sem.run_bind, h3, Result.andThen_ok, Sem.run_pure]
  rfl
/-- What lies behind a pointer, taken first. -/
theorem p_ldO {o : Oper} {k : Nat} {t ty : TypeId} {x : Operand} {g off : Nat} {ps : List Pt} {q : SQ} (hT : OkT P T) (i : Nat) (hc : frontP ops p i listed = true) (ho : ops[i]? = some o) (hg : o.guard = none) (hd : o.dst = some k) (hk : Nat.blt k N = true) (hop : o.op = .load t x) (hx : evS E x = some (.v (.pointer (some ⟨g, off, none⟩)))) (hl : loadS T ps t off = some q) (hok : OkP ps) (hI : ∀ w, Inv w → ObjF g ty ps w)
    (hn : pS P b Q N ops Inv p Fin fuel (listed.setIfInBounds i true) ⟨(k, .q q) :: E, L, R, F, M⟩) : pS P b Q N ops Inv p Fin (fuel + 1) listed ⟨E, L, R, F, M⟩ :=
  p_frontI (.q q) (loadS_at hT hok hl).1 i hc ho hg hd hk (by rw [hop]; rfl) (fun _ _ w ha hw => (load_obj hT hop hx hl ha (hI w hw)).2) hn
theorem inv_two {E' : SE} {L' : List LV} {R' : List Res} {F' M' : World → Prop} {p : World → Prop} (hsub : ∀ x ∈ L0, x ∈ L' ∧ x.g.isSome = true) (hp : ∀ w, F' w → M' w → p w) : ∀ a w, St b N ⟨E', L', R', F', M'⟩ a w → InvL L0 w ∧ p w := fun a w hst => by
  refine ⟨?_, ?_⟩
  · obtain ⟨G, S, _, _, h3⟩ := hst
    intro x hx
    obtain ⟨h1, h2⟩ := hsub x hx
    obtain ⟨g, hg⟩ := Option.isSome_iff_exists.1 h2
    have h4 := h3.var x h1
    refine ⟨g, hg, ?_⟩
    rw [← h4.2.2 g hg]
    exact h4.1
  · obtain ⟨G, S, _, _, h3⟩ := hst
    exact hp w h3.view.fact h3.view.fresh
/-! ### The rest in its order -/
def forcedJ (ops : Array Oper) : List Nat → Array Bool → Bool
  | [], listed => (Region.ready .any ops listed).isEmpty
  | k :: ks, listed => decide (Region.ready .any ops listed = [k]) && forcedJ ops ks (listed.setIfInBounds k true)
/-- The operations of these numbers. -/
def opsJ (l : List Oper) : List Nat → List Oper
  | [] => []
  | k :: ks => match l[k]? with
    | some o => o :: opsJ l ks
    | none => []
theorem wpAny_forcedJ {l : List Oper} : ∀ (ks : List Nat) (listed : Array Bool) (a : Act) (w : World), (∀ k ∈ ks, k < l.length) → forcedJ l.toArray ks listed = true →
    wpList P l.toArray Q (opsJ l ks) a w → wpAny P .any l.toArray Q ks.length listed a w
  | [], _, _, _, _, hB, h => ⟨by simpa [forcedJ] using hB, h⟩
  | k :: ks, listed, a, w, hl, hB, h => by
    obtain ⟨o, ho⟩ : ∃ o, l[k]? = some o := ⟨_, List.getElem?_eq_getElem (hl k List.mem_cons_self)⟩
    have h0 : l.toArray[k]? = some o := by simpa using ho
    simp only [forcedJ, Bool.and_eq_true, decide_eq_true_eq] at hB
    obtain ⟨hr, hB'⟩ := hB
    unfold opsJ at h
    rw [ho] at h
    dsimp only at h
    refine ⟨fun e => (by rw [hr] at e; cases e), fun i hi => ?_⟩
    rw [hr, List.mem_singleton] at hi
    subst hi
    have hl' : ∀ j ∈ ks, j < l.length := fun j hj => hl j (List.mem_cons_of_mem _ hj)
    unfold wpOp
    simp only [h0]
    unfold wpList at h
    split
    · rename_i hw
      simp only [hw, if_true] at h
      exact h.imp (Oper.wp_mono fun a' w' h' => wpAny_forcedJ ks _ a' w' hl' hB' h') id
    · rename_i hw
      simp only [hw] at h
      exact wpAny_forcedJ ks _ _ _ hl' hB' (by simpa using h)
def memJ (ks : List Nat) (i : Nat) : Bool := ks.any fun k => Nat.beq k i
/-- The rest is forced. -/
theorem p_tail {ks : List Nat} (js : List Nat) {l l' : List Oper} (hB : ((Region.ready .any l.toArray listed).all (fun j => ks.all fun i => waitsT .any l.toArray l.toArray.size j i) && js.all (fun k => decide (k < l.length)) && forcedJ l.toArray js listed) = true) (hl : opsJ l js = l') (h : lS P b l.toArray (NoPanic Q) N l' e) :
    pS P b Q N l.toArray Inv (memJ ks) (FinA P l.toArray (NoPanic Q) js.length) 0 listed e := fun _ a w hst _ => by
  subst hl
  simp only [Bool.and_eq_true, List.all_eq_true, decide_eq_true_eq] at hB
  refine ⟨fun j hj i hi => ?_, wpAny_forcedJ js listed a w hB.1.2 hB.2 (h a w hst)⟩
  obtain ⟨k, hk, e⟩ := List.any_eq_true.1 hi
  obtain rfl := Nat.eq_of_beq_eq_true e
  exact hB.1.1 j hj k hk
/-- A drawn region: so many steps in whatever order (those of ks that only read first), then the others (js) in their order. -/
theorem s_anyP {l : List Oper} {id : Nat} (ks : List Nat) (n m : Nat) (Inv : World → Prop) (hm : P.follows .mixedOrders = true) (hn : m + n = l.length) (h0 : ∀ a w, St b N e a w → Inv w) (h : pS P b Q N l.toArray Inv (memJ ks) (FinA P l.toArray (NoPanic Q) m) n (Array.replicate l.toArray.size false) e) : cS P b (.region id l.toArray true) Q N e := fun a w hst => by
  refine wp_region_noPanic (wp_region_any hm ?_)
  obtain ⟨G, S, h1, h2, h3⟩ := hst
  have hd : St b N e a w.drew := ⟨G, S, h1, h2, h3.drew⟩
  have h4 := wpAny_of_P n _ a w.drew (h (Closed.none _) a w.drew hd (h0 a _ hd))
  have e1 : m + n = l.toArray.size := by simpa using hn
  rw [e1] at h4
  exact h4
end
end Go.Proofs.YtlaikmpnijlcbaaDoor
/-
  FUNCTION VALUES AND ROUNDS, over states: calls of function values; yields; drawn regions that end in a yield.
-/
namespace Go.Proofs.YtlaikmpnijlcbaaDoor
open Go.RowKit Go.IntWalk

/-! ### Function values -/
section
variable {b : Base} {ops : Array Oper} {Q : Exit → Act → World → Prop} {N : Nat} {E : SE} {L : List LV} {R R' : List Res} {F M F' : World → Prop} {o : Oper} {rest : List Oper} {k : Nat} {α : Type} {post : Post α} {own : List Res} {f : FuncId} {y : Operand} {xs : Array Operand} {ats : Array TypeId} {svs : List SV} {caps : List Value}
theorem callV_run {G : Nat → Nat} {a : Act} {w : World} (hf : Own f) (ho : o.op = .call { callee := .value y, args := xs, argTypes := ats }) (hy : evS E y = some (.v (.func (.func f) #[] caps.toArray))) (hx : evSs E xs.toList = some svs) (ha : Fr N (denE G E) a) :
    (execOp a.eval o).run Tryd.prog w = .ok (.enter f (svs.map (SV.den G) ++ caps).toArray) w := by
  have h1 : a.eval y = .func (.func f) #[] caps.toArray := ha.eval (evS_ok hy)
  have h2 := map_eval (args := (svs.map (SV.den G)).toArray) (ha.evals _ _ (by rw [evSs_ok hx]))
  have h3 := hf (svs.map (SV.den G) ++ caps).toArray w
  have e : (svs.map (SV.den G)).toArray ++ caps.toArray = (svs.map (SV.den G) ++ caps).toArray := by simp
  obtain ⟨dst, op, ty, pos, af, gd⟩ := o
  simp only at ho
  subst ho
  unfold execOp
  simp only [resolve, h1, h2, Deferred.ofValue, Sem.run_bind, Sem.run_pure, Result.andThen_ok, invoke]
  simp [e, h3]
theorem l_callV (args : List Value) (hg : o.guard = none) (hd : o.dst = some k) (hk : Nat.blt k N = true) (hf : Own f) (ho : o.op = .call { callee := .value y, args := xs, argTypes := ats }) (hy : evS E y = some (.v (.func (.func f) #[] caps.toArray))) (hx : evSs E xs.toList = some svs)
    (ha : ∀ G : Nat → Nat, (∀ x ∈ L, ∀ g, x.g = some g → G x.j = g) → svs.map (SV.den G) ++ caps = args) (hs : Spec f args own F' post) (hF : ∀ w, F w → M w → F' w)
    (hn : ∀ x, lS Tryd.prog b ops Q N rest ⟨(k, (post.ret x).sv) :: E, L, post.own x ++ R', fun w => post.p x w ∧ F w, fun w => post.n x w ∧ M w⟩) : lS Tryd.prog b ops Q N (o :: rest) ⟨E, L, own ++ R', F, M⟩ := fun a w ⟨G, S, h1, h2, h3⟩ => by
  have hr := callV_run (w := w) hf ho hy hx h1
  rw [ha G fun x hx => (h3.var x hx).2.2] at hr
  unfold wpList
  rw [if_pos (by simp [Region.wanted, hg])]
  refine .inl ?_
  unfold Oper.wp
  rw [hr]
  simp only [Oper.upon, hd]
  refine (h3.callA hs hF).mono ?_
  rintro e w' ⟨x, S', rfl, hok, h4⟩
  have h5 := h1.put hk (post.ret x).den
  rw [← RV.sv_den _ G] at h5
  have h6 := hn x _ w' ⟨G, S', h5, h2.cons hok, h4⟩
  rw [RV.sv_den] at h6
  exact h6
/-- func(..) {..}, what it has captured lying behind addresses that are known. -/
theorem run_makeF {fn : Fn} {vals : List Value} (ho : o.op = .makeFunc fn #[] xs) (hx : evSs E xs.toList = some svs) (hv : ∀ G : Nat → Nat, svs.map (SV.den G) = vals) :
    ∀ (G : Nat → Nat) (a : Act) (w : World), Fr N (denE G E) a → (execOp a.eval o).run Tryd.prog w = .ok (.value ((SV.v (.func fn #[] vals.toArray)).den G)) w := fun G a w ha => by
  have h2 := map_eval (args := (svs.map (SV.den G)).toArray) (ha.evals _ _ (by rw [evSs_ok hx]))
  rw [hv G] at h2
  unfold execOp
  simp only [ho]
  simp [h2, Instr.makeFunc]
  rfl
end
/-! ### Yields -/
/-- A round: from the loop's resource r to r1, where it goes on, or to r0. -/
def YSpec (l : Nat) (args : List Value) (Fy : World → Prop) (r r1 r0 : Res) : Prop := ∀ (w : World) (S : Nat → Prop), r.holds w S → Stb S Fy w → ∀ m, YieldAt Fence.wide m Tryd.prog l args.toArray w fun e w' => ∃ (t : Bool) (S' : Nat → Prop), e = .returned (.bool t) ∧ Chg S w w' ∧ (bif t then r1 else r0).holds w' S' ∧ ∀ k, S' k → k < w.heap.size → S k
def bpost (r1 r0 : Res) : Post Bool := { ret := fun t => .v (.bool t), own := fun t => [bif t then r1 else r0] }
theorem star1 {r : Res} {w : World} {S : Nat → Prop} : starL [r] w S ↔ r.holds w S := by
  constructor
  · rintro ⟨S1, S2, h1, h2, h3, _⟩
    have : S = S1 := funext fun k => propext ⟨fun h => ((h3 k).1 h).resolve_right (h2 k), fun h => (h3 k).2 (.inl h)⟩
    rwa [this]
  · exact fun h => ⟨S, fun _ => False, h, fun _ h => h, fun k => ⟨.inl, fun h => h.elim id False.elim⟩, fun _ _ h => h⟩
def tS (ro : Option Nat) (n : Nat) (b : Base) (ops : Array Oper) (Q : Exit → Act → World → Prop) (N : Nat) (l : List Oper) (e : Env) : Prop := ∀ a w, St b N e a w → wpListIn (FW ro) n Tryd.prog ops Q l a w
section
variable {ro : Option Nat} {n : Nat} {b : Base} {ops : Array Oper} {Q : Exit → Act → World → Prop} {N : Nat} {e : Env} {E : SE} {L L0 : List LV} {R R' : List Res} {F M : World → Prop} {o : Oper} {rest l : List Oper} {k : Nat} {y : Operand} {xs : Array Operand} {ats : Array TypeId} {svs : List SV} {Inv : World → Prop}
theorem t_list [NoOut Q] (hd : noDef l = true) (h : lS Tryd.prog b ops Q N l e) : tS ro n b ops Q N l e := fun a w hs => list_in hd (h a w hs)
theorem t_yield {g : Nat} {r r1 r0 : Res} {Fy : World → Prop} (args : List Value) (hg : o.guard = none) (hd : o.dst = some k) (hk : Nat.blt k N = true) (ho : o.op = .call { callee := .value y, args := xs, argTypes := ats }) (hy : evS E y = some (.v (.func (.yield g) #[] #[]))) (hx : evSs E xs.toList = some svs)
    (ha : ∀ G : Nat → Nat, svs.map (SV.den G) = args) (hs : YSpec g args Fy r r1 r0) (hF : ∀ w, F w → M w → Fy w) (hn : ∀ t : Bool, tS ro n b ops Q N rest ⟨(k, .v (.bool t)) :: E, L, (bif t then r1 else r0) :: R', F, M⟩) : tS ro n b ops Q N (o :: rest) ⟨E, L, r :: R', F, M⟩ := fun a w ⟨G, S, h1, h2, h3⟩ => by
  have hv : a.eval y = .func (.yield g) #[] #[] := h1.eval (evS_ok hy)
  have hm := map_eval (args := (svs.map (SV.den G)).toArray) (h1.evals _ _ (by rw [evSs_ok hx]))
  rw [ha G] at hm
  obtain ⟨S1, S2, k1, k2, kS, kd⟩ := StW.split (own := [r]) h3
  obtain ⟨fn, tmps, assign, body, hyr, hR⟩ := hs w S1 (star1.1 k1) ((h3.all.imp fun w hw => hF w hw.1 hw.2).less fun k _ hk => .inr (.inl ((kS k).2 (.inl hk)))) (n - 1)
  have hrun : (execOp a.eval o).run Tryd.prog w = .ok (.round g fn tmps assign body) w := by
    unfold execOp
    simp only [ho, resolve, hv, hm, Deferred.ofValue, Sem.run_bind, Sem.run_pure, Result.andThen_ok, invoke]
    simp [hyr]
  unfold wpListIn
  rw [if_pos (by simp [Region.wanted, hg])]
  refine ⟨fun _ _ => trivial, ?_⟩
  rw [Oper.semAt_eq _ _ _ (fun c e => by rw [ho] at e; cases e), hrun]
  refine ⟨fun e => (by cases e), ?_⟩
  have hR' : RoundIn (FW ro) (n - 1) Tryd.prog g fn tmps assign body w _ := hR
  refine hR'.mono ?_
  rintro ex w' ⟨t, S', rfl, hc, hr', hS'⟩
  rw [hd]
  have h5 := h1.put hk (.bool t)
  exact hn t _ w' ⟨G, fun k => S' k ∨ S2 k, h5, h2.cons trivial, StW.lent (own := [r]) (own' := [bif t then r1 else r0]) h3 k2 kS kd hc (star1.2 hr') hS'⟩
/-! ### Drawn regions that end in a yield -/
abbrev FinR (ro : Option Nat) (n : Nat) (ops : Array Oper) (Q : Exit → Act → World → Prop) (m : Nat) : Array Bool → Act → World → Prop := fun listed a w => wpAnyIn (FW ro) n Tryd.prog .any ops Q m listed a w
theorem opIn_of [NoOut Q] (hd : noDef ops.toList = true) {i : Nat} {K K' : Act → World → Prop} {a : Act} {w : World} (hK : ∀ a w, K a w → K' a w) (h : wpOp Tryd.prog ops Q i K a w) : wpOpIn (FW ro) n Tryd.prog ops Q i K' a w := by
  unfold wpOp at h
  unfold wpOpIn
  split
  · rename_i hn
    rw [hn] at h
    exact hK _ _ h
  · rename_i o ho
    rw [ho] at h
    dsimp only at h
    split
    · rename_i hw
      rw [if_pos hw] at h
      exact op_in (noDef_mem hd (by simpa using Array.mem_of_getElem? ho)) (h.imp (Oper.wp_mono hK) id)
    · rename_i hw
      rw [if_neg hw] at h
      exact ⟨fun _ _ => trivial, hK _ _ h⟩
theorem anyIn_of_P [NoOut Q] (hd : noDef ops.toList = true) {p : Nat → Bool} {m : Nat} : ∀ (fuel : Nat) (listed : Array Bool) (a : Act) (w : World), wpAnyP Tryd.prog ops Q Inv p (FinR ro n ops Q m) fuel listed a w → wpAnyIn (FW ro) n Tryd.prog .any ops Q (m + fuel) listed a w
  | 0, _, _, _, h => h.2
  | fuel + 1, _, _, _, h => ⟨fun h0 => absurd h0 h.1, fun i hi => opIn_of hd (fun a' w' h' => anyIn_of_P hd fuel _ a' w' h'.2) (h.2 i hi)⟩
theorem wpAnyIn_forcedJ {l : List Oper} : ∀ (ks : List Nat) (listed : Array Bool) (a : Act) (w : World), (∀ k ∈ ks, k < l.length) → forcedJ l.toArray ks listed = true →
    wpListIn (FW ro) n Tryd.prog l.toArray Q (opsJ l ks) a w → wpAnyIn (FW ro) n Tryd.prog .any l.toArray Q ks.length listed a w
  | [], _, _, _, _, hB, h => ⟨by simpa [forcedJ] using hB, h⟩
  | k :: ks, listed, a, w, hl, hB, h => by
    obtain ⟨o, ho⟩ : ∃ o, l[k]? = some o := ⟨_, List.getElem?_eq_getElem (hl k List.mem_cons_self)⟩
    have h0 : l.toArray[k]? = some o := by simpa using ho
    simp only [forcedJ, Bool.and_eq_true, decide_eq_true_eq] at hB
    obtain ⟨hr, hB'⟩ := hB
    unfold opsJ at h
    rw [ho] at h
    dsimp only at h
    refine ⟨fun e => (by rw [hr] at e; cases e), fun i hi => ?_⟩
    rw [hr, List.mem_singleton] at hi
    subst hi
    have hl' : ∀ j ∈ ks, j < l.length := fun j hj => hl j (List.mem_cons_of_mem _ hj)
    unfold wpOpIn
    simp only [h0]
    unfold wpListIn at h
    split
    · rename_i hw
      simp only [hw, if_true] at h
      exact Oper.wpIn_mono (fun a' w' h' => wpAnyIn_forcedJ ks _ a' w' hl' hB' h') h
    · rename_i hw
      simp only [hw] at h
      exact ⟨fun _ _ => trivial, wpAnyIn_forcedJ ks _ _ _ hl' hB' (by simpa using h.2)⟩
theorem p_tailR {ks : List Nat} {listed : Array Bool} (js : List Nat) {l l' : List Oper} (hB : ((Region.ready .any l.toArray listed).all (fun j => ks.all fun i => waitsT .any l.toArray l.toArray.size j i) && js.all (fun k => decide (k < l.length)) && forcedJ l.toArray js listed) = true) (hl : opsJ l js = l') (h : tS ro n b l.toArray (NoPanic Q) N l' e) :
    pS Tryd.prog b Q N l.toArray Inv (memJ ks) (FinR ro n l.toArray (NoPanic Q) js.length) 0 listed e := fun _ a w hst _ => by
  subst hl
  simp only [Bool.and_eq_true, List.all_eq_true, decide_eq_true_eq] at hB
  refine ⟨fun j hj i hi => ?_, wpAnyIn_forcedJ js listed a w hB.1.2 hB.2 (h a w hst)⟩
  obtain ⟨k, hk, e⟩ := List.any_eq_true.1 hi
  obtain rfl := Nat.eq_of_beq_eq_true e
  exact hB.1.1 j hj k hk
theorem r_anyP [NoOut Q] {l : List Oper} {id : Nat} (ks : List Nat) (f m : Nat) (Inv : World → Prop) (hm : Tryd.prog.follows .mixedOrders = true) (hn : m + f = l.length) (hd : noDef l = true) (h0 : ∀ a w, St b N e a w → Inv w) (h : pS Tryd.prog b Q N l.toArray Inv (memJ ks) (FinR ro n l.toArray (NoPanic Q) m) f (Array.replicate l.toArray.size false) e) : rS ro n b (.region id l.toArray true) Q N e := fun a w hst => by
  refine wpIn_mono (Q := NoPanic Q) (wpIn_region_any hm ?_) fun e a w h => NoPanic.imp e a w h
  obtain ⟨G, S, h1, h2, h3⟩ := hst
  have hs : St b N e a w.drew := ⟨G, S, h1, h2, h3.drew⟩
  have h4 := anyIn_of_P (by simpa using hd) f _ a w.drew (h (Closed.none _) a w.drew hs (h0 a _ hs))
  have e1 : m + f = l.toArray.size := by simpa using hn
  rw [e1] at h4
  exact h4
instance {fn : Func} {b : Base} {α : Type} {post : Post α} : NoOut (bodyPost Tryd.prog fn (endS b post)) := ⟨fun a w hq => by
  obtain ⟨_, _, h, _⟩ := hq
  cases h⟩
/-- Outside of all rounds. -/
theorem s_of_r {c : Code} (h : rS none 0 b c Q N e) : cS Tryd.prog b c Q N e := fun a w hs => (wpIn_wide (n := 0)).1 (h a w hs)
end
end Go.Proofs.YtlaikmpnijlcbaaDoor
/-
  BEHIND A RANGE OVER A FUNCTION, over states: activations that bear marks; the end of such a call.
-/
namespace Go.Proofs.YtlaikmpnijlcbaaDoor
open Go.RowKit Go.IntWalk

def withD (ds : List Deferred) (a : Act) : Act := { a with defers := a.defers ++ ds }
theorem put_withD (ds : List Deferred) (a : Act) (d : Option Tmp) (v : Value) : (withD ds a).put d v = withD ds (a.put d v) := by cases d <;> rfl
/-- What is asked of the acts, their marks aside. -/
def Qd (ds : List Deferred) (Q : Exit → Act → World → Prop) : Exit → Act → World → Prop := fun e a w => Q e (withD ds a) w
def dS (ds : List Deferred) (b : Base) (c : Code) (Q : Exit → Act → World → Prop) (N : Nat) (e : Env) : Prop := ∀ a w, St b N e a w → c.wp Tryd.prog Q (withD ds a) w
def kD (ds : List Deferred) (b : Base) (K : Act → World → Prop) (N : Nat) (e : Env) : Prop := ∀ a w, St b N e a w → K (withD ds a) w
section
variable {P : Program} {ds : List Deferred} {Q : Exit → Act → World → Prop} {ops : Array Oper}
theorem op_withD {o : Oper} {a : Act} {w : World} {next next' : Act → World → Prop} (hn : ∀ a w, next a w → next' (withD ds a) w) (h : o.wp P a w next (Qd ds Q) ∨ (o.asks P a w ∧ LetsOut (Qd ds Q))) : o.wp P (withD ds a) w next' Q ∨ (o.asks P (withD ds a) w ∧ LetsOut Q) := by
  rcases h with h | ⟨h1, a', w', h2⟩
  · refine .inl ?_
    unfold Oper.wp at h ⊢
    have e : (withD ds a).eval = a.eval := rfl
    rw [e]
    generalize (execOp a.eval o).run P w = r at *
    cases r with
    | ok x w' =>
      cases x with
      | value v =>
        show next' ((withD ds a).put o.dst v) w'
        rw [put_withD]
        exact hn _ _ h
      | skip =>
        show next' ((withD ds a).put o.dst undef) w'
        rw [put_withD]
        exact hn _ _ h
      | defer d =>
        have h' : next (({ a with defers := d :: a.defers } : Act).put o.dst undef) w' := h
        have h2 := hn _ _ h'
        rw [← put_withD] at h2
        exact h2
      | enter f args =>
        have h' : Calls P f args w' _ := h
        refine h'.mono fun e w'' he => ?_
        cases e with
        | returned v =>
          show next' ((withD ds a).put o.dst v) w''
          rw [put_withD]
          exact hn _ _ he
        | panicked c => exact he
        | outgrown =>
          obtain ⟨a1, w1, h1⟩ := he
          exact ⟨_, w1, h1⟩
      | row row args =>
        have h' : Rows P row args w' _ := h
        refine h'.mono fun v w'' he => ?_
        show next' ((withD ds a).put o.dst v) w''
        rw [put_withD]
        exact hn _ _ he
      | _ => exact h.elim
    | halt x w' => cases x <;> exact h
  · exact .inr ⟨h1, _, w', h2⟩
theorem list_withD : ∀ {l : List Oper} {a : Act} {w : World}, wpList P ops (Qd ds Q) l a w → wpList P ops Q l (withD ds a) w
  | [], _, _, h => h
  | o :: l, a, w, h => by
    unfold wpList at h ⊢
    have e : (withD ds a).tmps = a.tmps := rfl
    rw [e]
    split
    · rename_i hw
      rw [if_pos hw] at h
      exact op_withD (fun a' w' h' => list_withD h') h
    · rename_i hw
      rw [if_neg hw] at h
      rw [put_withD]
      exact list_withD h
end
/-! ### Code -/
section
variable {T : List TyR} {ds : List Deferred} {b : Base} {Q : Exit → Act → World → Prop} {N : Nat} {e e' : Env} {E : SE} {L : List LV} {R : List Res} {F M : World → Prop} {id : Nat} {l l' : List Oper} {x y : Code}
theorem d_weak {c : Code} (hw : Weak e e') (h : dS ds b c Q N e') : dS ds b c Q N e := fun a w hs => h a w (hs.weak hw)
theorem d_seq (h : ∀ K : Act → World → Prop, (∀ e', dS ds b y Q N e' → kD ds b K N e') → dS ds b x (Exit.then K Q) N e) : dS ds b (.seq x y) Q N e := fun a w hs =>
  wp_seq_k fun K hK => h K (fun _ h' a' w' hs' => hK _ _ (h' a' w' hs')) a w hs
theorem d_lit (h : lS Tryd.prog b l.toArray (Qd ds Q) N l e) : dS ds b (.region id l.toArray false) Q N e := fun a w hs => wp_region_lit (list_withD (h a w hs))
theorem d_auto {E' : SE} {L' : List LV} (hT : OkT Tryd.prog T) (h : autoS T l.toArray N l E L = ([], E', L')) (hn : dS ds b y Q N ⟨E', L', R, F, M⟩) : dS ds b (.seq (.region id l.toArray false) y) Q N ⟨E, L, R, F, M⟩ :=
  d_seq fun _ hK => d_lit (l_autoS hT h (s_end (hK _ hn)))
theorem d_regA {E' : SE} {L' : List LV} (hT : OkT Tryd.prog T) (h : autoS T l.toArray N l E L = (l', E', L')) (hn : ∀ K : Act → World → Prop, (∀ e', dS ds b y Q N e' → kD ds b K N e') → lS Tryd.prog b l.toArray (Qd ds (Exit.then K Q)) N l' ⟨E', L', R, F, M⟩) : dS ds b (.seq (.region id l.toArray false) y) Q N ⟨E, L, R, F, M⟩ :=
  d_seq fun K hK => d_lit (l_autoS hT h (hn K hK))
/-- The end of a region's operations. -/
theorem d_end {ops : Array Oper} {K : Act → World → Prop} (h : kD ds b K N e) : lS Tryd.prog b ops (Qd ds (Exit.then K Q)) N [] e := fun a w hs => h a w hs
theorem d_block {c : Code} (h : dS ds b c (Exit.inBlock id Q) N e) : dS ds b (.block id c) Q N e := fun a w hs => wp_block (h a w hs)
theorem d_ret (h : kD ds b (Q .ret) N e) : dS ds b .ret Q N e := fun a w hs => wp_ret (h a w hs)
end
/-! ### The end of a call -/
/-- A block for the rounds' deferred calls. -/
def DefR (D : Nat) : Res where
  holds w S := w.heap[D]? = some (.deferred (some [])) ∧ ∀ k, S k ↔ k = D
  keep := fun ⟨h1, h2⟩ hk => ⟨(hk D ((h2 D).2 rfl)).trans h1, h2⟩
  lt := fun ⟨h1, h2⟩ k hk => by rw [(h2 k).1 hk]; exact (Array.getElem?_eq_some_iff.1 h1).1
abbrev dD (D : Nat) : Deferred := { target := .collected D, args := #[] }
abbrev bodyM (fn : Func) (R : Ending → World → Prop) : Exit → Act → World → Prop := bodyPostM Fence.wide 0 Tryd.prog fn R
theorem chg_putObj (w : World) (l : Nat) (o : Obj) : Chg (fun k => k = l) w (w.putObj l o) := ⟨rfl, rfl, rfl, by simp, fun k _ hn => World.putObj_heap_other hn⟩
theorem StW.drop {b : Base} {G : Nat → Nat} {S : Nat → Prop} {L : List LV} {r : Res} {R : List Res} {F M : World → Prop} {w w' : World} {D : Nat} (h : StW b G S L (r :: R) F M w) (hr : ∀ S1, r.holds w S1 → S1 D) (hc : Chg (fun k => k = D) w w') : ∃ S2, StW b G S2 L R F M w' := by
  obtain ⟨S1, S2, h1, h2, h3, h4⟩ := h.res
  have hD : ∀ k, k = D → S1 k := fun k hk => by rw [hk]; exact hr S1 h1
  have := h.chgd (R' := R) (S1 := S1) (S2 := S2) (S' := fun _ => False) h3 (hc.mono fun k _ hk => hD k hk) ((h2.keep fun k hk => hc.block k (h2.lt k hk) fun e => h4 k (hD k e) hk).same fun k => ⟨.inr, fun h => h.elim False.elim id⟩) fun _ h _ => h.elim
  exact ⟨_, this⟩
theorem k_retM {b : Base} {fn : Func} {N : Nat} {E : SE} {L : List LV} {R : List Res} {F M : World → Prop} {α : Type} {post : Post α} : ∀ (Ds : List Nat), kS b (bodyPost Tryd.prog fn (endS b post) .ret) N ⟨E, L, R, F, M⟩ → kD (Ds.map dD) b (bodyM fn (endS b post) .ret) N ⟨E, L, Ds.map DefR ++ R, F, M⟩
  | [], h => fun a w hs => by
    have h1 := (h a w hs).2
    have e : (withD ([].map dD) a).defers = [] := by
      obtain ⟨G, S, h3⟩ := hs
      show a.defers ++ [] = []
      rw [List.append_nil]
      exact h3.fr.defers
    show LeavesInM Fence.wide 0 Tryd.prog fn a.tmps (endS b post) (withD ([].map dD) a).defers .returning w
    rw [e]
    exact h1
  | D :: Ds, h => fun a w ⟨G, S, h1, h2, h3⟩ => by
    obtain ⟨S1, S2, k1, _⟩ := h3.res
    obtain ⟨S3, h4⟩ := StW.drop (D := D) h3 (fun S1 hS => (hS.2 D).2 rfl) (chg_putObj w D (.deferred none))
    have h5 := k_retM Ds h a _ ⟨G, S3, h1, h2, h4⟩
    have e0 : a.defers = [] := h1.defers
    show LeavesInM Fence.wide 0 Tryd.prog fn a.tmps (endS b post) (a.defers ++ dD D :: Ds.map dD) .returning w
    have h6 : LeavesInM Fence.wide 0 Tryd.prog fn a.tmps (endS b post) (a.defers ++ Ds.map dD) .returning (w.putObj D (.deferred none)) := h5
    rw [e0] at h6 ⊢
    exact ⟨fun e => (by cases e), .inl ⟨D, _, rfl, run_takeDeferred k1.1, h6⟩⟩
/-- A contract from a walk that may come to ranges over functions. -/
theorem spec_D {f : FuncId} {fn : Func} {c : Code} {own : List Res} {F : World → Prop} {α : Type} {post : Post α} (vs : List SQ) (N : Nat) (hf : Tryd.prog.funcs[f]? = some fn) (hb : fn.body = some c) (hn : vs.length + (fn.ntmps - vs.length) = N) (hv : ∀ v ∈ vs, v.Ok)
    (h : ∀ b : Base, dS [] b c (bodyM fn (endS b post)) N ⟨argS 0 vs, [], own, F, fun _ => True⟩) : Spec f (vs.map SQ.den) own F post := fun w S X hS hX hF => by
  refine (callsIn_wide (n := 0)).1 (callsIn_of_wp_marks hf hb trivial ((wpIn_wide (n := 0)).2 ?_) rfl)
  have key : ∀ a, Fr N (denE (fun _ => 0) (argS 0 vs)) a → c.wp Tryd.prog (bodyM fn (endS ⟨X, w, S⟩ post)) a w := fun a ha => by
    have h1 := h ⟨X, w, S⟩ a w ⟨fun _ => 0, S, ha, argS_ok hv, fun x hx => (by cases hx), List.Pairwise.nil, hS, fun x hx => (by cases hx), ?_, fun _ _ => trivial, Chg.refl _ _, fun k hk _ => ?_, hX⟩
    · have : withD [] a = a := by
        unfold withD
        rw [List.append_nil]
      rwa [this] at h1
    · exact hF.less fun k _ hk => hk.imp id fun hk => hk.elim id fun ⟨j, hj, _⟩ => by cases hj
    · exact hk.elim id fun ⟨j, hj, _⟩ => by cases hj
  exact key _ (Fr.start (by simpa using hn) _ fun k v hk => by
    rw [argS_den] at hk
    have := (argE_look (vs.map SQ.den) 0 k v hk).2
    simpa using this)
end Go.Proofs.YtlaikmpnijlcbaaDoor
