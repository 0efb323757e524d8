/-
  SEVERAL TEXTS IN ONE: CqL, DkO, DkA, DkB, DkP, DkR.
-/
import Derived.Test.YthkbejheedffjaaMe
import Derived.Test.YthkbejheedffjaaMf
/-
  THE STEPS THAT DO MOST, over states: what is reckoned up to the next call, bits too; calls by their contracts; regions with new variables; cells of rows.
-/
namespace Go.Proofs.Ythkbejheedffjaa
open Go.RowKit Go.IntWalk

/-! ### Bits -/
theorem run_andB {P : Program} {t : TypeId} {K : IntKind} {m n : Int} {w : World} : (binOp .and t (.int K m) (.int K n)).run P w = .ok (.int K (bits .and K m n)) w := by cases K <;> go_simp
theorem run_orB {P : Program} {t : TypeId} {K : IntKind} {m n : Int} {w : World} : (binOp .or t (.int K m) (.int K n)).run P w = .ok (.int K (bits .or K m n)) w := by cases K <;> go_simp
theorem run_xorB {P : Program} {t : TypeId} {K : IntKind} {m n : Int} {w : World} : (binOp .xor t (.int K m) (.int K n)).run P w = .ok (.int K (bits .xor K m n)) w := by cases K <;> go_simp
/-- An array of n cells. -/
def Arr (t : TypeId) (n : Nat) : Prop := ∃ e, Try.prog.underlying t = some (.array n e) ∧ (Try.prog.info? e).map (·.size) = some 1
/-- The arrays whose parts are cut. -/
def lenA (t : TypeId) : Option Nat :=
  match Nat.beq t 0 with | true => none | false => none
theorem lenA_ok {t : TypeId} {n : Nat} (h : lenA t = some n) : Arr t n := by
  unfold lenA at h
  split at h
  · cases h
  · cases h
def bndS (E : SE) (x : Option Operand) (n : Nat) : Option Nat := match x with
  | none => some n
  | some y => match evS E y with
    | some (.q (.c (.v (.int _ (.ofNat k))))) => some k
    | _ => none
theorem run_bound {P : Program} {K : IntKind} {i y : Nat} {code : BoundsCode} (h : i ≤ y) (w : World) : (Instr.sliceBound (.int K (i : Int)) y code).run P w = .ok i w := by
  have h1 : (0 : Int) ≤ i ∧ (i : Int) ≤ y := by omega
  simp only [Instr.sliceBound, asIntOf, Sem.run_bind, Sem.run_pure, Result.andThen_ok, h1, and_self, if_true, Int.toNat_natCast]
theorem bndS_ok {E : SE} {x : Option Operand} {n m : Nat} (h : bndS E x n = some m) : x = none ∧ m = n ∨ ∃ y K, x = some y ∧ evS E y = some (.v (.int K (m : Int))) := by
  unfold bndS at h
  split at h
  · cases h
    exact .inl ⟨rfl, rfl⟩
  · split at h
    · rename_i y _ K k hy
      cases h
      exact .inr ⟨y, K, rfl, hy⟩
    · cases h
theorem run_cutA {P : Program} {t e : TypeId} {g off n l h : Nat} {lo hi : Option Value} (ht : P.underlying t = some (.array n e)) (he : (P.info? e).map (·.size) = some 1) (hl : lo = none ∧ l = 0 ∨ ∃ K, lo = some (.int K (l : Int))) (hh : hi = none ∧ h = n ∨ ∃ K, hi = some (.int K (h : Int))) (h1 : l ≤ h) (h2 : h ≤ n) (h3 : l < n) (w : World) :
    (Instr.sliceAt t (.pointer (some ⟨g, off, none⟩)) lo hi none).run P w = .ok (.slice (some ⟨g, off + l, none⟩) (h - l) (n - l)) w := by
  have h5 := run_sizeOf he w
  have h6 : ¬ n = l := by omega
  have hu := run_underlying (P := P) ht (w := w)
  have hb := fun c => run_bound (P := P) (K := .i64) (i := h) (y := n) (code := c) h2 w
  rcases hl with ⟨rfl, rfl⟩ | ⟨K, rfl⟩ <;> rcases hh with ⟨rfl, rfl⟩ | ⟨K2, rfl⟩ <;>
    simp [Instr.sliceAt, Instr.sureAddr, hu, Instr.sliceBounds, h5, run_bound h2, run_bound h1, Sem.run_bind, Addr.add_mid, h6]
/-- What an operation at bits hands back. -/
def moreS (E : SE) : Op → Option SV
  | .binOp op _ x y _ => match evS E x, evS E y with
    | some (.q (.c (.v (.int K m)))), some (.q (.c (.v (.int K' n)))) => match op, ikB K K', n with
      | .and, true, _ => some (.v (.int K (bits .and K m n)))
      | .or, true, _ => some (.v (.int K (bits .or K m n)))
      | .xor, true, _ => some (.v (.int K (bits .xor K m n)))
      | .shl, _, .ofNat c => some (.v (.int K (K.wrap (m * 2 ^ min c K.bits))))
      | .shr, _, .ofNat c => some (.v (.int K (m.fdiv (2 ^ min c K.bits))))
      | _, _, _ => none
    | _, _ => none
  | .unOp .xor _ x => match evS E x with
    | some (.q (.c (.v (.int K n)))) => some (.v (.int K (bits .xor K (if K.signed then -1 else K.max) n)))
    | _ => none
  | .slice t x lo hi none => match evS E x, lenA t with
    | some (.a j off), some n => match bndS E lo 0, bndS E hi n with
      | some l, some h => match Nat.ble l h, Nat.ble h n, Nat.blt l n with
        | true, true, true => some (.s j (off + l) (h - l) (n - l))
        | _, _, _ => none
      | _, _ => none
    | _, _ => none
  | .sliceToArrayPointer t x => match evS E x, lenA t with
    | some (.s j off n _), some m => match Nat.ble m n with
      | true => some (.a j off)
      | false => none
    | _, _ => none
  | _ => none
theorem moreS_ok {E : SE} {N : Nat} {o : Oper} {v : SV} (h : moreS E o.op = some v) : v.Ok ∧ ∀ (G : Nat → Nat) (a : Act) (w : World), Fr N (denE G E) a → (execOp a.eval o).run Try.prog w = .ok (.value (v.den G)) w := by
  obtain ⟨dst, op, ty, pos, af, gd⟩ := o
  dsimp only at h
  unfold moreS at h
  split at h
  · rename_i op t x y _
    split at h
    · rename_i K m K' n hx hy
      have go : ∀ u : Value, (∀ w, (binOp op t (.int K m) (.int K' n)).run Try.prog w = .ok u w) → op ≠ .eql → op ≠ .neq → ∀ (G : Nat → Nat) (a : Act) (w : World), Fr N (denE G E) a → (execOp a.eval (⟨dst, .binOp op t x y ‹_›, ty, pos, af, gd⟩ : Oper)).run Try.prog w = .ok (.value ((SV.v u).den G)) w := fun u hu h1 h2 G a w ha => by
        have e1 := ha.eval (evS_ok (G := G) hx)
        have e2 := ha.eval (evS_ok (G := G) hy)
        unfold execOp
        simp only [e1, e2, SV.den, SQ.den, SC.den]
        cases op <;> first | (exact absurd rfl h1) | (exact absurd rfl h2) | simp [eqGuard, hu]
      split at h
      · rename_i h1
        cases h
        obtain rfl := ikB_ok h1
        exact ⟨trivial, go _ (fun w => run_andB) (by simp) (by simp)⟩
      · rename_i h1
        cases h
        obtain rfl := ikB_ok h1
        exact ⟨trivial, go _ (fun w => run_orB) (by simp) (by simp)⟩
      · rename_i h1
        cases h
        obtain rfl := ikB_ok h1
        exact ⟨trivial, go _ (fun w => run_xorB) (by simp) (by simp)⟩
      · cases h
        exact ⟨trivial, go _ (fun w => by simp only [binOp, Op.shift]; rw [if_neg (by simp)]; rfl) (by simp) (by simp)⟩
      · cases h
        exact ⟨trivial, go _ (fun w => by simp only [binOp, Op.shift]; rw [if_neg (by simp)]; rfl) (by simp) (by simp)⟩
      · cases h
    · cases h
  · rename_i t x
    split at h
    · rename_i K n hx
      cases h
      refine ⟨trivial, fun G a w ha => ?_⟩
      have e1 := ha.eval (evS_ok (G := G) hx)
      unfold execOp
      simp only [e1, SV.den, SQ.den, SC.den]
      cases K <;> go_simp
    · cases h
  · rename_i t x lo hi
    split at h
    · rename_i j off n hx hn
      split at h
      · rename_i l m hl hm
        split at h
        · rename_i c1 c2 c3
          cases h
          refine ⟨trivial, fun G a w ha => ?_⟩
          obtain ⟨e, ht, he⟩ := lenA_ok hn
          have e1 : a.eval x = .pointer (some ⟨G j, off, none⟩) := ha.eval (evS_ok hx)
          have go : ∀ {y : Option Operand} {q d : Nat}, bndS E y d = some q → y.map a.eval = none ∧ q = d ∨ ∃ K, y.map a.eval = some (.int K (q : Int)) := fun h => by
            rcases bndS_ok h with ⟨rfl, h9⟩ | ⟨u, K, rfl, h9⟩
            · exact .inl ⟨rfl, h9⟩
            · exact .inr ⟨K, congrArg some (ha.eval (evS_ok h9))⟩
          have hr := run_cutA (P := Try.prog) (g := G j) (off := off) ht he (go hl) (go hm) (Nat.le_of_ble_eq_true c1) (Nat.le_of_ble_eq_true c2) (Nat.le_of_ble_eq_true c3) w
          unfold execOp
          simp only [e1, Option.map_none, hr, Sem.run_bind, Sem.run_pure, Result.andThen_ok]
          rfl
        · cases h
      · cases h
    · cases h
  · rename_i t x
    split at h
    · rename_i j off n c m hx hm
      split at h
      · rename_i c1
        cases h
        refine ⟨trivial, fun G a w ha => ?_⟩
        obtain ⟨e, ht, he⟩ := lenA_ok hm
        have e1 : a.eval x = .slice (some ⟨G j, off, none⟩) n c := ha.eval (evS_ok hx)
        have hu := run_underlying (P := Try.prog) ht (w := w)
        unfold execOp
        simp only [e1, Instr.arrayAt, Sem.run_bind, hu, Result.andThen_ok]
        rw [if_neg (Nat.not_lt.2 (Nat.le_of_ble_eq_true c1))]
        rfl
      · cases h
    · cases h
  · cases h
/-- What is reckoned, bits too: the order forced. -/
def autoXL (ops : Array Oper) (N : Nat) : Nat → List Oper → SE → List LV → List Oper × SE × List LV
  | 0, l, E, L => autoS TY ops N l E L
  | f + 1, l, E, L => match autoS TY ops N l E L with
    | (o :: l', E', L') => match o.guard, o.dst, moreS E' o.op with
      | none, some k, some v => match Nat.blt k N with
        | true => autoXL ops N f l' ((k, v) :: E') L'
        | false => (o :: l', E', L')
      | _, _, _ => (o :: l', E', L')
    | ([], E', L') => ([], E', L')
/-- The same, ahead of new variables. -/
def autoXN (ops : Array Oper) (N : Nat) (L : List LV) : Nat → List Oper → SE → List Oper × SE
  | 0, l, E => autoN TY ops N L l E
  | f + 1, l, E => match autoN TY ops N L l E with
    | (o :: l', E') => match o.guard, o.dst, moreS E' o.op with
      | none, some k, some v => match Nat.blt k N with
        | true => autoXN ops N L f l' ((k, v) :: E')
        | false => (o :: l', E')
      | _, _, _ => (o :: l', E')
    | ([], E') => ([], E')
section
variable {b : Base} {ops : Array Oper} {Q : Exit → Act → World → Prop} {N : Nat} {G : Nat → Nat} {S : Nat → Prop} {R : List Res} {F M : World → Prop} {w0 : World} {Z : Act → Prop}
theorem autoXL_ok : ∀ {f : Nat} {l : List Oper} {E : SE} {L : List LV}, lS Try.prog b ops Q N (autoXL ops N f l E L).1 ⟨(autoXL ops N f l E L).2.1, (autoXL ops N f l E L).2.2, R, F, M⟩ → lS Try.prog b ops Q N l ⟨E, L, R, F, M⟩
  | 0, _, _, _, h => autoS_ok TY_ok h
  | f + 1, l, E, L, h => by
    unfold autoXL at h
    refine autoS_ok TY_ok ?_
    split at h
    · rename_i o l' E' L' e
      rw [e]
      split at h
      · rename_i k v hg hd hv
        split at h
        · rename_i hk
          exact l_op v (moreS_ok (N := N) hv).1 hg hd hk (moreS_ok hv).2 (autoXL_ok h)
        · exact h
      · exact h
    · rename_i E' L' e
      rw [e]
      exact h
theorem autoXN_ok {L : List LV} (hst : StW b G S L R F M w0) : ∀ {f : Nat} {l : List Oper} {E : SE}, OkE E → nS Try.prog ops N w0 Z G (autoXN ops N L f l E).1 (autoXN ops N L f l E).2 → nS Try.prog ops N w0 Z G l E
  | 0, _, _, hE, h => autoN_ok TY_ok hst hE h
  | f + 1, l, E, hE, h => by
    unfold autoXN at h
    refine n_auto TY_ok hst rfl ?_
    split at h
    · rename_i o l' E' e
      rw [e]
      split at h
      · rename_i k v hg hd hv
        split at h
        · rename_i hk
          exact n_op hst v (moreS_ok (N := N) hv).1 hg hd hk (moreS_ok hv).2 fun hE' => autoXN_ok hst hE' h hE'
        · exact h
      · exact h
    · rename_i E' e
      rw [e]
      exact h
theorem l_auto2 {l l' : List Oper} {E E' : SE} {L L' : List LV} (h : autoXL ops N l.length l E L = (l', E', L')) (hn : lS Try.prog b ops Q N l' ⟨E', L', R, F, M⟩) : lS Try.prog b ops Q N l ⟨E, L, R, F, M⟩ := autoXL_ok (by rw [h]; exact hn)
theorem n_auto2 {L : List LV} (hst : StW b G S L R F M w0) {l l' : List Oper} {E E' : SE} (h : autoXN ops N L l.length l E = (l', E')) (hn : nS Try.prog ops N w0 Z G l' E') : nS Try.prog ops N w0 Z G l E := fun hE => autoXN_ok hst hE (by rw [h]; exact hn) hE
end
/-! ### The call that comes next -/
def callB (N : Nat) (E : SE) (o : Oper) : Option (Nat × FuncId × List SV) := match o.guard, o.dst, o.op with
  | none, some k, .call { callee := .value (.func f), args := xs, argTypes := _ } => match Nat.blt k N with
    | true => match evSs E xs.toList with
      | some vs => some (k, f, vs)
      | none => none
    | false => none
  | _, _, _ => none
theorem callB_ok {N : Nat} {E : SE} {o : Oper} {k : Nat} {f : FuncId} {vs : List SV} (h : callB N E o = some (k, f, vs)) : o.guard = none ∧ o.dst = some k ∧ Nat.blt k N = true ∧ ∃ xs ats, o.op = .call { callee := .value (.func f), args := xs, argTypes := ats } ∧ evSs E xs.toList = some vs := by
  unfold callB at h
  split at h
  · rename_i k' f' xs ats hg hd ho
    split at h
    · rename_i hk
      split at h
      · rename_i us hu
        injection h with h
        injection h with h1 h
        injection h with h2 h3
        subst h1 h2 h3
        exact ⟨hg, hd, hk, xs, ats, ho, hu⟩
      · cases h
    · cases h
  · cases h
def nextN (ops : Array Oper) (N : Nat) (L : List LV) (l : List Oper) (E : SE) : Option (List Oper × SE × Nat × FuncId × List SV) := match autoXN ops N L l.length l E with
  | (o :: l', E') => match callB N E' o with
    | some (k, f, vs) => some (l', E', k, f, vs)
    | none => none
  | _ => none
def nextL (ops : Array Oper) (N : Nat) (l : List Oper) (E : SE) (L : List LV) : Option (List Oper × SE × List LV × Nat × FuncId × List SV) := match autoXL ops N l.length l E L with
  | (o :: l', E', L') => match callB N E' o with
    | some (k, f, vs) => some (l', E', L', k, f, vs)
    | none => none
  | _ => none
/-- A call's contract, over whatever lies there. -/
structure Ct {α : Type} (F : World → Prop) (f : FuncId) (qs : List SQ) (post : Post α) : Prop where
  own : Own f
  spec : Spec f (qs.map SQ.den) [] F post
section
variable {b : Base} {ops : Array Oper} {Q : Exit → Act → World → Prop} {N : Nat} {G : Nat → Nat} {S : Nat → Prop} {E E' : SE} {L L' : List LV} {R : List Res} {F M : World → Prop} {w0 : World} {Z : Act → Prop} {l l' : List Oper} {k : Nat} {α : Type} {post : Post α} {f : FuncId} {qs : List SQ}
theorem den_q (qs : List SQ) (G : Nat → Nat) : (qs.map SV.q).map (SV.den G) = qs.map SQ.den := by
  rw [List.map_map]
  rfl
/-- What is reckoned, then a call. -/
theorem n_X [Pst F] (hst : StW b G S L R F M w0) (c : Ct F f qs post) (h : nextN ops N L l E = some (l', E', k, f, qs.map SV.q)) (hn : ∀ x, nS Try.prog ops N w0 Z G l' ((k, (post.ret x).sv) :: E')) : nS Try.prog ops N w0 Z G l E := by
  unfold nextN at h
  split at h
  · rename_i o l2 E2 h2
    split at h
    · rename_i k2 f2 v2 h3
      simp only [Option.some.injEq, Prod.mk.injEq] at h
      obtain ⟨rfl, rfl, rfl, rfl, rfl⟩ := h
      obtain ⟨hg, hd, hk, xs, ats, ho, hx⟩ := callB_ok h3
      refine n_auto2 hst h2 fun hE => ?_
      refine f_callV (qs.map SQ.den).toArray (fun v => ∃ x, (post.ret x).sv.Ok ∧ v = (post.ret x).den) hg hd hk c.own (fun w hw => (c.spec w (fun _ => False) (fun _ => False) (fun _ h => h) (fun _ h => h.elim) (Stb.of_pst (hst.later hw).view.fact fun _ _ h => h.elim id id)).mono ?_) ho (by rw [evSs_ok hx, den_q]) ?_
      · rintro e w2 ⟨x, _, h1, h2, h3, _⟩
        exact ⟨_, h1, ⟨x, h2, rfl⟩, h3.up fun _ _ h => h⟩
      · rintro _ ⟨x, hx, rfl⟩
        have h := hn x (hE.cons hx)
        rw [show denE G ((k2, (post.ret x).sv) :: E2) = (k2, (post.ret x).den) :: denE G E2 by rw [denE, RV.sv_den]] at h
        exact h
    · cases h
  · cases h
theorem l_X (c : Ct F f qs post) (ho : ∀ x, post.own x = []) (h : nextL ops N l E L = some (l', E', L', k, f, qs.map SV.q)) (hn : ∀ x, lS Try.prog b ops Q N l' ⟨(k, (post.ret x).sv) :: E', L', R, F, M⟩) : lS Try.prog b ops Q N l ⟨E, L, R, F, M⟩ := by
  unfold nextL at h
  split at h
  · rename_i o l2 E2 L2 h2
    split at h
    · rename_i k2 f2 v2 h3
      simp only [Option.some.injEq, Prod.mk.injEq] at h
      obtain ⟨rfl, rfl, rfl, rfl, rfl, rfl⟩ := h
      obtain ⟨hg, hd, hk, xs, ats, ho', hx⟩ := callB_ok h3
      refine l_auto2 h2 ?_
      refine l_callA (own := []) (qs.map SQ.den) hg hd hk c.own ho' hx (fun G _ => den_q qs G) c.spec (fun w h _ => h) fun x => ?_
      rw [ho x]
      exact fun a w ⟨G, S, h1, h2, h3⟩ => hn x a w ⟨G, S, h1, h2, { h3 with fact := h3.fact.imp fun _ h => h.2, fresh := h3.fresh.imp fun _ h => h.2 }⟩
    · cases h
  · cases h
end
/-! ### New variables of rows and structs -/
def zT (t : TypeId) : List Pt := match findT TY t with
  | some r => r.zero
  | none => []
def nvs (us : List (Nat × TypeId)) : List NV := us.map fun u => ⟨u.1, u.2, catP (zT u.2)⟩
def nvB (N : Nat) : List Oper → List (Nat × TypeId) → Bool
  | _, [] => true
  | [], _ :: _ => false
  | o :: l, u :: us => match o.guard, o.dst, o.op with
    | none, some k, .alloc t => Nat.beq k u.1 && Nat.blt k N && Nat.beq t u.2 && (findT TY t).isSome && nvB N l us
    | _, _, _ => false
theorem zT_ok {t : TypeId} (h : (findT TY t).isSome = true) : ∃ r, findT TY t = some r ∧ r.ok Try.prog ∧ r.t = t ∧ zT t = r.zero := by
  unfold zT
  cases hr : findT TY t with
  | none => rw [hr] at h; cases h
  | some r => exact ⟨r, rfl, (findT_ok TY_ok hr).1, (findT_ok TY_ok hr).2, rfl⟩
theorem nvB_ok {N : Nat} : ∀ {l : List Oper} {us : List (Nat × TypeId)}, nvB N l us = true → nvOk Try.prog N l (nvs us)
  | _, [], _ => by unfold nvs; simp [nvOk]
  | [], _ :: _, h => by cases h
  | o :: l, u :: us, h => by
    unfold nvB at h
    split at h
    · rename_i k t hg hd ho
      simp only [Bool.and_eq_true] at h
      obtain ⟨⟨⟨⟨h1, h2⟩, h3⟩, h4⟩, h5⟩ := h
      obtain rfl := Nat.eq_of_beq_eq_true h1
      obtain rfl := Nat.eq_of_beq_eq_true h3
      obtain ⟨r, hr, hok, ht, hz⟩ := zT_ok h4
      obtain ⟨it, d, h6, h7, h8, h9, _⟩ := hok.info
      refine ⟨⟨hg, hd, h2, ho, ?_⟩, nvB_ok h5⟩
      show (Try.prog.info? u.2).bind _ = some (catP (zT u.2))
      rw [hz, ← ht, h6, Option.bind_some, h9]
    · cases h
def newRB (N n : Nat) (l : List Oper) (us : List (Nat × TypeId)) : Bool := Nat.ble (n + us.length) l.length && tsApart (nvs us) && nvB N (l.drop n) us && tailB l.toArray n us.length (l.drop (n + us.length)).length && newC l.toArray n (marks us.length n (marks n 0 (Array.replicate l.toArray.size false))) us.length (List.range us.length) (marks n 0 (Array.replicate l.toArray.size false))
def stX : List (Nat × TypeId) → List Oper → Option (List Operand × List Oper)
  | [], T => some ([], T)
  | u :: us, o :: T => match o.guard, o.dst, o.op with
    | none, none, .store t (.tmp k) y => match Nat.beq t u.2, Nat.beq k u.1, stX us T with
      | true, true, some (xs, T2) => some (y :: xs, T2)
      | _, _, _ => none
    | _, _, _ => none
  | _, [] => none
theorem stX_ok : ∀ {us : List (Nat × TypeId)} {T T2 : List Oper} {xs : List Operand}, stX us T = some (xs, T2) → stOk (nvs us) xs T T2
  | [], _, _, _, h => by cases h; rfl
  | _ :: _, [], _, _, h => by cases h
  | u :: us, o :: T, T2, xs, h => by
    unfold stX at h
    split at h
    · rename_i t k y hg hd ho
      split at h
      · rename_i ys T3 h1 h2 h3
        cases h
        obtain rfl := Nat.eq_of_beq_eq_true h1
        obtain rfl := Nat.eq_of_beq_eq_true h2
        exact ⟨⟨hg, hd, ho⟩, stX_ok h3⟩
      · cases h
    · cases h
/-- The new variables, by what they are given. -/
def mkV (E : SE) : List (Nat × TypeId) → List Operand → Option (List LV)
  | [], [] => some []
  | u :: us, x :: xs => match evS E x, mkV E us xs with
    | some (.q (.p ps)), some vs => match Nat.beq (sizeP ps) (sizeP (zT u.2)), (findT TY u.2).isSome, lookS E u.1 with
      | true, true, none => some (⟨u.1, none, u.2, ps⟩ :: vs)
      | _, _, _ => none
    | _, _ => none
  | _, _ => none
theorem mkV_ok {E : SE} (hE : OkE E) (G : Nat → Nat) : ∀ {us : List (Nat × TypeId)} {xs : List Operand} {vs : List LV}, mkV E us xs = some vs → nvL vs (us.map fun u => catP (zT u.2)) = nvs us ∧ vs.length = us.length ∧ (∀ v ∈ vs, OkP v.ps) ∧ far (denE G E) (nvs us) ∧ valOk Try.prog (denE G E) (nvs us) xs (vs.map fun v => catP v.ps)
  | [], [], _, h => by cases h; exact ⟨rfl, rfl, (fun _ h => by cases h), trivial, trivial⟩
  | [], _ :: _, _, h => by cases h
  | _ :: _, [], _, h => by cases h
  | u :: us, x :: xs, vs, h => by
    unfold mkV at h
    split at h
    · rename_i ps ws h1 h2
      split at h
      · rename_i h3 h4 h5
        cases h
        obtain ⟨e1, e2, e3, e4, e5⟩ := mkV_ok hE G h2
        obtain ⟨r, hr, hok, ht, hz⟩ := zT_ok h4
        obtain ⟨it, d, h6, h7, h8, h9, _⟩ := hok.info
        have hp : OkP ps := hE.ev h1
        have hs : sizeP ps = sizeP r.zero := hz ▸ Nat.eq_of_beq_eq_true h3
        refine ⟨congrArg (_ :: ·) e1, congrArg (· + 1) e2, fun v hv => ?_, ⟨by rw [look_den, h5]; rfl, e4⟩, ⟨⟨evS_ok h1, ?_, ?_, fun v hv => hp.one v hv⟩, e5⟩⟩
        · rcases List.mem_cons.1 hv with rfl | hv
          · exact hp
          · exact e3 v hv
        · show (catP (zT u.2)).size = (catP ps).size
          rw [hz, hok.2.size, hp.size, hs]
        · show (Try.prog.info? u.2).map (·.size) = some (catP ps).size
          rw [← ht, h6, hp.size, hs, ← h8]
          rfl
      · cases h
    · cases h
/-- What is left behind a drawn region with new variables. -/
def endN (ops : Array Oper) (N : Nat) (us : List (Nat × TypeId)) (L : List LV) (T' l : List Oper) (E : SE) : Option (SE × List LV) := match autoXN ops N L l.length l E with
  | ([], E1) => match stX us T' with
    | some (xs, T2) => match mkV E1 us xs with
      | some vs => match freeV E1 L vs with
        | true => match autoXL ops N T2.length T2 (ptrV vs E1) (vs ++ L) with
          | ([], E2, L2) => some (E2, L2)
          | _ => none
        | false => none
      | none => none
    | none => none
  | _ => none
section
variable {b : Base} {Q : Exit → Act → World → Prop} {N : Nat} {G : Nat → Nat} {S : Nat → Prop} {E E' E2 : SE} {L L' L2 : List LV} {R : List Res} {F M : World → Prop} {w0 : World} {T' l : List Oper} {id : Nat} {y : Code} {ops : Array Oper} {K : Act → World → Prop}
/-- **A drawn region**: n operations that are reckoned or called, the new variables us, then stores. -/
theorem s_N (n : Nat) (us : List (Nat × TypeId)) (hB : newRB N n l us = true)
    (h : ∀ K : Act → World → Prop, (∀ e', cS Try.prog b y Q N e' → kS b K N e') → ∀ G S w0, StW b G S L R F M w0 → nS Try.prog l.toArray N w0 (newPost Try.prog l.toArray (NoPanic (Exit.then K Q)) w0 (nvs us) (l.drop (n + us.length)) N) G (l.take n) E) : cS Try.prog b (.seq (.region id l.toArray true) y) Q N ⟨E, L, R, F, M⟩ := by
  unfold newRB at hB
  simp only [Bool.and_eq_true] at hB
  obtain ⟨⟨⟨⟨h1, h2⟩, h3⟩, h4⟩, h5⟩ := hB
  have hl : (nvs us).length = us.length := by simp [nvs]
  rw [← hl] at h1 h4 h5 h
  exact s_new n (nvs us) (Nat.le_of_ble_eq_true h1) h2 (nvB_ok h3) rfl h4 h5 h
/-- Its end. -/
theorem n_N {us : List (Nat × TypeId)} (hst : StW b G S L R F M w0) (hap : tsApart (nvs us) = true) (hK : ∀ e', cS Try.prog b y Q N e' → kS b K N e') (h : endN ops N us L T' l E = some (E2, L2)) (hn : cS Try.prog b y Q N ⟨E2, L2, R, F, M⟩) : nS Try.prog ops N w0 (newPost Try.prog ops (NoPanic (Exit.then K Q)) w0 (nvs us) T' N) G l E := by
  unfold endN at h
  split at h
  · rename_i E1 h1
    split at h
    · rename_i xs T2 h2
      split at h
      · rename_i vs h3
        split at h
        · rename_i h4
          split at h
          · rename_i E3 L3 h5
            cases h
            refine n_auto2 hst h1 fun hE => ?_
            obtain ⟨e1, e2, e3, e4, e5⟩ := mkV_ok hE G h3
            exact n_new hst vs _ xs e1 (by rw [e2, List.length_map]) h4 e3 e4 hap (stX_ok h2) e5 (l_auto2 h5 (s_end (hK _ hn))) hE
          · cases h
        · cases h
      · cases h
    · cases h
  · cases h
theorem l_E {l : List Oper} {ops : Array Oper} (h : autoXL ops N l.length l E L = ([], E2, L2)) (hn : kS b (Q .normal) N ⟨E2, L2, R, F, M⟩) : lS Try.prog b ops Q N l ⟨E, L, R, F, M⟩ := l_auto2 h (s_end hn)
/-- A region whose order is forced: its end. -/
theorem l_N (hK : ∀ e', cS Try.prog b y Q N e' → kS b K N e') (h : autoXL ops N l.length l E L = ([], E2, L2)) (hn : cS Try.prog b y Q N ⟨E2, L2, R, F, M⟩) : lS Try.prog b ops (Exit.then K Q) N l ⟨E, L, R, F, M⟩ := l_auto2 h (s_end (hK _ hn))
end

section
variable {P : Program} {b : Base} {ops : Array Oper} {Q : Exit → Act → World → Prop} {N : Nat} {E : SE} {L : List LV} {R : List Res} {F M : World → Prop} {o : Oper} {rest : List Oper} {k : Nat}
theorem parts_denC {G : Nat → Nat} (l : List (Nat × Operand)) (m : List (Nat × SC)) (h : l.map (fun p => (p.1, evS E p.2)) = m.map fun x => (x.1, some (.q (.c x.2)))) : l.map (fun p => (p.1, ev (denE G E) p.2)) = (m.map fun x => (x.1, x.2.den)).map fun x => (x.1, some x.2) := by
  induction l generalizing m with
  | nil => cases m <;> simp_all
  | cons p l ih =>
    cases m with
    | nil => simp at h
    | cons x m =>
      simp only [List.map_cons, List.cons.injEq, Prod.mk.injEq] at h ⊢
      exact ⟨⟨h.1.1, evS_ok h.1.2⟩, ih m h.2⟩
/-- An array of bytes that is written there. -/
theorem l_buildC {t : TypeId} {parts : Array (Nat × Operand)} (n : Nat) (l : List UInt8) (hg : o.guard = none) (hd : o.dst = some k) (hk : Nat.blt k N = true) (ho : o.op = .build t parts) (hv : parts.toList.map (fun p => (p.1, evS E p.2)) = (l.zipIdx.map fun x => (x.2, SC.v (.int .u8 (x.1.toNat : Int)))).map fun x => (x.1, some (.q (.c x.2))))
    (hb : P.built t ((l.zipIdx.map fun x => (x.2, SC.v (.int .u8 (x.1.toNat : Int)))).map fun x => (x.1, x.2.den)) = some (By l).toArray) (hl : l.length = n) (hn : lS P b ops Q N rest ⟨(k, .q (eY n l)) :: E, L, R, F, M⟩) : lS P b ops Q N (o :: rest) ⟨E, L, R, F, M⟩ :=
  l_f (.q (eY n l)) (eY_ok hl).1 (fun G S w C0 Q' _ _ hQ => f_build _ _ hg hd hk ho (parts_denC _ _ hv) hb hQ) (by rw [ho]; rfl) hn
end
/-- A cell of a variable's row: where it lies, what is asked. -/
structure RwL where
  k1 : Nat
  k2 : Nat
  j : Nat
  off : Nat
  i : Nat
  t : TypeId
  ps : List Pt
  K : IntKind := .u8
  m : Int := 0
def ixS (N : Nat) (E : SE) (L : List LV) (o : Oper) : Option RwL := match o.guard, o.dst, o.op with
  | none, some k, .indexAddr t x y => match evS E x, evS E y, Nat.blt k N with
    | some (.a j off), some (.q (.c (.v (.int _ (.ofNat i))))), true => match lookL L j with
      | some ps => some { k1 := k, k2 := 0, j := j, off := off, i := i, t := t, ps := ps }
      | none => none
    | _, _, _ => none
  | _, _, _ => none
theorem ixS_ok {N : Nat} {E : SE} {L : List LV} {o : Oper} {u : RwL} (h : ixS N E L o = some u) : o.guard = none ∧ o.dst = some u.k1 ∧ Nat.blt u.k1 N = true ∧ lookL L u.j = some u.ps ∧ ∃ x y K, o.op = .indexAddr u.t x y ∧ evS E x = some (.a u.j u.off) ∧ evS E y = some (.v (.int K (u.i : Int))) := by
  unfold ixS at h
  split at h
  · rename_i k t x y hg hd ho
    split at h
    · rename_i j off K i hx hy hk
      split at h
      · rename_i ps hl
        cases h
        exact ⟨hg, hd, hk, hl, x, y, K, ho, hx, hy⟩
      · cases h
    · cases h
  · cases h
/-- It is read. -/
def ldS (N : Nat) (E : SE) (L : List LV) (o1 o2 : Oper) : Option RwL := match ixS N E L o1, o2.guard, o2.dst, o2.op with
  | some u, none, some k, .load e (.tmp z) => match Nat.beq z u.k1, Nat.blt k N, findT TY e with
    | true, true, some r => match r.kind with
      | 0 => some { u with k2 := k }
      | _ => none
    | _, _, _ => none
  | _, _, _, _ => none
theorem ldS_ok {N : Nat} {E : SE} {L : List LV} {o1 o2 : Oper} {u : RwL} (h : ldS N E L o1 o2 = some u) : ∃ u0 : RwL, ixS N E L o1 = some u0 ∧ u = { u0 with k2 := u.k2 } ∧ o2.guard = none ∧ o2.dst = some u.k2 ∧ Nat.blt u.k2 N = true ∧ ∃ e d, o2.op = .load e (.tmp u0.k1) ∧ Try.prog.underlying e = some d ∧ d.isRow = false := by
  unfold ldS at h
  split at h
  · rename_i u0 k e z h0 hg hd ho
    split at h
    · rename_i r hz hk hr
      split at h
      · rename_i h9
        cases h
        obtain rfl := Nat.eq_of_beq_eq_true hz
        obtain ⟨h1, h2⟩ := findT_ok TY_ok hr
        obtain ⟨it, d, _, h4, _, _, h7, _⟩ := h1.info
        exact ⟨u0, h0, rfl, hg, hd, hk, e, d, ho, h2 ▸ h4, kind_not (h7.trans h9)⟩
      · cases h
    · cases h
  · cases h
/-- It is written. -/
def wrS (N : Nat) (E : SE) (L : List LV) (o1 o2 : Oper) : Option RwL := match ixS N E L o1, o2.guard, o2.dst, o2.op with
  | some u, none, none, .store e (.tmp z) y => match Nat.beq z u.k1, evS E y, findT TY e with
    | true, some (.q (.c (.v (.int K m)))), some r => match Nat.beq (sizeP r.zero) 1, lookS E u.k1 with
      | true, none => some { u with K := K, m := m }
      | _, _ => none
    | _, _, _ => none
  | _, _, _, _ => none
theorem wrS_ok {N : Nat} {E : SE} {L : List LV} {o1 o2 : Oper} {u : RwL} (h : wrS N E L o1 o2 = some u) : ∃ u0 : RwL, ixS N E L o1 = some u0 ∧ u = { u0 with K := u.K, m := u.m } ∧ o2.guard = none ∧ o2.dst = none ∧ lookS E u0.k1 = none ∧ ∃ e y, o2.op = .store e (.tmp u0.k1) y ∧ evS E y = some (.v (.int u.K u.m)) ∧ (Try.prog.info? e).map (·.size) = some 1 := by
  unfold wrS at h
  split at h
  · rename_i u0 e z y h0 hg hd ho
    split at h
    · rename_i K m r hz hy hr
      split at h
      · rename_i h9 hl
        cases h
        obtain rfl := Nat.eq_of_beq_eq_true hz
        obtain ⟨h1, h2⟩ := findT_ok TY_ok hr
        obtain ⟨it, d, h3, _, h5, _⟩ := h1.info
        exact ⟨u0, h0, rfl, hg, hd, hl, e, y, ho, hy, by rw [← h2, h3, Option.map_some, h5, Nat.eq_of_beq_eq_true h9]⟩
      · cases h
    · cases h
  · cases h
theorem lookS_cons {E : SE} {k j : Nat} {v : SV} (h : Nat.beq k j = false) : lookS ((k, v) :: E) j = lookS E j := by rw [lookS, h]
theorem evS_new {E : SE} {k : Nat} {v u : SV} {x : Operand} (hk : lookS E k = none) (h : evS E x = some u) : evS ((k, v) :: E) x = some u := by
  cases x with
  | tmp j =>
    have h : lookS E j = some u := h
    cases hb : Nat.beq k j with
    | false => exact (lookS_cons hb).trans h
    | true =>
      rw [← Nat.eq_of_beq_eq_true hb, hk] at h
      cases h
  | _ => exact h
section
variable {b : Base} {ops : Array Oper} {Q : Exit → Act → World → Prop} {N n : Nat} {G : Nat → Nat} {S : Nat → Prop} {E : SE} {L : List LV} {R : List Res} {F M : World → Prop} {w0 : World} {Z : Act → Prop} {rest : List Oper} {o1 o2 : Oper} {u : RwL}
theorem l_cell (h : ldS N E L o1 o2 = some u) (ha : Arr u.t n) (hi : u.i < n) (v : Value) (hv : (catP u.ps)[u.off + u.i]? = some v) (hn : lS Try.prog b ops Q N rest ⟨(u.k2, .v v) :: (u.k1, .a u.j (u.off + u.i)) :: E, L, R, F, M⟩) : lS Try.prog b ops Q N (o1 :: o2 :: rest) ⟨E, L, R, F, M⟩ := by
  obtain ⟨u0, h0, hu0, hg, hd, hk, e, d, ho, hu, hr⟩ := ldS_ok h
  rw [hu0] at ha hi hv hn
  dsimp only at ha hi hv hn
  obtain ⟨hg1, hd1, hk1, hl, x, y, K, ho1, hx, hy⟩ := ixS_ok h0
  obtain ⟨te, ht, he⟩ := ha
  refine l_op (.a u0.j (u0.off + 1 * u0.i)) trivial hg1 hd1 hk1 (runO_ixA u0.i ho1 ht he hx hy hi) ?_
  rw [Nat.one_mul]
  exact l_opV (.v v) trivial hg hd hk (runO_ldA v ho (by show lookS ((u0.k1, _) :: E) u0.k1 = _; unfold lookS; rw [Nat.beq_refl]) hl hv hu hr) hn
theorem n_cell (hst : StW b G S L R F M w0) (h : ldS N E L o1 o2 = some u) (ha : Arr u.t n) (hi : u.i < n) (v : Value) (hv : (catP u.ps)[u.off + u.i]? = some v) (hn : nS Try.prog ops N w0 Z G rest ((u.k2, .v v) :: (u.k1, .a u.j (u.off + u.i)) :: E)) : nS Try.prog ops N w0 Z G (o1 :: o2 :: rest) E := by
  obtain ⟨u0, h0, hu0, hg, hd, hk, e, d, ho, hu, hr⟩ := ldS_ok h
  rw [hu0] at ha hi hv hn
  dsimp only at ha hi hv hn
  obtain ⟨hg1, hd1, hk1, hl, x, y, K, ho1, hx, hy⟩ := ixS_ok h0
  obtain ⟨te, ht, he⟩ := ha
  refine n_op hst (.a u0.j (u0.off + 1 * u0.i)) trivial hg1 hd1 hk1 (runO_ixA u0.i ho1 ht he hx hy hi) ?_
  rw [Nat.one_mul]
  exact n_opV hst (.v v) trivial hg hd hk (runO_ldA v ho (by show lookS ((u0.k1, _) :: E) u0.k1 = _; unfold lookS; rw [Nat.beq_refl]) hl hv hu hr) hn
theorem l_put (h : wrS N E L o1 o2 = some u) (ha : Arr u.t n) (hi : u.i < n) (ps' : List Pt) (hp : OkP ps') (hlt : u.off + u.i < (catP u.ps).size) (hs : (catP ps').toList = (catP u.ps).toList.set (u.off + u.i) (.int u.K u.m)) (hn : lS Try.prog b ops Q N rest ⟨(u.k1, .a u.j (u.off + u.i)) :: E, putL L u.j ps', R, F, M⟩) : lS Try.prog b ops Q N (o1 :: o2 :: rest) ⟨E, L, R, F, M⟩ := by
  obtain ⟨u0, h0, hu, hg, hd, hl, e, y', ho, hy', he1⟩ := wrS_ok h
  rw [hu] at ha hi hlt hs hn
  dsimp only at ha hi hlt hs hn
  obtain ⟨hg1, hd1, hk1, hlk, x, y, K, ho1, hx, hy⟩ := ixS_ok h0
  obtain ⟨te, ht, he⟩ := ha
  refine l_op (.a u0.j (u0.off + 1 * u0.i)) trivial hg1 hd1 hk1 (runO_ixA u0.i ho1 ht he hx hy hi) ?_
  rw [Nat.one_mul]
  exact l_stA ps' hg hd ho (by show lookS ((u0.k1, _) :: E) u0.k1 = _; unfold lookS; rw [Nat.beq_refl]) (evS_new hl hy') hlk he1 rfl rfl hlt hp hs hn
theorem n_ix (hst : StW b G S L R F M w0) (h : ixS N E L o1 = some u) (ha : Arr u.t n) (hi : u.i < n) (hn : nS Try.prog ops N w0 Z G rest ((u.k1, .a u.j (u.off + u.i)) :: E)) : nS Try.prog ops N w0 Z G (o1 :: rest) E := by
  obtain ⟨hg1, hd1, hk1, hl, x, y, K, ho1, hx, hy⟩ := ixS_ok h
  obtain ⟨te, ht, he⟩ := ha
  refine n_op hst (.a u.j (u.off + 1 * u.i)) trivial hg1 hd1 hk1 (runO_ixA u.i ho1 ht he hx hy hi) ?_
  rw [Nat.one_mul]
  exact hn
/-- A cell is written. -/
def stC (E : SE) (L : List LV) (o : Oper) : Option RwL := match o.guard, o.dst, o.op with
  | none, none, .store e x y => match evS E x, evS E y, findT TY e with
    | some (.a j off), some (.q (.c (.v (.int K m)))), some r => match Nat.beq (sizeP r.zero) 1, lookL L j with
      | true, some ps => some { k1 := 0, k2 := 0, j := j, off := off, i := 0, t := e, ps := ps, K := K, m := m }
      | _, _ => none
    | _, _, _ => none
  | _, _, _ => none
theorem l_st1 (h : stC E L o1 = some u) (ps' : List Pt) (hp : OkP ps') (hlt : u.off < (catP u.ps).size) (hs : (catP ps').toList = (catP u.ps).toList.set u.off (.int u.K u.m)) (hn : lS Try.prog b ops Q N rest ⟨E, putL L u.j ps', R, F, M⟩) : lS Try.prog b ops Q N (o1 :: rest) ⟨E, L, R, F, M⟩ := by
  unfold stC at h
  split at h
  · rename_i e x y hg hd ho
    split at h
    · rename_i j off K m r hx hy hr
      split at h
      · rename_i ps h9 hl
        cases h
        obtain ⟨h1, h2⟩ := findT_ok TY_ok hr
        obtain ⟨it, d, h3, _, h5, _⟩ := h1.info
        exact l_stA ps' hg hd ho hx hy hl (by rw [← h2, h3, Option.map_some, h5, Nat.eq_of_beq_eq_true h9]) rfl rfl hlt hp hs hn
      · cases h
    · cases h
  · cases h
theorem n_eq {l : List Oper} (k : Nat) {v : SV} (v' : SV) (h : lookS E k = some v) (he : v = v') (hn : nS Try.prog ops N w0 Z G l ((k, v') :: E)) : nS Try.prog ops N w0 Z G l E := fun hE => by
  subst he
  exact fun a ha => hn (hE.cons (hE.get h)) a (ha.more (ha.get k _ (by rw [look_den, h]; rfl)))
theorem n_num {l : List Oper} (k : Nat) {K : IntKind} {m : Int} (n : Int) (h : lookS E k = some (.v (.int K m))) (he : m = n) (hn : nS Try.prog ops N w0 Z G l ((k, .v (.int K n)) :: E)) : nS Try.prog ops N w0 Z G l E := n_eq k _ h (by rw [he]) hn
/-- A drawn region without new variables, behind which nothing comes. -/
theorem s_drawnN {l : List Oper} {id : Nat} (n : Nat) (hB : newRB N n l [] = true) (h : ∀ G S w0, StW b G S L R F M w0 → nS Try.prog l.toArray N w0 (newPost Try.prog l.toArray (NoPanic Q) w0 (nvs []) (l.drop n) N) G (l.take n) E) : cS Try.prog b (.region id l.toArray true) Q N ⟨E, L, R, F, M⟩ := by
  unfold newRB at hB
  simp only [Bool.and_eq_true] at hB
  obtain ⟨⟨⟨⟨h1, _⟩, h3⟩, h4⟩, h5⟩ := hB
  exact fun a w ⟨G, S, g1, g2, g3⟩ => wp_region_noPanic (c_new n (nvs []) (Nat.le_of_ble_eq_true h1) rfl (nvB_ok h3) rfl h4 h5 (fun _ _ _ _ _ h => h) (h G S w g3 g2) a g1)
/-- Behind the reads, the rest in its order. -/
theorem n_L (hst : StW b G S L R F M w0) {T' : List Oper} {l : List Oper} {E2 : SE} (h : autoXN ops N L l.length l E = ([], E2)) (hn : lS Try.prog b ops Q N T' ⟨E2, L, R, F, M⟩) : nS Try.prog ops N w0 (newPost Try.prog ops Q w0 (nvs []) T' N) G l E :=
  n_auto2 hst h (n_new hst [] [] [] rfl rfl rfl (fun _ h => by cases h) trivial rfl rfl trivial hn)
end
/-- 'x, ok := f(..)', the order drawn: n operations that are reckoned or called, then the new variable, its store, the second part. -/
def tupRB (N n : Nat) (t : Tmp) (t2 : Tmp) (ty : TypeId) (l : List Oper) : Option (Operand × Operand) := match l.drop n with
  | [oa, os, ot] => match oa.guard, oa.dst, oa.op, os.guard, os.dst, os.op with
    | none, some k, .alloc ty1, none, none, .store ty2 (.tmp k2) x => match ot.guard, ot.dst, ot.op with
      | none, some k3, .assign y => match Nat.beq k t && Nat.beq ty1 ty && Nat.beq ty2 ty && Nat.beq k2 t && Nat.beq k3 t2 && Nat.ble n l.length && Nat.blt t N && Nat.blt t2 N && (findT TY ty).isSome && Region.noSelect l.toArray && headC .any l.toArray n l 0 && chainB .any l 0 none && decide (Region.ready .any l.toArray (marks n 0 (Array.replicate l.toArray.size false)) = [n]) && decide (Region.ready .any l.toArray ((marks n 0 (Array.replicate l.toArray.size false)).setIfInBounds n true) = [n + 1]) && decide (Region.ready .any l.toArray (((marks n 0 (Array.replicate l.toArray.size false)).setIfInBounds n true).setIfInBounds (n + 1) true) = [n + 2]) && decide (Region.ready .any l.toArray ((((marks n 0 (Array.replicate l.toArray.size false)).setIfInBounds n true).setIfInBounds (n + 1) true).setIfInBounds (n + 2) true) = []) with
        | true => some (x, y)
        | false => none
      | _, _, _ => none
    | _, _, _, _, _, _ => none
  | _ => none
section
variable {b : Base} {Q : Exit → Act → World → Prop} {N : Nat} {G : Nat → Nat} {S : Nat → Prop} {E E' : SE} {L : List LV} {R : List Res} {F M : World → Prop} {w0 : World} {l : List Oper} {id : Nat} {y : Code} {ops : Array Oper} {K : Act → World → Prop} {t t2 : Tmp} {ty : TypeId} {x z : Operand} {ps : List Pt} {q : SQ}
theorem s_T (n : Nat) (t t2 : Tmp) (ty : TypeId) (hB : tupRB N n t t2 ty l = some (x, z))
    (h : ∀ K : Act → World → Prop, (∀ e', cS Try.prog b y Q N e' → kS b K N e') → ∀ G S w0, StW b G S L R F M w0 → nS Try.prog l.toArray N w0 (tupEnd Try.prog (NoPanic (Exit.then K Q)) w0 t t2 ty x z (catP (zT ty)).size) G (l.take n) E) : cS Try.prog b (.seq (.region id l.toArray true) y) Q N ⟨E, L, R, F, M⟩ := by
  unfold tupRB at hB
  split at hB
  · rename_i oa os ot hl
    split at hB
    · rename_i k ty1 ty2 k2 x1 h1 h2 h3 h4 h5 h6
      split at hB
      · rename_i k3 y1 h7 h8 h9
        split at hB
        · rename_i hc
          simp only [Option.some.injEq, Prod.mk.injEq] at hB
          obtain ⟨rfl, rfl⟩ := hB
          simp only [Bool.and_eq_true, decide_eq_true_eq] at hc
          obtain ⟨⟨⟨⟨⟨⟨⟨⟨⟨⟨⟨⟨⟨⟨⟨e1, e2⟩, e3⟩, e4⟩, e5⟩, e6⟩, _⟩, _⟩, e9⟩, e10⟩, e11⟩, e12⟩, e13⟩, e14⟩, e15⟩, e16⟩ := hc
          obtain rfl := Nat.eq_of_beq_eq_true e1
          obtain rfl := Nat.eq_of_beq_eq_true e2
          obtain rfl := Nat.eq_of_beq_eq_true e3
          obtain rfl := Nat.eq_of_beq_eq_true e4
          obtain rfl := Nat.eq_of_beq_eq_true e5
          have hll : l = l.take n ++ [oa, os, ot] := by rw [← hl, List.take_append_drop]
          obtain ⟨r, hr, hok, ht, hz⟩ := zT_ok e9
          obtain ⟨it, d, i6, _, _, i9, _⟩ := hok.info
          refine s_seq fun K hK a w ⟨G, S, g1, g2, g3⟩ => wp_region_noPanic ?_
          exact c_tup n _ _ _ _ _ (catP (zT ty2)) hll (by rw [List.length_take]; have := Nat.le_of_ble_eq_true e6; omega) h6 h9 h4 h7 h5 h8 h1 h2 rfl e10 e11 e12 e13 e14 e15 e16 (fun _ _ _ _ _ h => h) h3 (by rw [hz, ← ht, i6, Option.bind_some, i9]) (h K hK G S w g3 g2) a g1
        · cases hB
      · cases hB
    · cases hB
  · cases hB
/-- Its end. -/
def endT (ops : Array Oper) (N : Nat) (t t2 : Tmp) (ty : TypeId) (x z : Operand) (L : List LV) (l : List Oper) (E : SE) : Option (SE × List Pt × SQ) := match autoXN ops N L l.length l E with
  | ([], E1) => match evS E1 x, evS E1 z with
    | some (.q (.p ps)), some (.q q) => match Nat.beq (sizeP ps) (sizeP (zT ty)) && (findT TY ty).isSome && farL t L && farE t E1 && Nat.blt t N && Nat.blt t2 N, lookS E1 t with
      | true, none => some (E1, ps, q)
      | _, _ => none
    | _, _ => none
  | _ => none
theorem n_T (hst : StW b G S L R F M w0) (hK : ∀ e', cS Try.prog b y Q N e' → kS b K N e') (h : endT ops N t t2 ty x z L l E = some (E', ps, q)) (hn : cS Try.prog b y Q N ⟨(t2, .q q) :: (t, .a t 0) :: E', ⟨t, none, ty, ps⟩ :: L, R, F, M⟩) : nS Try.prog ops N w0 (tupEnd Try.prog (NoPanic (Exit.then K Q)) w0 t t2 ty x z (catP (zT ty)).size) G l E := by
  unfold endT at h
  split at h
  · rename_i E1 h1
    split at h
    · rename_i ps1 q1 h2 h3
      split at h
      · rename_i hc hl
        cases h
        simp only [Bool.and_eq_true] at hc
        obtain ⟨⟨⟨⟨⟨c1, c2⟩, c3⟩, c4⟩, c5⟩, c6⟩ := hc
        refine n_auto2 hst h1 fun hE => ?_
        obtain ⟨r, hr, hok, ht, hz⟩ := zT_ok c2
        obtain ⟨it, d, i6, _, i8, _⟩ := hok.info
        have hp : OkP ps := hE.ev h2
        have hs : sizeP ps = sizeP r.zero := hz ▸ Nat.eq_of_beq_eq_true c1
        have hev : ∀ {u : Operand} {s : SV}, evS E' u = some s → ∀ v, ev ((t, v) :: denE G E') u = some (s.den G) := fun {u s} hu v => by
          cases u with
          | tmp j =>
            have hu : lookS E' j = some s := hu
            show look ((t, v) :: denE G E') j = _
            by_cases e : t = j
            · rw [← e, hl] at hu
              cases hu
            · rw [look_cons, if_neg e, look_den, hu]
              rfl
          | _ => exact evS_ok (E := E') hu
        refine f_tupEnd (catP ps) (q.den) c5 c6 (fun v => hev h2 v) (fun v => hev h3 v) (by rw [hz, hok.2.size, hp.size, hs]) (by rw [← ht, i6, hp.size, hs, ← i8]; rfl) (fun v hv => hp.one v hv) fun g w' hg hU hb a ha => ?_
        have hst2 := hst.news (E := E') (gs := fun _ => g) hU [⟨t, none, ty, ps⟩] (by simp [freeV, c3, c4, farL]) (fun u hu => by rw [List.mem_singleton.1 hu]; exact hp) (fun _ _ => hg) (fun i j hi hj hne => absurd (show i = j by simp at hi hj; omega) hne) fun u hu => by
          rw [List.mem_singleton.1 hu]
          show Blk w' (if t = t then g else G t) ty (catP ps)
          rw [if_pos rfl]
          exact hb
        refine hK _ hn a w' ⟨_, S, ?_, (OkE.cons hE (v := .a t 0) trivial).cons (hE.ev h3), hst2⟩
        have e1 : denE (gOf [⟨t, none, ty, ps⟩] 0 (fun _ => g) G) E' = denE G E' := denE_far (j := t) (g := g) c4
        show Fr N ((t2, q.den) :: (t, .pointer (some ⟨if t = t then g else G t, 0, none⟩)) :: denE (gOf [⟨t, none, ty, ps⟩] 0 (fun _ => g) G) E') a
        rw [if_pos rfl, e1]
        exact ha
      · cases h
    · cases h
  · cases h
end
theorem Ct.imp {α : Type} {F F' : World → Prop} {f : FuncId} {qs : List SQ} {post : Post α} (c : Ct F f qs post) (h : ∀ w, F' w → F w) : Ct F' f qs post := ⟨c.own, c.spec.imp h⟩
section
variable {P : Program} {N : Nat} {E : SE} {o : Oper} {x : Operand} {t : TypeId} {d : TypeDesc} {L : List LV} {R : List Res} {F M : World → Prop}
/-- A cell behind a pointer. -/
theorem run_ldM {a0 : Addr} {v : Value} (ho : o.op = .load t x) (hx : evS E x = some (.v (.pointer (some a0)))) (hu : P.underlying t = some d) (hr : d.isRow = false) (hc : ∀ G S w, View G S L R F M w → w.cell? a0 = some v) : ∀ (G : Nat → Nat) (S : Nat → Prop) (a : Act) (w : World), Fr N (denE G E) a → View G S L R F M w → (execOp a.eval o).run P w = .ok (.value ((SV.v v).den G)) w := fun G S a w ha hw => by
  have h1 := ha.eval (evS_ok (G := G) hx)
  have h2 := run_load_cell (P := P) (t := t) hu hr (hc G S w hw)
  unfold execOp
  simp only [ho, h1, SV.den, SQ.den, SC.den, h2, Sem.run_bind, Sem.run_pure, Result.andThen_ok]
/-- Some cells behind a pointer. -/
theorem run_ldR {g off : Nat} {q : SQ} {cs : Array Value} (ho : o.op = .load t x) (hx : evS E x = some (.v (.pointer (some ⟨g, off, none⟩)))) (hu : P.underlying t = some d) (hr : d.isRow = true) (hi : (P.info? t).map (·.size) = some cs.size) (hq : q.den = .agg cs) (hc : ∀ G S w, View G S L R F M w → w.rangeAt g off cs.toList) : ∀ (G : Nat → Nat) (S : Nat → Prop) (a : Act) (w : World), Fr N (denE G E) a → View G S L R F M w → (execOp a.eval o).run P w = .ok (.value ((SV.q q).den G)) w := fun G S a w ha hw => by
  have h1 := ha.eval (evS_ok (G := G) hx)
  have h2 := run_load_row (P := P) (t := t) hu hr hi (hc G S w hw)
  rw [show (SV.q q).den G = .agg cs from hq]
  unfold execOp
  simp only [ho, h1, SV.den, SQ.den, SC.den, h2, Sem.run_bind, Sem.run_pure, Result.andThen_ok]
end
/-- The call that comes next, in the text's order. -/
def nextH (ops : Array Oper) (N : Nat) (L : List LV) (Fa : Told) (l : List (Nat × Oper)) (E : SE) : Option (List (Nat × Oper) × SE × Nat × Nat × FuncId × List SV) := match autoH TY ops N L Fa l E with
  | ((i, o) :: l', E') => match callB N E' o, farP i Fa with
    | some (k, f, vs), true => some (l', E', i, k, f, vs)
    | _, _ => none
  | _ => none
theorem h_X {α : Type} {post : Post α} {F F' M : World → Prop} [Pst F'] [hP : ∀ x, Pst (post.p x)] {b : Base} {G : Nat → Nat} {S : Nat → Prop} {L : List LV} {R : List Res} {w0 : World} {ops : Array Oper} {Q : Exit → Act → World → Prop} {N : Nat} {T' : List Oper} {Fa : Told} {l l' : List (Nat × Oper)} {E E' : SE} {i k : Nat} {f : FuncId} {qs : List SQ} (hst : StW b G S L R F M w0) (c : Ct F' f qs post) (h : nextH ops N L Fa l E = some (l', E', i, k, f, qs.map SV.q))
    (hF : ∀ w o, View G S L R F M w → Uses o Fa w → F' w)
    (hn : ∀ x, hS Try.prog ops Q N T' G w0 l' ((k, (post.ret x).sv) :: E') ((i, fun w => ∃ y, (post.ret x).den = (post.ret y).den ∧ post.p y w) :: Fa)) : hS Try.prog ops Q N T' G w0 l E Fa := by
  unfold nextH at h
  split at h
  · rename_i i2 o l2 E2 h2
    split at h
    · rename_i k2 f2 v2 h3 hf
      simp only [Option.some.injEq, Prod.mk.injEq] at h
      obtain ⟨rfl, rfl, rfl, rfl, rfl, rfl⟩ := h
      obtain ⟨hg, hd, hk, xs, ats, ho, hx⟩ := callB_ok h3
      exact h_auto TY_ok hst h2 (h_callE hst (qs.map SQ.den) hf hg hd hk c.own ho hx (fun _ => den_q qs G) c.spec (fun w hw hu => hF w _ hw hu) fun x _ => hn x)
    · cases h
  · cases h
instance {α : Type} {f : α → RV} {x : α} : Pst (({ ret := f } : Post α).p x) := ⟨fun _ _ _ _ => trivial⟩
section
variable {α : Type} {fe : α → SQ} {b : Base} {ops : Array Oper} {Q : Exit → Act → World → Prop} {N : Nat} {E : SE} {L : List LV} {R : List Res} {F M : World → Prop} {rest : List Oper} {o : Oper}
/-- One of some equal parts of a variable is written. -/
theorem l_stF {t : TypeId} {x z : Operand} {j n k i : Nat} {l : List α} {ps : List Pt} (y : α) (ho : (o.guard, o.dst, o.op) = (none, none, .store t x z)) (hx : evS E x = some (.a j (k * i))) (hz : evS E z = some (.q (fe y))) (hl : lookL L j = some (.agg n (flatF fe l).toArray :: ps)) (ht : (findT TY t).map (fun r => sizeP r.zero) = some k) (hok : OkF k fe l) (hy : OkP (fe y).parts1 ∧ (fe y).cl.length = k) (hi : i < l.length)
    (hn : lS Try.prog b ops Q N rest ⟨E, putL L j (.agg n (flatF fe (l.set i y)).toArray :: ps), R, F, M⟩) : lS Try.prog b ops Q N (o :: rest) ⟨E, L, R, F, M⟩ := fun a w ⟨G, S, f1, f2, f3⟩ => by
  simp only [Prod.mk.injEq] at ho
  obtain ⟨hg, hd, ho⟩ := ho
  obtain ⟨u, hu, rfl, hps⟩ := lookL_mem hl
  have e1 := f1.eval (evS_ok hx)
  have e2 := f1.eval (evS_ok hz)
  obtain ⟨x0, hx0⟩ : ∃ x0, l[i]? = some x0 := ⟨_, List.getElem?_eq_getElem hi⟩
  obtain ⟨A, Z, h1, h2, h3⟩ := flatF_split hok hx0
  have hOkP := (f3.var u hu).2.1
  rw [hps] at hOkP
  have hc0 : (fe x0).cl.length = k := (hok x0 (List.mem_of_getElem? hx0)).2
  have hlen : (flatF fe (l.set i y)).length = (flatF fe l).length := by rw [h1, h3]; simp [hy.2, hc0]
  have hcs : (fe y).den.cells.size = k := by have := hy.2; simpa [SQ.cl] using this
  have hcat : (catP (.agg n (flatF fe l).toArray :: ps)).toList = A ++ ((fe x0).cl ++ (Z ++ (catP ps).toList)) := by rw [catP_cons, Array.toList_append, Pt.cells, h1]; simp
  have hcat2 : (catP (.agg n (flatF fe (l.set i y)).toArray :: ps)).toList = A ++ ((fe y).cl ++ (Z ++ (catP ps).toList)) := by rw [catP_cons, Array.toList_append, Pt.cells, h3]; simp
  cases hr : findT TY t with
  | none => rw [hr] at ht; cases ht
  | some r =>
    rw [hr] at ht
    obtain ⟨g1, g2⟩ := findT_ok TY_ok hr
    obtain ⟨it, d, g3, _, g5, _⟩ := g1.info
    have ht : sizeP r.zero = k := by injection ht
    have hblk := f3.at u hu
    rw [hps] at hblk
    have hst := run_store_part (P := Try.prog) (t := t) (v := (fe y).den) (off := k * i) hblk (by rw [← g2, g3, hcs, Option.map_some, g5, ht]) (by rw [hcs, ← Array.length_toList, hcat, List.length_append, List.length_append, hc0, h2]; omega) (SQ.cl_one hy.1)
    have e3 : ((catP (.agg n (flatF fe l).toArray :: ps)).toList.take (k * i) ++ (fe y).den.cells.toList ++ (catP (.agg n (flatF fe l).toArray :: ps)).toList.drop (k * i + (fe y).den.cells.size)).toArray = catP (.agg n (flatF fe (l.set i y)).toArray :: ps) := by
      apply Array.ext'
      rw [hcat2, hcat, hcs, ← h2]
      have e4 : A ++ ((fe x0).cl ++ (Z ++ (catP ps).toList)) = (A ++ (fe x0).cl) ++ (Z ++ (catP ps).toList) := by rw [List.append_assoc]
      have e5 : (A ++ ((fe x0).cl ++ (Z ++ (catP ps).toList))).drop (A.length + k) = Z ++ (catP ps).toList := by
        rw [e4]
        exact List.drop_left' (by rw [List.length_append, hc0])
      rw [List.take_left, e5, List.append_assoc]
      rfl
    rw [e3] at hst
    refine wpl_skip (w' := w.setRow (G u.j) (catP (.agg n (flatF fe (l.set i y)).toArray :: ps))) (oneS hg) (by
      unfold execOp
      simp only [ho, e1, e2, SV.den, hst, Sem.run_bind, Sem.run_pure, Result.andThen_ok]) ?_
    rw [hd]
    refine hn _ _ ⟨G, S, f1, f2, f3.set (lookL_name hl) fun q hq => ?_⟩
    rcases List.mem_cons.1 hq with rfl | hq
    · have h6 := hOkP (.agg n (flatF fe l).toArray) List.mem_cons_self
      refine ⟨?_, fun v hv => flatF_one (hok.set hy) v hv⟩
      have h7 : (flatF fe l).toArray.size = n := h6.1
      rw [List.size_toArray] at h7 ⊢
      rw [hlen, h7]
    · exact hOkP q (List.mem_cons_of_mem _ hq)
end
theorem no_ok : ∀ u ∈ ([] : List SQ), u.Ok := fun _ h => by cases h
end Go.Proofs.Ythkbejheedffjaa
/-
  SLICES OF ONE'S OWN THAT END BEFORE THEIR BLOCK DOES (s[:n:n]).
-/
namespace Go.Proofs.Ythkbejheedffjaa
open Go.RowKit Go.IntWalk

/-- A slice of one's own; its block may be longer than what it may grow to. -/
def OwnL {α : Type} (lo : Nat) (e : TypeId) (k : Nat) (fe : α → SQ) (A : Option Addr) (c : Nat) (l : List α) : Res where
  holds w S := ∃ c0, (l.length ≤ c ∧ c ≤ c0) ∧ (OwnS lo e k fe A c0 l).holds w S
  keep := fun ⟨c0, h1, h2⟩ hk => ⟨c0, h1, (OwnS lo e k fe A c0 l).keep h2 hk⟩
  lt := fun ⟨c0, _, h2⟩ => (OwnS lo e k fe A c0 l).lt h2
section
variable {α : Type} {lo e k c : Nat} {fe : α → SQ} {A : Option Addr} {l : List α} {w : World} {S : Nat → Prop}
theorem OwnS.loose (h : (OwnS lo e k fe A c l).holds w S) : (OwnL lo e k fe A c l).holds w S := ⟨c, ⟨(OwnS.rd h).1, Nat.le_refl _⟩, h⟩
theorem OwnL.rd (h : (OwnL lo e k fe A c l).holds w S) : Rd k fe A c l w := by
  obtain ⟨c0, ⟨h1, h2⟩, h3⟩ := h
  obtain ⟨r1, r2, r3, r4, r5⟩ := OwnS.rd h3
  exact ⟨h1, by omega, fun e => by have := r3 e; omega, r4, r5⟩
theorem OwnL.cut (h : (OwnL lo e k fe A c l).holds w S) {n : Nat} (hn : n ≤ l.length) : (OwnL lo e k fe A n (l.take n)).holds w S := by
  obtain ⟨c0, ⟨h1, h2⟩, h3⟩ := h
  exact ⟨c0, ⟨by rw [List.length_take]; omega, by omega⟩, OwnS.cut h3 n⟩
theorem rd_ownL {L : List LV} {R : List Res} {F M : World → Prop} (i : Nat) (hi : R[i]? = some (OwnL lo e k fe A c l)) : ∀ G S w, View G S L R F M w → Rd k fe A c l w := fun G S w hv => by
  obtain ⟨S1, _, h, _⟩ := hv.res.at hi
  exact OwnL.rd h
end
section
variable {P : Program} {b : Base} {ops : Array Oper} {Q : Exit → Act → World → Prop} {N : Nat} {E : SE} {L : List LV} {R : List Res} {F M : World → Prop} {r : Res} {ι : Type}
/-- What is owned, said otherwise. -/
theorem k_swap {K : Act → World → Prop} (i : Nat) (r' : ι → Res) (hi : R[i]? = some r) (h : ∀ w S, r.holds w S → ∃ x, (r' x).holds w S) (hn : ∀ x, kS b K N ⟨E, L, R.set i (r' x), F, M⟩) : kS b K N ⟨E, L, R, F, M⟩ := fun a w ⟨G, S, h1, h2, h3⟩ => by
  obtain ⟨S1, h5, hput⟩ := h3.put hi
  obtain ⟨x, h6⟩ := h w S1 h5
  obtain ⟨S', h7⟩ := hput _ w S1 (Chg.refl _ _) h6 (fun _ h _ => h)
  exact hn x a w ⟨G, S', h1, h2, h7⟩
theorem s_swap {y : Code} (i : Nat) (r' : ι → Res) (hi : R[i]? = some r) (h : ∀ w S, r.holds w S → ∃ x, (r' x).holds w S) (hn : ∀ x, cS P b y Q N ⟨E, L, R.set i (r' x), F, M⟩) : cS P b y Q N ⟨E, L, R, F, M⟩ := k_swap (K := fun a w => y.wp P Q a w) i r' hi h hn
theorem l_swap {l : List Oper} (i : Nat) (r' : ι → Res) (hi : R[i]? = some r) (h : ∀ w S, r.holds w S → ∃ x, (r' x).holds w S) (hn : ∀ x, lS P b ops Q N l ⟨E, L, R.set i (r' x), F, M⟩) : lS P b ops Q N l ⟨E, L, R, F, M⟩ := k_swap (K := fun a w => wpList P ops Q l a w) i r' hi h hn
end
/-- An append to what is one's own, up to where the slice ends. -/
theorem OwnL.grow {α : Type} {P : Program} {T : List TyR} (hT : OkT P T) {t e : TypeId} {lo sz bs c d : Nat} {fe : α → SQ} {A : Option Addr} {l m : List α} {ad : Addr} {w : World} {S : Nat → Prop} (ty : TypeId) (hs : slS T t = some (e, sz, bs)) (h0 : 0 < sz) (h : (OwnL lo e sz fe A c l).holds w S) (hok : OkF sz fe m)
    (hcells : ∀ j u, (flatF fe m)[j]? = some u → w.cell? (ad.add j) = some u) (hb : (l.length + m.length) * bs ≤ 140737488355328) (hm : l.length + m.length ≤ 9223372036854775807 - 64) (hlo : lo ≤ w.heap.size) :
    ∃ A' c' w' S', (Builtin.append_ #[t, t] ty #[.slice A l.length c, .slice (some ad) m.length d]).run P w = .ok (.slice A' (l ++ m).length c') w' ∧ Chg S w w' ∧ (OwnL lo e sz fe A' c' (l ++ m)).holds w' S' ∧ ∀ k, S' k → k < w.heap.size → S k := by
  obtain ⟨c0, ⟨hlc, hc0⟩, h3⟩ := h
  by_cases hcc : c = c0
  · subst hcc
    obtain ⟨A', c', w', S', k1, k2, k3, k4⟩ := OwnS.grow hT ty hs h0 h3 hok hcells hb hm hlo (d := d)
    exact ⟨A', c', w', S', k1, k2, OwnS.loose k3, k4⟩
  obtain ⟨ht, ie, z, hi, hz, hsz, hbs, hzs, _⟩ := slS_ok hT hs
  subst hsz
  subst hbs
  obtain ⟨h1, ⟨hlen, hrow⟩, hS⟩ := h3
  rcases hrow with ⟨hv, _⟩ | ⟨g, cap, cur, hv, hbg, hg, hnc, hcm, hcs, htake⟩
  · injection hv with _ _ hv
    omega
  injection hv with v1 _ v2
  subst v1
  subst v2
  have hl := flatF_len hok
  have h1m := flatF_one hok
  have hall : (flatF fe (l ++ m)).length = (l ++ m).length * ie.size := flatF_len (h1.app hok)
  by_cases hroom : l.length + m.length ≤ c
  · have hfit : l.length * ie.size + (flatF fe m).length ≤ cur.size := by rw [hl, hcs, ← Nat.add_mul]; exact Nat.mul_le_mul_right _ (by omega)
    have hr := run_append_room (P := P) w t ty e ie ht hi g l.length c cur hg ad m.length d (flatF fe m) hl hcells h1m hroom hfit
    rw [← List.length_append] at hr
    refine ⟨_, _, _, S, hr, (Chg.row w g _).mono fun k _ hk => (hS k).2 (by rw [hk]; rfl), ⟨c0, ⟨by rw [List.length_append]; omega, hc0⟩, h1.app hok, ⟨hall, .inr ⟨g, c0, _, rfl, hbg, setRow_heap w g cur _ e _ hg, by rw [List.length_append]; omega, hcm, ?_, ?_⟩⟩, hS⟩, fun k hk _ => hk⟩
    · simp only [List.size_toArray, List.length_append, List.length_take, List.length_drop, Array.length_toList]
      omega
    · rw [htake, ← hall, flatF_app]
      exact List.take_left
  · have holds : ∀ j u, (flatF fe l)[j]? = some u → w.cell? ((⟨g, 0, none⟩ : Addr).add j) = some u := fun j u hj => by
      have hB : Blk w g e cur := hg
      rw [Addr.add_mid, hB.cell, Nat.zero_add, ← Array.getElem?_toList]
      rw [← htake] at hj
      rw [List.getElem?_take] at hj
      split at hj
      · exact hj
      · cases hj
    have hr := run_append_grow (P := P) w t ty e ie z ht hi hz ⟨g, 0, none⟩ l.length c (flatF fe l) hlen holds ad m.length d (flatF fe m) hl hcells (by omega) (by omega) (growslice_fits (by omega) hb)
    have hge := grownCap_ge w (l.length + m.length) c e
    have hcm2 : grownCap w (l.length + m.length) c e ≤ maxLen := grownCap_le_maxLen w (l.length + m.length) c e (by unfold maxLen; omega)
    have hgr : w.grownBy (w.drew.alloc (.cells ((flatF fe l).toArray ++ (flatF fe m).toArray ++ Builtin.zeroCells z.cells (grownCap w (l.length + m.length) c e - (l.length + m.length))) e)) none := ⟨rfl, rfl, rfl, by simp, fun k hk _ => heap_alloc_old w.drew _ hk⟩
    have hr2 := hr
    rw [show Value.slice (some ⟨w.heap.size, 0, none⟩) (l.length + m.length) = Value.slice (some ⟨w.heap.size, 0, none⟩) (l ++ m).length by rw [List.length_append]] at hr2
    refine ⟨some ⟨w.heap.size, 0, none⟩, grownCap w (l.length + m.length) c e, _, fun j => j = w.heap.size, hr2, (Chg.of_grown hgr).mono fun k _ hk => (by cases hk), OwnS.loose ⟨h1.app hok, ⟨hall, .inr ⟨w.heap.size, _, _, rfl, hlo, heap_alloc_new w.drew _, by rw [List.length_append]; exact hge, hcm2, ?_, ?_⟩⟩, fun j => ⟨fun hj => (by rw [hj]; rfl), fun hj => (by injection hj with hj; exact hj.symm)⟩⟩, fun k hk hlt => by omega⟩
    · simp only [Array.size_append, List.size_toArray, size_zeroCells, hzs, hlen, hl, ← Nat.add_mul]
      congr 1
      omega
    · rw [← hall, flatF_app]
      simp only [Array.toList_append]
      exact List.take_left
section
variable {α : Type} {fe : α → SQ} {l : List α} {P : Program} {T : List TyR} {b : Base} {ops : Array Oper} {Q : Exit → Act → World → Prop} {N : Nat} {E : SE} {L : List LV} {R : List Res} {F M : World → Prop} {o1 o2 : Oper} {rest : List Oper} {e sz bs lo : Nat} {u : PU}
/-- **append(s, x)**. -/
theorem l_pushL (hT : OkT P T) (i : Nat) (x : α) (h : pushS N E o1 o2 = some u) (hg : o1.guard = none) (hg2 : o2.guard = none) (hs : slS T u.t = some (e, sz, bs)) (hq : fe x = u.q) (hi : R[i]? = some (OwnL lo e sz fe u.A u.c l)) (hn : u.n = l.length) (hx : OkP (fe x).parts1 ∧ (fe x).cl.length = sz) (h0 : 0 < sz) (h24 : sz ≤ 16777216)
    (hb : (l.length + 1) * bs ≤ 140737488355328) (hm : l.length < 9223372036854775000) (hlo : lo ≤ b.B.heap.size)
    (hc : ∀ A' c', lS P b ops Q N rest ⟨(u.k2, .v (.slice A' (l ++ [x]).length c')) :: E, L, R.set i (OwnL lo e sz fe A' c' (l ++ [x])), F, M⟩) : lS P b ops Q N (o1 :: o2 :: rest) ⟨E, L, R, F, M⟩ := fun a w ⟨G, S, h1, h2, h3⟩ => by
  obtain ⟨d1, d2, n1, n2, hf, z, s, p1, p2, p3, p4⟩ := pushS_ok h
  obtain ⟨ht, ie, zz, hie, hz, hsz, hbs, hzs, _⟩ := slS_ok hT hs
  have hok : OkF sz fe [x] := fun y hy => by rw [List.mem_singleton.1 hy]; exact hx
  have hfl : flatF fe [x] = (fe x).cl := by simp [flatF]
  have e1 := h1.eval (evS_ok p3)
  have hr := run_lit (P := P) ht hie hz hsz [(fe x).den] 1 #[(0, a.eval z)] (by rw [e1, hq]; rfl) rfl (by omega) (by omega) (fun v hv => by
    rw [List.mem_singleton.1 hv]
    have := hx.2
    rwa [SQ.cl, Array.length_toList] at this) w
  have e2 : ([(fe x).den].flatMap fun v => v.cells.toList) = flatF fe [x] := by simp [flatF, SQ.cl]
  rw [e2] at hr
  have hal := (Below.refl w.heap.size w).alloc (Nat.le_refl _) (.cells (flatF fe [x]).toArray e)
  refine wpl_go (v := .slice (some ⟨w.heap.size, 0, none⟩) 1 1) (w' := w.alloc (.cells (flatF fe [x]).toArray e)) (oneS hg) (by
    unfold execOp
    simp only [p1, List.map_toArray, List.map_cons, List.map_nil, Sem.run_bind, hr, Result.andThen_ok, Sem.run_pure]) ?_
  rw [d1]
  have hnew := Blk.new w e (flatF fe [x]).toArray
  have h4 := h3.later hal
  generalize w.alloc (.cells (flatF fe [x]).toArray e) = w1 at *
  have f1 := h1.putFar (k := u.k1) (by rw [look_den, hf]; rfl) (.slice (some ⟨w.heap.size, 0, none⟩) 1 1)
  have e3 := f1.eval (evS_ok p4)
  have e4 : (a.put (some u.k1) (.slice (some ⟨w.heap.size, 0, none⟩) 1 1)).eval (.tmp u.k1) = .slice (some ⟨w.heap.size, 0, none⟩) 1 1 := eval_put_same h1 n1 _
  obtain ⟨S1, h5, hput⟩ := h4.put hi
  obtain ⟨A', c', w', S', hr2, hch, ho, hS'⟩ := OwnL.grow hT (d := 1) (ad := ⟨w.heap.size, 0, none⟩) o2.type hs h0 h5 hok (fun j v hj => by
    rw [Addr.add_mid, hnew.cell, Nat.zero_add]
    simpa using hj) hb (by simp; omega) (Nat.le_trans hlo h4.chg.size)
  obtain ⟨S'', h6⟩ := hput _ _ _ hch ho hS'
  have hr3 : (Builtin.append_ #[u.t, u.t] o2.type #[.slice u.A u.n u.c, .slice (some ⟨w.heap.size, 0, none⟩) 1 1]).run P w1 = .ok (.slice A' (l ++ [x]).length c') w' := by rw [hn]; exact hr2
  refine wpl_go (v := .slice A' (l ++ [x]).length c') (w' := w') (oneS hg2) (by
    unfold execOp
    simp only [p2, resolve, invoke, builtin, Sem.run_bind, Sem.run_pure, Result.andThen_ok, List.map_toArray, List.map_cons, List.map_nil, e3, e4, SV.den, SQ.den, SC.den, hr3]) ?_
  rw [d2]
  exact hc A' c' _ _ ⟨G, S'', f1.put n2 _, h2.cons trivial, h6⟩
end
end Go.Proofs.Ythkbejheedffjaa
/-
  A DISK, as it lies: its size, its bytes, how many are safe.
-/
namespace Go.Proofs.Ythkbejheedffjaa
open Go.RowKit Go.IntWalk

/-- What lies in a disk. -/
def dkP (size : Int) (A : Option Addr) (c : Nat) (l : List UInt8) (s : Int) : List Pt := [.one (.v (.int .i64 size)), .one (.v (.slice A l.length c)), .one (.v (.int .i64 s))]
theorem dkP_ok (size : Int) (A : Option Addr) (c : Nat) (l : List UInt8) (s : Int) : OkP (dkP size A c l s) := fun x hx => by
  rcases List.mem_cons.1 hx with rfl | hx
  · exact ⟨trivial, rfl, rfl⟩
  rcases List.mem_cons.1 hx with rfl | hx
  · exact ⟨trivial, rfl, rfl⟩
  rw [List.mem_singleton.1 hx]
  exact ⟨trivial, rfl, rfl⟩
abbrev pD (g : Nat) : Value := .pointer (some ⟨g, 0, none⟩)
abbrev DkO (g : Nat) (size : Int) (A : Option Addr) (c : Nat) (l : List UInt8) (s : Int) : Res := ObjS g 48 (dkP size A c l s)
abbrev DkB (A : Option Addr) (c : Nat) (l : List UInt8) : Res := OwnS 0 5 1 eB A c l
theorem own_dnew : Own 7 := fun _ _ => by go_simp
theorem own_dapp : Own 8 := fun _ _ => by go_simp
theorem own_dsync : Own 10 := fun _ _ => by go_simp
theorem own_dcrash : Own 12 := fun _ _ => by go_simp
theorem own_dcut : Own 14 := fun _ _ => by go_simp
theorem own_dbytes : Own 16 := fun _ _ => by go_simp
theorem own_dlen : Own 18 := fun _ _ => by go_simp
theorem own_dsafe : Own 19 := fun _ _ => by go_simp
theorem own_cloneB : Own 21 := fun _ _ => by go_simp
set_option maxRecDepth 100000 in
set_option maxHeartbeats 1000000 in
theorem dnew_S (size : Int) (h : 0 ≤ size) : Spec 7 [.int .i64 size] [] (fun _ => True) { ret := fun g : Nat => .t [.c (.v (pD g)), .c (.v (.int .i64 0))], own := fun g => [DkO g size none 0 [] 0, DkB none 0 []] } := by
  refine spec_S [.c (.v (.int .i64 size))] 9 Try.func7 rfl (by rw [Try.ntmps7]; rfl) (one_ok trivial) fun b => ?_
  refine s_nil0 0 5 1 eB ?_
  refine s_auto TY_ok rfl ?_
  refine s_seq fun K hK => ?_
  refine s_auto TY_ok rfl ?_
  refine s_ifD (size < 0) rfl (fun h0 => absurd h (by omega)) fun _ => ?_
  refine s_skip (hK _ ?_)
  refine s_auto TY_ok rfl ?_
  refine s_ret (k_give 2 rfl (E' := [(3, .v (.int .i64 0))]) ⟨rfl, trivial⟩ fun g => ?_)
  exact k_ret TY_ok g rfl (by decide) rfl rfl rfl (fun _ _ _ => trivial) (fun _ _ => trivial)
set_option maxRecDepth 100000 in
set_option maxHeartbeats 1000000 in
theorem dnew_no (size : Int) (h : size < 0) : Spec 7 [.int .i64 size] [] (fun _ => True) (one (.t [.c (.v (.pointer none)), .c (.v (.int .i64 2))])) := by
  refine spec_S [.c (.v (.int .i64 size))] 9 Try.func7 rfl (by rw [Try.ntmps7]; rfl) (one_ok trivial) fun b => ?_
  refine s_auto TY_ok rfl ?_
  refine s_seq fun K hK => ?_
  refine s_auto TY_ok rfl ?_
  refine s_ifD (size < 0) rfl (fun h0 => ?_) fun h0 => absurd h h0
  refine s_auto TY_ok rfl ?_
  exact s_ret (k_ret TY_ok () rfl (by decide) rfl rfl rfl (fun _ _ _ => trivial) (fun _ _ => trivial))
set_option maxRecDepth 100000 in
set_option maxHeartbeats 1000000 in
theorem dsync_S (g : Nat) (size : Int) (A : Option Addr) (c : Nat) (l : List UInt8) (s : Int) : Spec 10 [pD g] [DkO g size A c l s] (fun _ => True) { ret := fun _ : Unit => .t [], own := fun _ => [DkO g size A c l (l.length : Int)] } := by
  refine spec_S [.c (.v (pD g))] 12 Try.func10 rfl (by rw [Try.ntmps10]; rfl) (one_ok trivial) fun b => ?_
  refine s_auto TY_ok rfl ?_
  refine s_yes rfl ?_
  refine s_lit ?_
  refine l_autoS TY_ok rfl ?_
  refine l_ldO TY_ok rfl rfl rfl rfl rfl rfl (obj_own 0 rfl) ?_
  refine l_autoS TY_ok rfl ?_
  refine l_stO TY_ok 0 rfl rfl rfl rfl rfl rfl rfl ?_
  exact s_end (k_ret TY_ok () rfl (by decide) rfl rfl rfl (fun _ _ _ => trivial) (fun _ _ => trivial))
set_option maxRecDepth 100000 in
set_option maxHeartbeats 1000000 in
theorem dsync_no : Spec 10 [.pointer none] [] (fun _ => True) (one (.t [])) := by
  refine spec_S [.c (.v (.pointer none))] 12 Try.func10 rfl (by rw [Try.ntmps10]; rfl) (one_ok trivial) fun b => ?_
  refine s_auto TY_ok rfl ?_
  refine s_no rfl ?_
  exact s_skip (k_ret TY_ok () rfl (by decide) rfl rfl rfl (fun _ _ _ => trivial) (fun _ _ => trivial))
/-- What stays of a crash. -/
def crashN (keep : Int) (s n : Nat) : Nat := (s : Int).toNat + (min (max keep 0) ((n : Int) - s)).toNat
set_option maxRecDepth 100000 in
set_option maxHeartbeats 1000000 in
theorem dcrash_S (g : Nat) (size keep : Int) (A : Option Addr) (c : Nat) (l : List UInt8) (s : Nat) (hs : s ≤ l.length) (hl : l.length ≤ 9223372036854775807) : Spec 12 [pD g, .int .i64 keep] [DkO g size A c l s, DkB A c l] (fun _ => True) { ret := fun _ : Unit => .t [], own := fun _ => [DkO g size A c (l.take (crashN keep s l.length)) (crashN keep s l.length : Nat), DkB A c (l.take (crashN keep s l.length))] } := by
  refine spec_S [.c (.v (pD g)), .c (.v (.int .i64 keep))] 38 Try.func12 rfl (by rw [Try.ntmps12]; rfl) (two_ok trivial trivial) fun b => ?_
  refine s_own 1 rfl fun hok hlc hA => ?_
  refine s_seq fun K hK => ?_
  refine s_auto TY_ok rfl ?_
  refine s_no rfl ?_
  refine s_skip (hK _ ?_)
  refine s_regD 18 (by decide) (by kernel_rfl) (by kernel_rfl) fun K1 hK1 G S w0 hst => ?_
  refine g_autoS TY_ok hst rfl ?_
  refine g_ldO TY_ok hst rfl rfl rfl rfl rfl rfl (obj_own 0 rfl) ?_
  refine g_autoS TY_ok hst rfl ?_
  refine g_opS (.v (.int .i64 (max keep 0))) trivial rfl rfl rfl (run_maxI rfl rfl rfl) ?_
  refine g_autoS TY_ok hst rfl ?_
  refine g_ldO TY_ok hst rfl rfl rfl rfl rfl rfl (obj_own 0 rfl) ?_
  refine g_autoS TY_ok hst rfl ?_
  refine g_ldO TY_ok hst rfl rfl rfl rfl rfl rfl (obj_own 0 rfl) ?_
  refine g_autoS TY_ok hst rfl ?_
  refine g_num 21 ((l.length : Int) - s) rfl (wrapI rfl (by omega) (by omega)) ?_
  refine g_opS (.v (.int .i64 (min (max keep 0) ((l.length : Int) - s)))) trivial rfl rfl rfl (run_minI rfl rfl rfl) ?_
  refine g_autoS TY_ok hst rfl ?_
  have e1 : IntKind.i64.wrap ((s : Int) + min (max keep 0) ((l.length : Int) - s)) = (crashN keep s l.length : Nat) := wrapI (by unfold crashN; omega) (by omega) (by unfold crashN; omega)
  have e2 : crashN keep s l.length ≤ l.length := by unfold crashN; omega
  generalize crashN keep s l.length = m at *
  refine g_num 23 (m : Int) rfl e1 ?_
  refine g_endS hst ?_
  refine l_autoS TY_ok rfl ?_
  refine l_stO TY_ok 0 rfl rfl rfl rfl rfl rfl rfl ?_
  refine s_end (hK1 _ ?_)
  have e3 : (l.take m).length = m := by rw [List.length_take]; omega
  refine s_drawn 10 (by decide) (by kernel_rfl) (by kernel_rfl) fun G S w0 hst => ?_
  refine g_autoS TY_ok hst rfl ?_
  refine g_ldO TY_ok hst rfl rfl rfl rfl rfl rfl (obj_own 0 rfl) ?_
  refine g_autoS TY_ok hst rfl ?_
  refine g_ldO TY_ok hst rfl rfl rfl rfl rfl rfl (obj_own 0 rfl) ?_
  refine g_opS (.v (.slice A m c)) trivial rfl rfl rfl (run_cutHi (e := 5) (sz := 1) (by kernel_rfl) (by omega) hA rfl Try.underlying32 rfl rfl) ?_
  refine g_endS hst ?_
  refine l_autoS TY_ok rfl ?_
  refine l_stO TY_ok 0 rfl rfl rfl rfl rfl rfl rfl ?_
  refine l_cutR 1 m rfl ?_
  exact s_end (k_ret TY_ok () rfl (by decide) rfl rfl (by dsimp only [DkO, dkP]; rw [e3]; rfl) (fun _ _ _ => trivial) (fun _ _ => trivial))
set_option maxRecDepth 100000 in
set_option maxHeartbeats 1000000 in
theorem dcrash_no (keep : Int) : Spec 12 [.pointer none, .int .i64 keep] [] (fun _ => True) (one (.t [])) := by
  refine spec_S [.c (.v (.pointer none)), .c (.v (.int .i64 keep))] 38 Try.func12 rfl (by rw [Try.ntmps12]; rfl) (two_ok trivial trivial) fun b => ?_
  refine s_seq fun K hK => ?_
  refine s_auto TY_ok rfl ?_
  refine s_yes rfl ?_
  exact s_ret (k_ret TY_ok () rfl (by decide) rfl rfl rfl (fun _ _ _ => trivial) (fun _ _ => trivial))
set_option maxRecDepth 100000 in
set_option maxHeartbeats 1000000 in
theorem dcut_S (g : Nat) (size : Int) (n : Nat) (A : Option Addr) (c : Nat) (l : List UInt8) (s : Nat) (hn : n ≤ l.length) : Spec 14 [pD g, .int .i64 (n : Int)] [DkO g size A c l s, DkB A c l] (fun _ => True) { ret := fun _ : Unit => .v (.int .i64 0), own := fun _ => [DkO g size A c (l.take n) (min s n : Nat), DkB A c (l.take n)] } := by
  refine spec_S [.c (.v (pD g)), .c (.v (.int .i64 (n : Int)))] 36 Try.func14 rfl (by rw [Try.ntmps14]; rfl) (two_ok trivial trivial) fun b => ?_
  refine s_own 1 rfl fun hok hlc hA => ?_
  refine s_auto TY_ok rfl ?_
  refine s_seq fun K hK => ?_
  refine s_auto TY_ok rfl ?_
  refine s_no rfl ?_
  refine s_skip (hK _ ?_)
  refine s_seq fun K1 hK1 => ?_
  refine s_regA TY_ok rfl fun K2 hK2 => ?_
  refine l_is 9 false rfl (decide_eq_false (by omega)) ?_
  refine l_autoS TY_ok rfl ?_
  refine l_ldO TY_ok rfl rfl rfl rfl rfl rfl (obj_own 0 rfl) ?_
  refine l_autoS TY_ok rfl ?_
  refine s_end (hK2 _ ?_)
  refine s_ifD ((n : Int) > (l.length : Int)) rfl (fun h0 => absurd hn (by omega)) fun _ => ?_
  refine s_skip (hK1 _ ?_)
  refine s_regA TY_ok rfl fun K3 hK3 => ?_
  refine l_ldO TY_ok rfl rfl rfl rfl rfl rfl (obj_own 0 rfl) ?_
  refine l_autoS TY_ok rfl ?_
  refine l_op (.v (.slice A n c)) trivial rfl rfl rfl (run_cutHi (e := 5) (sz := 1) (by kernel_rfl) (by omega) hA rfl Try.underlying32 rfl rfl) ?_
  refine l_autoS TY_ok rfl ?_
  refine l_stO TY_ok 0 rfl rfl rfl rfl rfl rfl rfl ?_
  refine l_cutR 1 n rfl ?_
  refine s_end (hK3 _ ?_)
  refine s_regA TY_ok rfl fun K4 hK4 => ?_
  refine l_ldO TY_ok rfl rfl rfl rfl rfl rfl (obj_own 0 rfl) ?_
  refine l_autoS TY_ok rfl ?_
  refine l_op (.v (.int .i64 ((min s n : Nat) : Int))) trivial rfl rfl rfl (run_min rfl rfl rfl) ?_
  refine l_autoS TY_ok rfl ?_
  refine l_stO TY_ok 0 rfl rfl rfl rfl rfl rfl rfl ?_
  refine s_end (hK4 _ ?_)
  refine s_auto TY_ok rfl ?_
  have e3 : (l.take n).length = n := by rw [List.length_take]; omega
  exact s_ret (k_ret TY_ok () rfl (by decide) rfl rfl (by dsimp only [DkO, dkP]; rw [e3]; rfl) (fun _ _ _ => trivial) (fun _ _ => trivial))
set_option maxRecDepth 100000 in
set_option maxHeartbeats 1000000 in
theorem dcut_bad (g : Nat) (size n : Int) (A : Option Addr) (c : Nat) (l : List UInt8) (s : Int) (hn : n < 0 ∨ (l.length : Int) < n) : Spec 14 [pD g, .int .i64 n] [DkO g size A c l s] (fun _ => True) { ret := fun _ : Unit => .v (.int .i64 2), own := fun _ => [DkO g size A c l s] } := by
  refine spec_S [.c (.v (pD g)), .c (.v (.int .i64 n))] 36 Try.func14 rfl (by rw [Try.ntmps14]; rfl) (two_ok trivial trivial) fun b => ?_
  refine s_auto TY_ok rfl ?_
  refine s_seq fun K hK => ?_
  refine s_auto TY_ok rfl ?_
  refine s_no rfl ?_
  refine s_skip (hK _ ?_)
  refine s_seq fun K1 hK1 => ?_
  refine s_regA TY_ok rfl fun K2 hK2 => ?_
  by_cases h0 : n < 0
  · refine l_is 9 true rfl (decide_eq_true h0) ?_
    refine l_autoS TY_ok rfl ?_
    refine s_end (hK2 _ ?_)
    refine s_yes rfl ?_
    refine s_auto TY_ok rfl ?_
    exact s_ret (k_ret TY_ok () rfl (by decide) rfl rfl rfl (fun _ _ _ => trivial) (fun _ _ => trivial))
  refine l_is 9 false rfl (decide_eq_false h0) ?_
  refine l_autoS TY_ok rfl ?_
  refine l_ldO TY_ok rfl rfl rfl rfl rfl rfl (obj_own 0 rfl) ?_
  refine l_autoS TY_ok rfl ?_
  refine s_end (hK2 _ ?_)
  refine s_ifD (n > (l.length : Int)) rfl (fun _ => ?_) fun h1 => absurd hn (by omega)
  refine s_auto TY_ok rfl ?_
  exact s_ret (k_ret TY_ok () rfl (by decide) rfl rfl rfl (fun _ _ _ => trivial) (fun _ _ => trivial))
set_option maxRecDepth 100000 in
set_option maxHeartbeats 1000000 in
theorem dcut_no (n : Int) : Spec 14 [.pointer none, .int .i64 n] [] (fun _ => True) (one (.v (.int .i64 1))) := by
  refine spec_S [.c (.v (.pointer none)), .c (.v (.int .i64 n))] 36 Try.func14 rfl (by rw [Try.ntmps14]; rfl) (two_ok trivial trivial) fun b => ?_
  refine s_auto TY_ok rfl ?_
  refine s_seq fun K hK => ?_
  refine s_auto TY_ok rfl ?_
  refine s_yes rfl ?_
  refine s_auto TY_ok rfl ?_
  exact s_ret (k_ret TY_ok () rfl (by decide) rfl rfl rfl (fun _ _ _ => trivial) (fun _ _ => trivial))
set_option maxRecDepth 100000 in
set_option maxHeartbeats 1000000 in
theorem cloneB_S {A : Option Addr} {c : Nat} (l : List UInt8) (hl : l.length ≤ 140737488355328) : Spec 21 [.slice A l.length c] [] (Rd 1 eB A c l) { ret := fun x : Option Addr × Nat => .v (.slice x.1 l.length x.2), own := fun x => [DkB x.1 x.2 l] } := by
  refine spec_S [.c (.v (.slice A l.length c))] 8 Try.func21 rfl (by rw [Try.ntmps21]; rfl) (one_ok trivial) fun b => ?_
  refine s_pure (l.length ≤ c ∧ (A = none → c = 0)) (fun w hw _ => ⟨hw.1, hw.2.2.1⟩) fun ⟨hlc, hA⟩ => ?_
  refine s_auto TY_ok rfl ?_
  refine s_seq fun K hK => ?_
  refine s_regA TY_ok rfl fun K1 hK1 => ?_
  refine l_op (.v (.bool A.isNone)) trivial rfl rfl rfl (run_eqNilS rfl Try.underlying32 rfl) ?_
  refine s_end (hK1 _ ?_)
  cases A with
  | none =>
    obtain rfl : c = 0 := hA rfl
    obtain rfl : l = [] := List.eq_nil_of_length_eq_zero (by omega)
    refine s_yes rfl ?_
    refine s_nil0 0 5 1 eB ?_
    refine s_auto TY_ok rfl ?_
    exact s_ret (k_ret TY_ok (none, 0) rfl (by decide) rfl rfl rfl (fun _ _ _ => trivial) (fun _ _ => trivial))
  | some ad =>
    refine s_no rfl ?_
    refine s_skip (hK _ ?_)
    refine s_regA TY_ok rfl fun K2 hK2 => ?_
    refine l_list0 (e := 5) (sz := 1) 0 eB rfl rfl rfl rfl (Nat.zero_le _) (fun w => by go_simp) fun B => ?_
    refine l_autoS TY_ok rfl ?_
    refine l_appY TY_ok 0 l rfl rfl rfl rfl rfl rfl rfl rfl rfl (rd_fact fun _ h _ => h) (by decide) (by show (0 + l.length) * 1 ≤ _; omega) (by show 0 + l.length ≤ _; omega) (Nat.zero_le _) fun A1 c1 => ?_
    refine l_autoS TY_ok rfl ?_
    refine s_end (hK2 _ ?_)
    exact s_ret (k_ret TY_ok (A1, c1) rfl (by decide) rfl rfl rfl (fun _ _ _ => trivial) (fun _ _ => trivial))
set_option maxRecDepth 100000 in
set_option maxHeartbeats 1000000 in
theorem dbytes_S (g : Nat) (size : Int) (A : Option Addr) (c : Nat) (l : List UInt8) (s : Int) (hl : l.length ≤ 140737488355328) : Spec 16 [pD g] [DkO g size A c l s, DkB A c l] (fun _ => True) { ret := fun x : Option Addr × Nat => .v (.slice x.1 l.length x.2), own := fun x => [DkB x.1 x.2 l, DkO g size A c l s, DkB A c l] } := by
  refine spec_S [.c (.v (pD g))] 10 Try.func16 rfl (by rw [Try.ntmps16]; rfl) (one_ok trivial) fun b => ?_
  refine s_auto TY_ok rfl ?_
  refine s_seq fun K hK => ?_
  refine s_auto TY_ok rfl ?_
  refine s_no rfl ?_
  refine s_skip (hK _ ?_)
  refine s_regA TY_ok rfl fun K1 hK1 => ?_
  refine l_ldO TY_ok rfl rfl rfl rfl rfl rfl (obj_own 0 rfl) ?_
  refine l_callC (own := []) (R' := [DkO g size A c l s, DkB A c l]) (fun _ => [.slice A l.length c]) rfl rfl rfl own_cloneB rfl rfl (fun _ _ => rfl) (fun _ => Rd 1 eB A c l) (fun _ => cloneB_S l hl) (fun G S w hv => rd_own 1 rfl G S w hv) fun x => ?_
  refine l_autoS TY_ok rfl ?_
  refine s_end (hK1 _ ?_)
  exact s_ret (k_ret TY_ok x rfl (by decide) rfl rfl rfl (fun _ _ _ => trivial) (fun _ _ => trivial))
set_option maxRecDepth 100000 in
set_option maxHeartbeats 1000000 in
theorem dbytes_no : Spec 16 [.pointer none] [] (fun _ => True) (one (.v (.slice none 0 0))) := by
  refine spec_S [.c (.v (.pointer none))] 10 Try.func16 rfl (by rw [Try.ntmps16]; rfl) (one_ok trivial) fun b => ?_
  refine s_auto TY_ok rfl ?_
  refine s_seq fun K hK => ?_
  refine s_auto TY_ok rfl ?_
  refine s_yes rfl ?_
  refine s_auto TY_ok rfl ?_
  exact s_ret (k_ret TY_ok () rfl (by decide) rfl rfl rfl (fun _ _ _ => trivial) (fun _ _ => trivial))
end Go.Proofs.Ythkbejheedffjaa
/-
  A DISK: how much there is, and bytes laid behind the others.
-/
namespace Go.Proofs.Ythkbejheedffjaa
open Go.RowKit Go.IntWalk

set_option maxRecDepth 100000 in
set_option maxHeartbeats 1000000 in
theorem dlen_S (g : Nat) (size : Int) (A : Option Addr) (c : Nat) (l : List UInt8) (s : Int) : Spec 18 [pD g] [DkO g size A c l s] (fun _ => True) { ret := fun _ : Unit => .v (.int .i64 (l.length : Int)), own := fun _ => [DkO g size A c l s] } := by
  refine spec_S [.c (.v (pD g))] 10 Try.func18 rfl (by rw [Try.ntmps18]; rfl) (one_ok trivial) fun b => ?_
  refine s_auto TY_ok rfl ?_
  refine s_seq fun K hK => ?_
  refine s_auto TY_ok rfl ?_
  refine s_no rfl ?_
  refine s_skip (hK _ ?_)
  refine s_regA TY_ok rfl fun K1 hK1 => ?_
  refine l_ldO TY_ok rfl rfl rfl rfl rfl rfl (obj_own 0 rfl) ?_
  refine l_autoS TY_ok rfl ?_
  refine s_end (hK1 _ ?_)
  exact s_ret (k_ret TY_ok () rfl (by decide) rfl rfl rfl (fun _ _ _ => trivial) (fun _ _ => trivial))
set_option maxRecDepth 100000 in
set_option maxHeartbeats 1000000 in
theorem dlen_no : Spec 18 [.pointer none] [] (fun _ => True) (one (.v (.int .i64 0))) := by
  refine spec_S [.c (.v (.pointer none))] 10 Try.func18 rfl (by rw [Try.ntmps18]; rfl) (one_ok trivial) fun b => ?_
  refine s_auto TY_ok rfl ?_
  refine s_seq fun K hK => ?_
  refine s_auto TY_ok rfl ?_
  refine s_yes rfl ?_
  refine s_auto TY_ok rfl ?_
  exact s_ret (k_ret TY_ok () rfl (by decide) rfl rfl rfl (fun _ _ _ => trivial) (fun _ _ => trivial))
set_option maxRecDepth 100000 in
set_option maxHeartbeats 1000000 in
theorem dsafe_S (g : Nat) (size : Int) (A : Option Addr) (c : Nat) (l : List UInt8) (s : Int) : Spec 19 [pD g] [DkO g size A c l s] (fun _ => True) { ret := fun _ : Unit => .v (.int .i64 s), own := fun _ => [DkO g size A c l s] } := by
  refine spec_S [.c (.v (pD g))] 9 Try.func19 rfl (by rw [Try.ntmps19]; rfl) (one_ok trivial) fun b => ?_
  refine s_auto TY_ok rfl ?_
  refine s_seq fun K hK => ?_
  refine s_auto TY_ok rfl ?_
  refine s_no rfl ?_
  refine s_skip (hK _ ?_)
  refine s_regA TY_ok rfl fun K1 hK1 => ?_
  refine l_ldO TY_ok rfl rfl rfl rfl rfl rfl (obj_own 0 rfl) ?_
  refine l_autoS TY_ok rfl ?_
  refine s_end (hK1 _ ?_)
  exact s_ret (k_ret TY_ok () rfl (by decide) rfl rfl rfl (fun _ _ _ => trivial) (fun _ _ => trivial))
set_option maxRecDepth 100000 in
set_option maxHeartbeats 1000000 in
theorem dsafe_no : Spec 19 [.pointer none] [] (fun _ => True) (one (.v (.int .i64 0))) := by
  refine spec_S [.c (.v (.pointer none))] 9 Try.func19 rfl (by rw [Try.ntmps19]; rfl) (one_ok trivial) fun b => ?_
  refine s_auto TY_ok rfl ?_
  refine s_seq fun K hK => ?_
  refine s_auto TY_ok rfl ?_
  refine s_yes rfl ?_
  refine s_auto TY_ok rfl ?_
  exact s_ret (k_ret TY_ok () rfl (by decide) rfl rfl rfl (fun _ _ _ => trivial) (fun _ _ => trivial))
/-! ### Append -/
/-- The first parts, one behind the other. -/
def segs (ss : List Seg) : List UInt8 := (ss.map Seg.l).flatten
theorem segs_next {ss : List Seg} {i : Nat} {s : Seg} (h : ss[i]? = some s) : segs (ss.take (i + 1)) = segs (ss.take i) ++ s.l := by
  unfold segs
  rw [List.take_add_one, h, List.map_append, List.flatten_append]
  simp
theorem segs_le (ss : List Seg) (i : Nat) : (segs (ss.take i)).length ≤ (segs ss).length := by
  conv => rhs; rw [← List.take_append_drop i ss]
  unfold segs
  rw [List.map_append, List.flatten_append, List.length_append]
  exact Nat.le_add_right _ _
theorem segs_all (ss : List Seg) : segs (ss.take ss.length) = segs ss := by rw [List.take_length]
/-- What lies there behind an append, what it answers. -/
def apL (size : Int) (l m : List UInt8) : List UInt8 := if (l.length : Int) + m.length ≤ size then l ++ m else l
def apE (size : Int) (l m : List UInt8) : Nat := if (l.length : Int) + m.length ≤ size then 0 else 140
set_option maxRecDepth 100000 in
set_option maxHeartbeats 1000000 in
theorem dapp_S (g : Nat) (size : Int) (A : Option Addr) (c : Nat) (l : List UInt8) (s : Int) (B : Option Addr) (d : Nat) (ss : List Seg) (hsz : size ≤ 9223372036854775807) (hl : (l.length : Int) ≤ size) (hb : l.length + (segs ss).length ≤ 140737488355328) :
    Spec 8 [pD g, .slice B ss.length d] [DkO g size A c l s, DkB A c l] (fun w => Rd 1 eSeg B d ss w ∧ ∀ s ∈ ss, s.rd w)
    { ret := fun _ : Option Addr × Nat => .v (.int .i64 (apE size l (segs ss) : Int)), own := fun x => [DkO g size x.1 x.2 (apL size l (segs ss)) s, DkB x.1 x.2 (apL size l (segs ss))] } := by
  refine spec_S [.c (.v (pD g)), .c (.v (.slice B ss.length d))] 53 Try.func8 rfl (by rw [Try.ntmps8]; rfl) (two_ok trivial trivial) fun b => ?_
  refine s_pure (ss.length ≤ d ∧ d ≤ 9223372036854775807) (fun w hw _ => ⟨hw.1.1, hw.1.2.1⟩) fun ⟨hd1, hd2⟩ => ?_
  refine s_auto TY_ok rfl ?_
  refine s_seq fun K hK => ?_
  refine s_auto TY_ok rfl ?_
  refine s_no rfl ?_
  refine s_skip (hK _ ?_)
  refine s_regD 10 (by decide) (by kernel_rfl) (by kernel_rfl) fun K1 hK1 G S w0 hst => ?_
  refine g_autoS TY_ok hst rfl ?_
  refine g_ldO TY_ok hst rfl rfl rfl rfl rfl rfl (obj_own 0 rfl) ?_
  refine g_autoS TY_ok hst rfl ?_
  refine g_ldO TY_ok hst rfl rfl rfl rfl rfl rfl (obj_own 0 rfl) ?_
  refine g_autoS TY_ok hst rfl ?_
  refine g_num 21 (size - (l.length : Int)) rfl (wrapI rfl (by omega) (by omega)) ?_
  refine g_endS hst ?_
  refine l_autoS TY_ok rfl ?_
  refine s_end (hK1 _ ?_)
  refine s_seq fun K2 hK2 => ?_
  refine s_auto TY_ok rfl ?_
  refine s_block ?_
  let F : Nat → Env := fun i => ⟨[(24, .v (.int .i64 (i : Int))), (23, .v (.int .i64 (ss.length : Int))), (22, .v (.slice B ss.length d)), (5, .v (.int .i64 (size - (l.length : Int) - ((segs (ss.take i)).length : Int)))), (0, .v (pD g)), (1, .v (.slice B ss.length d))], [], [DkO g size A c l s, DkB A c l], fun w => Rd 1 eSeg B d ss w ∧ ∀ s ∈ ss, s.rd w, fun _ => True⟩
  refine c_weak (e' := F 0) ⟨⟨rfl, rfl, rfl, congrArg some (congrArg SV.v (congrArg (Value.int .i64) (by simp [segs]))), rfl, rfl, trivial⟩, trivial, .refl _, fun _ h _ => h, fun _ _ => trivial⟩ (s_loop (fun i => ss.length - i) F (fun i => i ≤ ss.length ∧ (segs (ss.take i)).length ≤ size - l.length) ?_ 0 ⟨Nat.zero_le _, by simp [segs]; omega⟩)
  intro i ⟨hi, hle⟩
  refine s_auto TY_ok rfl ?_
  refine s_seq fun K3 hK3 => ?_
  refine s_ifD ((i : Int) < (ss.length : Int)) rfl (fun hlt => ?_) (fun hge => ?_)
  · have hlt : i < ss.length := by omega
    obtain ⟨x, hx⟩ : ∃ x, ss[i]? = some x := ⟨_, List.getElem?_eq_getElem hlt⟩
    have hxm : x ∈ ss := List.mem_of_getElem? hx
    have hv := congrArg List.length (segs_next hx)
    rw [List.length_append] at hv
    have hall := segs_le ss (i + 1)
    refine s_skip (hK3 _ ?_)
    refine s_seq fun K4 hK4 => ?_
    refine s_block ?_
    refine s_regA TY_ok rfl fun K5 hK5 => ?_
    refine l_elem TY_ok rfl rfl rfl i rfl hx rfl rfl (rd_fact fun w h _ => h.1) ?_
    refine l_autoS TY_ok rfl ?_
    refine s_end (hK5 _ ?_)
    refine s_seq fun K6 hK6 => ?_
    refine s_auto TY_ok rfl ?_
    refine s_ifD ((x.l.length : Int) > size - (l.length : Int) - ((segs (ss.take i)).length : Int)) rfl (fun h0 => ?_) (fun h0 => ?_)
    · have e0 : ¬ ((l.length : Int) + (segs ss).length ≤ size) := by omega
      refine s_auto TY_ok rfl ?_
      exact s_ret (k_ret TY_ok (A, c) rfl (by decide) rfl (by unfold apE; rw [if_neg e0]; rfl) (by unfold apL; rw [if_neg e0]) (fun _ _ _ => trivial) (fun _ _ => trivial))
    · refine s_skip (hK6 _ ?_)
      refine s_lit ?_
      refine l_autoS TY_ok rfl ?_
      refine l_num 5 (size - (l.length : Int) - ((segs (ss.take (i + 1))).length : Int)) rfl (wrapI (by omega) (by omega) (by omega)) ?_
      refine s_end (hK4 _ ?_)
      refine s_autoE TY_ok rfl ?_
      exact k_next (i + 1) ⟨hlt, by omega⟩ (by omega) ⟨⟨congrArg some (congrArg SV.v (congrArg (Value.int .i64) (wrapI rfl (by omega) (by omega)))), rfl, rfl, rfl, rfl, rfl, trivial⟩, trivial, .refl _, fun _ h _ => h, fun _ h => h⟩
  · obtain rfl : ss.length = i := by omega
    rw [segs_all] at hle
    have e0 : (l.length : Int) + (segs ss).length ≤ size := by omega
    refine s_exit (k_pass (k_pass (k_out ?_)))
    refine hK2 _ ?_
    refine s_seq fun K7 hK7 => ?_
    refine s_auto TY_ok rfl ?_
    refine s_block ?_
    let F2 : Nat × Option Addr × Nat → Env := fun x => ⟨[(39, .v (.int .i64 (x.1 : Int))), (38, .v (.int .i64 (ss.length : Int))), (37, .v (.slice B ss.length d)), (0, .v (pD g))], [], [DkO g size x.2.1 x.2.2 (l ++ segs (ss.take x.1)) s, DkB x.2.1 x.2.2 (l ++ segs (ss.take x.1))], fun w => Rd 1 eSeg B d ss w ∧ ∀ s ∈ ss, s.rd w, fun _ => True⟩
    refine c_weak (e' := F2 (0, A, c)) ⟨⟨rfl, rfl, rfl, rfl, trivial⟩, trivial, by simp only [F2, List.take_zero, segs, List.map_nil, List.flatten_nil, List.append_nil]; exact .refl _, fun _ h _ => h, fun _ _ => trivial⟩ (s_loop (fun x => ss.length - x.1) F2 (fun x => x.1 ≤ ss.length) ?_ (0, A, c) (Nat.zero_le _))
    intro ⟨i, A1, c1⟩ hi
    refine s_auto TY_ok rfl ?_
    refine s_seq fun K8 hK8 => ?_
    refine s_ifD ((i : Int) < (ss.length : Int)) rfl (fun hlt => ?_) (fun hge => ?_)
    · have hlt : i < ss.length := by omega
      obtain ⟨x, hx⟩ : ∃ x, ss[i]? = some x := ⟨_, List.getElem?_eq_getElem hlt⟩
      have hxm : x ∈ ss := List.mem_of_getElem? hx
      have hv := segs_next hx
      have hvl := congrArg List.length hv
      rw [List.length_append] at hvl
      have hall := segs_le ss (i + 1)
      refine s_skip (hK8 _ ?_)
      refine s_seq fun K9 hK9 => ?_
      refine s_block ?_
      refine s_regA TY_ok rfl fun K10 hK10 => ?_
      refine l_elem TY_ok rfl rfl rfl i rfl hx rfl rfl (rd_fact fun w h _ => h.1) ?_
      refine l_autoS TY_ok rfl ?_
      refine s_end (hK10 _ ?_)
      refine s_lit ?_
      refine l_autoS TY_ok rfl ?_
      refine l_ldO TY_ok rfl rfl rfl rfl rfl rfl (obj_own 0 rfl) ?_
      refine l_autoS TY_ok rfl ?_
      refine l_appY TY_ok 1 x.l rfl rfl rfl rfl rfl rfl rfl rfl rfl (rd_fact fun w h _ => h.2 x hxm) (by decide) (by show ((l ++ segs (ss.take i)).length + x.l.length) * 1 ≤ _; rw [List.length_append]; omega) (by show (l ++ segs (ss.take i)).length + x.l.length ≤ _; rw [List.length_append]; omega) (Nat.zero_le _) fun A2 c2 => ?_
      refine l_autoS TY_ok rfl ?_
      refine l_stO TY_ok 0 rfl rfl rfl rfl rfl rfl rfl ?_
      refine s_end (hK9 _ ?_)
      refine s_autoE TY_ok rfl ?_
      refine k_next (i + 1, A2, c2) hlt (by show ss.length - (i + 1) < ss.length - i; omega) ⟨⟨congrArg some (congrArg SV.v (congrArg (Value.int .i64) (wrapI rfl (by omega) (by omega)))), rfl, rfl, rfl, trivial⟩, trivial, ?_, fun _ h _ => h, fun _ h => h⟩
      show List.Perm [_, _] [DkO g size A2 c2 (l ++ segs (ss.take (i + 1))) s, DkB A2 c2 (l ++ segs (ss.take (i + 1)))]
      rw [hv, ← List.append_assoc]
      exact .refl _
    · obtain rfl : ss.length = i := by omega
      refine s_exit (k_pass (k_pass (k_out ?_)))
      refine hK7 _ ?_
      refine s_auto TY_ok rfl ?_
      exact s_ret (k_ret TY_ok (A1, c1) rfl (by decide) rfl (by unfold apE; rw [if_pos e0]; rfl) (by unfold apL; rw [if_pos e0, segs_all]) (fun _ _ _ => trivial) (fun _ _ => trivial))
/-- Where there is room. -/
theorem dapp_fits (g : Nat) (size : Int) (A : Option Addr) (c : Nat) (l l' : List UInt8) (s : Int) (B : Option Addr) (d : Nat) (ss : List Seg) (hsz : size ≤ 9223372036854775807) (he : (l.length : Int) + (segs ss).length ≤ size) (hb : l.length + (segs ss).length ≤ 140737488355328) (hl' : l ++ segs ss = l') :
    Spec 8 [pD g, .slice B ss.length d] [DkO g size A c l s, DkB A c l] (fun w => Rd 1 eSeg B d ss w ∧ ∀ s ∈ ss, s.rd w)
    { ret := fun _ : Option Addr × Nat => .v (.int .i64 0), own := fun x => [DkO g size x.1 x.2 l' s, DkB x.1 x.2 l'] } := by
  have h := dapp_S g size A c l s B d ss hsz (by omega) hb
  unfold apE apL at h
  rw [if_pos he, if_pos he, hl'] at h
  exact h
/-- Where there is none. -/
theorem dapp_full (g : Nat) (size : Int) (A : Option Addr) (c : Nat) (l : List UInt8) (s : Int) (B : Option Addr) (d : Nat) (ss : List Seg) (hsz : size ≤ 9223372036854775807) (hl : (l.length : Int) ≤ size) (he : ¬ (l.length : Int) + (segs ss).length ≤ size) (hb : l.length + (segs ss).length ≤ 140737488355328) :
    Spec 8 [pD g, .slice B ss.length d] [DkO g size A c l s, DkB A c l] (fun w => Rd 1 eSeg B d ss w ∧ ∀ s ∈ ss, s.rd w)
    { ret := fun _ : Option Addr × Nat => .v (.int .i64 140), own := fun x => [DkO g size x.1 x.2 l s, DkB x.1 x.2 l] } := by
  have h := dapp_S g size A c l s B d ss hsz hl hb
  unfold apE apL at h
  rw [if_neg he, if_neg he] at h
  exact h
set_option maxRecDepth 100000 in
set_option maxHeartbeats 1000000 in
theorem dapp_no (B : Option Addr) (n d : Nat) : Spec 8 [.pointer none, .slice B n d] [] (fun _ => True) (one (.v (.int .i64 1))) := by
  refine spec_S [.c (.v (.pointer none)), .c (.v (.slice B n d))] 53 Try.func8 rfl (by rw [Try.ntmps8]; rfl) (two_ok trivial trivial) fun b => ?_
  refine s_auto TY_ok rfl ?_
  refine s_seq fun K hK => ?_
  refine s_auto TY_ok rfl ?_
  refine s_yes rfl ?_
  refine s_auto TY_ok rfl ?_
  exact s_ret (k_ret TY_ok () rfl (by decide) rfl rfl rfl (fun _ _ _ => trivial) (fun _ _ => trivial))
end Go.Proofs.Ythkbejheedffjaa
/-
  THE DOCUMENT'S DISK, plainly: bytes, each told whether it is safe.
-/
namespace Go.Proofs.Ythkbejheedffjaa
open Go.RowKit Go.IntWalk

abbrev BtV := UInt8 × Bool
def eBt (x : BtV) : SQ := .p [.one (.v (.int .u8 (x.1.toNat : Int))), .one (.v (.bool x.2))]
theorem eBt_ok (x : BtV) : OkP (eBt x).parts1 ∧ (eBt x).cl.length = 2 := ⟨fun q hq => by
  simp only [eBt, SQ.parts1, List.mem_cons, List.not_mem_nil, or_false] at hq
  rcases hq with rfl | rfl <;> exact ⟨trivial, rfl, rfl⟩, rfl⟩
theorem okF_Bt (l : List BtV) : OkF 2 eBt l := fun x _ => eBt_ok x
/-- Not safe. -/
def uns (l : List UInt8) : List BtV := l.map fun b => (b, false)
/-- Safe. -/
def safeB (l : List BtV) : List BtV := l.map fun b => (b.1, true)
/-- What stays of a crash. -/
def crF : Int → List BtV → List BtV
  | _, [] => []
  | k, (b, true) :: r => (b, true) :: crF k r
  | k, (b, false) :: r => if k > 0 then (b, true) :: crF (k - 1) r else crF k r
def cntS (l : List BtV) : Nat := (l.filter (·.2)).length
theorem uns_app (l m : List UInt8) : uns (l ++ m) = uns l ++ uns m := List.map_append
theorem uns_len (l : List UInt8) : (uns l).length = l.length := List.length_map _
/-! ### The two disks -/
/-- The first s are safe. -/
def btD (l : List UInt8) (s : Nat) : List BtV := (l.take s).map (fun b => (b, true)) ++ uns (l.drop s)
theorem btD_app (l m : List UInt8) {s : Nat} (h : s ≤ l.length) : btD l s ++ uns m = btD (l ++ m) s := by
  unfold btD
  rw [List.take_append_of_le_length h, List.drop_append_of_le_length h, uns_app, List.append_assoc]
theorem btD_fst (l : List UInt8) (s : Nat) : (btD l s).map (·.1) = l := by
  unfold btD uns
  rw [List.map_append, List.map_map, List.map_map]
  have e1 : ((fun b : BtV => b.1) ∘ fun b : UInt8 => (b, true)) = id := rfl
  have e2 : ((fun b : BtV => b.1) ∘ fun b : UInt8 => (b, false)) = id := rfl
  rw [e1, e2, List.map_id, List.map_id, List.take_append_drop]
theorem btD_len (l : List UInt8) (s : Nat) : (btD l s).length = l.length := by
  have := congrArg List.length (btD_fst l s)
  rwa [List.length_map] at this
theorem btD_sync (l : List UInt8) (s : Nat) : safeB (btD l s) = btD l l.length := by
  have h : safeB (btD l s) = ((btD l s).map (·.1)).map fun b => (b, true) := by
    unfold safeB
    rw [List.map_map]
    rfl
  rw [h, btD_fst]
  unfold btD uns
  rw [List.take_length, List.drop_length]
  simp
theorem cnt_safe : ∀ l : List UInt8, cntS (l.map fun b => (b, true)) = l.length
  | [] => rfl
  | b :: l => by
    have := cnt_safe l
    unfold cntS at this ⊢
    simp only [List.map_cons, List.filter_cons, if_true, List.length_cons, this]
theorem cnt_uns : ∀ l : List UInt8, cntS (uns l) = 0
  | [] => rfl
  | b :: l => by
    have := cnt_uns l
    unfold cntS uns at this ⊢
    simpa only [List.map_cons, List.filter_cons, if_false, Bool.false_eq_true] using this
theorem btD_cnt (l : List UInt8) {s : Nat} (h : s ≤ l.length) : cntS (btD l s) = s := by
  have h1 := cnt_safe (l.take s)
  have h2 := cnt_uns (l.drop s)
  unfold cntS at h1 h2 ⊢
  unfold btD
  rw [List.filter_append, List.length_append, h1, h2, List.length_take]
  omega
theorem btD_take (l : List UInt8) (s n : Nat) (hn : n ≤ l.length) : (btD l s).take n = btD (l.take n) (min s n) := by
  unfold btD uns
  rw [List.take_append, ← List.map_take, ← List.map_take, List.take_take, List.length_map, List.length_take, List.take_take]
  congr 2
  · rw [Nat.min_comm n s, Nat.min_assoc, Nat.min_self]
  · rcases Nat.le_total s n with h | h
    · rw [Nat.min_eq_left h, List.drop_take]
      congr 1
      omega
    · have e5 : (l.take n).drop n = [] := List.drop_of_length_le (by rw [List.length_take]; omega)
      rw [Nat.min_eq_right h, e5, show n - min s l.length = 0 by omega, List.take_zero]
theorem crF_uns : ∀ (l : List UInt8) (k : Int), crF k (uns l) = (l.take (max k 0).toNat).map fun b => (b, true)
  | [], k => by simp [uns, crF]
  | b :: l, k => by
    have h := crF_uns l
    show crF k ((b, false) :: uns l) = _
    unfold crF
    by_cases hk : k > 0
    · rw [if_pos hk, h, show (max k 0).toNat = (max (k - 1) 0).toNat + 1 by omega, List.take_succ_cons, List.map_cons]
    · rw [if_neg hk, h, show (max k 0).toNat = 0 by omega]
      rfl
theorem crF_safe : ∀ (l : List UInt8) (k : Int) (m : List BtV), crF k (l.map (fun b => (b, true)) ++ m) = l.map (fun b => (b, true)) ++ crF k m
  | [], _, _ => rfl
  | b :: l, k, m => by
    show (b, true) :: crF k (l.map (fun b => (b, true)) ++ m) = _
    rw [crF_safe l k m]
    rfl
theorem btD_crash (l : List UInt8) (k : Int) {s : Nat} (h : s ≤ l.length) : crF k (btD l s) = btD (l.take (crashN k s l.length)) (crashN k s l.length) := by
  have e : crashN k s l.length ≤ l.length := by unfold crashN; omega
  unfold btD
  have e5 : (l.take (crashN k s l.length)).drop (crashN k s l.length) = [] := List.drop_of_length_le (by rw [List.length_take]; omega)
  rw [crF_safe, crF_uns, ← List.map_append, List.take_take, Nat.min_self, e5]
  show _ = _ ++ []
  rw [List.append_nil]
  congr 1
  have e2 : crashN k s l.length = s + min (max k 0).toNat (l.length - s) := by unfold crashN; omega
  rw [e2, List.take_add]
  congr 1
  rcases Nat.le_total (max k 0).toNat (l.length - s) with h1 | h1
  · rw [Nat.min_eq_left h1]
  · rw [Nat.min_eq_right h1, List.take_of_length_le (by rw [List.length_drop]; omega), List.take_of_length_le (by rw [List.length_drop]; omega)]
end Go.Proofs.Ythkbejheedffjaa
/-
  THE DOCUMENT'S DISK, walked.
-/
namespace Go.Proofs.Ythkbejheedffjaa
open Go.RowKit Go.IntWalk

def rkP (size : Int) (A : Option Addr) (n c : Nat) : List Pt := [.one (.v (.int .i64 size)), .one (.v (.slice A n c))]
abbrev RkO (g : Nat) (size : Int) (A : Option Addr) (n c : Nat) : Res := ObjS g 31 (rkP size A n c)
abbrev RkB (A : Option Addr) (c : Nat) (l : List BtV) : Res := OwnL 0 50 2 eBt A c l
abbrev RkC (A : Option Addr) (c : Nat) (l : List BtV) : Res := OwnS 0 50 2 eBt A c l
theorem own_rkapp : Own 9 := fun _ _ => by go_simp
theorem own_rksync : Own 11 := fun _ _ => by go_simp
theorem own_rkcrash : Own 13 := fun _ _ => by go_simp
theorem own_rkcut : Own 15 := fun _ _ => by go_simp
theorem own_rkbytes : Own 17 := fun _ _ => by go_simp
theorem own_rksafe : Own 20 := fun _ _ => by go_simp
theorem rd_max {α : Type} {k c : Nat} {fe : α → SQ} {A : Option Addr} {l : List α} {w : World} (h : Rd k fe A c l w) : l.length ≤ 9223372036854775807 := Nat.le_trans h.1 h.2.1
/-! ### Append -/
set_option maxRecDepth 100000 in
set_option maxHeartbeats 1000000 in
theorem rkapp_S (g : Nat) (size : Int) (A : Option Addr) (c : Nat) (l : List BtV) (B : Option Addr) (d : Nat) (ss : List Seg) (hb : l.length + (segs ss).length ≤ 1000000000) :
    Spec 9 [pD g, .slice B ss.length d] [RkO g size A l.length c, RkB A c l] (fun w => Rd 1 eSeg B d ss w ∧ ∀ s ∈ ss, s.rd w)
    { ret := fun _ : Option Addr × Nat => .v (.bool (decide ((l.length : Int) + (segs ss).length ≤ size))), own := fun x => [RkO g size x.1 (if (l.length : Int) + (segs ss).length ≤ size then l ++ uns (segs ss) else l).length x.2, RkB x.1 x.2 (if (l.length : Int) + (segs ss).length ≤ size then l ++ uns (segs ss) else l)] } := by
  refine spec_S [.c (.v (pD g)), .c (.v (.slice B ss.length d))] 60 Try.func9 rfl (by rw [Try.ntmps9]; rfl) (two_ok trivial trivial) fun b => ?_
  refine s_pure (ss.length ≤ d ∧ d ≤ 9223372036854775807) (fun w hw _ => ⟨hw.1.1, hw.1.2.1⟩) fun ⟨hd1, hd2⟩ => ?_
  refine s_auto TY_ok rfl ?_
  refine s_auto TY_ok rfl ?_
  refine s_seq fun K2 hK2 => ?_
  refine s_auto TY_ok rfl ?_
  refine s_block ?_
  let F : Nat → Env := fun i => ⟨[(14, .v (.int .i64 (i : Int))), (13, .v (.int .i64 (ss.length : Int))), (12, .v (.slice B ss.length d)), (5, .v (.int .i64 ((segs (ss.take i)).length : Int))), (0, .v (pD g)), (1, .v (.slice B ss.length d))], [], [RkO g size A l.length c, RkB A c l], fun w => Rd 1 eSeg B d ss w ∧ ∀ s ∈ ss, s.rd w, fun _ => True⟩
  refine c_weak (e' := F 0) ⟨⟨rfl, rfl, rfl, rfl, rfl, rfl, trivial⟩, trivial, .refl _, fun _ h _ => h, fun _ _ => trivial⟩ (s_loop (fun i => ss.length - i) F (fun i => i ≤ ss.length) ?_ 0 (Nat.zero_le _))
  intro i hi
  refine s_auto TY_ok rfl ?_
  refine s_seq fun K3 hK3 => ?_
  refine s_ifD ((i : Int) < (ss.length : Int)) rfl (fun hlt => ?_) (fun hge => ?_)
  · have hlt : i < ss.length := by omega
    obtain ⟨x, hx⟩ : ∃ x, ss[i]? = some x := ⟨_, List.getElem?_eq_getElem hlt⟩
    have hv := congrArg List.length (segs_next hx)
    rw [List.length_append] at hv
    have hall := segs_le ss (i + 1)
    refine s_skip (hK3 _ ?_)
    refine s_seq fun K4 hK4 => ?_
    refine s_block ?_
    refine s_regA TY_ok rfl fun K5 hK5 => ?_
    refine l_elem TY_ok rfl rfl rfl i rfl hx rfl rfl (rd_fact fun w h _ => h.1) ?_
    refine l_autoS TY_ok rfl ?_
    refine s_end (hK5 _ ?_)
    refine s_lit ?_
    refine l_autoS TY_ok rfl ?_
    refine l_num 5 ((segs (ss.take (i + 1))).length : Int) rfl (wrapI (by omega) (by omega) (by omega)) ?_
    refine s_end (hK4 _ ?_)
    refine s_autoE TY_ok rfl ?_
    exact k_next (i + 1) hlt (by omega) ⟨⟨congrArg some (congrArg SV.v (congrArg (Value.int .i64) (wrapI rfl (by omega) (by omega)))), rfl, rfl, rfl, rfl, rfl, trivial⟩, trivial, .refl _, fun _ h _ => h, fun _ h => h⟩
  · obtain rfl : ss.length = i := by omega
    refine s_exit (k_pass (k_pass (k_out ?_)))
    refine hK2 _ ?_
    refine s_seq fun K6 hK6 => ?_
    refine s_regD 12 (by decide) (by kernel_rfl) (by kernel_rfl) fun K1 hK1 G S w0 hst => ?_
    refine g_autoS TY_ok hst rfl ?_
    refine g_ldO TY_ok hst rfl rfl rfl rfl rfl rfl (obj_own 0 rfl) ?_
    refine g_autoS TY_ok hst rfl ?_
    refine g_num 29 ((l.length : Int) + ((segs ss).length : Int)) rfl (by rw [segs_all]; exact wrapI rfl (by omega) (by omega)) ?_
    refine g_ldO TY_ok hst rfl rfl rfl rfl rfl rfl (obj_own 0 rfl) ?_
    refine g_autoS TY_ok hst rfl ?_
    refine g_endS hst ?_
    refine s_end (hK1 _ ?_)
    refine s_ifD ((l.length : Int) + ((segs ss).length : Int) > size) rfl (fun h0 => ?_) (fun h0 => ?_)
    · have e0 : ¬ ((l.length : Int) + (segs ss).length ≤ size) := by omega
      refine s_auto TY_ok rfl ?_
      exact s_ret (k_ret TY_ok (A, c) rfl (by decide) rfl (by rw [decide_eq_false e0]; rfl) (by rw [if_neg e0]) (fun _ _ _ => trivial) (fun _ _ => trivial))
    have e0 : (l.length : Int) + (segs ss).length ≤ size := by omega
    refine s_skip (hK6 _ ?_)
    refine s_seq fun K7 hK7 => ?_
    refine s_auto TY_ok rfl ?_
    refine s_block ?_
    let F2 : Nat × Option Addr × Nat → Env := fun x => ⟨[(37, .v (.int .i64 (x.1 : Int))), (36, .v (.int .i64 (ss.length : Int))), (35, .v (.slice B ss.length d)), (0, .v (pD g))], [], [RkO g size x.2.1 (l ++ uns (segs (ss.take x.1))).length x.2.2, RkB x.2.1 x.2.2 (l ++ uns (segs (ss.take x.1)))], fun w => Rd 1 eSeg B d ss w ∧ ∀ s ∈ ss, s.rd w, fun _ => True⟩
    refine c_weak (e' := F2 (0, A, c)) ⟨⟨rfl, rfl, rfl, rfl, trivial⟩, trivial, by simp only [F2, List.take_zero, segs, uns, List.map_nil, List.flatten_nil, List.append_nil]; exact .refl _, fun _ h _ => h, fun _ _ => trivial⟩ (s_loop (fun x => ss.length - x.1) F2 (fun x => x.1 ≤ ss.length) ?_ (0, A, c) (Nat.zero_le _))
    intro ⟨i, A1, c1⟩ hi
    refine s_auto TY_ok rfl ?_
    refine s_seq fun K8 hK8 => ?_
    refine s_ifD ((i : Int) < (ss.length : Int)) rfl (fun hlt => ?_) (fun hge => ?_)
    · have hlt : i < ss.length := by omega
      obtain ⟨x, hx⟩ : ∃ x, ss[i]? = some x := ⟨_, List.getElem?_eq_getElem hlt⟩
      have hxm : x ∈ ss := List.mem_of_getElem? hx
      have hv := segs_next hx
      have hvl := congrArg List.length hv
      rw [List.length_append] at hvl
      have hall := segs_le ss (i + 1)
      refine s_skip (hK8 _ ?_)
      refine s_seq fun K9 hK9 => ?_
      refine s_block ?_
      refine s_regA TY_ok rfl fun K10 hK10 => ?_
      refine l_elem TY_ok rfl rfl rfl i rfl hx rfl rfl (rd_fact fun w h _ => h.1) ?_
      refine l_autoS TY_ok rfl ?_
      refine s_end (hK10 _ ?_)
      refine s_pure (x.l.length ≤ 9223372036854775807) (fun w h _ => rd_max (h.2 x hxm)) fun hxl => ?_
      refine s_auto TY_ok rfl ?_
      refine s_block ?_
      generalize hp : l ++ uns (segs (ss.take i)) = pre
      have hpl : pre.length = l.length + (segs (ss.take i)).length := by rw [← hp, List.length_append, uns_len]
      let F3 : Nat × Option Addr × Nat → Env := fun y => ⟨[(43, .v (.int .i64 (y.1 : Int))), (42, .v (.int .i64 (x.l.length : Int))), (41, .v (.slice x.A x.l.length x.c)), (37, .v (.int .i64 (i : Int))), (36, .v (.int .i64 (ss.length : Int))), (35, .v (.slice B ss.length d)), (0, .v (pD g))], [], [RkO g size y.2.1 (pre ++ uns (x.l.take y.1)).length y.2.2, RkB y.2.1 y.2.2 (pre ++ uns (x.l.take y.1))], fun w => Rd 1 eSeg B d ss w ∧ ∀ s ∈ ss, s.rd w, fun _ => True⟩
      refine c_weak (e' := F3 (0, A1, c1)) ⟨⟨rfl, rfl, rfl, rfl, rfl, rfl, rfl, trivial⟩, trivial, by simp only [F3, List.take_zero, uns, List.map_nil, List.append_nil]; exact .refl _, fun _ h _ => h, fun _ _ => trivial⟩ (s_loop (fun y => x.l.length - y.1) F3 (fun y => y.1 ≤ x.l.length) ?_ (0, A1, c1) (Nat.zero_le _))
      intro ⟨j, A2, c2⟩ hj
      refine s_auto TY_ok rfl ?_
      refine s_seq fun K11 hK11 => ?_
      refine s_ifD ((j : Int) < (x.l.length : Int)) rfl (fun hltj => ?_) (fun hgej => ?_)
      · have hltj : j < x.l.length := by omega
        obtain ⟨y, hy⟩ : ∃ y, x.l[j]? = some y := ⟨_, List.getElem?_eq_getElem hltj⟩
        have hl2 : (pre ++ uns (x.l.take j)).length = pre.length + j := by rw [List.length_append, uns_len, List.length_take]; omega
        refine s_skip (hK11 _ ?_)
        refine s_seq fun K12 hK12 => ?_
        refine s_block ?_
        refine s_regA TY_ok rfl fun K13 hK13 => ?_
        refine l_elem TY_ok rfl rfl rfl j rfl hy rfl rfl (rd_fact fun w h _ => h.2 x hxm) ?_
        refine l_autoS TY_ok rfl ?_
        refine s_end (hK13 _ ?_)
        refine s_lit ?_
        refine l_autoS TY_ok rfl ?_
        refine l_ldO TY_ok rfl rfl rfl rfl rfl rfl (obj_own 0 rfl) ?_
        refine l_autoS TY_ok rfl ?_
        refine l_pushL TY_ok 1 (y, false) rfl rfl rfl rfl rfl rfl rfl (eBt_ok _) (by decide) (by decide) (by show ((pre ++ uns (x.l.take j)).length + 1) * 2 ≤ _; omega) (by show (pre ++ uns (x.l.take j)).length < _; omega) (Nat.zero_le _) fun A3 c3 => ?_
        refine l_autoS TY_ok rfl ?_
        refine l_stO TY_ok 0 rfl rfl rfl rfl rfl rfl rfl ?_
        refine s_end (hK12 _ ?_)
        refine s_autoE TY_ok rfl ?_
        refine k_next (j + 1, A3, c3) hltj (by show x.l.length - (j + 1) < x.l.length - j; omega) ⟨⟨congrArg some (congrArg SV.v (congrArg (Value.int .i64) (wrapI rfl (by omega) (by omega)))), rfl, rfl, rfl, rfl, rfl, rfl, trivial⟩, trivial, ?_, fun _ h _ => h, fun _ h => h⟩
        show List.Perm [_, _] [RkO g size A3 (pre ++ uns (x.l.take (j + 1))).length c3, RkB A3 c3 (pre ++ uns (x.l.take (j + 1)))]
        rw [List.take_add_one, hy, uns_app, ← List.append_assoc]
        exact .refl _
      · obtain rfl : x.l.length = j := by omega
        refine s_exit (k_pass (k_pass (k_out ?_)))
        refine hK9 _ ?_
        refine s_autoE TY_ok rfl ?_
        refine k_next (i + 1, A2, c2) hlt (by show ss.length - (i + 1) < ss.length - i; omega) ⟨⟨congrArg some (congrArg SV.v (congrArg (Value.int .i64) (wrapI rfl (by omega) (by omega)))), rfl, rfl, rfl, trivial⟩, trivial, ?_, fun _ h _ => h, fun _ h => h⟩
        show List.Perm [RkO g size A2 (pre ++ uns (x.l.take x.l.length)).length c2, RkB A2 c2 (pre ++ uns (x.l.take x.l.length))] [RkO g size A2 (l ++ uns (segs (ss.take (i + 1)))).length c2, RkB A2 c2 (l ++ uns (segs (ss.take (i + 1))))]
        rw [hv, uns_app, ← List.append_assoc, hp, List.take_length]
    · obtain rfl : ss.length = i := by omega
      refine s_exit (k_pass (k_pass (k_out ?_)))
      refine hK7 _ ?_
      refine s_auto TY_ok rfl ?_
      exact s_ret (k_ret TY_ok (A1, c1) rfl (by decide) rfl (by rw [decide_eq_true e0]; rfl) (by rw [if_pos e0, segs_all]) (fun _ _ _ => trivial) (fun _ _ => trivial))
end Go.Proofs.Ythkbejheedffjaa
