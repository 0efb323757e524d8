/-
  SEVERAL TEXTS IN ONE: Vf, Vg, Vh, Ty, Vi, OpenR, Opens, OpenK, LawW, Vj, VcV, Vk, RgS, Vm, Vn.
-/
import Derived.Test.YtcbfalfkdnfelaaDoorMc
import Derived.Laws.MakeOwn
import Derived.Maps.AppendAt
import Derived.Great.BuildSlice
import Derived.Test.YtcbfalfkdnfelaaDoorMa
import Derived.Deep.Slices
import Derived.LaidMore
import Derived.SevenTiedAt
import Derived.Stop.Joined
import Derived.Lib.SlBytesConst
import Derived.Test.YtcbfalfkdnfelaaDoorMb
import Derived.Laws.IdiomStrings
import Derived.Laws.BytesArg
import Derived.Lib.LazyBuf
/-
  SLICES OF WHATEVER ELEMENTS: read, owned, grown, made, written.
-/
namespace Go.Proofs.YtcbfalfkdnfelaaDoor
open Go.RowKit Go.IntWalk

/-- An element's cells. -/
def SQ.cl (q : SQ) : List Value := q.den.cells.toList
def SQ.parts1 : SQ → List Pt
  | .c s => [.one s]
  | .p ps => ps
/-- Each element is of k cells. -/
def OkF {α : Type} (k : Nat) (fe : α → SQ) (l : List α) : Prop := ∀ x ∈ l, OkP (fe x).parts1 ∧ (fe x).cl.length = k
theorem SQ.cl_parts {q : SQ} (h : OkP q.parts1) : q.cl = (catP q.parts1).toList := by
  cases q with
  | c s => exact congrArg Array.toList (h _ List.mem_cons_self).2.2
  | p ps => rfl
theorem SQ.ok_parts {q : SQ} (h : OkP q.parts1) : q.Ok := by
  cases q with
  | c s => exact (h _ List.mem_cons_self).1
  | p ps => exact h
theorem SQ.cl_one {q : SQ} (h : OkP q.parts1) : ∀ v ∈ q.cl, v.oneCell' = true := by
  rw [SQ.cl_parts h]
  exact h.one
/-- The elements l lie at A, k cells each. -/
def Rd {α : Type} (k : Nat) (fe : α → SQ) (A : Option Addr) (c : Nat) (l : List α) (w : World) : Prop :=
  l.length ≤ c ∧ c ≤ 9223372036854775807 ∧ (A = none → c = 0) ∧ OkF k fe l ∧ (0 < l.length → ∃ b o, A = some ⟨b, o, none⟩ ∧ b < w.heap.size ∧ ∀ (i : Nat) x, l[i]? = some x → w.rangeAt b (o + k * i) (fe x).cl)
section
variable {α : Type} {k c : Nat} {fe : α → SQ} {A : Option Addr} {l : List α} {w w' : World}
theorem Rd.keep (h : Rd k fe A c l w) (hs : w.heap.size ≤ w'.heap.size) (hk : ∀ b, A.map (·.block) = some b → b < w.heap.size → w'.heap[b]? = w.heap[b]?) : Rd k fe A c l w' := by
  obtain ⟨h1, h2, h3, h4, h5⟩ := h
  refine ⟨h1, h2, h3, h4, fun hl => ?_⟩
  obtain ⟨b, o, e, hb, hr⟩ := h5 hl
  subst e
  exact ⟨b, o, rfl, Nat.lt_of_lt_of_le hb hs, fun i x hi j v hj => (World.cell?_of_block (w := w) (w' := w') (a := ⟨b, o + k * i + j, none⟩) (hk b rfl hb)).trans (hr i x hi j v hj)⟩
instance : Pst (Rd k fe A c l) := ⟨fun _ _ h hb => h.keep hb.size fun b _ hlt => hb.block b hlt⟩
theorem Rd.later (h : Rd k fe A c l w) (hb : Below w.heap.size w w') : Rd k fe A c l w' := h.keep hb.size fun b _ hlt => hb.block b hlt
theorem Rd.nil (k : Nat) (fe : α → SQ) (w : World) : Rd k fe none 0 [] w := ⟨Nat.le_refl _, by decide, fun _ => rfl, fun _ h => (by cases h), fun h => absurd h (Nat.lt_irrefl _)⟩
theorem Rd.take (h : Rd k fe A c l w) (n : Nat) : Rd k fe A c (l.take n) w := by
  obtain ⟨h1, h2, h3, h4, h5⟩ := h
  refine ⟨Nat.le_trans (List.length_take_le' _ _) h1, h2, h3, fun x hx => h4 x (List.mem_of_mem_take hx), fun hl => ?_⟩
  obtain ⟨b, o, e, hb, hr⟩ := h5 (by rw [List.length_take] at hl; omega)
  refine ⟨b, o, e, hb, fun i x hi => hr i x ?_⟩
  rw [List.getElem?_take] at hi
  split at hi
  · exact hi
  · cases hi
end
/-- The address behind some cells. -/
def ptrAt (A : Option Addr) (n : Nat) : Value := match A with
  | some a => .pointer (some ⟨a.block, a.off + n, none⟩)
  | none => .pointer none
/-- What a pair of operations that read an element says. -/
structure EL where
  k1 : Nat
  k2 : Nat
  sz : Nat
  t : TypeId
  A : Option Addr
  n : Nat
  c : Nat
  i : Int
def elemS (T : List TyR) (N : Nat) (E : SE) (o1 o2 : Oper) : Option EL := match o1.dst, o2.dst, o1.op, o2.op with
  | some k1, some k2, .indexAddr t x y, .load t' (.tmp z) => match Nat.beq z k1, Nat.blt k1 N, Nat.blt k2 N, findT T t with
    | true, true, true, some r => match r.el with
      | some e => match findT T e, evS E x, evS E y with
        | some re, some (.q (.c (.v (.slice A n c)))), some (.q (.c (.v (.int _ i)))) => some ⟨k1, k2, sizeP re.zero, t', A, n, c, i⟩
        | _, _, _ => none
      | none => none
    | _, _, _, _ => none
  | _, _, _, _ => none
theorem el_of {P : Program} {r : TyR} (h : r.ok P) {e : TypeId} (he : r.el = some e) : P.underlying r.t = some (.slice e) := by
  obtain ⟨it, d, h5, h6, -, -, -, -, h7, -⟩ := h.info
  rw [he] at h7
  cases d <;> first | (cases h7; done) | skip
  injection h7 with h7
  subst h7
  exact h6
theorem run_index {P : Program} {t e : TypeId} {k : Nat} (ht : P.underlying t = some (.slice e)) (he : (P.info? e).map (·.size) = some k) (b o n c : Nat) (K : IntKind) (i : Nat) (hi : i < n) (w : World) :
    (Instr.indexAt t (.slice (some ⟨b, o, none⟩) n c) (.int K (i : Int))).run P w = .ok (.pointer (some ⟨b, o + k * i, none⟩)) w := by
  cases hq : P.info? e with
  | none => simp [hq] at he
  | some ie =>
    have hs : ie.size = k := by simpa [hq] using he
    have h1 : (i : Int) < (n : Int) := by omega
    have h2 : (0 : Int) ≤ (i : Int) := by omega
    simp [Instr.indexAt, asIntOf, run_underlying ht, sizeOf, typeInfo, hq, hs, Addr.add_mid, Nat.mul_comm, hi]
theorem elemS_ok {P : Program} {T : List TyR} (hT : OkT P T) {N : Nat} {E : SE} {o1 o2 : Oper} {u : EL} (h : elemS T N E o1 o2 = some u) :
    o1.dst = some u.k1 ∧ o2.dst = some u.k2 ∧ Nat.blt u.k1 N = true ∧ Nat.blt u.k2 N = true ∧ o2.op = .load u.t (.tmp u.k1) ∧ ∃ t e x y K, o1.op = .indexAddr t x y ∧ P.underlying t = some (.slice e) ∧ (P.info? e).map (·.size) = some u.sz ∧ evS E x = some (.v (.slice u.A u.n u.c)) ∧ evS E y = some (.v (.int K u.i)) := by
  unfold elemS at h
  split at h
  · rename_i k1 k2 t x y t' z e1 e2 e3 e4
    split at h
    · rename_i r e5 e6 e7 hr
      split at h
      · rename_i e he
        split at h
        · rename_i re A n c K i hre hx hy
          injection h with h
          subst h
          obtain ⟨h1, rfl⟩ := findT_ok hT hr
          have h2 := findT_ok hT hre
          clear hre
          obtain ⟨h2, rfl⟩ := h2
          obtain ⟨it, d, h5, _, h6, -⟩ := h2.info
          have e5 := Nat.eq_of_beq_eq_true e5
          subst e5
          exact ⟨e1, e2, e6, e7, e4, _, _, x, y, K, e3, el_of h1 he, by rw [h5, Option.map_some, h6], hx, hy⟩
        · cases h
      · cases h
    · cases h
  · cases h
section
variable {α : Type} {fe : α → SQ} {l : List α} {P : Program} {T : List TyR} {b : Base} {ops : Array Oper} {Q : Exit → Act → World → Prop} {N : Nat} {E : SE} {L : List LV} {R : List Res} {F M : World → Prop} {o1 o2 : Oper} {u : EL}
/-- What the two operations hand back. -/
theorem elem_run (hT : OkT P T) (h : elemS T N E o1 o2 = some u) (j : Nat) {x : α} (hj : u.i = (j : Int)) (hx : l[j]? = some x) (hn : u.n = l.length) (hl : loadS T (fe x).parts1 u.t 0 = some (fe x)) :
    ∀ {G : Nat → Nat} {a : Act} {w : World}, Rd u.sz fe u.A u.c l w → Fr N (denE G E) a → (execOp a.eval o1).run P w = .ok (.value (ptrAt u.A (u.sz * j))) w ∧ (fe x).Ok ∧
      ∀ a' : Act, a'.eval (.tmp u.k1) = ptrAt u.A (u.sz * j) → (execOp a'.eval o2).run P w = .ok (.value (fe x).den) w := by
  intro G a w hrd ha
  obtain ⟨h1, h2, h3, h4, h5, t, e, y1, y2, K, h6, h7, h8, h9, h10⟩ := elemS_ok hT h
  have hlt := (List.getElem?_eq_some_iff.1 hx).1
  obtain ⟨_, _, _, hok, hr⟩ := hrd
  obtain ⟨bk, o, hA, hb, hr⟩ := hr (by omega)
  obtain ⟨hp, hsz⟩ := hok x (List.mem_of_getElem? hx)
  have e1 := ha.eval (evS_ok h9)
  have e2 := ha.eval (evS_ok h10)
  have hq : ptrAt u.A (u.sz * j) = .pointer (some ⟨bk, o + u.sz * j, none⟩) := by rw [hA]; rfl
  refine ⟨?_, SQ.ok_parts hp, fun a' ha' => ?_⟩
  · have hi := run_index (P := P) h7 h8 bk o u.n u.c K j (by omega) w
    rw [← hA, ← hj] at hi
    unfold execOp
    simp only [h6, e1, e2, SV.den, SQ.den, SC.den, hi, Sem.run_bind, Sem.run_pure, Result.andThen_ok, hq]
  · obtain ⟨_, h12⟩ := loadS_at hT hp hl
    have h13 := h12 (w := w) (g := bk) (base := o + u.sz * j) (by rw [← SQ.cl_parts hp]; exact hr j x hx)
    rw [Nat.add_zero] at h13
    unfold execOp
    simp only [h5, ha', hq, h13, Sem.run_bind, Sem.run_pure, Result.andThen_ok]
theorem ptrAt_ok (A : Option Addr) (n : Nat) : (SV.o (ptrAt A n)).Ok := by
  cases A <;> exact ⟨rfl, rfl⟩
/-- Whether an operation is wanted hangs on no slot that is no bool. -/
theorem want_any {ops : Array Oper} {N k : Nat} {E : SE} {o : Oper} {v : SV} {q : Bool} (h : wantS ops N ((k, .v undef) :: E) o = some q) : wantS ops N ((k, v) :: E) o = some q := by
  unfold wantS at h ⊢
  cases hgd : o.guard with
  | none => rw [hgd] at h; exact h
  | some jb =>
    obtain ⟨j, b⟩ := jb
    rw [hgd] at h
    dsimp only at h ⊢
    cases ht : (ops[j]?).bind (·.dst) with
    | none => rw [ht] at h; cases h
    | some t =>
      rw [ht] at h
      dsimp only at h ⊢
      cases hN : Nat.blt t N with
      | false => rw [hN] at h; cases h
      | true =>
        rw [hN] at h
        simp only [lookS] at h ⊢
        cases he : Nat.beq k t with
        | true => rw [he] at h; cases h
        | false => rw [he] at h; exact h
/-- **An element is read**, the order forced. -/
theorem l_elem {rest : List Oper} (hT : OkT P T) (h : elemS T N E o1 o2 = some u) (hg : o1.guard = none) (hw : wantS ops N ((u.k1, .v undef) :: E) o2 = some true) (j : Nat) {x : α} (hj : u.i = (j : Int)) (hx : l[j]? = some x) (hn : u.n = l.length) (hl : loadS T (fe x).parts1 u.t 0 = some (fe x))
    (hrd : ∀ G S w, View G S L R F M w → Rd u.sz fe u.A u.c l w) (hk : lS P b ops Q N rest ⟨(u.k2, .q (fe x)) :: (u.k1, .o (ptrAt u.A (u.sz * j))) :: E, L, R, F, M⟩) : lS P b ops Q N (o1 :: o2 :: rest) ⟨E, L, R, F, M⟩ := fun a w ⟨G, S, h1, h2, h3⟩ => by
  obtain ⟨d1, d2, n1, n2, ho2, -⟩ := elemS_ok hT h
  obtain ⟨r1, hok, r2⟩ := elem_run hT h j hj hx hn hl (hrd G S w h3.view) h1
  have hw1 : Region.wanted o1 (yielded ops a.tmps) = true := by simp [Region.wanted, hg]
  refine wpl_go hw1 r1 ?_
  rw [d1]
  have f1 : Fr N (denE G ((u.k1, .o (ptrAt u.A (u.sz * j))) :: E)) (a.put (some u.k1) (ptrAt u.A (u.sz * j))) := h1.put n1 _
  refine wpl_go (wantS_ok (E := (u.k1, .o (ptrAt u.A (u.sz * j))) :: E) f1 (want_any hw)) (r2 _ (eval_put_same h1 n1 _)) ?_
  rw [d2]
  exact hk _ w ⟨G, S, f1.put n2 _, (h2.cons (ptrAt_ok _ _)).cons hok, h3⟩
/-- **An element is read**, the order drawn. -/
theorem g_elem {T' : List Oper} {G : Nat → Nat} {S : Nat → Prop} {w0 : World} {rest : List (Nat × Oper)} {i1 i2 : Nat} (hT : OkT P T) (hst : StW b G S L R F M w0) (h : elemS T N E o1 o2 = some u) (hg : o1.guard = none) (hw : wantS ops N ((u.k1, .v undef) :: E) o2 = some true) (j : Nat) {x : α} (hj : u.i = (j : Int)) (hx : l[j]? = some x) (hn : u.n = l.length) (hl : loadS T (fe x).parts1 u.t 0 = some (fe x))
    (hrd : ∀ G S w, View G S L R F M w → Rd u.sz fe u.A u.c l w) (hk : gS P b ops Q N T' G w0 rest ((u.k2, .q (fe x)) :: (u.k1, .o (ptrAt u.A (u.sz * j))) :: E)) : gS P b ops Q N T' G w0 ((i1, o1) :: (i2, o2) :: rest) E := fun hE => by
  obtain ⟨d1, d2, n1, n2, ho2, -⟩ := elemS_ok hT h
  have hv := fun w (hw : Up w0 w) => hrd G S w (hst.later hw).view
  have hok : (fe x).Ok := by
    obtain ⟨_, _, _, h4, _⟩ := hv w0 (Up.refl _)
    exact SQ.ok_parts (h4 x (List.mem_of_getElem? hx)).1
  refine g_op rfl (fun a ha => b_val (v := ptrAt u.A (u.sz * j)) (by simp [Region.wanted, hg]) (fun w hw => (elem_run hT h j hj hx hn hl (hv w hw.1) ha).1) ?_)
  rw [d1]
  have f1 : Fr N (denE G ((u.k1, .o (ptrAt u.A (u.sz * j))) :: E)) (a.put (some u.k1) (ptrAt u.A (u.sz * j))) := ha.put n1 _
  refine g_go (o := o1) (E := denE G ((u.k1, .o (ptrAt u.A (u.sz * j))) :: E)) (g_op rfl (fun a2 ha2 => b_val (v := (fe x).den) (wantS_ok (E := (u.k1, .o (ptrAt u.A (u.sz * j))) :: E) ha2 (want_any hw)) (fun w hw => ?_) ?_)) _ f1
  · have hev : a2.eval (.tmp u.k1) = ptrAt u.A (u.sz * j) := ha2.get u.k1 _ (by rw [denE, look_cons, if_pos rfl]; rfl)
    exact (elem_run hT h j hj hx hn hl (hv w hw.1) ha).2.2 a2 hev
  · rw [d2]
    exact g_go (o := o2) (hk ((hE.cons (ptrAt_ok _ _)).cons hok)) _ (ha2.put n2 _)
end
end Go.Proofs.YtcbfalfkdnfelaaDoor
/-
  SLICES OF ONE'S OWN: literals, make, append, elements written; what becomes of them when they are owned no more.
-/
namespace Go.Proofs.YtcbfalfkdnfelaaDoor
open Go.RowKit Go.IntWalk

/-- The cells of elements, one behind the other. -/
def flatF {α : Type} (fe : α → SQ) (l : List α) : List Value := l.flatMap fun x => (fe x).cl
section
variable {α : Type} {k : Nat} {fe : α → SQ} {l m : List α}
theorem flatF_app : flatF fe (l ++ m) = flatF fe l ++ flatF fe m := List.flatMap_append
theorem flatF_len (h : OkF k fe l) : (flatF fe l).length = l.length * k := by
  induction l with
  | nil => simp [flatF]
  | cons x l ih =>
    have h1 := ih fun y hy => h y (by simp [hy])
    have h2 := (h x (by simp)).2
    simp only [flatF, List.flatMap_cons, List.length_append, List.length_cons] at h1 ⊢
    rw [h1, h2, Nat.add_mul]
    omega
theorem flatF_one (h : OkF k fe l) : ∀ v ∈ flatF fe l, v.oneCell' = true := fun v hv => by
  obtain ⟨x, hx, hv⟩ := List.mem_flatMap.1 hv
  exact SQ.cl_one (h x hx).1 v hv
theorem flatF_split (h : OkF k fe l) {i : Nat} {x : α} (hi : l[i]? = some x) : ∃ A Z, flatF fe l = A ++ ((fe x).cl ++ Z) ∧ A.length = k * i ∧ ∀ y : α, flatF fe (l.set i y) = A ++ ((fe y).cl ++ Z) := by
  induction l generalizing i with
  | nil => simp at hi
  | cons y l ih =>
    cases i with
    | zero =>
      simp only [List.getElem?_cons_zero, Option.some.injEq] at hi
      subst hi
      exact ⟨[], flatF fe l, by simp [flatF], rfl, fun z => by simp [flatF]⟩
    | succ i =>
      obtain ⟨A, Z, h1, h2, h3⟩ := ih (fun z hz => h z (by simp [hz])) (by simpa using hi)
      refine ⟨(fe y).cl ++ A, Z, ?_, ?_, fun z => ?_⟩
      · rw [List.append_assoc, ← h1]
        simp [flatF]
      · rw [List.length_append, h2, (h y (by simp)).2, Nat.mul_succ]
        omega
      · rw [List.append_assoc, ← h3 z]
        simp [flatF]
theorem OkF.app (h : OkF k fe l) (h' : OkF k fe m) : OkF k fe (l ++ m) := fun x hx => (List.mem_append.1 hx).elim (h x) (h' x)
theorem OkF.set (h : OkF k fe l) {i : Nat} {y : α} (hy : OkP (fe y).parts1 ∧ (fe y).cl.length = k) : OkF k fe (l.set i y) := fun x hx => (List.mem_or_eq_of_mem_set hx).elim (h x) fun e => e ▸ hy
end
/-- **A slice of one's own**, in blocks from lo on: the elements l. -/
def OwnS {α : Type} (lo : Nat) (e : TypeId) (k : Nat) (fe : α → SQ) (A : Option Addr) (c : Nat) (l : List α) : Res where
  holds w S := OkF k fe l ∧ w.ownsRow lo e k (.slice A l.length c) l.length (flatF fe l) ∧ ∀ j, S j ↔ A.map (·.block) = some j
  keep := fun {w w' S} ⟨h1, h2, h3⟩ hk => by
    refine ⟨h1, ⟨h2.1, ?_⟩, h3⟩
    rcases h2.2 with h4 | ⟨g, cap, cur, hv, hb, hg, hr⟩
    · exact .inl h4
    · injection hv with h5 h6 h7
      refine .inr ⟨g, cap, cur, by rw [h5, h7], hb, ?_, hr⟩
      rw [hk g ((h3 g).2 (by rw [h5]; rfl))]
      exact hg
  lt := fun {w S} ⟨_, h2, h3⟩ j hj => by
    have h4 := (h3 j).1 hj
    cases A with
    | none => cases h4
    | some a =>
      have := (h2.lt a.block rfl).2
      simp only [Option.map_some, Option.some.injEq] at h4
      rw [← h4]
      exact this
section
variable {α : Type} {lo e k c : Nat} {fe : α → SQ} {A : Option Addr} {l : List α} {w : World} {S : Nat → Prop}
theorem OwnS.rd (h : (OwnS lo e k fe A c l).holds w S) : Rd k fe A c l w := by
  obtain ⟨h1, h2, h3⟩ := h
  rcases h2.2 with ⟨h4, h5⟩ | ⟨g, cap, cur, hv, hb, hg, hn, hm, hs, ht⟩
  · injection h4 with h6 h7 h8
    have := List.eq_nil_of_length_eq_zero h5
    subst h6 h8 this
    exact Rd.nil _ _ _
  · injection hv with h6 h7 h8
    subst h6 h8
    refine ⟨hn, by simp only [maxLen] at hm; omega, fun h => (by cases h), h1, fun _ => ⟨g, 0, rfl, (Array.getElem?_eq_some_iff.1 hg).1, fun i x hi j v hj => ?_⟩⟩
    obtain ⟨B, Z, h9, h10, _⟩ := flatF_split h1 hi
    have hB : Blk w g e cur := hg
    rw [hB.cell, Nat.zero_add]
    have hlt := (List.getElem?_eq_some_iff.1 hj).1
    have h11 : (flatF fe l)[k * i + j]? = some v := by
      rw [h9, List.getElem?_append_right (by omega), h10, Nat.add_sub_cancel_left, List.getElem?_append_left hlt]
      exact hj
    rw [← ht, List.getElem?_take] at h11
    split at h11
    · simpa using h11
    · cases h11
theorem OwnS.nil (lo e k : Nat) (fe : α → SQ) (w : World) : (OwnS lo e k fe none 0 []).holds w fun _ => False :=
  ⟨fun _ h => (by cases h), ⟨by simp [flatF], .inl ⟨rfl, rfl⟩⟩, fun j => ⟨False.elim, fun h => (by cases h)⟩⟩
theorem OwnS.inb (h : (OwnS lo e k fe A c l).holds w S) : ∀ a, A = some a → lo ≤ a.block ∧ a.block < w.heap.size := fun a ha => h.2.1.lt a.block (by rw [ha]; rfl)
end

/-! ### Literals -/
theorem fill_row {k : Nat} : ∀ (vs : List Value) (A Z : List Value) (i : Nat), A.length = i * k → Z.length = k * vs.length → (∀ v ∈ vs, v.cells.size = k) →
    Instr.fill (fun i => some (i * k, k)) (A ++ Z).toArray ((vs.zipIdx i).map fun x => (x.2, x.1)) = some (A ++ vs.flatMap fun v => v.cells.toList).toArray
  | [], A, Z, i, _, hZ, _ => by
    obtain rfl := List.eq_nil_of_length_eq_zero (show Z.length = 0 by simpa using hZ)
    rfl
  | v :: vs, A, Z, i, hA, hZ, hl => by
    rw [List.length_cons, Nat.mul_succ] at hZ
    have hk := hl v (by simp)
    have e : Z = Z.take k ++ Z.drop k := (List.take_append_drop k Z).symm
    have tk : (Z.take k).length = k := by rw [List.length_take]; omega
    rw [e, List.zipIdx_cons, List.map_cons]
    rw [fill_cells (fun i => some (i * k, k)) i k A (Z.take k) (Z.drop k) v.cells.toList _ v (by rw [hA]) (by rw [Array.length_toList, hk]) tk (by simp), ← List.append_assoc]
    rw [fill_row vs (A ++ v.cells.toList) (Z.drop k) (i + 1) (by rw [List.length_append, show v.cells.toList.length = k from by rw [Array.length_toList, hk], hA, Nat.succ_mul]) (by rw [List.length_drop]; omega) (fun u hu => hl u (by simp [hu]))]
    rw [List.flatMap_cons, List.append_assoc]
theorem run_lit {P : Program} {t e : TypeId} {ie : TypeInfo} {z : Value} {k : Nat} (ht : P.underlying t = some (.slice e)) (hi : P.info? e = some ie) (hz : ie.zero = some z) (hs : ie.size = k) (vs : List Value) (n : Nat) (parts : Array (Nat × Value)) (hp : parts.toList = (vs.zipIdx 0).map fun x => (x.2, x.1)) (hn : vs.length = n) (h0 : 0 < n * k) (h24 : n * k ≤ 16777216) (hl : ∀ v ∈ vs, v.cells.size = k) (w : World) :
    (Instr.buildSlice t n parts).run P w = .ok (.slice (some ⟨w.heap.size, 0, none⟩) n n) (w.alloc (.cells (vs.flatMap fun v => v.cells.toList).toArray e)) := by
  subst hs
  refine run_buildSlice w t e n parts _ ie z ht hi hz (by omega) (by omega) ?_
  rw [hp]
  have hsz : ((Array.range (n * ie.size)).map (z.cells[· % z.cells.size]!)).size = n * ie.size := by simp
  generalize (Array.range (n * ie.size)).map (z.cells[· % z.cells.size]!) = Z at *
  have := fill_row (k := ie.size) vs [] Z.toList 0 (by simp) (by rw [Array.length_toList, hsz, hn, Nat.mul_comm]) hl
  rwa [List.nil_append, List.nil_append, Array.toArray_toList] at this
/-- What is told of a slice type: its elements' type, cells, bytes. -/
def slS (T : List TyR) (t : TypeId) : Option (TypeId × Nat × Nat) := match findT T t with
  | some r => match r.el with
    | some e => match findT T e with
      | some re => some (e, sizeP re.zero, re.w)
      | none => none
    | none => none
  | none => none
theorem slS_ok {P : Program} {T : List TyR} (hT : OkT P T) {t e : TypeId} {k bs : Nat} (h : slS T t = some (e, k, bs)) : P.underlying t = some (.slice e) ∧ ∃ ie z, P.info? e = some ie ∧ ie.zero = some z ∧ ie.size = k ∧ ie.bytes = bs ∧ z.cells.size = k ∧ ∃ zs, OkP zs ∧ z.cells = catP zs ∧ ∃ r, findT T e = some r ∧ r.zero = zs := by
  unfold slS at h
  split at h
  · rename_i r hr
    split at h
    · rename_i e' he
      split at h
      · rename_i re hre
        injection h with h
        injection h with e1 h
        injection h with e2 e3
        subst e1 e2 e3
        obtain ⟨h1, rfl⟩ := findT_ok hT hr
        have hre' := hre
        have h2 := findT_ok hT hre
        clear hre
        obtain ⟨h2, rfl⟩ := h2
        obtain ⟨it, d, h5, _, h6, h7, _, _, _, _, _, h8⟩ := h2.info
        cases hz : it.zero with
        | none => rw [hz] at h7; cases h7
        | some z =>
          rw [hz] at h7
          simp only [Option.map_some, Option.some.injEq] at h7
          exact ⟨el_of h1 he, it, z, h5, hz, h6, h8, by rw [h7, h2.2.size], re.zero, h2.2, h7, re, hre', rfl⟩
      · cases h
    · cases h
  · cases h
/-- A new block of elements is a slice of one's own. -/
theorem OwnS.new {α : Type} {lo e k : Nat} {fe : α → SQ} {l : List α} (w : World) (hlo : lo ≤ w.heap.size) (h : OkF k fe l) (hm : l.length ≤ 9223372036854775807) : (OwnS lo e k fe (some ⟨w.heap.size, 0, none⟩) l.length l).holds (w.alloc (.cells (flatF fe l).toArray e)) fun j => j = w.heap.size :=
  ⟨h, ⟨flatF_len h, .inr ⟨w.heap.size, l.length, (flatF fe l).toArray, rfl, hlo, heap_alloc_new w _, Nat.le_refl _, by simp only [maxLen]; omega, by simp [flatF_len h], List.take_of_length_le (Nat.le_of_eq (flatF_len h))⟩⟩, fun j => by simp [eq_comm]⟩
section
variable {α : Type} {fe : α → SQ} {l : List α} {P : Program} {T : List TyR} {b : Base} {ops : Array Oper} {Q : Exit → Act → World → Prop} {N : Nat} {E : SE} {L : List LV} {R : List Res} {F M : World → Prop} {o o2 : Oper} {rest : List Oper} {k e sz bs : Nat} {t : TypeId}
theorem oneS (hg : o.guard = none) {a : Act} : Region.wanted o (yielded ops a.tmps) = true := by simp [Region.wanted, hg]
theorem map_parts {G : Nat → Nat} {a : Act} (ha : Fr N (denE G E) a) : ∀ (l : List (Nat × Operand)) (m : List (Value × Nat)), l.map (fun p => (p.1, (evS E p.2).map (SV.den G))) = m.map (fun x => (x.2, some x.1)) → l.map (fun (i, x) => (i, a.eval x)) = m.map fun x => (x.2, x.1)
  | [], [], _ => rfl
  | [], _ :: _, h => by cases h
  | _ :: _, [], h => by cases h
  | p :: l, u :: m, h => by
    simp only [List.map_cons, List.cons.injEq, Prod.mk.injEq] at h ⊢
    refine ⟨⟨h.1.1, ?_⟩, map_parts ha l m h.2⟩
    cases hx : evS E p.2 with
    | none => rw [hx] at h; cases h.1.2
    | some v =>
      rw [hx] at h
      simp only [Option.map_some, Option.some.injEq] at h
      exact (ha.eval (evS_ok hx)).trans h.1.2
/-- **A literal**: a slice of one's own. -/
theorem l_list {n : Nat} {parts : Array (Nat × Operand)} (hT : OkT P T) (lo : Nat) (l : List α) (hg : o.guard = none) (hd : o.dst = some k) (hk : Nat.blt k N = true) (ho : o.op = .buildSlice t n parts) (hs : slS T t = some (e, sz, bs))
    (hp : ∀ G : Nat → Nat, parts.toList.map (fun p => (p.1, (evS E p.2).map (SV.den G))) = ((l.map fun x => (fe x).den).zipIdx 0).map fun x => (x.2, some x.1)) (hn : l.length = n) (h0 : 0 < n * sz) (h24 : n * sz ≤ 16777216) (hok : OkF sz fe l) (hlo : lo ≤ b.B.heap.size)
    (hc : ∀ A, lS P b ops Q N rest ⟨(k, .v (.slice A n n)) :: E, L, OwnS lo e sz fe A n l :: R, F, M⟩) : lS P b ops Q N (o :: rest) ⟨E, L, R, F, M⟩ := fun a w ⟨G, S, h1, h2, h3⟩ => by
  obtain ⟨ht, ie, z, hi, hz, hsz, hbs, hzs, _⟩ := slS_ok hT hs
  have hr := run_lit (P := P) ht hi hz hsz (l.map fun x => (fe x).den) n (parts.map fun (i, x) => (i, a.eval x)) (by rw [Array.toList_map]; exact map_parts h1 _ _ (hp G)) (by rw [List.length_map, hn]) h0 h24 (fun v hv => by
    obtain ⟨x, hx, rfl⟩ := List.mem_map.1 hv
    have := (hok x hx).2
    rwa [SQ.cl, Array.length_toList] at this) w
  have e1 : ((l.map fun x => (fe x).den).flatMap fun v => v.cells.toList) = flatF fe l := by rw [List.flatMap_map]; rfl
  rw [e1] at hr
  subst hn
  refine wpl_go (v := .slice (some ⟨w.heap.size, 0, none⟩) l.length l.length) (w' := w.alloc (.cells (flatF fe l).toArray e)) (oneS hg) (by
    unfold execOp
    simp only [ho, Sem.run_bind, hr, Result.andThen_ok, Sem.run_pure]) ?_
  rw [hd]
  have hsz' : 0 < sz := Nat.pos_of_mul_pos_left h0
  obtain ⟨S', h4⟩ := h3.gain ((Below.refl w.heap.size w).alloc (Nat.le_refl _) _) (OwnS.new (lo := lo) w (Nat.le_trans hlo h3.chg.size) hok (by
    have := Nat.le_mul_of_pos_right l.length hsz'
    omega)) (fun j hj => Nat.le_of_eq hj.symm)
  exact hc _ _ _ ⟨G, S', h1.put hk _, h2.cons trivial, h4⟩
theorem s_nil0 {c : Code} (lo e sz : Nat) (fe : α → SQ) (h : cS P b c Q N ⟨E, L, OwnS lo e sz fe none 0 [] :: R, F, M⟩) : cS P b c Q N ⟨E, L, R, F, M⟩ := fun a w ⟨G, S, h1, h2, h3⟩ => by
  obtain ⟨S', h4⟩ := h3.gain (Below.refl _ _) (OwnS.nil lo e sz fe w) (fun _ h => h.elim)
  exact h a w ⟨G, S', h1, h2, h4⟩
end

/-! ### Append -/
/-- append(s, x), x an element: what the two operations say. -/
structure PU where
  k1 : Nat
  k2 : Nat
  t : TypeId
  A : Option Addr
  n : Nat
  c : Nat
  q : SQ
def pushS (N : Nat) (E : SE) (o1 o2 : Oper) : Option PU := match o1.dst, o2.dst, o1.op, o2.op with
  | some k1, some k2, .buildSlice t 1 ⟨[(0, z)]⟩, .call { callee := .builtin .append, args := ⟨[s, .tmp y]⟩, argTypes := ⟨[t1, t2]⟩ } => match Nat.beq y k1, Nat.beq t1 t, Nat.beq t2 t, Nat.blt k1 N, Nat.blt k2 N with
    | true, true, true, true, true => match evS E z, evS E s, lookS E k1 with
      | some (.q q), some (.q (.c (.v (.slice A n c)))), none => some ⟨k1, k2, t, A, n, c, q⟩
      | _, _, _ => none
    | _, _, _, _, _ => none
  | _, _, _, _ => none
theorem pushS_ok {N : Nat} {E : SE} {o1 o2 : Oper} {u : PU} (h : pushS N E o1 o2 = some u) : o1.dst = some u.k1 ∧ o2.dst = some u.k2 ∧ Nat.blt u.k1 N = true ∧ Nat.blt u.k2 N = true ∧ lookS E u.k1 = none ∧
    ∃ z s, o1.op = .buildSlice u.t 1 #[(0, z)] ∧ o2.op = .call { callee := .builtin .append, args := #[s, .tmp u.k1], argTypes := #[u.t, u.t] } ∧ evS E z = some (.q u.q) ∧ evS E s = some (.v (.slice u.A u.n u.c)) := by
  unfold pushS at h
  split at h
  · rename_i k1 k2 t z s y t1 t2 e1 e2 e3 e4
    split at h
    · rename_i e5 e6 e7 e8 e9
      split at h
      · rename_i q A n c e10 e11 e12
        injection h with h
        subst h
        obtain rfl := Nat.eq_of_beq_eq_true e5
        obtain rfl := Nat.eq_of_beq_eq_true e6
        obtain rfl := Nat.eq_of_beq_eq_true e7
        exact ⟨e1, e2, e8, e9, e12, z, s, e3, e4, e10, e11⟩
      · cases h
    · cases h
  · cases h
theorem slice_of {w : World} {lo e k n : Nat} {v : Value} {xs : List Value} (h : w.ownsRow lo e k v n xs) : ∃ A c, v = .slice A n c := by
  rcases h.2 with ⟨h1, h2⟩ | ⟨g, cap, cur, hv, _⟩
  · exact ⟨none, 0, by rw [h1, h2]⟩
  · exact ⟨_, _, hv⟩
theorem ownBlock_slice (A : Option Addr) (n c : Nat) : (Value.slice A n c).ownBlock = A.map (·.block) := by cases A <;> rfl
/-- An append to what is one's own: what becomes of it. -/
theorem OwnS.grow {α : Type} {P : Program} {T : List TyR} (hT : OkT P T) {t e : TypeId} {lo sz bs c d : Nat} {fe : α → SQ} {A : Option Addr} {l m : List α} {ad : Addr} {w : World} {S : Nat → Prop} (ty : TypeId) (hs : slS T t = some (e, sz, bs)) (h0 : 0 < sz) (h : (OwnS lo e sz fe A c l).holds w S) (hok : OkF sz fe m)
    (hcells : ∀ j u, (flatF fe m)[j]? = some u → w.cell? (ad.add j) = some u) (hb : (l.length + m.length) * bs ≤ 140737488355328) (hm : l.length + m.length ≤ 9223372036854775807 - 64) (hlo : lo ≤ w.heap.size) :
    ∃ A' c' w' S', (Builtin.append_ #[t, t] ty #[.slice A l.length c, .slice (some ad) m.length d]).run P w = .ok (.slice A' (l ++ m).length c') w' ∧ Chg S w w' ∧ (OwnS lo e sz fe A' c' (l ++ m)).holds w' S' ∧ ∀ k, S' k → k < w.heap.size → S k := by
  obtain ⟨ht, ie, z, hi, hz, hsz, hbs, hzs, _⟩ := slS_ok hT hs
  obtain ⟨h1, h2, h3⟩ := h
  obtain ⟨v', w', hr, ho, hg, _, hat⟩ := run_append_own_at (P := P) w lo t ty e ie z sz bs ht hi hz hsz hbs hzs h0 _ l.length (flatF fe l) h2 ad m.length d (flatF fe m) (flatF_len hok) hcells (flatF_one hok) (by simp only [maxLen]; omega) hb hlo
  rw [← flatF_app] at ho
  obtain ⟨A', c', rfl⟩ := slice_of ho
  rw [ownBlock_slice] at hg hat
  rw [ownBlock_slice] at hat
  rw [← List.length_append] at hr ho
  refine ⟨A', c', w', fun j => A'.map (·.block) = some j, hr, (Chg.of_grown hg).mono fun i _ hi => (h3 i).2 hi, ⟨h1.app hok, ho, fun _ => Iff.rfl⟩, fun j hj hlt => ?_⟩
  rcases hat with e1 | e1
  · exact (h3 j).2 (e1.symm.trans hj)
  · rw [hj] at e1
    injection e1 with e1
    omega
section
variable {α : Type} {fe : α → SQ} {l : List α} {P : Program} {T : List TyR} {b : Base} {ops : Array Oper} {Q : Exit → Act → World → Prop} {N : Nat} {E : SE} {L : List LV} {R : List Res} {F M : World → Prop} {o1 o2 : Oper} {rest : List Oper} {e sz bs lo : Nat} {u : PU}
/-- **append(s, x)**. -/
theorem l_push (hT : OkT P T) (i : Nat) (x : α) (h : pushS N E o1 o2 = some u) (hg : o1.guard = none) (hg2 : o2.guard = none) (hs : slS T u.t = some (e, sz, bs)) (hq : fe x = u.q) (hi : R[i]? = some (OwnS lo e sz fe u.A u.c l)) (hn : u.n = l.length) (hx : OkP (fe x).parts1 ∧ (fe x).cl.length = sz) (h0 : 0 < sz) (h24 : sz ≤ 16777216)
    (hb : (l.length + 1) * bs ≤ 140737488355328) (hm : l.length < 9223372036854775000) (hlo : lo ≤ b.B.heap.size)
    (hc : ∀ A' c', lS P b ops Q N rest ⟨(u.k2, .v (.slice A' (l ++ [x]).length c')) :: E, L, R.set i (OwnS lo e sz fe A' c' (l ++ [x])), F, M⟩) : lS P b ops Q N (o1 :: o2 :: rest) ⟨E, L, R, F, M⟩ := fun a w ⟨G, S, h1, h2, h3⟩ => by
  obtain ⟨d1, d2, n1, n2, hf, z, s, p1, p2, p3, p4⟩ := pushS_ok h
  obtain ⟨ht, ie, zz, hie, hz, hsz, hbs, hzs, _⟩ := slS_ok hT hs
  have hok : OkF sz fe [x] := fun y hy => by rw [List.mem_singleton.1 hy]; exact hx
  have hfl : flatF fe [x] = (fe x).cl := by simp [flatF]
  have e1 := h1.eval (evS_ok p3)
  have hr := run_lit (P := P) ht hie hz hsz [(fe x).den] 1 #[(0, a.eval z)] (by rw [e1, hq]; rfl) rfl (by omega) (by omega) (fun v hv => by
    rw [List.mem_singleton.1 hv]
    have := hx.2
    rwa [SQ.cl, Array.length_toList] at this) w
  have e2 : ([(fe x).den].flatMap fun v => v.cells.toList) = flatF fe [x] := by simp [flatF, SQ.cl]
  rw [e2] at hr
  have hal := (Below.refl w.heap.size w).alloc (Nat.le_refl _) (.cells (flatF fe [x]).toArray e)
  refine wpl_go (v := .slice (some ⟨w.heap.size, 0, none⟩) 1 1) (w' := w.alloc (.cells (flatF fe [x]).toArray e)) (oneS hg) (by
    unfold execOp
    simp only [p1, List.map_toArray, List.map_cons, List.map_nil, Sem.run_bind, hr, Result.andThen_ok, Sem.run_pure]) ?_
  rw [d1]
  have hnew := Blk.new w e (flatF fe [x]).toArray
  have h4 := h3.later hal
  generalize w.alloc (.cells (flatF fe [x]).toArray e) = w1 at *
  have f1 := h1.putFar (k := u.k1) (by rw [look_den, hf]; rfl) (.slice (some ⟨w.heap.size, 0, none⟩) 1 1)
  have e3 := f1.eval (evS_ok p4)
  have e4 : (a.put (some u.k1) (.slice (some ⟨w.heap.size, 0, none⟩) 1 1)).eval (.tmp u.k1) = .slice (some ⟨w.heap.size, 0, none⟩) 1 1 := eval_put_same h1 n1 _
  obtain ⟨S1, h5, hput⟩ := h4.put hi
  obtain ⟨A', c', w', S', hr2, hch, ho, hS'⟩ := OwnS.grow hT (d := 1) (ad := ⟨w.heap.size, 0, none⟩) o2.type hs h0 h5 hok (fun j v hj => by
    rw [Addr.add_mid, hnew.cell, Nat.zero_add]
    simpa using hj) hb (by simp; omega) (Nat.le_trans hlo h4.chg.size)
  obtain ⟨S'', h6⟩ := hput _ _ _ hch ho hS'
  have hr3 : (Builtin.append_ #[u.t, u.t] o2.type #[.slice u.A u.n u.c, .slice (some ⟨w.heap.size, 0, none⟩) 1 1]).run P w1 = .ok (.slice A' (l ++ [x]).length c') w' := by rw [hn]; exact hr2
  refine wpl_go (v := .slice A' (l ++ [x]).length c') (w' := w') (oneS hg2) (by
    unfold execOp
    simp only [p2, resolve, invoke, builtin, Sem.run_bind, Sem.run_pure, Result.andThen_ok, List.map_toArray, List.map_cons, List.map_nil, e3, e4, SV.den, SQ.den, SC.den, hr3]) ?_
  rw [d2]
  exact hc A' c' _ _ ⟨G, S'', f1.put n2 _, h2.cons trivial, h6⟩
end
end Go.Proofs.YtcbfalfkdnfelaaDoor
/-
  SLICES OF ONE'S OWN, more: make, elements written, read, given up.
-/
namespace Go.Proofs.YtcbfalfkdnfelaaDoor
open Go.RowKit Go.IntWalk

/-- What is owned is read. -/
theorem rd_own {α : Type} {lo e k c : Nat} {fe : α → SQ} {A : Option Addr} {l : List α} {L : List LV} {R : List Res} {F M : World → Prop} (i : Nat) (hi : R[i]? = some (OwnS lo e k fe A c l)) : ∀ G S w, View G S L R F M w → Rd k fe A c l w := fun _ _ _ h => by
  obtain ⟨S1, _, h1, _⟩ := h.res.at hi
  exact OwnS.rd h1
theorem rd_fact {α : Type} {k c : Nat} {fe : α → SQ} {A : Option Addr} {l : List α} {L : List LV} {R : List Res} {F M : World → Prop} (h : ∀ w, F w → M w → Rd k fe A c l w) : ∀ G S w, View G S L R F M w → Rd k fe A c l w := fun _ _ w hv => h w hv.fact hv.fresh
section
variable {α : Type} {fe : α → SQ} {b : Base} {G : Nat → Nat} {S : Nat → Prop} {L : List LV} {R : List Res} {F M : World → Prop} {w : World} {lo e k c : Nat} {A : Option Addr} {l : List α}
/-- A slice of one's own is given up: it stays as it is. -/
theorem StW.free (h : StW b G S L R F M w) {i : Nat} (hi : R[i]? = some (OwnS lo e k fe A c l)) : ∃ S', StW b G S' L (R.eraseIdx i) (fun w => Rd k fe A c l w ∧ F w) M w := by
  obtain ⟨S1, S2, h1, h2, h3, h4⟩ := h.let hi
  refine ⟨S2, h4.and fun w' hw => OwnS.rd h1 |>.keep hw.size fun g hg hlt => hw.block g hlt ?_⟩
  have hS1 : S1 g := (h1.2.2 g).2 hg
  rintro (hx | hx | ⟨j, hj, rfl⟩)
  · exact (h.old g hx).2 (h.mine g (.inl ((h3 g).2 (.inl hS1))) (h.old g hx).1)
  · exact h2 g hS1 hx
  · exact h.sep j hj ((h3 _).2 (.inl hS1))
/-- The same, of a new one. -/
theorem StW.freeM (h : StW b G S L R F M w) {i : Nat} (hi : R[i]? = some (OwnS lo e k fe A c l)) (hlo : b.B.heap.size ≤ lo) : ∃ S', StW b G S' L (R.eraseIdx i) F (fun w => Rd k fe A c l w ∧ M w) w := by
  obtain ⟨S1, S2, h1, h2, h3, h4⟩ := h.let hi
  refine ⟨S2, h4.andM fun w' hw => OwnS.rd h1 |>.keep hw.size fun g hg hlt => hw.block g hlt ?_⟩
  have hS1 : S1 g := (h1.2.2 g).2 hg
  rintro (hx | hx | ⟨j, hj, rfl⟩)
  · cases A with
    | none => cases hg
    | some a =>
      have := (OwnS.inb h1 a rfl).1
      simp only [Option.map_some, Option.some.injEq] at hg
      omega
  · exact h2 g hS1 hx
  · exact h.sep j hj ((h3 _).2 (.inl hS1))
end
section
variable {α : Type} {fe : α → SQ} {P : Program} {b : Base} {ops : Array Oper} {Q : Exit → Act → World → Prop} {N : Nat} {E : SE} {L : List LV} {R : List Res} {F M : World → Prop} {lo e k c : Nat} {A : Option Addr} {l : List α}
theorem l_free {l' : List Oper} (i : Nat) (hi : R[i]? = some (OwnS lo e k fe A c l)) (h : lS P b ops Q N l' ⟨E, L, R.eraseIdx i, fun w => Rd k fe A c l w ∧ F w, M⟩) : lS P b ops Q N l' ⟨E, L, R, F, M⟩ := fun a w ⟨G, S, h1, h2, h3⟩ => by
  obtain ⟨S', h4⟩ := h3.free hi
  exact h a w ⟨G, S', h1, h2, h4⟩
theorem l_freeM {l' : List Oper} (i : Nat) (hi : R[i]? = some (OwnS lo e k fe A c l)) (hlo : b.B.heap.size ≤ lo) (h : lS P b ops Q N l' ⟨E, L, R.eraseIdx i, F, fun w => Rd k fe A c l w ∧ M w⟩) : lS P b ops Q N l' ⟨E, L, R, F, M⟩ := fun a w ⟨G, S, h1, h2, h3⟩ => by
  obtain ⟨S', h4⟩ := h3.freeM hi hlo
  exact h a w ⟨G, S', h1, h2, h4⟩
theorem s_free {x : Code} (i : Nat) (hi : R[i]? = some (OwnS lo e k fe A c l)) (h : cS P b x Q N ⟨E, L, R.eraseIdx i, fun w => Rd k fe A c l w ∧ F w, M⟩) : cS P b x Q N ⟨E, L, R, F, M⟩ := fun a w ⟨G, S, h1, h2, h3⟩ => by
  obtain ⟨S', h4⟩ := h3.free hi
  exact h a w ⟨G, S', h1, h2, h4⟩
end

/-! ### make -/
theorem made_flat {α : Type} {fe : α → SQ} {k : Nat} (z : Array Value) (x : α) (hz : z.toList = (fe x).cl) (hk : z.size = k) (n : Nat) : (madeCells z (n * k)).toList = flatF fe (List.replicate n x) := by
  induction n with
  | zero => simp [madeCells, flatF]
  | succ n ih =>
    have e1 : madeCells z ((n + 1) * k) = madeCells z (n * k) ++ z := by
      subst hk
      apply Array.ext
      · simp [madeCells, Nat.add_mul]
      · intro i h1 h2
        simp only [madeCells, Array.size_map, Array.size_range] at h1
        rw [Array.getElem_append]
        split
        · simp [madeCells]
        · rename_i h3
          simp only [madeCells, Array.size_map, Array.size_range] at h3
          have hlt : i - n * z.size < z.size := by rw [Nat.add_mul] at h1; omega
          have e : i % z.size = i - n * z.size := by
            rw [show i = (i - n * z.size) + n * z.size by omega, Nat.add_mul_mod_self_right, Nat.add_sub_cancel]
            exact Nat.mod_eq_of_lt hlt
          simp only [madeCells, Array.getElem_map, Array.getElem_range, e, Array.size_map, Array.size_range]
          rw [getElem!_pos z _ hlt]
    rw [e1, Array.toList_append, ih, List.replicate_succ', flatF_app]
    simp [flatF, hz]
section
variable {α : Type} {fe : α → SQ} {P : Program} {T : List TyR} {b : Base} {ops : Array Oper} {Q : Exit → Act → World → Prop} {N : Nat} {E : SE} {L : List LV} {R : List Res} {F M : World → Prop} {o o1 o2 : Oper} {rest : List Oper} {k e sz bs lo : Nat} {t : TypeId}
/-- **make([]T, n)**. -/
theorem l_makeS {x y : Operand} {K : IntKind} (hT : OkT P T) (lo : Nat) (n : Nat) (z : α) (hg : o.guard = none) (hd : o.dst = some k) (hk : Nat.blt k N = true) (ho : o.op = .makeSlice t x y) (hs : slS T t = some (e, sz, bs)) (hx : evS E x = some (.v (.int K (n : Int)))) (hy : evS E y = some (.v (.int K (n : Int))))
    (hz : (findT T e).map (fun r => (catP r.zero).toList) = some (fe z).cl) (hok : OkP (fe z).parts1 ∧ (fe z).cl.length = sz) (hb : bs * n ≤ 281474976710656) (hm : n ≤ 9223372036854775807) (hlo : lo ≤ b.B.heap.size)
    (hc : ∀ A, lS P b ops Q N rest ⟨(k, .v (.slice A n n)) :: E, L, OwnS lo e sz fe A n (List.replicate n z) :: R, F, M⟩) : lS P b ops Q N (o :: rest) ⟨E, L, R, F, M⟩ := fun a w ⟨G, S, h1, h2, h3⟩ => by
  obtain ⟨ht, ie, zz, hi, hzz, hsz, hbs, hzs, zs, _, hzc, r, hr1, hr2⟩ := slS_ok hT hs
  have hb' : (ie.bytes : Int) * (n : Int) ≤ 281474976710656 := by
    rw [hbs]
    have h : ((bs * n : Nat) : Int) ≤ 281474976710656 := by omega
    rwa [Int.natCast_mul] at h
  have hr := run_make (P := P) w t e ie zz ht hi hzz K K n n (by omega) (Int.le_refl _) hb' (by omega)
  rw [hr1] at hz
  simp only [Option.map_some, Option.some.injEq] at hz
  have hfl := made_flat (fe := fe) zz.cells z (by rw [hzc, ← hr2]; exact hz) hzs n
  have e1 : madeCells zz.cells (n * ie.size) = (flatF fe (List.replicate n z)).toArray := by rw [hsz, ← hfl, Array.toArray_toList]
  simp only [Int.toNat_natCast] at hr
  rw [e1] at hr
  have e2 := h1.eval (evS_ok hx)
  have e3 := h1.eval (evS_ok hy)
  refine wpl_go (v := .slice (some ⟨w.heap.size, 0, none⟩) n n) (w' := w.alloc (.cells (flatF fe (List.replicate n z)).toArray e)) (oneS hg) (by
    unfold execOp
    simp only [ho, e2, e3, SV.den, SQ.den, SC.den, Sem.run_bind, hr, Result.andThen_ok, Sem.run_pure]) ?_
  rw [hd]
  have hnew := OwnS.new (lo := lo) (e := e) (k := sz) (fe := fe) (l := List.replicate n z) w (Nat.le_trans hlo h3.chg.size) (fun x hx => by rw [(List.mem_replicate.1 hx).2]; exact hok) (by simpa using hm)
  rw [List.length_replicate] at hnew
  obtain ⟨S', h4⟩ := h3.gain ((Below.refl w.heap.size w).alloc (Nat.le_refl _) _) hnew (fun j hj => Nat.le_of_eq hj.symm)
  exact hc _ _ _ ⟨G, S', h1.put hk _, h2.cons trivial, h4⟩
/-- s[i] = x: what the two operations say. -/
structure PL where
  k1 : Nat
  t : TypeId
  A : Option Addr
  n : Nat
  c : Nat
  i : Int
  q : SQ
def placeS (T : List TyR) (N : Nat) (E : SE) (o1 o2 : Oper) : Option PL := match o1.dst, o2.dst, o1.op, o2.op with
  | some k1, none, .indexAddr t x y, .store t' (.tmp p) z => match Nat.beq p k1, Nat.blt k1 N, slS T t, findT T t' with
    | true, true, some (_, sz, _), some r => match evS E x, evS E y, evS E z, Nat.beq (sizeP r.zero) sz, lookS E k1 with
      | some (.q (.c (.v (.slice A n c)))), some (.q (.c (.v (.int _ i)))), some (.q q), true, none => some ⟨k1, t, A, n, c, i, q⟩
      | _, _, _, _, _ => none
    | _, _, _, _ => none
  | _, _, _, _ => none
theorem placeS_ok {P : Program} (hT : OkT P T) {u : PL} (h : placeS T N E o1 o2 = some u) : o1.dst = some u.k1 ∧ o2.dst = none ∧ Nat.blt u.k1 N = true ∧ lookS E u.k1 = none ∧ ∃ x y z t' K e sz bs, o1.op = .indexAddr u.t x y ∧ o2.op = .store t' (.tmp u.k1) z ∧ slS T u.t = some (e, sz, bs) ∧ (P.info? t').map (·.size) = some sz ∧
    evS E x = some (.v (.slice u.A u.n u.c)) ∧ evS E y = some (.v (.int K u.i)) ∧ evS E z = some (.q u.q) := by
  unfold placeS at h
  split at h
  · rename_i k1 t x y t' p z e1 e2 e3 e4
    split at h
    · rename_i e sz bs r e5 e6 e7 e8
      split at h
      · rename_i A n c K i q e9 e10 e11 e12 e13
        injection h with h
        subst h
        obtain rfl := Nat.eq_of_beq_eq_true e5
        have h2 := findT_ok hT e8
        clear e8
        obtain ⟨h2, rfl⟩ := h2
        obtain ⟨it, d, h5, _, h6, -⟩ := h2.info
        exact ⟨e1, e2, e6, e13, x, y, z, _, K, e, sz, bs, e3, e4, e7, by rw [h5, Option.map_some, h6, Nat.eq_of_beq_eq_true e12], e9, e10, e11⟩
      · cases h
    · cases h
  · cases h
/-- **s[i] = x**, s one's own. -/
theorem l_place {u : PL} {l : List α} (hT : OkT P T) (i : Nat) (x : α) (j : Nat) (h : placeS T N E o1 o2 = some u) (hg : o1.guard = none) (hg2 : o2.guard = none) (hs : slS T u.t = some (e, sz, bs)) (hq : fe x = u.q) (hi : R[i]? = some (OwnS lo e sz fe u.A u.c l)) (hn : u.n = l.length) (hj : u.i = (j : Int)) (hlt : j < l.length) (hx : OkP (fe x).parts1 ∧ (fe x).cl.length = sz)
    (hc : lS P b ops Q N rest ⟨E, L, R.set i (OwnS lo e sz fe u.A u.c (l.set j x)), F, M⟩) : lS P b ops Q N (o1 :: o2 :: rest) ⟨E, L, R, F, M⟩ := fun a w ⟨G, S, h1, h2, h3⟩ => by
  obtain ⟨d1, d2, n1, hf, x1, y1, z1, t', K, e', sz', bs', p1, p2, p3, p4, p5, p6, p7⟩ := placeS_ok hT h
  rw [hs] at p3
  injection p3 with p3
  injection p3 with q1 p3
  injection p3 with q2 q3
  subst q1 q2 q3
  obtain ⟨ht, ie, zz, hie, hz, hsz, hbs, hzs, _⟩ := slS_ok hT hs
  obtain ⟨S1, h5, hput⟩ := h3.put hi
  obtain ⟨hok, hrow, hS1⟩ := h5
  rcases hrow.2 with ⟨h6, h7⟩ | ⟨g, cap, cur, hv, hb, hg', hnc, hm, hcs, htk⟩
  · omega
  injection hv with v1 _ v2
  have hB : Blk w g e cur := hg'
  have e1 := h1.eval (evS_ok p5)
  have e2 := h1.eval (evS_ok p6)
  have hr := run_index (P := P) ht (by rw [hie, Option.map_some, hsz]) g 0 u.n u.c K j (by omega) w
  rw [← v1, ← hj, Nat.zero_add] at hr
  refine wpl_go (v := .pointer (some ⟨g, sz * j, none⟩)) (w' := w) (oneS hg) (by
    unfold execOp
    simp only [p1, e1, e2, SV.den, SQ.den, SC.den, Sem.run_bind, hr, Result.andThen_ok, Sem.run_pure]) ?_
  rw [d1]
  have f1 := h1.putFar (k := u.k1) (by rw [look_den, hf]; rfl) (.pointer (some ⟨g, sz * j, none⟩))
  have e3 := f1.eval (evS_ok p7)
  have e4 : (a.put (some u.k1) (.pointer (some ⟨g, sz * j, none⟩))).eval (.tmp u.k1) = .pointer (some ⟨g, sz * j, none⟩) := eval_put_same h1 n1 _
  obtain ⟨B, Z, h9, h10, h11⟩ := flatF_split hok (List.getElem?_eq_getElem hlt)
  have hxl : (fe x).den.cells.size = sz := by rw [← Array.length_toList]; exact hx.2
  have hcl : (fe l[j]).cl.length = sz := (hok _ (List.getElem_mem hlt)).2
  have hlen := flatF_len hok
  rw [h9, List.length_append, List.length_append, h10, hcl] at hlen
  have hle : l.length * sz ≤ cap * sz := Nat.mul_le_mul_right _ hnc
  have hst := run_store_part (P := P) (t := t') (v := (fe x).den) (off := sz * j) hB (by rw [p4, hxl]) (by rw [hxl, hcs]; omega) (SQ.cl_one hx.1)
  rw [hxl] at hst
  have hcut : cur.toList = B ++ ((fe l[j]).cl ++ (Z ++ cur.toList.drop (l.length * sz))) := by
    have h0 := (List.take_append_drop (l.length * sz) cur.toList).symm
    rw [htk, h9, List.append_assoc, List.append_assoc] at h0
    exact h0
  have hnew : (cur.toList.take (sz * j) ++ (fe x).den.cells.toList ++ cur.toList.drop (sz * j + sz)) = B ++ ((fe x).cl ++ (Z ++ cur.toList.drop (l.length * sz))) := by
    generalize cur.toList.drop (l.length * sz) = D at hcut ⊢
    rw [hcut, ← h10, List.take_left, List.append_assoc]
    congr 2
    rw [← hcl, ← List.length_append, ← List.append_assoc, List.drop_left]
  rw [hnew] at hst
  have hB' := hB.row (B ++ ((fe x).cl ++ (Z ++ cur.toList.drop (l.length * sz)))).toArray
  obtain ⟨S'', h12⟩ := hput (OwnS lo e sz fe u.A u.c (l.set j x)) (w.setRow g (B ++ ((fe x).cl ++ (Z ++ cur.toList.drop (l.length * sz)))).toArray) S1 ((Chg.row w g _).mono fun k _ hk => (hS1 k).2 (by rw [hk, v1]; rfl))
    ⟨hok.set hx, by
      refine ⟨by rw [flatF_len (hok.set hx), List.length_set], .inr ⟨g, cap, _, by rw [List.length_set, v1, v2], hb, hB', by rw [List.length_set]; exact hnc, hm, ?_, ?_⟩⟩
      · have hD : (cur.toList.drop (l.length * sz)).length = cap * sz - l.length * sz := by rw [List.length_drop, Array.length_toList, hcs]
        rw [List.size_toArray, List.length_append, List.length_append, List.length_append, hD, hx.2, h10]
        omega
      · rw [List.length_set, h11 x]
        have : l.length * sz = (B ++ ((fe x).cl ++ Z)).length := by
          rw [List.length_append, List.length_append, h10, hx.2]
          omega
        generalize cur.toList.drop (l.length * sz) = D
        show List.take (l.length * sz) (B ++ ((fe x).cl ++ (Z ++ D))) = _
        have e9 : B ++ ((fe x).cl ++ (Z ++ D)) = (B ++ ((fe x).cl ++ Z)) ++ D := by simp only [List.append_assoc]
        rw [this, e9, List.take_left], hS1⟩ (fun k hk _ => hk)
  refine wpl_skip (w' := w.setRow g (B ++ ((fe x).cl ++ (Z ++ cur.toList.drop (l.length * sz)))).toArray) (oneS hg2) (by
    unfold execOp
    simp only [p2, e3, e4, SV.den, ← hq, Sem.run_bind, hst, Result.andThen_ok, Sem.run_pure]) ?_
  rw [d2]
  exact hc _ _ ⟨G, S'', f1, h2, h12⟩
end
end Go.Proofs.YtcbfalfkdnfelaaDoor
/-
  THE TYPES, by the parts of their noughts; laid by a program (tools/types.py) that reads the translation; checked here.
-/
namespace Go.Proofs.YtcbfalfkdnfelaaDoor
open Go.RowKit Go.IntWalk

def TY : List TyR := [
  { t := 2, kind := 0, zero := [.one (.v (.int .i64 0))], ik := some .i64, w := 8 },
  { t := 3, kind := 0, zero := [.one (.v (.int .i64 0))], ik := some .i64, w := 8 },
  { t := 4, kind := 0, zero := [.one (.v (.bool false))], w := 1 },
  { t := 5, kind := 0, zero := [.one (.v (.int .u8 0))], ik := some .u8, w := 1 },
  { t := 9, kind := 0, zero := [.one (.v (.string ⟨#[]⟩))], w := 16 },
  { t := 12, kind := 0, zero := [.one (.v (.int .u64 0))], ik := some .u64, w := 8 },
  { t := 13, kind := 2, zero := [.one (.v (.string ⟨#[]⟩)), .one (.v (.int .u64 0))], w := 24 },
  { t := 21, kind := 0, zero := [.one (.v (.int .i32 0))], ik := some .i32, w := 4 },
  { t := 22, kind := 0, zero := [.one (.v (.slice none 0 0))], el := some 35, w := 24 },
  { t := 24, kind := 0, zero := [.one (.v (.int .u64 0))], ik := some .u64, w := 8 },
  { t := 25, kind := 0, zero := [.one (.v (.pointer none))], pt := true, w := 8 },
  { t := 26, kind := 0, zero := [.one (.v (.int .i64 0))], ik := some .i64, w := 8 },
  { t := 29, kind := 0, zero := [.one (.v (.pointer none))], pt := true, w := 8 },
  { t := 32, kind := 0, zero := [.one (.v (.slice none 0 0))], el := some 33, w := 24 },
  { t := 33, kind := 0, zero := [.one (.v (.slice none 0 0))], el := some 5, w := 24 },
  { t := 34, kind := 2, zero := [.one (.v (.int .i64 0)), .one (.v (.int .i64 0)), .one (.v (.slice none 0 0)), .one (.v (.slice none 0 0))], w := 64 },
  { t := 35, kind := 2, zero := [.one (.v (.int .i64 0)), .one (.v (.int .i64 0)), .one (.v (.slice none 0 0)), .one (.v (.slice none 0 0))], w := 64 },
  { t := 48, kind := 0, zero := [.one (.v (.slice none 0 0))], el := some 3, w := 24 },
  { t := 50, kind := 2, zero := [.one (.v (.int .i64 0)), .one (.v (.slice none 0 0)), .one (.v (.int .i64 0))], w := 40 },
  { t := 51, kind := 2, zero := [.one (.v (.int .i64 0)), .one (.v (.slice none 0 0)), .one (.v (.int .i64 0))], w := 40 },
  { t := 52, kind := 2, zero := [.one (.v (.pointer none)), .one (.v (.slice none 0 0)), .one (.v (.bool false))], w := 40 },
  { t := 53, kind := 2, zero := [.one (.v (.pointer none)), .one (.v (.slice none 0 0)), .one (.v (.bool false))], w := 40 },
  { t := 54, kind := 1, zero := [.agg 32 (By (List.replicate 32 0)).toArray], w := 32 },
  { t := 57, kind := 0, zero := [.one (.v (.int .u64 0))], ik := some .u64, w := 8 },
  { t := 59, kind := 0, zero := [.one (.v (.pointer none))], pt := true, w := 8 },
  { t := 60, kind := 2, zero := [.one (.v (.slice none 0 0)), .one (.v (.int .i64 0)), .one (.v (.int .i64 0))], w := 40 },
  { t := 61, kind := 2, zero := [.one (.v (.slice none 0 0)), .one (.v (.int .i64 0)), .one (.v (.int .i64 0))], w := 40 },
  { t := 72, kind := 0, zero := [.one (.v (.pointer none))], pt := true, w := 8 },
  { t := 75, kind := 0, zero := [.one (.v (.slice none 0 0))], el := some 24, w := 24 },
  { t := 76, kind := 0, zero := [.one (.v (.slice none 0 0))], el := some 57, w := 24 },
  { t := 80, kind := 1, zero := [.agg 8 (By (List.replicate 8 0)).toArray], w := 8 },
  { t := 82, kind := 2, zero := [.one (.v (.slice none 0 0)), .one (.v (.int .i64 0))], w := 32 },
  { t := 83, kind := 2, zero := [.one (.v (.slice none 0 0)), .one (.v (.int .i64 0))], w := 32 },
  { t := 86, kind := 0, zero := [.one (.v (.int .u32 0))], ik := some .u32, w := 4 },
  { t := 87, kind := 1, zero := [.agg 8 (List.replicate 8 (.int .u32 0)).toArray], w := 32 },
  { t := 89, kind := 1, zero := [.agg 64 (By (List.replicate 64 0)).toArray], w := 64 },
  { t := 93, kind := 1, zero := [.agg 8 (List.replicate 8 (.int .u64 0)).toArray], w := 64 },
  { t := 95, kind := 1, zero := [.agg 64 (List.replicate 64 (.int .u32 0)).toArray], w := 256 },
  { t := 98, kind := 1, zero := [.agg 80 (List.replicate 80 (.int .u64 0)).toArray], w := 640 },
  { t := 108, kind := 0, zero := [.one (.v (.pointer none))], pt := true, w := 8 }]
set_option maxRecDepth 100000 in
theorem TY_ok : OkT Tryd.prog TY := okT_of (by kernel_rfl) (by kernel_rfl)
end Go.Proofs.YtcbfalfkdnfelaaDoor
/-
  REGIONS THAT ARE RECKONED WHOLE; objects behind pointers; bytes, hashes, numbers as elements.
-/
namespace Go.Proofs.YtcbfalfkdnfelaaDoor
open Go.RowKit Go.IntWalk

/-! ### Whole regions -/
section
variable {P : Program} {b : Base} {T : List TyR} {Q : Exit → Act → World → Prop} {N : Nat} {E E' E2 : SE} {L L' L2 : List LV} {R : List Res} {F M : World → Prop}
/-- A region that is reckoned whole, and what comes behind it. -/
theorem s_auto {id : Nat} {l : List Oper} {y : Code} (hT : OkT P T) (h : autoS T l.toArray N l E L = ([], E', L')) (hn : cS P b y Q N ⟨E', L', R, F, M⟩) : cS P b (.seq (.region id l.toArray false) y) Q N ⟨E, L, R, F, M⟩ :=
  s_reg fun _ hK => l_autoS hT h (s_end (hK _ hn))
/-- A region that is reckoned whole, at the end. -/
theorem s_autoE {id : Nat} {l : List Oper} (hT : OkT P T) (h : autoS T l.toArray N l E L = ([], E', L')) (hn : kS b (Q .normal) N ⟨E', L', R, F, M⟩) : cS P b (.region id l.toArray false) Q N ⟨E, L, R, F, M⟩ :=
  s_lit (l_autoS hT h (s_end hn))
/-- What the facts say whatever the world. -/
theorem s_pure {c : Code} (φ : Prop) (h : ∀ w, F w → M w → φ) (hn : φ → cS P b c Q N ⟨E, L, R, F, M⟩) : cS P b c Q N ⟨E, L, R, F, M⟩ := fun a w hs => by
  have hs' := hs
  obtain ⟨G, S, h1, h2, h3⟩ := hs
  exact hn (h w h3.all.now.1 h3.all.now.2) a w hs'
theorem l_pure {ops : Array Oper} {l : List Oper} (φ : Prop) (h : ∀ w, F w → M w → φ) (hn : φ → lS P b ops Q N l ⟨E, L, R, F, M⟩) : lS P b ops Q N l ⟨E, L, R, F, M⟩ := fun a w hs => by
  have hs' := hs
  obtain ⟨G, S, h1, h2, h3⟩ := hs
  exact hn (h w h3.all.now.1 h3.all.now.2) a w hs'
/-- A region, the order forced: first what is reckoned. -/
theorem s_regA {id : Nat} {l l' : List Oper} {y : Code} (hT : OkT P T) (h : autoS T l.toArray N l E L = (l', E', L')) (hn : ∀ K : Act → World → Prop, (∀ e', cS P b y Q N e' → kS b K N e') → lS P b l.toArray (Exit.then K Q) N l' ⟨E', L', R, F, M⟩) : cS P b (.seq (.region id l.toArray false) y) Q N ⟨E, L, R, F, M⟩ :=
  s_reg fun K hK => l_autoS hT h (hn K hK)
end

/-! ### Objects behind pointers -/
/-- The object in block g. -/
def ObjF (g : Nat) (t : TypeId) (ps : List Pt) (w : World) : Prop := Blk w g t (catP ps) ∧ OkP ps
instance {g : Nat} {t : TypeId} {ps : List Pt} : Pst (ObjF g t ps) := ⟨fun _ _ h hb => ⟨h.1.later hb, h.2⟩⟩
/-- An object that may be written. -/
def ObjS (g : Nat) (t : TypeId) (ps : List Pt) : Res where
  holds w S := ObjF g t ps w ∧ ∀ j, S j ↔ j = g
  keep := fun ⟨h1, h2⟩ hk => ⟨⟨(hk g ((h2 g).2 rfl)).trans h1.1, h1.2⟩, h2⟩
  lt := fun ⟨h1, h2⟩ j hj => by rw [(h2 j).1 hj]; exact h1.1.lt
section
variable {P : Program} {b : Base} {T : List TyR} {ops : Array Oper} {Q : Exit → Act → World → Prop} {N : Nat} {E : SE} {L : List LV} {R : List Res} {F M : World → Prop} {o : Oper} {k g off : Nat} {t : TypeId} {x : Operand} {ty : TypeId} {ps : List Pt} {q : SQ}
theorem load_obj (hT : OkT P T) (ho : o.op = .load t x) (hx : evS E x = some (.v (.pointer (some ⟨g, off, none⟩)))) (hl : loadS T ps t off = some q) {G : Nat → Nat} {a : Act} {w : World} (ha : Fr N (denE G E) a) (h : ObjF g ty ps w) : q.Ok ∧ (execOp a.eval o).run P w = .ok (.value q.den) w := by
  obtain ⟨h1, h2⟩ := loadS_ok hT h.2 hl
  refine ⟨h1, ?_⟩
  have e := ha.eval (evS_ok hx)
  unfold execOp
  simp only [ho, e, SV.den, SQ.den, SC.den, h2 h.1, Sem.run_bind, Sem.run_pure, Result.andThen_ok]
theorem l_ldO {rest : List Oper} (hT : OkT P T) (hg : o.guard = none) (hd : o.dst = some k) (hk : Nat.blt k N = true) (ho : o.op = .load t x) (hx : evS E x = some (.v (.pointer (some ⟨g, off, none⟩)))) (hl : loadS T ps t off = some q) (h : ∀ G S w, View G S L R F M w → ObjF g ty ps w)
    (hn : lS P b ops Q N rest ⟨(k, .q q) :: E, L, R, F, M⟩) : lS P b ops Q N (o :: rest) ⟨E, L, R, F, M⟩ := fun a w ⟨G, S, h1, h2, h3⟩ => by
  obtain ⟨h4, h5⟩ := load_obj hT ho hx hl h1 (h G S w h3.view)
  refine wpl_go (oneS hg) h5 ?_
  rw [hd]
  exact hn _ w ⟨G, S, h1.put hk _, h2.cons h4, h3⟩
theorem g_ldO {T' : List Oper} {G : Nat → Nat} {S : Nat → Prop} {w0 : World} {rest : List (Nat × Oper)} {i : Nat} (hT : OkT P T) (hst : StW b G S L R F M w0) (hg : o.guard = none) (hd : o.dst = some k) (hk : Nat.blt k N = true) (ho : o.op = .load t x) (hx : evS E x = some (.v (.pointer (some ⟨g, off, none⟩)))) (hl : loadS T ps t off = some q) (h : ∀ G S w, View G S L R F M w → ObjF g ty ps w)
    (hn : gS P b ops Q N T' G w0 rest ((k, .q q) :: E)) : gS P b ops Q N T' G w0 ((i, o) :: rest) E := fun hE =>
  g_op rfl (fun a ha => b_val (v := q.den) (by simp [Region.wanted, hg]) (fun w hw => (load_obj hT ho hx hl ha (h G S w (hst.later hw.1).view)).2) (by
    rw [hd]
    exact g_go (o := o) (hn (hE.cons (loadS_ok hT (h G S w0 hst.view).2 hl).1)) _ (ha.put hk _)))
end
theorem obj_own {g : Nat} {t : TypeId} {ps : List Pt} {L : List LV} {R : List Res} {F M : World → Prop} (i : Nat) (hi : R[i]? = some (ObjS g t ps)) : ∀ G S w, View G S L R F M w → ObjF g t ps w := fun _ _ _ h => by
  obtain ⟨S1, _, h1, _⟩ := h.res.at hi
  exact h1.1
theorem obj_fact {g : Nat} {t : TypeId} {ps : List Pt} {L : List LV} {R : List Res} {F M : World → Prop} (h : ∀ w, F w → M w → ObjF g t ps w) : ∀ G S w, View G S L R F M w → ObjF g t ps w := fun _ _ w hv => h w hv.fact hv.fresh

/-! ### Elements -/
def eB (x : UInt8) : SQ := .c (.v (.int .u8 (x.toNat : Int)))
def eT (t : Bool) : SQ := .c (.b t)
/-- A row of bytes. -/
def eY (n : Nat) (l : List UInt8) : SQ := .p [.agg n (By l).toArray]
theorem eB_ok (x : UInt8) : OkP (eB x).parts1 ∧ (eB x).cl.length = 1 := ⟨fun p hp => by rw [List.mem_singleton.1 hp]; exact ⟨trivial, rfl, rfl⟩, rfl⟩
theorem eY_ok {n : Nat} {l : List UInt8} (h : l.length = n) : OkP (eY n l).parts1 ∧ (eY n l).cl.length = n := by
  have h1 : (By l).toArray.size = n := by rw [List.size_toArray, By_len, h]
  exact ⟨fun p hp => by rw [List.mem_singleton.1 hp]; exact ⟨h1, By_one l⟩, by rw [SQ.cl, Array.length_toList]; exact h1⟩
theorem okF_B (l : List UInt8) : OkF 1 eB l := fun x _ => eB_ok x
theorem flat_B : ∀ l : List UInt8, flatF eB l = By l
  | [] => rfl
  | x :: l => by
    have := flat_B l
    simp only [flatF, List.flatMap_cons] at this ⊢
    rw [this]
    rfl
/-- Bytes that are read. -/
theorem Rd.sb {A : Option Addr} {c : Nat} {l : List UInt8} {w : World} (h : Rd 1 eB A c l w) : SB w (.slice A l.length c) l := by
  obtain ⟨h1, h2, h3, _, h5⟩ := h
  refine ⟨A, c, rfl, h1, h2, h3, fun hl => ?_⟩
  obtain ⟨b, o, e, hb, hr⟩ := h5 hl
  refine ⟨⟨b, o, none⟩, e, Nat.zero_le _, hb, fun j x hx => ?_⟩
  have := hr j x hx 0 (.int .u8 (x.toNat : Int)) rfl
  rw [Addr.add_mid]
  simpa using this
theorem Rd.of_sb {A : Option Addr} {c n : Nat} {l : List UInt8} {w : World} (h : SB w (.slice A n c) l) : n = l.length ∧ Rd 1 eB A c l w := by
  obtain ⟨A', c', e, h1, h2, h3, h4⟩ := h
  injection e with e1 e2 e3
  subst e1 e2 e3
  refine ⟨rfl, h1, h2, h3, okF_B l, fun hl => ?_⟩
  obtain ⟨ad, e, _, h6, h7⟩ := h4 hl
  obtain ⟨b, o, sp⟩ := ad
  have hsp : sp = none := by
    have h8 := h7 0 l[0] (List.getElem?_eq_getElem hl)
    cases sp with
    | none => rfl
    | some s =>
      unfold World.cell? Addr.add at h8
      simp only [if_true] at h8
      split at h8
      · simp at h8
      · cases h8
  subst hsp
  refine ⟨b, o, e, h6, fun i x hi j v hj => ?_⟩
  have h8 := h7 i x hi
  rw [Addr.add_mid] at h8
  cases j with
  | zero =>
    have e : v = .int .u8 (x.toNat : Int) := by
      have : (eB x).cl[0]? = some (.int .u8 (x.toNat : Int)) := rfl
      rw [this] at hj
      exact (Option.some.inj hj).symm
    rw [e, Nat.one_mul, Nat.add_zero]
    exact h8
  | succ j =>
    have : (eB x).cl[j + 1]? = none := rfl
    rw [this] at hj
    cases hj
/-! ### Numbers -/
theorem wrapI {m r : Int} (h : m = r) (h1 : -9223372036854775808 ≤ r) (h2 : r ≤ 9223372036854775807) : IntKind.i64.wrap m = r := by
  rw [h, i64_left, wrap64_in _ ⟨h1, by omega⟩]
theorem wrapQ (n d : Nat) (h : n ≤ 9223372036854775807) : IntKind.i64.wrap ((n : Int).tdiv (d : Int)) = ((n / d : Nat) : Int) := by
  have h1 : (n : Int).tdiv (d : Int) = ((n / d : Nat) : Int) := by rw [Int.tdiv_eq_ediv_of_nonneg (by omega)]; rfl
  have h2 : n / d ≤ n := Nat.div_le_self _ _
  rw [h1]
  generalize n / d = q at *
  exact wrapI rfl (by omega) (by omega)
theorem one_ok {v : SQ} (h : v.Ok) : ∀ u ∈ [v], u.Ok := fun u hu => by rw [List.mem_singleton.1 hu]; exact h
theorem two_ok {v v2 : SQ} (h : v.Ok) (h2 : v2.Ok) : ∀ u ∈ [v, v2], u.Ok := fun u hu => by
  rcases List.mem_cons.1 hu with rfl | hu
  · exact h
  · exact one_ok h2 u hu
theorem more_ok {v : SQ} {vs : List SQ} (h : v.Ok) (h2 : ∀ u ∈ vs, u.Ok) : ∀ u ∈ v :: vs, u.Ok := fun u hu => by
  rcases List.mem_cons.1 hu with rfl | hu
  · exact h
  · exact h2 u hu
end Go.Proofs.YtcbfalfkdnfelaaDoor
/-
  FROM A WALK TO A LAW'S ROW: slices of anything, opened; hashes.
-/
namespace Go.Proofs.YtcbfalfkdnfelaaDoor
open Go.RowKit Go.IntWalk
open Go.ChangeShapes Go.WideShapes Go.ChangeAt

theorem pick_list {α : Type} (P : Nat → α → Prop) : ∀ n, (∀ i, i < n → ∃ l, P i l) → ∃ ks : List α, ks.length = n ∧ ∀ i l, ks[i]? = some l → P i l
  | 0, _ => ⟨[], rfl, fun i l h => by simp at h⟩
  | n + 1, h => by
    obtain ⟨ks, hl, hk⟩ := pick_list P n fun i hi => h i (by omega)
    obtain ⟨l, hp⟩ := h n (by omega)
    refine ⟨ks ++ [l], by simp [hl], fun i x hx => ?_⟩
    by_cases hi : i < ks.length
    · rw [List.getElem?_append_left hi] at hx
      exact hk i x hx
    · rw [List.getElem?_append_right (by omega)] at hx
      have h0 : i - ks.length = 0 := by
        by_cases e : i - ks.length = 0
        · exact e
        · rw [List.getElem?_eq_none (by simp; omega)] at hx
          cases hx
      rw [h0] at hx
      obtain rfl : l = x := by simpa using hx
      obtain rfl : i = n := by omega
      exact hp
end Go.Proofs.YtcbfalfkdnfelaaDoor
/-
  FROM A WALK TO A LAW'S ROW: slices of bytes and arrays of 64 bytes, opened.
-/
namespace Go.Proofs.YtcbfalfkdnfelaaDoor
open Go.RowKit Go.IntWalk
open Go.ChangeShapes Go.WideShapes Go.ChangeAt

theorem open_bytes {H : Type} {enc : TypeId × Value → H} {W : World} {held : Bool} {fuel : Nat} {cs : List Value} {x : DataW H × List MemPlace} (h : DataW.trod enc Tryd.prog W 0 (fun _ => true) held fuel 33 cs = some x) :
    ∃ (A : Option Addr) (l : List UInt8) (c : Nat), cs = [.slice A l.length c] ∧ SL W 0 W.heap.size A l c := by
  rcases open_ints Tryd.underlying33 Tryd.underlying5 cells8 h with ⟨rfl, rfl⟩ | ⟨a, len, cap, zs, rfl, _, hl, hm, hz, rfl, hcell, hwz⟩
  · exact ⟨none, [], 0, rfl, SL.nil _ _ _⟩
  · have hz' : zs.length = cap := hz
    have hlen : ((zs.take len).map fun z => UInt8.ofNat z.toNat).length = len := by simp; omega
    refine ⟨some a, (zs.take len).map fun z => UInt8.ofNat z.toNat, cap, by rw [hlen], by rw [hlen]; exact hl, by unfold maxLen at hm; omega, fun h => (by cases h), fun hpos => ⟨a, rfl, Nat.zero_le _, ?_, fun j x hx => ?_⟩⟩
    · have h0 : 0 < zs.length := by rw [hlen] at hpos; omega
      have := World.block_lt_of_cell? W _ (hcell 0 h0)
      rwa [block_add] at this
    · simp only [List.getElem?_map, List.getElem?_take, Option.map_eq_some_iff] at hx
      obtain ⟨z, hz, rfl⟩ := hx
      split at hz
      · have hj := (List.getElem?_eq_some_iff.1 hz).1
        have hb := range_u8 hwz j
        have hg : zs.getD j 0 = z := by simp [List.getD, hz]
        rw [hz] at hb
        simp only [Option.getD_some] at hb
        rw [hcell j hj, hg]
        have e : (UInt8.ofNat z.toNat).toNat = z.toNat := by
          simp
          omega
        rw [e, Int.toNat_of_nonneg hb.1]
      · cases hz
theorem bulk_one {H : Type} (d : DataW H) : 1 ≤ Rows.uptoBulk d := by
  cases d with
  | lit l => cases l <;> simp [Rows.uptoBulk]
  | _ => simp [Rows.uptoBulk]
theorem bulk_len {H : Type} : ∀ l : List (DataW H), l.length ≤ Rows.uptoBulkAll l
  | [] => Nat.zero_le _
  | d :: l => by
    have h1 := bulk_one d
    have h2 := bulk_len l
    simp only [Rows.uptoBulkAll, List.length_cons]
    omega
theorem slice_bulk {H : Type} {enc : TypeId × Value → H} {W : World} {held : Bool} {fuel n c : Nat} {t e : TypeId} {A : Option Addr} {x : DataW H × List MemPlace} (ht : Tryd.prog.underlying t = some (.slice e)) (h : DataW.trod enc Tryd.prog W 0 (fun _ => true) held fuel t [.slice A n c] = some x) : n ≤ Rows.uptoBulk x.1 := by
  rcases DataW.trod_slice ht h with ⟨e, _⟩ | ⟨a, len, cap, elems, rest, m, _, e, rfl, _, _, _, hlen, _⟩
  · injection e with e
    injection e with _ e
    omega
  · injection e with e
    injection e with _ e
    have h1 := bulk_len (elems.map (·.1))
    rw [List.length_map] at h1
    simp only [Rows.uptoBulk]
    omega
end Go.Proofs.YtcbfalfkdnfelaaDoor
/-
  FROM A WALK TO A LAW'S ROW: slices of anything, opened, with what is known of each element.
-/
namespace Go.Proofs.YtcbfalfkdnfelaaDoor
open Go.RowKit Go.IntWalk
open Go.ChangeShapes Go.WideShapes Go.ChangeAt

theorem bulk_in {H : Type} {d : DataW H} : ∀ {l : List (DataW H)}, d ∈ l → Rows.uptoBulk d ≤ Rows.uptoBulkAll l
  | e :: l, h => by
    simp only [Rows.uptoBulkAll]
    rcases List.mem_cons.1 h with rfl | h
    · exact Nat.le_add_right _ _
    · exact Nat.le_trans (bulk_in h) (Nat.le_add_left _ _)
theorem open_rdP {α H : Type} {enc : TypeId × Value → H} {W : World} {held : Bool} {fuel : Nat} {t e : TypeId} {k : Nat} {fe : α → SQ} {p : DataW H → α → Prop} {cs : List Value} {x : DataW H × List MemPlace} (ht : Tryd.prog.underlying t = some (.slice e)) (hk : Tryd.prog.cellsOf e = k) (hk0 : 0 < k)
    (hel : ∀ n cs x, DataW.trod enc Tryd.prog W 0 (fun _ => true) held n e cs = some x → ∃ a : α, (cs = (fe a).cl ∧ OkP (fe a).parts1 ∧ (fe a).cl.length = k) ∧ p x.1 a)
    (h : DataW.trod enc Tryd.prog W 0 (fun _ => true) held fuel t cs = some x) :
    ∃ (A : Option Addr) (l : List α) (c : Nat), cs = [.slice A l.length c] ∧ Rd k fe A c l W ∧ ∀ y ∈ l, ∃ d, p d y ∧ Rows.uptoBulk d ≤ Rows.uptoBulk x.1 := by
  rcases DataW.trod_slice ht h with ⟨rfl, _⟩ | ⟨a, len, cap, elems, rest, n, rfl, rfl, rfl, _, hl, hm, hlen, hel2, _⟩
  · exact ⟨none, [], 0, rfl, Rd.nil _ _ _, fun _ h => by cases h⟩
  · rw [hk] at hel2
    obtain ⟨ks, hk1, hk2⟩ := pick_list (fun i (y : α) => ((OkP (fe y).parts1 ∧ (fe y).cl.length = k) ∧ W.cells? 0 (a.add (i * k)) k = some (fe y).cl) ∧ ∃ d ∈ elems.map (·.1), p d y) len fun i hi => by
      have h0 := hel2 i hi
      rw [List.getElem?_eq_getElem (by omega)] at h0
      cases hc : W.cells? 0 (a.add (i * k)) k with
      | none => rw [hc] at h0; cases h0
      | some cs =>
        rw [hc] at h0
        obtain ⟨y, ⟨rfl, h1⟩, h2⟩ := hel _ _ _ h0
        exact ⟨y, ⟨h1, rfl⟩, _, List.mem_map.2 ⟨_, List.getElem_mem _, rfl⟩, h2⟩
    subst hk1
    refine ⟨some a, ks, cap, rfl, ⟨hl, (by unfold maxLen at hm; omega), fun e => (by cases e), fun y hy => ?_, fun hpos => ?_⟩, fun y hy => ?_⟩
    · obtain ⟨i, hi, rfl⟩ := List.getElem_of_mem hy
      exact (hk2 i _ (List.getElem?_eq_getElem hi)).1.1
    · have hcell : ∀ i y, ks[i]? = some y → ∀ j v, (fe y).cl[j]? = some v → W.cell? (a.add (i * k + j)) = some v := fun i y hi j v hj => by
        obtain ⟨⟨⟨_, hkl⟩, hc⟩, _⟩ := hk2 i y hi
        obtain ⟨_, _, h3⟩ := World.cells?_some hc
        have hjk : j < k := by
          have := (List.getElem?_eq_some_iff.1 hj).1
          omega
        have := h3 j hjk
        rw [Addr.add_add, hj] at this
        exact this
      have h00 := (hk2 0 _ (List.getElem?_eq_getElem hpos)).1
      have hb := World.cells?_block h00.2 hk0
      rw [Nat.zero_mul] at hb
      obtain ⟨b, o, sp⟩ := a
      have hsp0 : sp = none := by
        obtain ⟨v, hv⟩ : ∃ v, (fe ks[0]).cl[0]? = some v := ⟨_, List.getElem?_eq_getElem (by rw [h00.1.2]; exact hk0)⟩
        have := hcell 0 _ (List.getElem?_eq_getElem hpos) 0 v hv
        rw [Nat.zero_mul, show (⟨b, o, sp⟩ : Addr).add (0 + 0) = ⟨b, o, sp⟩ from rfl, World.cell?] at this
        cases sp with
        | none => rfl
        | some s =>
          exfalso
          dsimp only at this
          split at this
          · simp at this
          · cases this
      subst hsp0
      refine ⟨b, o, rfl, hb, fun i y hi j v hj => ?_⟩
      have := hcell i y hi j v hj
      rw [Addr.add_mid] at this
      rwa [Nat.add_assoc, Nat.mul_comm k i]
    · obtain ⟨i, hi, rfl⟩ := List.getElem_of_mem hy
      obtain ⟨_, d, hd, hp⟩ := hk2 i _ (List.getElem?_eq_getElem hi)
      refine ⟨d, hp, ?_⟩
      have := bulk_in hd
      simp only [Rows.uptoBulk]
      omega
end Go.Proofs.YtcbfalfkdnfelaaDoor
/-
  FROM A WALK TO A LAW'S ROW: the cells of a table of words, from what the row lists.
-/
namespace Go.Proofs.YtcbfalfkdnfelaaDoor
open Go.ChangeShapes Go.WideShapes Go.ChangeAt Go.RowKit

theorem cells64 : Tryd.prog.cellsOf 57 = 1 := by kernel_rfl
set_option maxRecDepth 20000 in
/-- The cells of a table of words. -/
theorem table_cells {W : World} {nm : String} {g g0 t0 tid n fuel : Nat} {l : List Nat} {datum : DataW Unit} {cs : List Value} {p : List MemPlace} (hg : Tryd.prog.globalNamed nm = some g) (ht : (Tryd.prog.globals[g]?).map (·.type) = some tid) (hu : Tryd.prog.underlying tid = some (.array n 57))
    (hd : datum = .agg (l.map fun (x : Nat) => .lit (.int .u64 (x : Int)))) (hg0 : Tryd.prog.globalNamed nm = some g0) (ht0 : (Tryd.prog.globals[g0]?).map (·.type) = some t0) (hv0 : W.var? Tryd.prog nm = some cs.toArray) (hd0 : DataW.trod (fun _ => ()) Tryd.prog W 0 (fun _ => true) false fuel t0 cs = some (datum, p)) :
    ∀ i, i < n → W.cell? ⟨g, i, none⟩ = some (.int .u64 (l[i]! : Nat)) := by
  obtain rfl := Option.some.inj (hg.symm.trans hg0)
  obtain rfl := Option.some.inj (ht.symm.trans ht0)
  obtain ⟨xs, m1, rfl, hx1, hlen, hn5, hel⟩ := DataW.trod_array hu hd0
  have hx2 := congrArg Prod.fst hx1
  rw [hd] at hx2
  injection hx2 with hx2
  intro i hi
  have h0 := hel i hi
  rw [cells64] at h0
  obtain ⟨x, hxi⟩ : ∃ x, xs[i]? = some x := ⟨xs[i]'(by omega), List.getElem?_eq_getElem (by omega)⟩
  rw [hxi] at h0
  obtain ⟨n', e1, e2, _⟩ := DataW.trod_int Tryd.underlying57 h0
  have hll : l.length = n := by
    have := congrArg List.length hx2
    simp only [List.length_map] at this
    omega
  have h3 : (l.map fun (x : Nat) => (DataW.lit (.int .u64 (x : Int)) : DataW Unit))[i]? = (xs.map (·.1))[i]? := by rw [hx2]
  rw [List.getElem?_map, List.getElem?_map, hxi, List.getElem?_eq_getElem (by omega)] at h3
  simp only [Option.map_some, Option.some.injEq] at h3
  rw [e2] at h3
  have hn : n' = ((l[i]! : Nat) : Int) := by
    rw [getElem!_pos l i (by omega)]
    injection h3 with h3
    injection h3 with _ h3
    exact h3.symm
  subst hn
  have hcell := World.var?_cell hg hv0 i
  rw [hcell]
  have := one_of e1
  simpa using this
end Go.Proofs.YtcbfalfkdnfelaaDoor
/-
  CALLS IN DRAWN REGIONS BY THEIR CONTRACTS; slices of slices.
-/
namespace Go.Proofs.YtcbfalfkdnfelaaDoor
open Go.RowKit Go.IntWalk

instance {p q : World → Prop} [hp : Pst p] [hq : Pst q] : Pst (fun w => p w ∧ q w) := ⟨fun _ _ h hb => ⟨hp.later _ _ h.1 hb, hq.later _ _ h.2 hb⟩⟩
instance {α : Type} {p : α → World → Prop} {l : List α} [hp : ∀ a, Pst (p a)] : Pst (fun w => ∀ a ∈ l, p a w) := ⟨fun _ _ h hb a ha => (hp a).later _ _ (h a ha) hb⟩
/-- A call that is lent nothing. -/
theorem l_call0 {b : Base} {ops : Array Oper} {Q : Exit → Act → World → Prop} {N : Nat} {E : SE} {L : List LV} {R : List Res} {F M F' : World → Prop} {o : Oper} {rest : List Oper} {k : Nat} {α : Type} {post : Post α} {f : FuncId} {xs : Array Operand} {ats : Array TypeId} {svs : List SV}
    (args : List Value) (hg : o.guard = none) (hd : o.dst = some k) (hk : Nat.blt k N = true) (hf : Own f) (ho : o.op = .call { callee := .value (.func f), args := xs, argTypes := ats }) (hx : evSs E xs.toList = some svs)
    (ha : ∀ G : Nat → Nat, (∀ x ∈ L, ∀ g, x.g = some g → G x.j = g) → svs.map (SV.den G) = args) (hs : Spec f args [] F' post) (hF : ∀ w, F w → M w → F' w)
    (hn : ∀ x, lS Tryd.prog b ops Q N rest ⟨(k, (post.ret x).sv) :: E, L, post.own x ++ R, fun w => post.p x w ∧ F w, fun w => post.n x w ∧ M w⟩) : lS Tryd.prog b ops Q N (o :: rest) ⟨E, L, R, F, M⟩ :=
  l_callA (own := []) (R' := R) args hg hd hk hf ho hx ha hs hF hn
/-- What a slot holds, said by another shape. -/
theorem l_as {P : Program} {b : Base} {ops : Array Oper} {Q : Exit → Act → World → Prop} {N : Nat} {E : SE} {L : List LV} {R : List Res} {F M : World → Prop} {l : List Oper} (k : Nat) {v : SV} (v' : SV) (h : lookS E k = some v) (he : ∀ G, v.den G = v'.den G) (ho : v'.Ok) (hn : lS P b ops Q N l ⟨(k, v') :: E, L, R, F, M⟩) : lS P b ops Q N l ⟨E, L, R, F, M⟩ := fun a w ⟨G, S, h1, h2, h3⟩ =>
  hn a w ⟨G, S, h1.more (h1.get k _ (by rw [look_den, h]; exact congrArg some (he G))), h2.cons ho, h3⟩
/-- What is owned, said otherwise. -/
theorem l_R {P : Program} {b : Base} {ops : Array Oper} {Q : Exit → Act → World → Prop} {N : Nat} {E : SE} {L : List LV} {R : List Res} {F M : World → Prop} {l : List Oper} (R2 : List Res) (h : R = R2) (hn : lS P b ops Q N l ⟨E, L, R2, F, M⟩) : lS P b ops Q N l ⟨E, L, R, F, M⟩ := h ▸ hn
/-- What is owned no more. -/
theorem k_drop {b : Base} {K : Act → World → Prop} {N : Nat} {E : SE} {L : List LV} {R : List Res} {F M : World → Prop} (i : Nat) {r : Res} (hi : R[i]? = some r) (h : kS b K N ⟨E, L, R.eraseIdx i, F, M⟩) : kS b K N ⟨E, L, R, F, M⟩ := fun a w ⟨G, S, h1, h2, h3⟩ => by
  obtain ⟨S1, S2, _, _, _, h4⟩ := h3.let hi
  exact h a w ⟨G, S2, h1, h2, h4⟩
/-- A slice of bytes as an element: where it lies, its room, what it reads. -/
structure Seg where
  A : Option Addr
  c : Nat
  l : List UInt8
def eSeg (s : Seg) : SQ := .c (.v (.slice s.A s.l.length s.c))
theorem eSeg_ok (s : Seg) : OkP (eSeg s).parts1 ∧ (eSeg s).cl.length = 1 := ⟨fun p hp => by rw [List.mem_singleton.1 hp]; exact ⟨trivial, rfl, rfl⟩, rfl⟩
theorem okF_seg (l : List Seg) : OkF 1 eSeg l := fun s _ => eSeg_ok s
/-- It is read. -/
def Seg.rd (s : Seg) (w : World) : Prop := Rd 1 eB s.A s.c s.l w
instance {s : Seg} : Pst s.rd := ⟨fun _ _ h hb => h.later hb⟩
theorem Rd.sl {A : Option Addr} {c : Nat} {l : List UInt8} {w : World} (h : Rd 1 eB A c l w) : SL w 0 w.heap.size A l c := by
  obtain ⟨A', c', e, h1⟩ := h.sb
  injection e with e1 _ e2
  subst e1 e2
  exact h1
theorem parts_of {A : Option Addr} {c : Nat} {ss : List Seg} {w : World} (h : Rd 1 eSeg A c ss w) (h2 : ∀ s ∈ ss, s.rd w) : Parts w w.heap.size A (ss.map Seg.l) := fun hl => by
  obtain ⟨b, o, e, hb, hr⟩ := h.2.2.2.2 (by simpa using hl)
  refine ⟨⟨b, o, none⟩, e, hb, fun i l hi => ?_⟩
  rw [List.getElem?_map] at hi
  cases hs : ss[i]? with
  | none => rw [hs] at hi; cases hi
  | some s =>
    rw [hs] at hi
    simp only [Option.map_some, Option.some.injEq] at hi
    subst hi
    refine ⟨s.A, s.c, ?_, (h2 s (List.mem_of_getElem? hs)).sl⟩
    have := hr i s hs 0 (.slice s.A s.l.length s.c) rfl
    rw [Addr.add_mid]
    simpa using this
end Go.Proofs.YtcbfalfkdnfelaaDoor
/-
  FUNCTION VALUES, over states: calls of them; what is captured.
-/
namespace Go.Proofs.YtcbfalfkdnfelaaDoor
open Go.RowKit Go.IntWalk

/-! ### Function values -/
section
variable {b : Base} {ops : Array Oper} {Q : Exit → Act → World → Prop} {N : Nat} {E : SE} {L : List LV} {R R' : List Res} {F M F' : World → Prop} {o : Oper} {rest : List Oper} {k : Nat} {α : Type} {post : Post α} {own : List Res} {f : FuncId} {y : Operand} {xs : Array Operand} {ats : Array TypeId} {svs : List SV} {caps : List Value}
theorem callV_run {G : Nat → Nat} {a : Act} {w : World} (hf : Own f) (ho : o.op = .call { callee := .value y, args := xs, argTypes := ats }) (hy : evS E y = some (.v (.func (.func f) #[] caps.toArray))) (hx : evSs E xs.toList = some svs) (ha : Fr N (denE G E) a) :
    (execOp a.eval o).run Tryd.prog w = .ok (.enter f (svs.map (SV.den G) ++ caps).toArray) w := by
  have h1 : a.eval y = .func (.func f) #[] caps.toArray := ha.eval (evS_ok hy)
  have h2 := map_eval (args := (svs.map (SV.den G)).toArray) (ha.evals _ _ (by rw [evSs_ok hx]))
  have h3 := hf (svs.map (SV.den G) ++ caps).toArray w
  have e : (svs.map (SV.den G)).toArray ++ caps.toArray = (svs.map (SV.den G) ++ caps).toArray := by simp
  obtain ⟨dst, op, ty, pos, af, gd⟩ := o
  simp only at ho
  subst ho
  unfold execOp
  simp only [resolve, h1, h2, Deferred.ofValue, Sem.run_bind, Sem.run_pure, Result.andThen_ok, invoke]
  simp [e, h3]
theorem l_callV (args : List Value) (hg : o.guard = none) (hd : o.dst = some k) (hk : Nat.blt k N = true) (hf : Own f) (ho : o.op = .call { callee := .value y, args := xs, argTypes := ats }) (hy : evS E y = some (.v (.func (.func f) #[] caps.toArray))) (hx : evSs E xs.toList = some svs)
    (ha : ∀ G : Nat → Nat, (∀ x ∈ L, ∀ g, x.g = some g → G x.j = g) → svs.map (SV.den G) ++ caps = args) (hs : Spec f args own F' post) (hF : ∀ w, F w → M w → F' w)
    (hn : ∀ x, lS Tryd.prog b ops Q N rest ⟨(k, (post.ret x).sv) :: E, L, post.own x ++ R', fun w => post.p x w ∧ F w, fun w => post.n x w ∧ M w⟩) : lS Tryd.prog b ops Q N (o :: rest) ⟨E, L, own ++ R', F, M⟩ := fun a w ⟨G, S, h1, h2, h3⟩ => by
  have hr := callV_run (w := w) hf ho hy hx h1
  rw [ha G fun x hx => (h3.var x hx).2.2] at hr
  unfold wpList
  rw [if_pos (by simp [Region.wanted, hg])]
  refine .inl ?_
  unfold Oper.wp
  rw [hr]
  simp only [Oper.upon, hd]
  refine (h3.callA hs hF).mono ?_
  rintro e w' ⟨x, S', rfl, hok, h4⟩
  have h5 := h1.put hk (post.ret x).den
  rw [← RV.sv_den _ G] at h5
  have h6 := hn x _ w' ⟨G, S', h5, h2.cons hok, h4⟩
  rw [RV.sv_den] at h6
  exact h6
/-- func(..) {..}, what it has captured lying behind addresses that are known. -/
theorem run_makeF {fn : Fn} {vals : List Value} (ho : o.op = .makeFunc fn #[] xs) (hx : evSs E xs.toList = some svs) (hv : ∀ G : Nat → Nat, svs.map (SV.den G) = vals) :
    ∀ (G : Nat → Nat) (a : Act) (w : World), Fr N (denE G E) a → (execOp a.eval o).run Tryd.prog w = .ok (.value ((SV.v (.func fn #[] vals.toArray)).den G)) w := fun G a w ha => by
  have h2 := map_eval (args := (svs.map (SV.den G)).toArray) (ha.evals _ _ (by rw [evSs_ok hx]))
  rw [hv G] at h2
  unfold execOp
  simp only [ho]
  simp [h2, Instr.makeFunc]
  rfl
end
end Go.Proofs.YtcbfalfkdnfelaaDoor
/-
  LITERALS OF BYTES, over states.
-/
namespace Go.Proofs.YtcbfalfkdnfelaaDoor
open Go.RowKit Go.IntWalk

theorem rd_alloc {w : World} {m : Nat × Nat} (l : List UInt8) (hm : l.length ≤ 9223372036854775807) : Rd 1 eB (some ⟨w.heap.size, 0, none⟩) l.length l (w.alloc (.cells (By l).toArray 5 m)) := by
  have hc : (w.alloc (.cells (By l).toArray 5 m)).heap[w.heap.size]? = some (.cells (By l).toArray 5 m) := heap_alloc_new w _
  have hsz : (w.alloc (.cells (By l).toArray 5 m)).heap.size = w.heap.size + 1 := World.size_alloc _ _
  refine ⟨Nat.le_refl _, hm, fun h => (by cases h), okF_B l, fun _ => ⟨w.heap.size, 0, rfl, by rw [hsz]; exact Nat.lt_succ_self _, fun i x hi j v hj => ?_⟩⟩
  cases j with
  | zero =>
    have e : v = .int .u8 (x.toNat : Int) := (Option.some.inj ((show (eB x).cl[0]? = some (.int .u8 (x.toNat : Int)) from rfl).symm.trans hj)).symm
    rw [cell_of_row _ _ _ _ _ _ hc, e]
    obtain ⟨h1, h2⟩ := List.getElem?_eq_some_iff.1 hi
    have h3 := By_at? h1
    rw [getElem!_pos l i h1, h2] at h3
    simpa using h3
  | succ j =>
    have : (eB x).cl[j + 1]? = none := rfl
    rw [this] at hj
    cases hj
section
variable {b : Base} {ops : Array Oper} {Q : Exit → Act → World → Prop} {N : Nat} {E : SE} {L : List LV} {R : List Res} {F M : World → Prop} {o o2 : Oper} {rest : List Oper} {k k2 : Nat}
/-- []byte("..."), the order forced. -/
theorem l_litS {n : Nat} {parts : Array (Nat × Operand)} (l : List UInt8) (hg : o.guard = none) (hd : o.dst = some k) (hk : Nat.blt k N = true) (ho : o.op = .buildSlice 33 n parts) (hp : ∀ G : Nat → Nat, parts.toList.map (fun p => (p.1, (evS E p.2).map (SV.den G))) = ((l.map fun x => (eB x).den).zipIdx 0).map fun x => (x.2, some x.1))
    (hn : l.length = n) (h0 : 0 < n) (h24 : n ≤ 16777216) (hf : lookS E k = none) (hw2 : wantS ops N ((k, .v undef) :: E) o2 = some true) (hd2 : o2.dst = some k2) (hk2 : Nat.blt k2 N = true) (ho2 : o2.op = .convert 33 33 (.tmp k))
    (hc : ∀ g, lS Tryd.prog b ops Q N rest ⟨(k2, .v (.slice (some ⟨g, 0, none⟩) n n)) :: E, L, R, F, fun w => Rd 1 eB (some ⟨g, 0, none⟩) n l w ∧ M w⟩) : lS Tryd.prog b ops Q N (o :: o2 :: rest) ⟨E, L, R, F, M⟩ := fun a w ⟨G, S, h1, h2, h3⟩ => by
  obtain ⟨ht, ie, z, hi, hz, hsz, hbs, hzs, _⟩ := slS_ok (T := TY) TY_ok (t := 33) (e := 5) (k := 1) (bs := 1) rfl
  have hr := run_lit (P := Tryd.prog) ht hi hz hsz (l.map fun x => (eB x).den) n (parts.map fun (i, x) => (i, a.eval x)) (by rw [Array.toList_map]; exact map_parts h1 _ _ (hp G)) (by rw [List.length_map, hn]) (by omega) (by omega) (fun v hv => by
    obtain ⟨x, hx, rfl⟩ := List.mem_map.1 hv
    rfl) w
  have e1 : ((l.map fun x => (eB x).den).flatMap fun v => v.cells.toList) = By l := by rw [List.flatMap_map, ← flat_B]; rfl
  rw [e1] at hr
  subst hn
  refine wpl_go (v := .slice (some ⟨w.heap.size, 0, none⟩) l.length l.length) (w' := w.alloc (.cells (By l).toArray 5)) (oneS hg) (by
    unfold execOp
    simp only [ho, Sem.run_bind, hr, Result.andThen_ok, Sem.run_pure]) ?_
  rw [hd]
  have f1 := h1.putFar (k := k) (by rw [look_den, hf]; rfl) (.slice (some ⟨w.heap.size, 0, none⟩) l.length l.length)
  have e2 : (a.put (some k) (.slice (some ⟨w.heap.size, 0, none⟩) l.length l.length)).eval (.tmp k) = .slice (some ⟨w.heap.size, 0, none⟩) l.length l.length := eval_put_same h1 hk _
  have hr2 := Lib.run_convert_bytes_const (P := Tryd.prog) w 33 5 (By l).toArray l.length l.length Tryd.underlying33 Tryd.underlying5
  refine wpl_go (v := .slice (some ⟨w.heap.size, 0, none⟩) l.length l.length) (w' := w.alloc (.cells (By l).toArray 5 ((By l).toArray.size, (By l).toArray.size + 1))) (wantS_ok (E := (k, .v (.slice (some ⟨w.heap.size, 0, none⟩) l.length l.length)) :: E) (h1.put hk _) (want_any hw2)) (by
    unfold execOp
    simp only [ho2, e2, Sem.run_bind, hr2, Result.andThen_ok, Sem.run_pure]) ?_
  rw [hd2]
  have h4 := rd_alloc (w := w) (m := ((By l).toArray.size, (By l).toArray.size + 1)) l (by omega)
  have h5 := h3.later ((Below.refl w.heap.size w).alloc (Nat.le_refl _) (.cells (By l).toArray 5 ((By l).toArray.size, (By l).toArray.size + 1)))
  refine hc w.heap.size _ _ ⟨G, S, f1.put hk2 _, h2.cons trivial, h5.andM fun w2 hw2 => h4.keep hw2.size fun g e hlt => hw2.block g hlt fun hx => ?_⟩
  simp only [Option.map_some, Option.some.injEq] at e
  subst e
  rcases hx with hx | hx
  · exact Nat.lt_irrefl _ (Nat.lt_of_lt_of_le hx h3.chg.size)
  · exact Nat.lt_irrefl _ (h3.lt _ hx)
end
end Go.Proofs.YtcbfalfkdnfelaaDoor
/-
  STEPS OF THE RING: slices of hashes, fields behind a pointer, nil pointers.
-/
namespace Go.Proofs.YtcbfalfkdnfelaaDoor
open Go.RowKit Go.IntWalk

/-- The hashes ks lie at A. -/
def HV (w : World) (A : Option Addr) (ks : List (List UInt8)) : Prop :=
  0 < ks.length → ∃ b o, A = some ⟨b, o, none⟩ ∧ b < w.heap.size ∧ ∀ (i : Nat) l, ks[i]? = some l → l.length = 32 ∧ w.rangeAt b (o + 32 * i) (By l)
/-- The value v is a slice that reads the hashes ks. -/
def HS (w : World) (v : Value) (ks : List (List UInt8)) : Prop := ∃ A c, v = .slice A ks.length c ∧ ks.length ≤ c ∧ c ≤ 9223372036854775807 ∧ HV w A ks
section
variable {ops : Array Oper} {C0 : World → Prop} {Q : Act → Prop} {N : Nat} {E : List (Nat × Value)} {o : Oper} {rest : List Oper} {k : Nat}
theorem f_strB {x : Operand} (v : Value) (l : List UInt8) (hg : o.guard = none) (hd : o.dst = some k) (hk : Nat.blt k N = true) (ho : o.op = .convert 33 9 x) (hx : ev E x = some v) (hs : ∀ w, C0 w → SB w v l)
    (hn : bF Tryd.prog ops C0 Q rest N ((k, .string ⟨l.toArray⟩) :: E)) : bF Tryd.prog ops C0 Q (o :: rest) N E :=
  f_val _ hg hd hk (fun a ha w hw => by
    have h1 := ha.eval hx
    obtain ⟨A, c, rfl, hS⟩ := hs w hw
    unfold execOp
    simp only [ho, h1]
    cases A with
    | none =>
      obtain ⟨h3, h4⟩ := hS.none_ rfl
      obtain rfl := List.eq_nil_of_length_eq_zero h3
      have hr := run_convert_bytes_nil (P := Tryd.prog) w 33 5 Tryd.underlying33 Tryd.underlying5 0 c 9 Tryd.underlying9
      simp only [Sem.run_bind, List.length_nil, hr, Result.andThen_ok, Sem.run_pure]
      rfl
    | some ad =>
      have hr := run_convert_bytes_back (P := Tryd.prog) w 33 9 5 ad c l Tryd.underlying33 Tryd.underlying5 Tryd.underlying9 (fun j hj => hS.cells ad rfl j _ (by rw [By_at? hj, getElem!_pos l j hj]))
      simp only [Sem.run_bind, hr, Result.andThen_ok, Sem.run_pure]) hn
end
end Go.Proofs.YtcbfalfkdnfelaaDoor
/-
  MORE STEPS, over states: equality of bools, of rows of bytes, of strings; bytes as strings; xor, min, cuts.
-/
namespace Go.Proofs.YtcbfalfkdnfelaaDoor
open Go.RowKit Go.IntWalk

section
variable {P : Program} {b : Base} {ops : Array Oper} {Q : Exit → Act → World → Prop} {N : Nat} {E : SE} {L : List LV} {R : List Res} {F M : World → Prop} {o : Oper} {rest : List Oper} {k : Nat}
/-- A step whose value hangs on the frame alone. -/
theorem l_op (v : SV) (hv : v.Ok) (hg : o.guard = none) (hd : o.dst = some k) (hk : Nat.blt k N = true) (h : ∀ (G : Nat → Nat) (a : Act) (w : World), Fr N (denE G E) a → (execOp a.eval o).run P w = .ok (.value (v.den G)) w)
    (hn : lS P b ops Q N rest ⟨(k, v) :: E, L, R, F, M⟩) : lS P b ops Q N (o :: rest) ⟨E, L, R, F, M⟩ := fun a w ⟨G, S, h1, h2, h3⟩ => by
  refine wpl_go (oneS hg) (h G a w h1) ?_
  rw [hd]
  exact hn _ w ⟨G, S, h1.put hk _, h2.cons hv, h3⟩
/-- A step whose value hangs on what can be seen. -/
theorem l_opV (v : SV) (hv : v.Ok) (hg : o.guard = none) (hd : o.dst = some k) (hk : Nat.blt k N = true) (h : ∀ (G : Nat → Nat) (S : Nat → Prop) (a : Act) (w : World), Fr N (denE G E) a → View G S L R F M w → (execOp a.eval o).run P w = .ok (.value (v.den G)) w)
    (hn : lS P b ops Q N rest ⟨(k, v) :: E, L, R, F, M⟩) : lS P b ops Q N (o :: rest) ⟨E, L, R, F, M⟩ := fun a w ⟨G, S, h1, h2, h3⟩ => by
  refine wpl_go (oneS hg) (h G S a w h1 h3.view) ?_
  rw [hd]
  exact hn _ w ⟨G, S, h1.put hk _, h2.cons hv, h3⟩
variable {T' : List Oper} {G : Nat → Nat} {S : Nat → Prop} {w0 : World} {grest : List (Nat × Oper)} {i : Nat}
theorem g_opS (v : SV) (hv : v.Ok) (hg : o.guard = none) (hd : o.dst = some k) (hk : Nat.blt k N = true) (h : ∀ (G : Nat → Nat) (a : Act) (w : World), Fr N (denE G E) a → (execOp a.eval o).run P w = .ok (.value (v.den G)) w)
    (hn : gS P b ops Q N T' G w0 grest ((k, v) :: E)) : gS P b ops Q N T' G w0 ((i, o) :: grest) E := fun hE =>
  g_op rfl (fun a ha => b_val (by simp [Region.wanted, hg]) (fun w _ => h G a w ha) (by
    rw [hd]
    exact g_go (o := o) (hn (hE.cons hv)) _ (ha.put hk _)))
end
section
variable {N : Nat} {E : SE} {o : Oper} {x y : Operand} {t t' : TypeId}
/-- A string. -/
abbrev vS (l : List UInt8) : SV := .v (.string ⟨l.toArray⟩)
theorem run_eqS {l m : List UInt8} (ho : o.op = .binOp .eql 9 x y t') (hx : evS E x = some (vS l)) (hy : evS E y = some (vS m)) :
    ∀ (G : Nat → Nat) (a : Act) (w : World), Fr N (denE G E) a → (execOp a.eval o).run Tryd.prog w = .ok (.value ((SV.b (decide (l = m))).den G)) w := fun G a w ha => by
  have h1 : a.eval x = .string ⟨l.toArray⟩ := ha.eval (evS_ok hx)
  have h2 : a.eval y = .string ⟨m.toArray⟩ := ha.eval (evS_ok hy)
  unfold execOp
  simp only [ho, h1, h2]
  by_cases e : l = m <;> go_simp <;> first | rfl | (rw [show (l == m) = false from by simpa using e]; rfl)
theorem run_neqS {l m : List UInt8} (ho : o.op = .binOp .neq 9 x y t') (hx : evS E x = some (vS l)) (hy : evS E y = some (vS m)) :
    ∀ (G : Nat → Nat) (a : Act) (w : World), Fr N (denE G E) a → (execOp a.eval o).run Tryd.prog w = .ok (.value ((SV.b (!decide (l = m))).den G)) w := fun G a w ha => by
  have h1 : a.eval x = .string ⟨l.toArray⟩ := ha.eval (evS_ok hx)
  have h2 : a.eval y = .string ⟨m.toArray⟩ := ha.eval (evS_ok hy)
  unfold execOp
  simp only [ho, h1, h2]
  by_cases e : l = m <;> go_simp <;> first | rfl | (rw [show (l == m) = false from by simpa using e]; rfl)
theorem run_xor {m n : Int} (ho : o.op = .binOp .xor 5 x y t') (hx : evS E x = some (.v (.int .u8 m))) (hy : evS E y = some (.v (.int .u8 n))) :
    ∀ (G : Nat → Nat) (a : Act) (w : World), Fr N (denE G E) a → (execOp a.eval o).run Tryd.prog w = .ok (.value ((SV.v (.int .u8 (bits .xor .u8 m n))).den G)) w := fun G a w ha => by
  have h1 : a.eval x = .int .u8 m := ha.eval (evS_ok hx)
  have h2 : a.eval y = .int .u8 n := ha.eval (evS_ok hy)
  unfold execOp
  simp only [ho, h1, h2]
  go_simp
  rfl
theorem run_min {p q : Nat} (ho : o.op = .call { callee := .builtin .min, args := #[x, y], argTypes := #[3, 3] }) (hx : evS E x = some (.v (.int .i64 (p : Int)))) (hy : evS E y = some (.v (.int .i64 (q : Int)))) :
    ∀ (G : Nat → Nat) (a : Act) (w : World), Fr N (denE G E) a → (execOp a.eval o).run Tryd.prog w = .ok (.value ((SV.v (.int .i64 ((min p q : Nat) : Int))).den G)) w := fun G a w ha => by
  have h1 : a.eval x = .int .i64 (p : Int) := ha.eval (evS_ok hx)
  have h2 : a.eval y = .int .i64 (q : Int) := ha.eval (evS_ok hy)
  unfold execOp
  simp only [ho]
  generalize a.eval = ρ at *
  show _ = Result.ok (Next.value (.int .i64 ((min p q : Nat) : Int))) w
  go_simp
  split <;> omega
/-- '== nil' of a slice. -/
theorem run_eqNilS {A : Option Addr} {n c : Nat} {e : TypeId} (ho : o.op = .binOp .eql t x (.const (.slice none 0 0)) t') (hu : Tryd.prog.underlying t = some (.slice e)) (hx : evS E x = some (.v (.slice A n c))) :
    ∀ (G : Nat → Nat) (a : Act) (w : World), Fr N (denE G E) a → (execOp a.eval o).run Tryd.prog w = .ok (.value ((SV.v (.bool A.isNone)).den G)) w := fun G a w ha => by
  have h1 : a.eval x = .slice A n c := ha.eval (evS_ok hx)
  have h3 := run_equal_slice_nil (P := Tryd.prog) w t e A n c hu
  unfold execOp
  have h4 : (eqGuard .eql t x (.const (.slice none 0 0)) (.slice A n c) (.slice none 0 0)).run Tryd.prog w = .ok () w := rfl
  simp only [ho, h1, show a.eval (.const (.slice none 0 0)) = .slice none 0 0 from rfl, Sem.run_bind, h4, Result.andThen_ok, binOp, h3, Sem.run_pure]
  rfl
theorem run_minI {p q : Int} (ho : o.op = .call { callee := .builtin .min, args := #[x, y], argTypes := #[3, 3] }) (hx : evS E x = some (.v (.int .i64 p))) (hy : evS E y = some (.v (.int .i64 q))) :
    ∀ (G : Nat → Nat) (a : Act) (w : World), Fr N (denE G E) a → (execOp a.eval o).run Tryd.prog w = .ok (.value ((SV.v (.int .i64 (min p q))).den G)) w := fun G a w ha => by
  have h1 : a.eval x = .int .i64 p := ha.eval (evS_ok hx)
  have h2 : a.eval y = .int .i64 q := ha.eval (evS_ok hy)
  unfold execOp
  simp only [ho]
  generalize a.eval = ρ at *
  show _ = Result.ok (Next.value (.int .i64 (min p q))) w
  go_simp
  split <;> omega
theorem run_maxI {p q : Int} (ho : o.op = .call { callee := .builtin .max, args := #[x, y], argTypes := #[3, 3] }) (hx : evS E x = some (.v (.int .i64 p))) (hy : evS E y = some (.v (.int .i64 q))) :
    ∀ (G : Nat → Nat) (a : Act) (w : World), Fr N (denE G E) a → (execOp a.eval o).run Tryd.prog w = .ok (.value ((SV.v (.int .i64 (max p q))).den G)) w := fun G a w ha => by
  have h1 : a.eval x = .int .i64 p := ha.eval (evS_ok hx)
  have h2 : a.eval y = .int .i64 q := ha.eval (evS_ok hy)
  unfold execOp
  simp only [ho]
  generalize a.eval = ρ at *
  show _ = Result.ok (Next.value (.int .i64 (max p q))) w
  go_simp
  split <;> omega
theorem run_sizeOf {P : Program} {e : TypeId} {k : Nat} (he : (P.info? e).map (·.size) = some k) (w : World) : (sizeOf e).run P w = .ok k w := by
  cases hq : P.info? e with
  | none => simp [hq] at he
  | some ie =>
    have hs : ie.size = k := by simpa [hq] using he
    simp [sizeOf, typeInfo, hq, hs]
/-- '!=' of bools. -/
theorem run_neqBoolW {u v : SV} {p q : Bool} (ho : o.op = .binOp .neq 4 x y t') (hx : evS E x = some u) (hy : evS E y = some v) (hu : ∀ G, u.den G = .bool p) (hv : ∀ G, v.den G = .bool q) : ∀ (G : Nat → Nat) (a : Act) (w : World), Fr N (denE G E) a → (execOp a.eval o).run Tryd.prog w = .ok (.value ((SV.b (!(p == q))).den G)) w := fun G a w ha => by
  have h1 : a.eval x = .bool p := (ha.eval (evS_ok hx)).trans (hu G)
  have h2 : a.eval y = .bool q := (ha.eval (evS_ok hy)).trans (hv G)
  unfold execOp
  simp only [ho, h1, h2]
  go_simp
  rfl
/-- A cut at the end: s[:j], any elements. -/
theorem run_cutHi {A : Option Addr} {n c j sz : Nat} {e : TypeId} (he : (Tryd.prog.info? e).map (·.size) = some sz) (hj : j ≤ c) (hA : A = none → c = 0) (ho : o.op = .slice t x none (some y) none) (hu : Tryd.prog.underlying t = some (.slice e)) (hx : evS E x = some (.v (.slice A n c))) (hy : evS E y = some (.v (.int .i64 (j : Int)))) :
    ∀ (G : Nat → Nat) (a : Act) (w : World), Fr N (denE G E) a → (execOp a.eval o).run Tryd.prog w = .ok (.value ((SV.v (.slice A j c)).den G)) w := fun G a w ha => by
  have h1 : a.eval x = .slice A n c := ha.eval (evS_ok hx)
  have h2 : a.eval y = .int .i64 (j : Int) := ha.eval (evS_ok hy)
  have h3 : (j : Int) ≤ (c : Int) := by omega
  have h4 : (0 : Int) ≤ (j : Int) := by omega
  have h5 := run_sizeOf he w
  unfold execOp
  simp only [ho]
  generalize a.eval = ρ at *
  simp only [Option.map, h1, h2]
  show _ = Result.ok (Next.value (.slice A j c)) w
  cases A with
  | none =>
    have := hA rfl
    obtain rfl : c = 0 := this
    obtain rfl : j = 0 := by omega
    go_simp
  | some ad => go_simp
end
section
variable {b : Base} {ops : Array Oper} {Q : Exit → Act → World → Prop} {N : Nat} {E : SE} {L : List LV} {R : List Res} {F M : World → Prop} {o : Oper} {rest : List Oper} {k : Nat}
/-- Bytes as a string. -/
theorem l_strB {x : Operand} {A : Option Addr} {c : Nat} (l : List UInt8) (hg : o.guard = none) (hd : o.dst = some k) (hk : Nat.blt k N = true) (ho : o.op = .convert 33 9 x) (hx : evS E x = some (.v (.slice A l.length c)))
    (h : ∀ G S w, View G S L R F M w → Rd 1 eB A c l w) (hn : lS Tryd.prog b ops Q N rest ⟨(k, vS l) :: E, L, R, F, M⟩) : lS Tryd.prog b ops Q N (o :: rest) ⟨E, L, R, F, M⟩ :=
  l_f (vS l) trivial (fun G S w C0 Q' hv h0 hQ => f_strB (.slice A l.length c) l hg hd hk ho (evS_ok hx) (fun w' hw' => by rw [h0 w' hw']; exact (h G S w hv).sb) hQ) (by rw [ho]; rfl) hn
end
end Go.Proofs.YtcbfalfkdnfelaaDoor
/-
  FROM A CONTRACT TO A LAW'S ROW.
-/
namespace Go.Proofs.YtcbfalfkdnfelaaDoor
open Go.RowKit Go.IntWalk

theorem spec_law {f : FuncId} {args : List Value} {F : World → Prop} [Pst F] (h : Spec f args [] F (one (.v (.bool true)))) {W : World} (hF : F W) : Calls Tryd.prog f args.toArray W fun e W' => e = .returned (.bool true) ∧ Below W.heap.size W W' :=
  (h W (fun _ => False) (fun _ => False) (fun _ h => h) (fun _ h => h.elim) (Stb.of_pst hF fun _ _ h => h.elim id id)).mono fun _ _ ⟨_, _, h1, _, h2, _⟩ => ⟨h1, h2.up fun _ _ h => h⟩
theorem Rd.of_sl {A : Option Addr} {c : Nat} {l : List UInt8} {W : World} (h : SL W 0 W.heap.size A l c) : Rd 1 eB A c l W := (Rd.of_sb ⟨A, c, rfl, h⟩).2
end Go.Proofs.YtcbfalfkdnfelaaDoor
