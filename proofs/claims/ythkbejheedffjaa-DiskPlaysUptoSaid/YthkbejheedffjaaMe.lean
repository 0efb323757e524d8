/-
  SEVERAL TEXTS IN ONE: Vg, Vh, Ty, Vi, Vj, Vk, RgS, Vm, Vn, Vo, Vq, Vr.
-/
import Derived.Test.YthkbejheedffjaaMd
import Derived.Great.BuildSlice
import Derived.Lib.SlBytesConst
import Derived.Test.YthkbejheedffjaaMc
import Derived.Laws.IdiomStrings
import Derived.Laws.BytesArg
import Derived.Lib.LazyBuf
/-
  SLICES OF ONE'S OWN: literals, make, append, elements written; what becomes of them when they are owned no more.
-/
namespace Go.Proofs.Ythkbejheedffjaa
open Go.RowKit Go.IntWalk

/-- The cells of elements, one behind the other. -/
def flatF {α : Type} (fe : α → SQ) (l : List α) : List Value := l.flatMap fun x => (fe x).cl
section
variable {α : Type} {k : Nat} {fe : α → SQ} {l m : List α}
theorem flatF_app : flatF fe (l ++ m) = flatF fe l ++ flatF fe m := List.flatMap_append
theorem flatF_len (h : OkF k fe l) : (flatF fe l).length = l.length * k := by
  induction l with
  | nil => simp [flatF]
  | cons x l ih =>
    have h1 := ih fun y hy => h y (by simp [hy])
    have h2 := (h x (by simp)).2
    simp only [flatF, List.flatMap_cons, List.length_append, List.length_cons] at h1 ⊢
    rw [h1, h2, Nat.add_mul]
    omega
theorem flatF_one (h : OkF k fe l) : ∀ v ∈ flatF fe l, v.oneCell' = true := fun v hv => by
  obtain ⟨x, hx, hv⟩ := List.mem_flatMap.1 hv
  exact SQ.cl_one (h x hx).1 v hv
theorem flatF_split (h : OkF k fe l) {i : Nat} {x : α} (hi : l[i]? = some x) : ∃ A Z, flatF fe l = A ++ ((fe x).cl ++ Z) ∧ A.length = k * i ∧ ∀ y : α, flatF fe (l.set i y) = A ++ ((fe y).cl ++ Z) := by
  induction l generalizing i with
  | nil => simp at hi
  | cons y l ih =>
    cases i with
    | zero =>
      simp only [List.getElem?_cons_zero, Option.some.injEq] at hi
      subst hi
      exact ⟨[], flatF fe l, by simp [flatF], rfl, fun z => by simp [flatF]⟩
    | succ i =>
      obtain ⟨A, Z, h1, h2, h3⟩ := ih (fun z hz => h z (by simp [hz])) (by simpa using hi)
      refine ⟨(fe y).cl ++ A, Z, ?_, ?_, fun z => ?_⟩
      · rw [List.append_assoc, ← h1]
        simp [flatF]
      · rw [List.length_append, h2, (h y (by simp)).2, Nat.mul_succ]
        omega
      · rw [List.append_assoc, ← h3 z]
        simp [flatF]
theorem OkF.app (h : OkF k fe l) (h' : OkF k fe m) : OkF k fe (l ++ m) := fun x hx => (List.mem_append.1 hx).elim (h x) (h' x)
theorem OkF.set (h : OkF k fe l) {i : Nat} {y : α} (hy : OkP (fe y).parts1 ∧ (fe y).cl.length = k) : OkF k fe (l.set i y) := fun x hx => (List.mem_or_eq_of_mem_set hx).elim (h x) fun e => e ▸ hy
end
/-- **A slice of one's own**, in blocks from lo on: the elements l. -/
def OwnS {α : Type} (lo : Nat) (e : TypeId) (k : Nat) (fe : α → SQ) (A : Option Addr) (c : Nat) (l : List α) : Res where
  holds w S := OkF k fe l ∧ w.ownsRow lo e k (.slice A l.length c) l.length (flatF fe l) ∧ ∀ j, S j ↔ A.map (·.block) = some j
  keep := fun {w w' S} ⟨h1, h2, h3⟩ hk => by
    refine ⟨h1, ⟨h2.1, ?_⟩, h3⟩
    rcases h2.2 with h4 | ⟨g, cap, cur, hv, hb, hg, hr⟩
    · exact .inl h4
    · injection hv with h5 h6 h7
      refine .inr ⟨g, cap, cur, by rw [h5, h7], hb, ?_, hr⟩
      rw [hk g ((h3 g).2 (by rw [h5]; rfl))]
      exact hg
  lt := fun {w S} ⟨_, h2, h3⟩ j hj => by
    have h4 := (h3 j).1 hj
    cases A with
    | none => cases h4
    | some a =>
      have := (h2.lt a.block rfl).2
      simp only [Option.map_some, Option.some.injEq] at h4
      rw [← h4]
      exact this
section
variable {α : Type} {lo e k c : Nat} {fe : α → SQ} {A : Option Addr} {l : List α} {w : World} {S : Nat → Prop}
theorem OwnS.rd (h : (OwnS lo e k fe A c l).holds w S) : Rd k fe A c l w := by
  obtain ⟨h1, h2, h3⟩ := h
  rcases h2.2 with ⟨h4, h5⟩ | ⟨g, cap, cur, hv, hb, hg, hn, hm, hs, ht⟩
  · injection h4 with h6 h7 h8
    have := List.eq_nil_of_length_eq_zero h5
    subst h6 h8 this
    exact Rd.nil _ _ _
  · injection hv with h6 h7 h8
    subst h6 h8
    refine ⟨hn, by simp only [maxLen] at hm; omega, fun h => (by cases h), h1, fun _ => ⟨g, 0, rfl, (Array.getElem?_eq_some_iff.1 hg).1, fun i x hi j v hj => ?_⟩⟩
    obtain ⟨B, Z, h9, h10, _⟩ := flatF_split h1 hi
    have hB : Blk w g e cur := hg
    rw [hB.cell, Nat.zero_add]
    have hlt := (List.getElem?_eq_some_iff.1 hj).1
    have h11 : (flatF fe l)[k * i + j]? = some v := by
      rw [h9, List.getElem?_append_right (by omega), h10, Nat.add_sub_cancel_left, List.getElem?_append_left hlt]
      exact hj
    rw [← ht, List.getElem?_take] at h11
    split at h11
    · simpa using h11
    · cases h11
theorem OwnS.nil (lo e k : Nat) (fe : α → SQ) (w : World) : (OwnS lo e k fe none 0 []).holds w fun _ => False :=
  ⟨fun _ h => (by cases h), ⟨by simp [flatF], .inl ⟨rfl, rfl⟩⟩, fun j => ⟨False.elim, fun h => (by cases h)⟩⟩
theorem OwnS.inb (h : (OwnS lo e k fe A c l).holds w S) : ∀ a, A = some a → lo ≤ a.block ∧ a.block < w.heap.size := fun a ha => h.2.1.lt a.block (by rw [ha]; rfl)
end

/-! ### Literals -/
theorem fill_row {k : Nat} : ∀ (vs : List Value) (A Z : List Value) (i : Nat), A.length = i * k → Z.length = k * vs.length → (∀ v ∈ vs, v.cells.size = k) →
    Instr.fill (fun i => some (i * k, k)) (A ++ Z).toArray ((vs.zipIdx i).map fun x => (x.2, x.1)) = some (A ++ vs.flatMap fun v => v.cells.toList).toArray
  | [], A, Z, i, _, hZ, _ => by
    obtain rfl := List.eq_nil_of_length_eq_zero (show Z.length = 0 by simpa using hZ)
    rfl
  | v :: vs, A, Z, i, hA, hZ, hl => by
    rw [List.length_cons, Nat.mul_succ] at hZ
    have hk := hl v (by simp)
    have e : Z = Z.take k ++ Z.drop k := (List.take_append_drop k Z).symm
    have tk : (Z.take k).length = k := by rw [List.length_take]; omega
    rw [e, List.zipIdx_cons, List.map_cons]
    rw [fill_cells (fun i => some (i * k, k)) i k A (Z.take k) (Z.drop k) v.cells.toList _ v (by rw [hA]) (by rw [Array.length_toList, hk]) tk (by simp), ← List.append_assoc]
    rw [fill_row vs (A ++ v.cells.toList) (Z.drop k) (i + 1) (by rw [List.length_append, show v.cells.toList.length = k from by rw [Array.length_toList, hk], hA, Nat.succ_mul]) (by rw [List.length_drop]; omega) (fun u hu => hl u (by simp [hu]))]
    rw [List.flatMap_cons, List.append_assoc]
theorem run_lit {P : Program} {t e : TypeId} {ie : TypeInfo} {z : Value} {k : Nat} (ht : P.underlying t = some (.slice e)) (hi : P.info? e = some ie) (hz : ie.zero = some z) (hs : ie.size = k) (vs : List Value) (n : Nat) (parts : Array (Nat × Value)) (hp : parts.toList = (vs.zipIdx 0).map fun x => (x.2, x.1)) (hn : vs.length = n) (h0 : 0 < n * k) (h24 : n * k ≤ 16777216) (hl : ∀ v ∈ vs, v.cells.size = k) (w : World) :
    (Instr.buildSlice t n parts).run P w = .ok (.slice (some ⟨w.heap.size, 0, none⟩) n n) (w.alloc (.cells (vs.flatMap fun v => v.cells.toList).toArray e)) := by
  subst hs
  refine run_buildSlice w t e n parts _ ie z ht hi hz (by omega) (by omega) ?_
  rw [hp]
  have hsz : ((Array.range (n * ie.size)).map (z.cells[· % z.cells.size]!)).size = n * ie.size := by simp
  generalize (Array.range (n * ie.size)).map (z.cells[· % z.cells.size]!) = Z at *
  have := fill_row (k := ie.size) vs [] Z.toList 0 (by simp) (by rw [Array.length_toList, hsz, hn, Nat.mul_comm]) hl
  rwa [List.nil_append, List.nil_append, Array.toArray_toList] at this
/-- What is told of a slice type: its elements' type, cells, bytes. -/
def slS (T : List TyR) (t : TypeId) : Option (TypeId × Nat × Nat) := match findT T t with
  | some r => match r.el with
    | some e => match findT T e with
      | some re => some (e, sizeP re.zero, re.w)
      | none => none
    | none => none
  | none => none
theorem slS_ok {P : Program} {T : List TyR} (hT : OkT P T) {t e : TypeId} {k bs : Nat} (h : slS T t = some (e, k, bs)) : P.underlying t = some (.slice e) ∧ ∃ ie z, P.info? e = some ie ∧ ie.zero = some z ∧ ie.size = k ∧ ie.bytes = bs ∧ z.cells.size = k ∧ ∃ zs, OkP zs ∧ z.cells = catP zs ∧ ∃ r, findT T e = some r ∧ r.zero = zs := by
  unfold slS at h
  split at h
  · rename_i r hr
    split at h
    · rename_i e' he
      split at h
      · rename_i re hre
        injection h with h
        injection h with e1 h
        injection h with e2 e3
        subst e1 e2 e3
        obtain ⟨h1, rfl⟩ := findT_ok hT hr
        have hre' := hre
        have h2 := findT_ok hT hre
        clear hre
        obtain ⟨h2, rfl⟩ := h2
        obtain ⟨it, d, h5, _, h6, h7, _, _, _, _, _, h8⟩ := h2.info
        cases hz : it.zero with
        | none => rw [hz] at h7; cases h7
        | some z =>
          rw [hz] at h7
          simp only [Option.map_some, Option.some.injEq] at h7
          exact ⟨el_of h1 he, it, z, h5, hz, h6, h8, by rw [h7, h2.2.size], re.zero, h2.2, h7, re, hre', rfl⟩
      · cases h
    · cases h
  · cases h
/-- A new block of elements is a slice of one's own. -/
theorem OwnS.new {α : Type} {lo e k : Nat} {fe : α → SQ} {l : List α} (w : World) (hlo : lo ≤ w.heap.size) (h : OkF k fe l) (hm : l.length ≤ 9223372036854775807) : (OwnS lo e k fe (some ⟨w.heap.size, 0, none⟩) l.length l).holds (w.alloc (.cells (flatF fe l).toArray e)) fun j => j = w.heap.size :=
  ⟨h, ⟨flatF_len h, .inr ⟨w.heap.size, l.length, (flatF fe l).toArray, rfl, hlo, heap_alloc_new w _, Nat.le_refl _, by simp only [maxLen]; omega, by simp [flatF_len h], List.take_of_length_le (Nat.le_of_eq (flatF_len h))⟩⟩, fun j => by simp [eq_comm]⟩
section
variable {α : Type} {fe : α → SQ} {l : List α} {P : Program} {T : List TyR} {b : Base} {ops : Array Oper} {Q : Exit → Act → World → Prop} {N : Nat} {E : SE} {L : List LV} {R : List Res} {F M : World → Prop} {o o2 : Oper} {rest : List Oper} {k e sz bs : Nat} {t : TypeId}
theorem oneS (hg : o.guard = none) {a : Act} : Region.wanted o (yielded ops a.tmps) = true := by simp [Region.wanted, hg]
theorem map_parts {G : Nat → Nat} {a : Act} (ha : Fr N (denE G E) a) : ∀ (l : List (Nat × Operand)) (m : List (Value × Nat)), l.map (fun p => (p.1, (evS E p.2).map (SV.den G))) = m.map (fun x => (x.2, some x.1)) → l.map (fun (i, x) => (i, a.eval x)) = m.map fun x => (x.2, x.1)
  | [], [], _ => rfl
  | [], _ :: _, h => by cases h
  | _ :: _, [], h => by cases h
  | p :: l, u :: m, h => by
    simp only [List.map_cons, List.cons.injEq, Prod.mk.injEq] at h ⊢
    refine ⟨⟨h.1.1, ?_⟩, map_parts ha l m h.2⟩
    cases hx : evS E p.2 with
    | none => rw [hx] at h; cases h.1.2
    | some v =>
      rw [hx] at h
      simp only [Option.map_some, Option.some.injEq] at h
      exact (ha.eval (evS_ok hx)).trans h.1.2
/-- **A literal**: a slice of one's own. -/
theorem l_list {n : Nat} {parts : Array (Nat × Operand)} (hT : OkT P T) (lo : Nat) (l : List α) (hg : o.guard = none) (hd : o.dst = some k) (hk : Nat.blt k N = true) (ho : o.op = .buildSlice t n parts) (hs : slS T t = some (e, sz, bs))
    (hp : ∀ G : Nat → Nat, parts.toList.map (fun p => (p.1, (evS E p.2).map (SV.den G))) = ((l.map fun x => (fe x).den).zipIdx 0).map fun x => (x.2, some x.1)) (hn : l.length = n) (h0 : 0 < n * sz) (h24 : n * sz ≤ 16777216) (hok : OkF sz fe l) (hlo : lo ≤ b.B.heap.size)
    (hc : ∀ A, lS P b ops Q N rest ⟨(k, .v (.slice A n n)) :: E, L, OwnS lo e sz fe A n l :: R, F, M⟩) : lS P b ops Q N (o :: rest) ⟨E, L, R, F, M⟩ := fun a w ⟨G, S, h1, h2, h3⟩ => by
  obtain ⟨ht, ie, z, hi, hz, hsz, hbs, hzs, _⟩ := slS_ok hT hs
  have hr := run_lit (P := P) ht hi hz hsz (l.map fun x => (fe x).den) n (parts.map fun (i, x) => (i, a.eval x)) (by rw [Array.toList_map]; exact map_parts h1 _ _ (hp G)) (by rw [List.length_map, hn]) h0 h24 (fun v hv => by
    obtain ⟨x, hx, rfl⟩ := List.mem_map.1 hv
    have := (hok x hx).2
    rwa [SQ.cl, Array.length_toList] at this) w
  have e1 : ((l.map fun x => (fe x).den).flatMap fun v => v.cells.toList) = flatF fe l := by rw [List.flatMap_map]; rfl
  rw [e1] at hr
  subst hn
  refine wpl_go (v := .slice (some ⟨w.heap.size, 0, none⟩) l.length l.length) (w' := w.alloc (.cells (flatF fe l).toArray e)) (oneS hg) (by
    unfold execOp
    simp only [ho, Sem.run_bind, hr, Result.andThen_ok, Sem.run_pure]) ?_
  rw [hd]
  have hsz' : 0 < sz := Nat.pos_of_mul_pos_left h0
  obtain ⟨S', h4⟩ := h3.gain ((Below.refl w.heap.size w).alloc (Nat.le_refl _) _) (OwnS.new (lo := lo) w (Nat.le_trans hlo h3.chg.size) hok (by
    have := Nat.le_mul_of_pos_right l.length hsz'
    omega)) (fun j hj => Nat.le_of_eq hj.symm)
  exact hc _ _ _ ⟨G, S', h1.put hk _, h2.cons trivial, h4⟩
/-- A slice of one's own that is nil. -/
theorem l_nil0 {l' : List Oper} (lo e sz : Nat) (fe : α → SQ) (h : lS P b ops Q N l' ⟨E, L, OwnS lo e sz fe none 0 [] :: R, F, M⟩) : lS P b ops Q N l' ⟨E, L, R, F, M⟩ := fun a w ⟨G, S, h1, h2, h3⟩ => by
  obtain ⟨S', h4⟩ := h3.gain (Below.refl _ _) (OwnS.nil lo e sz fe w) (fun _ h => h.elim)
  exact h a w ⟨G, S', h1, h2, h4⟩
theorem s_nil0 {c : Code} (lo e sz : Nat) (fe : α → SQ) (h : cS P b c Q N ⟨E, L, OwnS lo e sz fe none 0 [] :: R, F, M⟩) : cS P b c Q N ⟨E, L, R, F, M⟩ := fun a w ⟨G, S, h1, h2, h3⟩ => by
  obtain ⟨S', h4⟩ := h3.gain (Below.refl _ _) (OwnS.nil lo e sz fe w) (fun _ h => h.elim)
  exact h a w ⟨G, S', h1, h2, h4⟩
end

/-! ### Append -/
/-- append(s, x), x an element: what the two operations say. -/
structure PU where
  k1 : Nat
  k2 : Nat
  t : TypeId
  A : Option Addr
  n : Nat
  c : Nat
  q : SQ
def pushS (N : Nat) (E : SE) (o1 o2 : Oper) : Option PU := match o1.dst, o2.dst, o1.op, o2.op with
  | some k1, some k2, .buildSlice t 1 ⟨[(0, z)]⟩, .call { callee := .builtin .append, args := ⟨[s, .tmp y]⟩, argTypes := ⟨[t1, t2]⟩ } => match Nat.beq y k1, Nat.beq t1 t, Nat.beq t2 t, Nat.blt k1 N, Nat.blt k2 N with
    | true, true, true, true, true => match evS E z, evS E s, lookS E k1 with
      | some (.q q), some (.q (.c (.v (.slice A n c)))), none => some ⟨k1, k2, t, A, n, c, q⟩
      | _, _, _ => none
    | _, _, _, _, _ => none
  | _, _, _, _ => none
theorem pushS_ok {N : Nat} {E : SE} {o1 o2 : Oper} {u : PU} (h : pushS N E o1 o2 = some u) : o1.dst = some u.k1 ∧ o2.dst = some u.k2 ∧ Nat.blt u.k1 N = true ∧ Nat.blt u.k2 N = true ∧ lookS E u.k1 = none ∧
    ∃ z s, o1.op = .buildSlice u.t 1 #[(0, z)] ∧ o2.op = .call { callee := .builtin .append, args := #[s, .tmp u.k1], argTypes := #[u.t, u.t] } ∧ evS E z = some (.q u.q) ∧ evS E s = some (.v (.slice u.A u.n u.c)) := by
  unfold pushS at h
  split at h
  · rename_i k1 k2 t z s y t1 t2 e1 e2 e3 e4
    split at h
    · rename_i e5 e6 e7 e8 e9
      split at h
      · rename_i q A n c e10 e11 e12
        injection h with h
        subst h
        obtain rfl := Nat.eq_of_beq_eq_true e5
        obtain rfl := Nat.eq_of_beq_eq_true e6
        obtain rfl := Nat.eq_of_beq_eq_true e7
        exact ⟨e1, e2, e8, e9, e12, z, s, e3, e4, e10, e11⟩
      · cases h
    · cases h
  · cases h
theorem slice_of {w : World} {lo e k n : Nat} {v : Value} {xs : List Value} (h : w.ownsRow lo e k v n xs) : ∃ A c, v = .slice A n c := by
  rcases h.2 with ⟨h1, h2⟩ | ⟨g, cap, cur, hv, _⟩
  · exact ⟨none, 0, by rw [h1, h2]⟩
  · exact ⟨_, _, hv⟩
theorem ownBlock_slice (A : Option Addr) (n c : Nat) : (Value.slice A n c).ownBlock = A.map (·.block) := by cases A <;> rfl
/-- An append to what is one's own: what becomes of it. -/
theorem OwnS.grow {α : Type} {P : Program} {T : List TyR} (hT : OkT P T) {t e : TypeId} {lo sz bs c d : Nat} {fe : α → SQ} {A : Option Addr} {l m : List α} {ad : Addr} {w : World} {S : Nat → Prop} (ty : TypeId) (hs : slS T t = some (e, sz, bs)) (h0 : 0 < sz) (h : (OwnS lo e sz fe A c l).holds w S) (hok : OkF sz fe m)
    (hcells : ∀ j u, (flatF fe m)[j]? = some u → w.cell? (ad.add j) = some u) (hb : (l.length + m.length) * bs ≤ 140737488355328) (hm : l.length + m.length ≤ 9223372036854775807 - 64) (hlo : lo ≤ w.heap.size) :
    ∃ A' c' w' S', (Builtin.append_ #[t, t] ty #[.slice A l.length c, .slice (some ad) m.length d]).run P w = .ok (.slice A' (l ++ m).length c') w' ∧ Chg S w w' ∧ (OwnS lo e sz fe A' c' (l ++ m)).holds w' S' ∧ ∀ k, S' k → k < w.heap.size → S k := by
  obtain ⟨ht, ie, z, hi, hz, hsz, hbs, hzs, _⟩ := slS_ok hT hs
  obtain ⟨h1, h2, h3⟩ := h
  obtain ⟨v', w', hr, ho, hg, _, hat⟩ := run_append_own_at (P := P) w lo t ty e ie z sz bs ht hi hz hsz hbs hzs h0 _ l.length (flatF fe l) h2 ad m.length d (flatF fe m) (flatF_len hok) hcells (flatF_one hok) (by simp only [maxLen]; omega) hb hlo
  rw [← flatF_app] at ho
  obtain ⟨A', c', rfl⟩ := slice_of ho
  rw [ownBlock_slice] at hg hat
  rw [ownBlock_slice] at hat
  rw [← List.length_append] at hr ho
  refine ⟨A', c', w', fun j => A'.map (·.block) = some j, hr, (Chg.of_grown hg).mono fun i _ hi => (h3 i).2 hi, ⟨h1.app hok, ho, fun _ => Iff.rfl⟩, fun j hj hlt => ?_⟩
  rcases hat with e1 | e1
  · exact (h3 j).2 (e1.symm.trans hj)
  · rw [hj] at e1
    injection e1 with e1
    omega
section
variable {α : Type} {fe : α → SQ} {l : List α} {P : Program} {T : List TyR} {b : Base} {ops : Array Oper} {Q : Exit → Act → World → Prop} {N : Nat} {E : SE} {L : List LV} {R : List Res} {F M : World → Prop} {o1 o2 : Oper} {rest : List Oper} {e sz bs lo : Nat} {u : PU}
/-- **append(s, x)**. -/
theorem l_push (hT : OkT P T) (i : Nat) (x : α) (h : pushS N E o1 o2 = some u) (hg : o1.guard = none) (hg2 : o2.guard = none) (hs : slS T u.t = some (e, sz, bs)) (hq : fe x = u.q) (hi : R[i]? = some (OwnS lo e sz fe u.A u.c l)) (hn : u.n = l.length) (hx : OkP (fe x).parts1 ∧ (fe x).cl.length = sz) (h0 : 0 < sz) (h24 : sz ≤ 16777216)
    (hb : (l.length + 1) * bs ≤ 140737488355328) (hm : l.length < 9223372036854775000) (hlo : lo ≤ b.B.heap.size)
    (hc : ∀ A' c', lS P b ops Q N rest ⟨(u.k2, .v (.slice A' (l ++ [x]).length c')) :: E, L, R.set i (OwnS lo e sz fe A' c' (l ++ [x])), F, M⟩) : lS P b ops Q N (o1 :: o2 :: rest) ⟨E, L, R, F, M⟩ := fun a w ⟨G, S, h1, h2, h3⟩ => by
  obtain ⟨d1, d2, n1, n2, hf, z, s, p1, p2, p3, p4⟩ := pushS_ok h
  obtain ⟨ht, ie, zz, hie, hz, hsz, hbs, hzs, _⟩ := slS_ok hT hs
  have hok : OkF sz fe [x] := fun y hy => by rw [List.mem_singleton.1 hy]; exact hx
  have hfl : flatF fe [x] = (fe x).cl := by simp [flatF]
  have e1 := h1.eval (evS_ok p3)
  have hr := run_lit (P := P) ht hie hz hsz [(fe x).den] 1 #[(0, a.eval z)] (by rw [e1, hq]; rfl) rfl (by omega) (by omega) (fun v hv => by
    rw [List.mem_singleton.1 hv]
    have := hx.2
    rwa [SQ.cl, Array.length_toList] at this) w
  have e2 : ([(fe x).den].flatMap fun v => v.cells.toList) = flatF fe [x] := by simp [flatF, SQ.cl]
  rw [e2] at hr
  have hal := (Below.refl w.heap.size w).alloc (Nat.le_refl _) (.cells (flatF fe [x]).toArray e)
  refine wpl_go (v := .slice (some ⟨w.heap.size, 0, none⟩) 1 1) (w' := w.alloc (.cells (flatF fe [x]).toArray e)) (oneS hg) (by
    unfold execOp
    simp only [p1, List.map_toArray, List.map_cons, List.map_nil, Sem.run_bind, hr, Result.andThen_ok, Sem.run_pure]) ?_
  rw [d1]
  have hnew := Blk.new w e (flatF fe [x]).toArray
  have h4 := h3.later hal
  generalize w.alloc (.cells (flatF fe [x]).toArray e) = w1 at *
  have f1 := h1.putFar (k := u.k1) (by rw [look_den, hf]; rfl) (.slice (some ⟨w.heap.size, 0, none⟩) 1 1)
  have e3 := f1.eval (evS_ok p4)
  have e4 : (a.put (some u.k1) (.slice (some ⟨w.heap.size, 0, none⟩) 1 1)).eval (.tmp u.k1) = .slice (some ⟨w.heap.size, 0, none⟩) 1 1 := eval_put_same h1 n1 _
  obtain ⟨S1, h5, hput⟩ := h4.put hi
  obtain ⟨A', c', w', S', hr2, hch, ho, hS'⟩ := OwnS.grow hT (d := 1) (ad := ⟨w.heap.size, 0, none⟩) o2.type hs h0 h5 hok (fun j v hj => by
    rw [Addr.add_mid, hnew.cell, Nat.zero_add]
    simpa using hj) hb (by simp; omega) (Nat.le_trans hlo h4.chg.size)
  obtain ⟨S'', h6⟩ := hput _ _ _ hch ho hS'
  have hr3 : (Builtin.append_ #[u.t, u.t] o2.type #[.slice u.A u.n u.c, .slice (some ⟨w.heap.size, 0, none⟩) 1 1]).run P w1 = .ok (.slice A' (l ++ [x]).length c') w' := by rw [hn]; exact hr2
  refine wpl_go (v := .slice A' (l ++ [x]).length c') (w' := w') (oneS hg2) (by
    unfold execOp
    simp only [p2, resolve, invoke, builtin, Sem.run_bind, Sem.run_pure, Result.andThen_ok, List.map_toArray, List.map_cons, List.map_nil, e3, e4, SV.den, SQ.den, SC.den, hr3]) ?_
  rw [d2]
  exact hc A' c' _ _ ⟨G, S'', f1.put n2 _, h2.cons trivial, h6⟩
end
end Go.Proofs.Ythkbejheedffjaa
/-
  SLICES OF ONE'S OWN, more: make, elements written, read, given up.
-/
namespace Go.Proofs.Ythkbejheedffjaa
open Go.RowKit Go.IntWalk

/-- What is owned is read. -/
theorem rd_own {α : Type} {lo e k c : Nat} {fe : α → SQ} {A : Option Addr} {l : List α} {L : List LV} {R : List Res} {F M : World → Prop} (i : Nat) (hi : R[i]? = some (OwnS lo e k fe A c l)) : ∀ G S w, View G S L R F M w → Rd k fe A c l w := fun _ _ _ h => by
  obtain ⟨S1, _, h1, _⟩ := h.res.at hi
  exact OwnS.rd h1
theorem rd_fact {α : Type} {k c : Nat} {fe : α → SQ} {A : Option Addr} {l : List α} {L : List LV} {R : List Res} {F M : World → Prop} (h : ∀ w, F w → M w → Rd k fe A c l w) : ∀ G S w, View G S L R F M w → Rd k fe A c l w := fun _ _ w hv => h w hv.fact hv.fresh
section
variable {α : Type} {fe : α → SQ} {b : Base} {G : Nat → Nat} {S : Nat → Prop} {L : List LV} {R : List Res} {F M : World → Prop} {w : World} {lo e k c : Nat} {A : Option Addr} {l : List α}
/-- A slice of one's own is given up: it stays as it is. -/
theorem StW.free (h : StW b G S L R F M w) {i : Nat} (hi : R[i]? = some (OwnS lo e k fe A c l)) : ∃ S', StW b G S' L (R.eraseIdx i) (fun w => Rd k fe A c l w ∧ F w) M w := by
  obtain ⟨S1, S2, h1, h2, h3, h4⟩ := h.let hi
  refine ⟨S2, h4.and fun w' hw => OwnS.rd h1 |>.keep hw.size fun g hg hlt => hw.block g hlt ?_⟩
  have hS1 : S1 g := (h1.2.2 g).2 hg
  rintro (hx | hx | ⟨j, hj, rfl⟩)
  · exact (h.old g hx).2 (h.mine g (.inl ((h3 g).2 (.inl hS1))) (h.old g hx).1)
  · exact h2 g hS1 hx
  · exact h.sep j hj ((h3 _).2 (.inl hS1))
/-- The same, of a new one. -/
theorem StW.freeM (h : StW b G S L R F M w) {i : Nat} (hi : R[i]? = some (OwnS lo e k fe A c l)) (hlo : b.B.heap.size ≤ lo) : ∃ S', StW b G S' L (R.eraseIdx i) F (fun w => Rd k fe A c l w ∧ M w) w := by
  obtain ⟨S1, S2, h1, h2, h3, h4⟩ := h.let hi
  refine ⟨S2, h4.andM fun w' hw => OwnS.rd h1 |>.keep hw.size fun g hg hlt => hw.block g hlt ?_⟩
  have hS1 : S1 g := (h1.2.2 g).2 hg
  rintro (hx | hx | ⟨j, hj, rfl⟩)
  · cases A with
    | none => cases hg
    | some a =>
      have := (OwnS.inb h1 a rfl).1
      simp only [Option.map_some, Option.some.injEq] at hg
      omega
  · exact h2 g hS1 hx
  · exact h.sep j hj ((h3 _).2 (.inl hS1))
end
section
variable {α : Type} {fe : α → SQ} {P : Program} {b : Base} {ops : Array Oper} {Q : Exit → Act → World → Prop} {N : Nat} {E : SE} {L : List LV} {R : List Res} {F M : World → Prop} {lo e k c : Nat} {A : Option Addr} {l : List α}
theorem l_free {l' : List Oper} (i : Nat) (hi : R[i]? = some (OwnS lo e k fe A c l)) (h : lS P b ops Q N l' ⟨E, L, R.eraseIdx i, fun w => Rd k fe A c l w ∧ F w, M⟩) : lS P b ops Q N l' ⟨E, L, R, F, M⟩ := fun a w ⟨G, S, h1, h2, h3⟩ => by
  obtain ⟨S', h4⟩ := h3.free hi
  exact h a w ⟨G, S', h1, h2, h4⟩
theorem l_freeM {l' : List Oper} (i : Nat) (hi : R[i]? = some (OwnS lo e k fe A c l)) (hlo : b.B.heap.size ≤ lo) (h : lS P b ops Q N l' ⟨E, L, R.eraseIdx i, F, fun w => Rd k fe A c l w ∧ M w⟩) : lS P b ops Q N l' ⟨E, L, R, F, M⟩ := fun a w ⟨G, S, h1, h2, h3⟩ => by
  obtain ⟨S', h4⟩ := h3.freeM hi hlo
  exact h a w ⟨G, S', h1, h2, h4⟩
theorem s_free {x : Code} (i : Nat) (hi : R[i]? = some (OwnS lo e k fe A c l)) (h : cS P b x Q N ⟨E, L, R.eraseIdx i, fun w => Rd k fe A c l w ∧ F w, M⟩) : cS P b x Q N ⟨E, L, R, F, M⟩ := fun a w ⟨G, S, h1, h2, h3⟩ => by
  obtain ⟨S', h4⟩ := h3.free hi
  exact h a w ⟨G, S', h1, h2, h4⟩
theorem s_freeM {x : Code} (i : Nat) (hi : R[i]? = some (OwnS lo e k fe A c l)) (hlo : b.B.heap.size ≤ lo) (h : cS P b x Q N ⟨E, L, R.eraseIdx i, F, fun w => Rd k fe A c l w ∧ M w⟩) : cS P b x Q N ⟨E, L, R, F, M⟩ := fun a w ⟨G, S, h1, h2, h3⟩ => by
  obtain ⟨S', h4⟩ := h3.freeM hi hlo
  exact h a w ⟨G, S', h1, h2, h4⟩
theorem k_freeM {K : Act → World → Prop} (i : Nat) (hi : R[i]? = some (OwnS lo e k fe A c l)) (hlo : b.B.heap.size ≤ lo) (h : kS b K N ⟨E, L, R.eraseIdx i, F, fun w => Rd k fe A c l w ∧ M w⟩) : kS b K N ⟨E, L, R, F, M⟩ := fun a w ⟨G, S, h1, h2, h3⟩ => by
  obtain ⟨S', h4⟩ := h3.freeM hi hlo
  exact h a w ⟨G, S', h1, h2, h4⟩
end

/-! ### make -/
theorem made_flat {α : Type} {fe : α → SQ} {k : Nat} (z : Array Value) (x : α) (hz : z.toList = (fe x).cl) (hk : z.size = k) (n : Nat) : (madeCells z (n * k)).toList = flatF fe (List.replicate n x) := by
  induction n with
  | zero => simp [madeCells, flatF]
  | succ n ih =>
    have e1 : madeCells z ((n + 1) * k) = madeCells z (n * k) ++ z := by
      subst hk
      apply Array.ext
      · simp [madeCells, Nat.add_mul]
      · intro i h1 h2
        simp only [madeCells, Array.size_map, Array.size_range] at h1
        rw [Array.getElem_append]
        split
        · simp [madeCells]
        · rename_i h3
          simp only [madeCells, Array.size_map, Array.size_range] at h3
          have hlt : i - n * z.size < z.size := by rw [Nat.add_mul] at h1; omega
          have e : i % z.size = i - n * z.size := by
            rw [show i = (i - n * z.size) + n * z.size by omega, Nat.add_mul_mod_self_right, Nat.add_sub_cancel]
            exact Nat.mod_eq_of_lt hlt
          simp only [madeCells, Array.getElem_map, Array.getElem_range, e, Array.size_map, Array.size_range]
          rw [getElem!_pos z _ hlt]
    rw [e1, Array.toList_append, ih, List.replicate_succ', flatF_app]
    simp [flatF, hz]
section
variable {α : Type} {fe : α → SQ} {P : Program} {T : List TyR} {b : Base} {ops : Array Oper} {Q : Exit → Act → World → Prop} {N : Nat} {E : SE} {L : List LV} {R : List Res} {F M : World → Prop} {o o1 o2 : Oper} {rest : List Oper} {k e sz bs lo : Nat} {t : TypeId}
/-- **make([]T, n)**. -/
theorem l_makeS {x y : Operand} {K : IntKind} (hT : OkT P T) (lo : Nat) (n : Nat) (z : α) (hg : o.guard = none) (hd : o.dst = some k) (hk : Nat.blt k N = true) (ho : o.op = .makeSlice t x y) (hs : slS T t = some (e, sz, bs)) (hx : evS E x = some (.v (.int K (n : Int)))) (hy : evS E y = some (.v (.int K (n : Int))))
    (hz : (findT T e).map (fun r => (catP r.zero).toList) = some (fe z).cl) (hok : OkP (fe z).parts1 ∧ (fe z).cl.length = sz) (hb : bs * n ≤ 281474976710656) (hm : n ≤ 9223372036854775807) (hlo : lo ≤ b.B.heap.size)
    (hc : ∀ A, lS P b ops Q N rest ⟨(k, .v (.slice A n n)) :: E, L, OwnS lo e sz fe A n (List.replicate n z) :: R, F, M⟩) : lS P b ops Q N (o :: rest) ⟨E, L, R, F, M⟩ := fun a w ⟨G, S, h1, h2, h3⟩ => by
  obtain ⟨ht, ie, zz, hi, hzz, hsz, hbs, hzs, zs, _, hzc, r, hr1, hr2⟩ := slS_ok hT hs
  have hb' : (ie.bytes : Int) * (n : Int) ≤ 281474976710656 := by
    rw [hbs]
    have h : ((bs * n : Nat) : Int) ≤ 281474976710656 := by omega
    rwa [Int.natCast_mul] at h
  have hr := run_make (P := P) w t e ie zz ht hi hzz K K n n (by omega) (Int.le_refl _) hb' (by omega)
  rw [hr1] at hz
  simp only [Option.map_some, Option.some.injEq] at hz
  have hfl := made_flat (fe := fe) zz.cells z (by rw [hzc, ← hr2]; exact hz) hzs n
  have e1 : madeCells zz.cells (n * ie.size) = (flatF fe (List.replicate n z)).toArray := by rw [hsz, ← hfl, Array.toArray_toList]
  simp only [Int.toNat_natCast] at hr
  rw [e1] at hr
  have e2 := h1.eval (evS_ok hx)
  have e3 := h1.eval (evS_ok hy)
  refine wpl_go (v := .slice (some ⟨w.heap.size, 0, none⟩) n n) (w' := w.alloc (.cells (flatF fe (List.replicate n z)).toArray e)) (oneS hg) (by
    unfold execOp
    simp only [ho, e2, e3, SV.den, SQ.den, SC.den, Sem.run_bind, hr, Result.andThen_ok, Sem.run_pure]) ?_
  rw [hd]
  have hnew := OwnS.new (lo := lo) (e := e) (k := sz) (fe := fe) (l := List.replicate n z) w (Nat.le_trans hlo h3.chg.size) (fun x hx => by rw [(List.mem_replicate.1 hx).2]; exact hok) (by simpa using hm)
  rw [List.length_replicate] at hnew
  obtain ⟨S', h4⟩ := h3.gain ((Below.refl w.heap.size w).alloc (Nat.le_refl _) _) hnew (fun j hj => Nat.le_of_eq hj.symm)
  exact hc _ _ _ ⟨G, S', h1.put hk _, h2.cons trivial, h4⟩
/-- s[i] = x: what the two operations say. -/
structure PL where
  k1 : Nat
  t : TypeId
  A : Option Addr
  n : Nat
  c : Nat
  i : Int
  q : SQ
def placeS (T : List TyR) (N : Nat) (E : SE) (o1 o2 : Oper) : Option PL := match o1.dst, o2.dst, o1.op, o2.op with
  | some k1, none, .indexAddr t x y, .store t' (.tmp p) z => match Nat.beq p k1, Nat.blt k1 N, slS T t, findT T t' with
    | true, true, some (_, sz, _), some r => match evS E x, evS E y, evS E z, Nat.beq (sizeP r.zero) sz, lookS E k1 with
      | some (.q (.c (.v (.slice A n c)))), some (.q (.c (.v (.int _ i)))), some (.q q), true, none => some ⟨k1, t, A, n, c, i, q⟩
      | _, _, _, _, _ => none
    | _, _, _, _ => none
  | _, _, _, _ => none
theorem placeS_ok {P : Program} (hT : OkT P T) {u : PL} (h : placeS T N E o1 o2 = some u) : o1.dst = some u.k1 ∧ o2.dst = none ∧ Nat.blt u.k1 N = true ∧ lookS E u.k1 = none ∧ ∃ x y z t' K e sz bs, o1.op = .indexAddr u.t x y ∧ o2.op = .store t' (.tmp u.k1) z ∧ slS T u.t = some (e, sz, bs) ∧ (P.info? t').map (·.size) = some sz ∧
    evS E x = some (.v (.slice u.A u.n u.c)) ∧ evS E y = some (.v (.int K u.i)) ∧ evS E z = some (.q u.q) := by
  unfold placeS at h
  split at h
  · rename_i k1 t x y t' p z e1 e2 e3 e4
    split at h
    · rename_i e sz bs r e5 e6 e7 e8
      split at h
      · rename_i A n c K i q e9 e10 e11 e12 e13
        injection h with h
        subst h
        obtain rfl := Nat.eq_of_beq_eq_true e5
        have h2 := findT_ok hT e8
        clear e8
        obtain ⟨h2, rfl⟩ := h2
        obtain ⟨it, d, h5, _, h6, -⟩ := h2.info
        exact ⟨e1, e2, e6, e13, x, y, z, _, K, e, sz, bs, e3, e4, e7, by rw [h5, Option.map_some, h6, Nat.eq_of_beq_eq_true e12], e9, e10, e11⟩
      · cases h
    · cases h
  · cases h
/-- **s[i] = x**, s one's own. -/
theorem l_place {u : PL} {l : List α} (hT : OkT P T) (i : Nat) (x : α) (j : Nat) (h : placeS T N E o1 o2 = some u) (hg : o1.guard = none) (hg2 : o2.guard = none) (hs : slS T u.t = some (e, sz, bs)) (hq : fe x = u.q) (hi : R[i]? = some (OwnS lo e sz fe u.A u.c l)) (hn : u.n = l.length) (hj : u.i = (j : Int)) (hlt : j < l.length) (hx : OkP (fe x).parts1 ∧ (fe x).cl.length = sz)
    (hc : lS P b ops Q N rest ⟨E, L, R.set i (OwnS lo e sz fe u.A u.c (l.set j x)), F, M⟩) : lS P b ops Q N (o1 :: o2 :: rest) ⟨E, L, R, F, M⟩ := fun a w ⟨G, S, h1, h2, h3⟩ => by
  obtain ⟨d1, d2, n1, hf, x1, y1, z1, t', K, e', sz', bs', p1, p2, p3, p4, p5, p6, p7⟩ := placeS_ok hT h
  rw [hs] at p3
  injection p3 with p3
  injection p3 with q1 p3
  injection p3 with q2 q3
  subst q1 q2 q3
  obtain ⟨ht, ie, zz, hie, hz, hsz, hbs, hzs, _⟩ := slS_ok hT hs
  obtain ⟨S1, h5, hput⟩ := h3.put hi
  obtain ⟨hok, hrow, hS1⟩ := h5
  rcases hrow.2 with ⟨h6, h7⟩ | ⟨g, cap, cur, hv, hb, hg', hnc, hm, hcs, htk⟩
  · omega
  injection hv with v1 _ v2
  have hB : Blk w g e cur := hg'
  have e1 := h1.eval (evS_ok p5)
  have e2 := h1.eval (evS_ok p6)
  have hr := run_index (P := P) ht (by rw [hie, Option.map_some, hsz]) g 0 u.n u.c K j (by omega) w
  rw [← v1, ← hj, Nat.zero_add] at hr
  refine wpl_go (v := .pointer (some ⟨g, sz * j, none⟩)) (w' := w) (oneS hg) (by
    unfold execOp
    simp only [p1, e1, e2, SV.den, SQ.den, SC.den, Sem.run_bind, hr, Result.andThen_ok, Sem.run_pure]) ?_
  rw [d1]
  have f1 := h1.putFar (k := u.k1) (by rw [look_den, hf]; rfl) (.pointer (some ⟨g, sz * j, none⟩))
  have e3 := f1.eval (evS_ok p7)
  have e4 : (a.put (some u.k1) (.pointer (some ⟨g, sz * j, none⟩))).eval (.tmp u.k1) = .pointer (some ⟨g, sz * j, none⟩) := eval_put_same h1 n1 _
  obtain ⟨B, Z, h9, h10, h11⟩ := flatF_split hok (List.getElem?_eq_getElem hlt)
  have hxl : (fe x).den.cells.size = sz := by rw [← Array.length_toList]; exact hx.2
  have hcl : (fe l[j]).cl.length = sz := (hok _ (List.getElem_mem hlt)).2
  have hlen := flatF_len hok
  rw [h9, List.length_append, List.length_append, h10, hcl] at hlen
  have hle : l.length * sz ≤ cap * sz := Nat.mul_le_mul_right _ hnc
  have hst := run_store_part (P := P) (t := t') (v := (fe x).den) (off := sz * j) hB (by rw [p4, hxl]) (by rw [hxl, hcs]; omega) (SQ.cl_one hx.1)
  rw [hxl] at hst
  have hcut : cur.toList = B ++ ((fe l[j]).cl ++ (Z ++ cur.toList.drop (l.length * sz))) := by
    have h0 := (List.take_append_drop (l.length * sz) cur.toList).symm
    rw [htk, h9, List.append_assoc, List.append_assoc] at h0
    exact h0
  have hnew : (cur.toList.take (sz * j) ++ (fe x).den.cells.toList ++ cur.toList.drop (sz * j + sz)) = B ++ ((fe x).cl ++ (Z ++ cur.toList.drop (l.length * sz))) := by
    generalize cur.toList.drop (l.length * sz) = D at hcut ⊢
    rw [hcut, ← h10, List.take_left, List.append_assoc]
    congr 2
    rw [← hcl, ← List.length_append, ← List.append_assoc, List.drop_left]
  rw [hnew] at hst
  have hB' := hB.row (B ++ ((fe x).cl ++ (Z ++ cur.toList.drop (l.length * sz)))).toArray
  obtain ⟨S'', h12⟩ := hput (OwnS lo e sz fe u.A u.c (l.set j x)) (w.setRow g (B ++ ((fe x).cl ++ (Z ++ cur.toList.drop (l.length * sz)))).toArray) S1 ((Chg.row w g _).mono fun k _ hk => (hS1 k).2 (by rw [hk, v1]; rfl))
    ⟨hok.set hx, by
      refine ⟨by rw [flatF_len (hok.set hx), List.length_set], .inr ⟨g, cap, _, by rw [List.length_set, v1, v2], hb, hB', by rw [List.length_set]; exact hnc, hm, ?_, ?_⟩⟩
      · have hD : (cur.toList.drop (l.length * sz)).length = cap * sz - l.length * sz := by rw [List.length_drop, Array.length_toList, hcs]
        rw [List.size_toArray, List.length_append, List.length_append, List.length_append, hD, hx.2, h10]
        omega
      · rw [List.length_set, h11 x]
        have : l.length * sz = (B ++ ((fe x).cl ++ Z)).length := by
          rw [List.length_append, List.length_append, h10, hx.2]
          omega
        generalize cur.toList.drop (l.length * sz) = D
        show List.take (l.length * sz) (B ++ ((fe x).cl ++ (Z ++ D))) = _
        have e9 : B ++ ((fe x).cl ++ (Z ++ D)) = (B ++ ((fe x).cl ++ Z)) ++ D := by simp only [List.append_assoc]
        rw [this, e9, List.take_left], hS1⟩ (fun k hk _ => hk)
  refine wpl_skip (w' := w.setRow g (B ++ ((fe x).cl ++ (Z ++ cur.toList.drop (l.length * sz)))).toArray) (oneS hg2) (by
    unfold execOp
    simp only [p2, e3, e4, SV.den, ← hq, Sem.run_bind, hst, Result.andThen_ok, Sem.run_pure]) ?_
  rw [d2]
  exact hc _ _ ⟨G, S'', f1, h2, h12⟩
end
end Go.Proofs.Ythkbejheedffjaa
/-
  THE TYPES, by the parts of their noughts; laid by a program (tools/types.py) that reads the translation; checked here.
-/
namespace Go.Proofs.Ythkbejheedffjaa
open Go.RowKit Go.IntWalk

def TY : List TyR := [
  { t := 2, kind := 0, zero := [.one (.v (.int .i64 0))], ik := some .i64, w := 8 },
  { t := 3, kind := 0, zero := [.one (.v (.int .i64 0))], ik := some .i64, w := 8 },
  { t := 4, kind := 0, zero := [.one (.v (.bool false))], w := 1 },
  { t := 5, kind := 0, zero := [.one (.v (.int .u8 0))], ik := some .u8, w := 1 },
  { t := 9, kind := 0, zero := [.one (.v (.string ⟨#[]⟩))], w := 16 },
  { t := 12, kind := 0, zero := [.one (.v (.int .u64 0))], ik := some .u64, w := 8 },
  { t := 13, kind := 2, zero := [.one (.v (.string ⟨#[]⟩)), .one (.v (.int .u64 0))], w := 24 },
  { t := 21, kind := 0, zero := [.one (.v (.int .i32 0))], ik := some .i32, w := 4 },
  { t := 22, kind := 0, zero := [.one (.v (.slice none 0 0))], el := some 34, w := 24 },
  { t := 24, kind := 0, zero := [.one (.v (.pointer none))], pt := true, w := 8 },
  { t := 25, kind := 0, zero := [.one (.v (.int .i64 0))], ik := some .i64, w := 8 },
  { t := 28, kind := 0, zero := [.one (.v (.pointer none))], pt := true, w := 8 },
  { t := 29, kind := 0, zero := [.one (.v (.slice none 0 0))], el := some 50, w := 24 },
  { t := 30, kind := 2, zero := [.one (.v (.int .i64 0)), .one (.v (.slice none 0 0))], w := 32 },
  { t := 31, kind := 2, zero := [.one (.v (.int .i64 0)), .one (.v (.slice none 0 0))], w := 32 },
  { t := 32, kind := 0, zero := [.one (.v (.slice none 0 0))], el := some 5, w := 24 },
  { t := 33, kind := 2, zero := [.one (.v (.int .i64 0)), .one (.v (.int .i64 0)), .one (.v (.slice none 0 0))], w := 40 },
  { t := 34, kind := 2, zero := [.one (.v (.int .i64 0)), .one (.v (.int .i64 0)), .one (.v (.slice none 0 0))], w := 40 },
  { t := 35, kind := 0, zero := [.one (.v (.int .u64 0))], ik := some .u64, w := 8 },
  { t := 38, kind := 0, zero := [.one (.v (.slice none 0 0))], el := some 32, w := 24 },
  { t := 47, kind := 2, zero := [.one (.v (.int .i64 0)), .one (.v (.slice none 0 0)), .one (.v (.int .i64 0))], w := 40 },
  { t := 48, kind := 2, zero := [.one (.v (.int .i64 0)), .one (.v (.slice none 0 0)), .one (.v (.int .i64 0))], w := 40 },
  { t := 49, kind := 2, zero := [.one (.v (.int .u8 0)), .one (.v (.bool false))], w := 2 },
  { t := 50, kind := 2, zero := [.one (.v (.int .u8 0)), .one (.v (.bool false))], w := 2 },
  { t := 58, kind := 0, zero := [.one (.v (.int .u32 0))], ik := some .u32, w := 4 },
  { t := 62, kind := 0, zero := [.one (.v (.pointer none))], pt := true, w := 8 }]
set_option maxRecDepth 100000 in
theorem TY_ok : OkT Try.prog TY := okT_of (by kernel_rfl) (by kernel_rfl)
end Go.Proofs.Ythkbejheedffjaa
/-
  REGIONS THAT ARE RECKONED WHOLE; objects behind pointers; bytes, hashes, numbers as elements.
-/
namespace Go.Proofs.Ythkbejheedffjaa
open Go.RowKit Go.IntWalk

/-! ### Whole regions -/
/-- Of the slots, these. -/
def keepE : List Nat → SE → SE
  | [], _ => []
  | k :: ks, E => match lookS E k with
    | some v => (k, v) :: keepE ks E
    | none => keepE ks E
theorem keepE_sub : ∀ (ks : List Nat) (E : SE), SubS (keepE ks E) E
  | [], _ => trivial
  | k :: ks, E => by
    unfold keepE
    split
    · rename_i v h
      exact ⟨h, keepE_sub ks E⟩
    · exact keepE_sub ks E
def memB (j : Nat) : List Nat → Bool
  | [] => false
  | k :: ks => match Nat.beq k j with
    | true => true
    | false => memB j ks
/-- Of the variables, these. -/
def keepL (js : List Nat) : List LV → List LV
  | [] => []
  | x :: L => match memB x.j js with
    | true => x :: keepL js L
    | false => keepL js L
theorem keepL_mem {js : List Nat} : ∀ {L : List LV} {x : LV}, x ∈ keepL js L → x ∈ L
  | [], _, h => by cases h
  | y :: L, x, h => by
    unfold keepL at h
    split at h
    · rcases List.mem_cons.1 h with rfl | h
      · exact List.mem_cons_self
      · exact List.mem_cons_of_mem _ (keepL_mem h)
    · exact List.mem_cons_of_mem _ (keepL_mem h)
theorem keepL_names {js : List Nat} : ∀ {L : List LV}, (namesL (keepL js L)).Sublist (namesL L)
  | [] => List.Sublist.slnil
  | y :: L => by
    unfold keepL
    split
    · exact (keepL_names (L := L)).cons_cons _
    · exact (keepL_names (L := L)).cons _
section
variable {b : Base} {N : Nat} {E : SE} {L : List LV} {R : List Res} {F M : World → Prop} {a : Act} {w : World}
theorem StW.keep {G : Nat → Nat} {S : Nat → Prop} (h : StW b G S L R F M w) (js : List Nat) : StW b G S (keepL js L) R F M w := by
  have hn : ∀ j, j ∈ namesL (keepL js L) → j ∈ namesL L := fun j hj => keepL_names.subset hj
  have hM : ∀ k, Mine S G (keepL js L) k → Mine S G L k := fun k hk => hk.imp id fun ⟨j, hj, e⟩ => ⟨j, hn j hj, e⟩
  exact ⟨fun x hx => h.var x (keepL_mem hx), h.apart.sublist keepL_names, h.res, fun j hj => h.sep j (hn j hj), h.fact.less fun k _ hk => hk.imp id (hM k), h.fresh.less fun k _ hk => hk.imp id (hM k), h.chg, fun k hk => h.mine k (hM k hk), h.old⟩
theorem St.keep (h : St b N ⟨E, L, R, F, M⟩ a w) (ks js : List Nat) : St b N ⟨keepE ks E, keepL js L, R, F, M⟩ a w := by
  obtain ⟨G, S, h1, h2, h3⟩ := h
  exact ⟨G, S, h1.sub (denE_sub (keepE_sub ks E)), (keepE_sub ks E).ok h2, h3.keep js⟩
end
section
variable {P : Program} {b : Base} {T : List TyR} {Q : Exit → Act → World → Prop} {N : Nat} {E E' E2 : SE} {L L' L2 : List LV} {R : List Res} {F M : World → Prop}
/-- Only these slots and variables are wanted from here on. -/
theorem k_keep {K : Act → World → Prop} (ks js : List Nat) (h1 : keepE ks E = E') (h2 : keepL js L = L') (h : kS b K N ⟨E', L', R, F, M⟩) : kS b K N ⟨E, L, R, F, M⟩ := fun a w hs => by
  subst h1 h2
  exact h a w (hs.keep ks js)
theorem s_keep {c : Code} (ks js : List Nat) (h1 : keepE ks E = E') (h2 : keepL js L = L') (h : cS P b c Q N ⟨E', L', R, F, M⟩) : cS P b c Q N ⟨E, L, R, F, M⟩ := fun a w hs => by
  subst h1 h2
  exact h a w (hs.keep ks js)
theorem l_keep {ops : Array Oper} {l : List Oper} (ks js : List Nat) (h1 : keepE ks E = E') (h2 : keepL js L = L') (h : lS P b ops Q N l ⟨E', L', R, F, M⟩) : lS P b ops Q N l ⟨E, L, R, F, M⟩ := fun a w hs => by
  subst h1 h2
  exact h a w (hs.keep ks js)
/-- A region that is reckoned whole, and what comes behind it. -/
theorem s_auto {id : Nat} {l : List Oper} {y : Code} (hT : OkT P T) (h : autoS T l.toArray N l E L = ([], E', L')) (hn : cS P b y Q N ⟨E', L', R, F, M⟩) : cS P b (.seq (.region id l.toArray false) y) Q N ⟨E, L, R, F, M⟩ :=
  s_reg fun _ hK => l_autoS hT h (s_end (hK _ hn))
/-- The same, and only these slots and variables are wanted from there on. -/
theorem s_autoK {id : Nat} {l : List Oper} {y : Code} (ks js : List Nat) (hT : OkT P T) (h : autoS T l.toArray N l E L = ([], E', L')) (h1 : keepE ks E' = E2) (h2 : keepL js L' = L2) (hn : cS P b y Q N ⟨E2, L2, R, F, M⟩) : cS P b (.seq (.region id l.toArray false) y) Q N ⟨E, L, R, F, M⟩ :=
  s_auto hT h (s_keep ks js h1 h2 hn)
/-- A region that is reckoned whole, at the end. -/
theorem s_autoE {id : Nat} {l : List Oper} (hT : OkT P T) (h : autoS T l.toArray N l E L = ([], E', L')) (hn : kS b (Q .normal) N ⟨E', L', R, F, M⟩) : cS P b (.region id l.toArray false) Q N ⟨E, L, R, F, M⟩ :=
  s_lit (l_autoS hT h (s_end hn))
/-- What the facts say whatever the world. -/
theorem s_pure {c : Code} (φ : Prop) (h : ∀ w, F w → M w → φ) (hn : φ → cS P b c Q N ⟨E, L, R, F, M⟩) : cS P b c Q N ⟨E, L, R, F, M⟩ := fun a w hs => by
  have hs' := hs
  obtain ⟨G, S, h1, h2, h3⟩ := hs
  exact hn (h w h3.all.now.1 h3.all.now.2) a w hs'
theorem l_pure {ops : Array Oper} {l : List Oper} (φ : Prop) (h : ∀ w, F w → M w → φ) (hn : φ → lS P b ops Q N l ⟨E, L, R, F, M⟩) : lS P b ops Q N l ⟨E, L, R, F, M⟩ := fun a w hs => by
  have hs' := hs
  obtain ⟨G, S, h1, h2, h3⟩ := hs
  exact hn (h w h3.all.now.1 h3.all.now.2) a w hs'
/-- A region, the order forced: first what is reckoned. -/
theorem s_regA {id : Nat} {l l' : List Oper} {y : Code} (hT : OkT P T) (h : autoS T l.toArray N l E L = (l', E', L')) (hn : ∀ K : Act → World → Prop, (∀ e', cS P b y Q N e' → kS b K N e') → lS P b l.toArray (Exit.then K Q) N l' ⟨E', L', R, F, M⟩) : cS P b (.seq (.region id l.toArray false) y) Q N ⟨E, L, R, F, M⟩ :=
  s_reg fun K hK => l_autoS hT h (hn K hK)
/-- The end of a region, and only these slots and variables are wanted. -/
theorem s_endK {ops : Array Oper} {K : Act → World → Prop} (ks js : List Nat) (h1 : keepE ks E = E') (h2 : keepL js L = L') (h : kS b K N ⟨E', L', R, F, M⟩) : lS P b ops (Exit.then K Q) N [] ⟨E, L, R, F, M⟩ := s_end (k_keep ks js h1 h2 h)
theorem k_then {K : Act → World → Prop} {e : Env} (h : kS b K N e) : kS b (Exit.then K Q .normal) N e := h
end

/-! ### Objects behind pointers -/
/-- The object in block g. -/
def ObjF (g : Nat) (t : TypeId) (ps : List Pt) (w : World) : Prop := Blk w g t (catP ps) ∧ OkP ps
instance {g : Nat} {t : TypeId} {ps : List Pt} : Pst (ObjF g t ps) := ⟨fun _ _ h hb => ⟨h.1.later hb, h.2⟩⟩
/-- An object that may be written. -/
def ObjS (g : Nat) (t : TypeId) (ps : List Pt) : Res where
  holds w S := ObjF g t ps w ∧ ∀ j, S j ↔ j = g
  keep := fun ⟨h1, h2⟩ hk => ⟨⟨(hk g ((h2 g).2 rfl)).trans h1.1, h1.2⟩, h2⟩
  lt := fun ⟨h1, h2⟩ j hj => by rw [(h2 j).1 hj]; exact h1.1.lt
section
variable {P : Program} {b : Base} {T : List TyR} {ops : Array Oper} {Q : Exit → Act → World → Prop} {N : Nat} {E : SE} {L : List LV} {R : List Res} {F M : World → Prop} {o : Oper} {k g off : Nat} {t : TypeId} {x : Operand} {ty : TypeId} {ps : List Pt} {q : SQ}
theorem load_obj (hT : OkT P T) (ho : o.op = .load t x) (hx : evS E x = some (.v (.pointer (some ⟨g, off, none⟩)))) (hl : loadS T ps t off = some q) {G : Nat → Nat} {a : Act} {w : World} (ha : Fr N (denE G E) a) (h : ObjF g ty ps w) : q.Ok ∧ (execOp a.eval o).run P w = .ok (.value q.den) w := by
  obtain ⟨h1, h2⟩ := loadS_ok hT h.2 hl
  refine ⟨h1, ?_⟩
  have e := ha.eval (evS_ok hx)
  unfold execOp
  simp only [ho, e, SV.den, SQ.den, SC.den, h2 h.1, Sem.run_bind, Sem.run_pure, Result.andThen_ok]
theorem l_ldO {rest : List Oper} (hT : OkT P T) (hg : o.guard = none) (hd : o.dst = some k) (hk : Nat.blt k N = true) (ho : o.op = .load t x) (hx : evS E x = some (.v (.pointer (some ⟨g, off, none⟩)))) (hl : loadS T ps t off = some q) (h : ∀ G S w, View G S L R F M w → ObjF g ty ps w)
    (hn : lS P b ops Q N rest ⟨(k, .q q) :: E, L, R, F, M⟩) : lS P b ops Q N (o :: rest) ⟨E, L, R, F, M⟩ := fun a w ⟨G, S, h1, h2, h3⟩ => by
  obtain ⟨h4, h5⟩ := load_obj hT ho hx hl h1 (h G S w h3.view)
  refine wpl_go (oneS hg) h5 ?_
  rw [hd]
  exact hn _ w ⟨G, S, h1.put hk _, h2.cons h4, h3⟩
theorem g_ldO {T' : List Oper} {G : Nat → Nat} {S : Nat → Prop} {w0 : World} {rest : List (Nat × Oper)} {i : Nat} (hT : OkT P T) (hst : StW b G S L R F M w0) (hg : o.guard = none) (hd : o.dst = some k) (hk : Nat.blt k N = true) (ho : o.op = .load t x) (hx : evS E x = some (.v (.pointer (some ⟨g, off, none⟩)))) (hl : loadS T ps t off = some q) (h : ∀ G S w, View G S L R F M w → ObjF g ty ps w)
    (hn : gS P b ops Q N T' G w0 rest ((k, .q q) :: E)) : gS P b ops Q N T' G w0 ((i, o) :: rest) E := fun hE =>
  g_op rfl (fun a ha => b_val (v := q.den) (by simp [Region.wanted, hg]) (fun w hw => (load_obj hT ho hx hl ha (h G S w (hst.later hw.1).view)).2) (by
    rw [hd]
    exact g_go (o := o) (hn (hE.cons (loadS_ok hT (h G S w0 hst.view).2 hl).1)) _ (ha.put hk _)))
end
theorem obj_own {g : Nat} {t : TypeId} {ps : List Pt} {L : List LV} {R : List Res} {F M : World → Prop} (i : Nat) (hi : R[i]? = some (ObjS g t ps)) : ∀ G S w, View G S L R F M w → ObjF g t ps w := fun _ _ _ h => by
  obtain ⟨S1, _, h1, _⟩ := h.res.at hi
  exact h1.1
theorem obj_fact {g : Nat} {t : TypeId} {ps : List Pt} {L : List LV} {R : List Res} {F M : World → Prop} (h : ∀ w, F w → M w → ObjF g t ps w) : ∀ G S w, View G S L R F M w → ObjF g t ps w := fun _ _ w hv => h w hv.fact hv.fresh

/-! ### Elements -/
def eB (x : UInt8) : SQ := .c (.v (.int .u8 (x.toNat : Int)))
def eI (i : Int) : SQ := .c (.v (.int .i64 i))
def eT (t : Bool) : SQ := .c (.b t)
/-- A row of bytes. -/
def eY (n : Nat) (l : List UInt8) : SQ := .p [.agg n (By l).toArray]
theorem eB_ok (x : UInt8) : OkP (eB x).parts1 ∧ (eB x).cl.length = 1 := ⟨fun p hp => by rw [List.mem_singleton.1 hp]; exact ⟨trivial, rfl, rfl⟩, rfl⟩
theorem eI_ok (i : Int) : OkP (eI i).parts1 ∧ (eI i).cl.length = 1 := ⟨fun p hp => by rw [List.mem_singleton.1 hp]; exact ⟨trivial, rfl, rfl⟩, rfl⟩
theorem eT_ok (t : Bool) : OkP (eT t).parts1 ∧ (eT t).cl.length = 1 := ⟨fun p hp => by rw [List.mem_singleton.1 hp]; exact ⟨trivial, rfl, rfl⟩, rfl⟩
theorem eY_ok {n : Nat} {l : List UInt8} (h : l.length = n) : OkP (eY n l).parts1 ∧ (eY n l).cl.length = n := by
  have h1 : (By l).toArray.size = n := by rw [List.size_toArray, By_len, h]
  exact ⟨fun p hp => by rw [List.mem_singleton.1 hp]; exact ⟨h1, By_one l⟩, by rw [SQ.cl, Array.length_toList]; exact h1⟩
theorem okF_B (l : List UInt8) : OkF 1 eB l := fun x _ => eB_ok x
theorem okF_I (l : List Int) : OkF 1 eI l := fun x _ => eI_ok x
theorem okF_T (l : List Bool) : OkF 1 eT l := fun x _ => eT_ok x
theorem okF_Y {n : Nat} {ls : List (List UInt8)} (h : ∀ l ∈ ls, l.length = n) : OkF n (eY n) ls := fun l hl => eY_ok (h l hl)
theorem flat_B : ∀ l : List UInt8, flatF eB l = By l
  | [] => rfl
  | x :: l => by
    have := flat_B l
    simp only [flatF, List.flatMap_cons] at this ⊢
    rw [this]
    rfl
/-- Bytes that are read. -/
theorem Rd.sb {A : Option Addr} {c : Nat} {l : List UInt8} {w : World} (h : Rd 1 eB A c l w) : SB w (.slice A l.length c) l := by
  obtain ⟨h1, h2, h3, _, h5⟩ := h
  refine ⟨A, c, rfl, h1, h2, h3, fun hl => ?_⟩
  obtain ⟨b, o, e, hb, hr⟩ := h5 hl
  refine ⟨⟨b, o, none⟩, e, Nat.zero_le _, hb, fun j x hx => ?_⟩
  have := hr j x hx 0 (.int .u8 (x.toNat : Int)) rfl
  rw [Addr.add_mid]
  simpa using this
theorem Rd.of_sb {A : Option Addr} {c n : Nat} {l : List UInt8} {w : World} (h : SB w (.slice A n c) l) : n = l.length ∧ Rd 1 eB A c l w := by
  obtain ⟨A', c', e, h1, h2, h3, h4⟩ := h
  injection e with e1 e2 e3
  subst e1 e2 e3
  refine ⟨rfl, h1, h2, h3, okF_B l, fun hl => ?_⟩
  obtain ⟨ad, e, _, h6, h7⟩ := h4 hl
  obtain ⟨b, o, sp⟩ := ad
  have hsp : sp = none := by
    have h8 := h7 0 l[0] (List.getElem?_eq_getElem hl)
    cases sp with
    | none => rfl
    | some s =>
      unfold World.cell? Addr.add at h8
      simp only [if_true] at h8
      split at h8
      · simp at h8
      · cases h8
  subst hsp
  refine ⟨b, o, e, h6, fun i x hi j v hj => ?_⟩
  have h8 := h7 i x hi
  rw [Addr.add_mid] at h8
  cases j with
  | zero =>
    have e : v = .int .u8 (x.toNat : Int) := by
      have : (eB x).cl[0]? = some (.int .u8 (x.toNat : Int)) := rfl
      rw [this] at hj
      exact (Option.some.inj hj).symm
    rw [e, Nat.one_mul, Nat.add_zero]
    exact h8
  | succ j =>
    have : (eB x).cl[j + 1]? = none := rfl
    rw [this] at hj
    cases hj
/-! ### Numbers -/
theorem wrapI {m r : Int} (h : m = r) (h1 : -9223372036854775808 ≤ r) (h2 : r ≤ 9223372036854775807) : IntKind.i64.wrap m = r := by
  rw [h, i64_left, wrap64_in _ ⟨h1, by omega⟩]
theorem wrapQ (n d : Nat) (h : n ≤ 9223372036854775807) : IntKind.i64.wrap ((n : Int).tdiv (d : Int)) = ((n / d : Nat) : Int) := by
  have h1 : (n : Int).tdiv (d : Int) = ((n / d : Nat) : Int) := by rw [Int.tdiv_eq_ediv_of_nonneg (by omega)]; rfl
  have h2 : n / d ≤ n := Nat.div_le_self _ _
  rw [h1]
  generalize n / d = q at *
  exact wrapI rfl (by omega) (by omega)
theorem one_ok {v : SQ} (h : v.Ok) : ∀ u ∈ [v], u.Ok := fun u hu => by rw [List.mem_singleton.1 hu]; exact h
theorem two_ok {v v2 : SQ} (h : v.Ok) (h2 : v2.Ok) : ∀ u ∈ [v, v2], u.Ok := fun u hu => by
  rcases List.mem_cons.1 hu with rfl | hu
  · exact h
  · exact one_ok h2 u hu
theorem more_ok {v : SQ} {vs : List SQ} (h : v.Ok) (h2 : ∀ u ∈ vs, u.Ok) : ∀ u ∈ v :: vs, u.Ok := fun u hu => by
  rcases List.mem_cons.1 hu with rfl | hu
  · exact h
  · exact h2 u hu
end Go.Proofs.Ythkbejheedffjaa
/-
  CALLS IN DRAWN REGIONS BY THEIR CONTRACTS; slices of slices.
-/
namespace Go.Proofs.Ythkbejheedffjaa
open Go.RowKit Go.IntWalk

instance {p q : World → Prop} [hp : Pst p] [hq : Pst q] : Pst (fun w => p w ∧ q w) := ⟨fun _ _ h hb => ⟨hp.later _ _ h.1 hb, hq.later _ _ h.2 hb⟩⟩
instance {α : Type} {p : α → World → Prop} {l : List α} [hp : ∀ a, Pst (p a)] : Pst (fun w => ∀ a ∈ l, p a w) := ⟨fun _ _ h hb a ha => (hp a).later _ _ (h a ha) hb⟩
/-- A call that hands back one value and leaves nothing, by its contract, the order drawn. -/
theorem g_callS {b : Base} {ops : Array Oper} {Q : Exit → Act → World → Prop} {N : Nat} {T' : List Oper} {G : Nat → Nat} {S : Nat → Prop} {L : List LV} {R : List Res} {F M F' : World → Prop} {w0 : World} {E : SE} {o : Oper} {rest : List (Nat × Oper)} {i k : Nat} {f : FuncId} {xs : Array Operand} {ats : Array TypeId} {svs : List SV} {r : RV} [Pst F']
    (hst : StW b G S L R F M w0) (args : List Value) (hg : o.guard = none) (hd : o.dst = some k) (hk : Nat.blt k N = true) (hf : Own f) (ho : o.op = .call { callee := .value (.func f), args := xs, argTypes := ats }) (hx : evSs E xs.toList = some svs)
    (ha : (∀ x ∈ L, ∀ g, x.g = some g → G x.j = g) → svs.map (SV.den G) = args) (hs : Spec f args [] F' (one r)) (hr : r.sv.Ok) (hF : ∀ G S w, View G S L R F M w → F' w)
    (hn : gS Try.prog b ops Q N T' G w0 rest ((k, r.sv) :: E)) : gS Try.prog b ops Q N T' G w0 ((i, o) :: rest) E :=
  g_call1 hst args hg hd hk hf ho hx ha hr (fun w hv => (hs w (fun _ => False) (fun _ => False) (fun _ h => h) (fun _ h => h.elim) (Stb.of_pst (hF _ _ _ hv) fun _ _ h => h.elim id id)).mono fun _ _ ⟨_, _, h1, _, h2, _⟩ => ⟨h1, h2.up fun _ _ h => h⟩) hn
/-- A call that is lent nothing. -/
theorem l_call0 {b : Base} {ops : Array Oper} {Q : Exit → Act → World → Prop} {N : Nat} {E : SE} {L : List LV} {R : List Res} {F M F' : World → Prop} {o : Oper} {rest : List Oper} {k : Nat} {α : Type} {post : Post α} {f : FuncId} {xs : Array Operand} {ats : Array TypeId} {svs : List SV}
    (args : List Value) (hg : o.guard = none) (hd : o.dst = some k) (hk : Nat.blt k N = true) (hf : Own f) (ho : o.op = .call { callee := .value (.func f), args := xs, argTypes := ats }) (hx : evSs E xs.toList = some svs)
    (ha : ∀ G : Nat → Nat, (∀ x ∈ L, ∀ g, x.g = some g → G x.j = g) → svs.map (SV.den G) = args) (hs : Spec f args [] F' post) (hF : ∀ w, F w → M w → F' w)
    (hn : ∀ x, lS Try.prog b ops Q N rest ⟨(k, (post.ret x).sv) :: E, L, post.own x ++ R, fun w => post.p x w ∧ F w, fun w => post.n x w ∧ M w⟩) : lS Try.prog b ops Q N (o :: rest) ⟨E, L, R, F, M⟩ :=
  l_callA (own := []) (R' := R) args hg hd hk hf ho hx ha hs hF hn
/-- What a slot holds, said by another shape. -/
theorem l_as {P : Program} {b : Base} {ops : Array Oper} {Q : Exit → Act → World → Prop} {N : Nat} {E : SE} {L : List LV} {R : List Res} {F M : World → Prop} {l : List Oper} (k : Nat) {v : SV} (v' : SV) (h : lookS E k = some v) (he : ∀ G, v.den G = v'.den G) (ho : v'.Ok) (hn : lS P b ops Q N l ⟨(k, v') :: E, L, R, F, M⟩) : lS P b ops Q N l ⟨E, L, R, F, M⟩ := fun a w ⟨G, S, h1, h2, h3⟩ =>
  hn a w ⟨G, S, h1.more (h1.get k _ (by rw [look_den, h]; exact congrArg some (he G))), h2.cons ho, h3⟩
/-- What is owned, said otherwise. -/
theorem l_R {P : Program} {b : Base} {ops : Array Oper} {Q : Exit → Act → World → Prop} {N : Nat} {E : SE} {L : List LV} {R : List Res} {F M : World → Prop} {l : List Oper} (R2 : List Res) (h : R = R2) (hn : lS P b ops Q N l ⟨E, L, R2, F, M⟩) : lS P b ops Q N l ⟨E, L, R, F, M⟩ := h ▸ hn
/-- What is owned no more. -/
theorem k_drop {b : Base} {K : Act → World → Prop} {N : Nat} {E : SE} {L : List LV} {R : List Res} {F M : World → Prop} (i : Nat) {r : Res} (hi : R[i]? = some r) (h : kS b K N ⟨E, L, R.eraseIdx i, F, M⟩) : kS b K N ⟨E, L, R, F, M⟩ := fun a w ⟨G, S, h1, h2, h3⟩ => by
  obtain ⟨S1, S2, _, _, _, h4⟩ := h3.let hi
  exact h a w ⟨G, S2, h1, h2, h4⟩
/-- A slice of bytes as an element: where it lies, its room, what it reads. -/
structure Seg where
  A : Option Addr
  c : Nat
  l : List UInt8
def eSeg (s : Seg) : SQ := .c (.v (.slice s.A s.l.length s.c))
theorem eSeg_ok (s : Seg) : OkP (eSeg s).parts1 ∧ (eSeg s).cl.length = 1 := ⟨fun p hp => by rw [List.mem_singleton.1 hp]; exact ⟨trivial, rfl, rfl⟩, rfl⟩
theorem okF_seg (l : List Seg) : OkF 1 eSeg l := fun s _ => eSeg_ok s
/-- It is read. -/
def Seg.rd (s : Seg) (w : World) : Prop := Rd 1 eB s.A s.c s.l w
instance {s : Seg} : Pst s.rd := ⟨fun _ _ h hb => h.later hb⟩
theorem Rd.sl {A : Option Addr} {c : Nat} {l : List UInt8} {w : World} (h : Rd 1 eB A c l w) : SL w 0 w.heap.size A l c := by
  obtain ⟨A', c', e, h1⟩ := h.sb
  injection e with e1 _ e2
  subst e1 e2
  exact h1
theorem parts_of {A : Option Addr} {c : Nat} {ss : List Seg} {w : World} (h : Rd 1 eSeg A c ss w) (h2 : ∀ s ∈ ss, s.rd w) : Parts w w.heap.size A (ss.map Seg.l) := fun hl => by
  obtain ⟨b, o, e, hb, hr⟩ := h.2.2.2.2 (by simpa using hl)
  refine ⟨⟨b, o, none⟩, e, hb, fun i l hi => ?_⟩
  rw [List.getElem?_map] at hi
  cases hs : ss[i]? with
  | none => rw [hs] at hi; cases hi
  | some s =>
    rw [hs] at hi
    simp only [Option.map_some, Option.some.injEq] at hi
    subst hi
    refine ⟨s.A, s.c, ?_, (h2 s (List.mem_of_getElem? hs)).sl⟩
    have := hr i s hs 0 (.slice s.A s.l.length s.c) rfl
    rw [Addr.add_mid]
    simpa using this
end Go.Proofs.Ythkbejheedffjaa
/-
  LITERALS OF BYTES, over states.
-/
namespace Go.Proofs.Ythkbejheedffjaa
open Go.RowKit Go.IntWalk

theorem rd_alloc {w : World} {m : Nat × Nat} (l : List UInt8) (hm : l.length ≤ 9223372036854775807) : Rd 1 eB (some ⟨w.heap.size, 0, none⟩) l.length l (w.alloc (.cells (By l).toArray 5 m)) := by
  have hc : (w.alloc (.cells (By l).toArray 5 m)).heap[w.heap.size]? = some (.cells (By l).toArray 5 m) := heap_alloc_new w _
  have hsz : (w.alloc (.cells (By l).toArray 5 m)).heap.size = w.heap.size + 1 := World.size_alloc _ _
  refine ⟨Nat.le_refl _, hm, fun h => (by cases h), okF_B l, fun _ => ⟨w.heap.size, 0, rfl, by rw [hsz]; exact Nat.lt_succ_self _, fun i x hi j v hj => ?_⟩⟩
  cases j with
  | zero =>
    have e : v = .int .u8 (x.toNat : Int) := (Option.some.inj ((show (eB x).cl[0]? = some (.int .u8 (x.toNat : Int)) from rfl).symm.trans hj)).symm
    rw [cell_of_row _ _ _ _ _ _ hc, e]
    obtain ⟨h1, h2⟩ := List.getElem?_eq_some_iff.1 hi
    have h3 := By_at? h1
    rw [getElem!_pos l i h1, h2] at h3
    simpa using h3
  | succ j =>
    have : (eB x).cl[j + 1]? = none := rfl
    rw [this] at hj
    cases hj
section
variable {b : Base} {ops : Array Oper} {Q : Exit → Act → World → Prop} {N : Nat} {E : SE} {L : List LV} {R : List Res} {F M : World → Prop} {o o2 : Oper} {rest : List Oper} {k k2 : Nat}
/-- []byte("..."), the order forced. -/
theorem l_litS {n : Nat} {parts : Array (Nat × Operand)} (l : List UInt8) (hg : o.guard = none) (hd : o.dst = some k) (hk : Nat.blt k N = true) (ho : o.op = .buildSlice 32 n parts) (hp : ∀ G : Nat → Nat, parts.toList.map (fun p => (p.1, (evS E p.2).map (SV.den G))) = ((l.map fun x => (eB x).den).zipIdx 0).map fun x => (x.2, some x.1))
    (hn : l.length = n) (h0 : 0 < n) (h24 : n ≤ 16777216) (hf : lookS E k = none) (hg2 : o2.guard = none) (hd2 : o2.dst = some k2) (hk2 : Nat.blt k2 N = true) (ho2 : o2.op = .convert 32 32 (.tmp k))
    (hc : ∀ g, lS Try.prog b ops Q N rest ⟨(k2, .v (.slice (some ⟨g, 0, none⟩) n n)) :: E, L, R, F, fun w => Rd 1 eB (some ⟨g, 0, none⟩) n l w ∧ M w⟩) : lS Try.prog b ops Q N (o :: o2 :: rest) ⟨E, L, R, F, M⟩ := fun a w ⟨G, S, h1, h2, h3⟩ => by
  obtain ⟨ht, ie, z, hi, hz, hsz, hbs, hzs, _⟩ := slS_ok (T := TY) TY_ok (t := 32) (e := 5) (k := 1) (bs := 1) rfl
  have hr := run_lit (P := Try.prog) ht hi hz hsz (l.map fun x => (eB x).den) n (parts.map fun (i, x) => (i, a.eval x)) (by rw [Array.toList_map]; exact map_parts h1 _ _ (hp G)) (by rw [List.length_map, hn]) (by omega) (by omega) (fun v hv => by
    obtain ⟨x, hx, rfl⟩ := List.mem_map.1 hv
    rfl) w
  have e1 : ((l.map fun x => (eB x).den).flatMap fun v => v.cells.toList) = By l := by rw [List.flatMap_map, ← flat_B]; rfl
  rw [e1] at hr
  subst hn
  refine wpl_go (v := .slice (some ⟨w.heap.size, 0, none⟩) l.length l.length) (w' := w.alloc (.cells (By l).toArray 5)) (oneS hg) (by
    unfold execOp
    simp only [ho, Sem.run_bind, hr, Result.andThen_ok, Sem.run_pure]) ?_
  rw [hd]
  have f1 := h1.putFar (k := k) (by rw [look_den, hf]; rfl) (.slice (some ⟨w.heap.size, 0, none⟩) l.length l.length)
  have e2 : (a.put (some k) (.slice (some ⟨w.heap.size, 0, none⟩) l.length l.length)).eval (.tmp k) = .slice (some ⟨w.heap.size, 0, none⟩) l.length l.length := eval_put_same h1 hk _
  have hr2 := Lib.run_convert_bytes_const (P := Try.prog) w 32 5 (By l).toArray l.length l.length Try.underlying32 Try.underlying5
  refine wpl_go (v := .slice (some ⟨w.heap.size, 0, none⟩) l.length l.length) (w' := w.alloc (.cells (By l).toArray 5 ((By l).toArray.size, (By l).toArray.size + 1))) (oneS hg2) (by
    unfold execOp
    simp only [ho2, e2, Sem.run_bind, hr2, Result.andThen_ok, Sem.run_pure]) ?_
  rw [hd2]
  have h4 := rd_alloc (w := w) (m := ((By l).toArray.size, (By l).toArray.size + 1)) l (by omega)
  have h5 := h3.later ((Below.refl w.heap.size w).alloc (Nat.le_refl _) (.cells (By l).toArray 5 ((By l).toArray.size, (By l).toArray.size + 1)))
  refine hc w.heap.size _ _ ⟨G, S, f1.put hk2 _, h2.cons trivial, h5.andM fun w2 hw2 => h4.keep hw2.size fun g e hlt => hw2.block g hlt fun hx => ?_⟩
  simp only [Option.map_some, Option.some.injEq] at e
  subst e
  rcases hx with hx | hx
  · exact Nat.lt_irrefl _ (Nat.lt_of_lt_of_le hx h3.chg.size)
  · exact Nat.lt_irrefl _ (h3.lt _ hx)
end
end Go.Proofs.Ythkbejheedffjaa
/-
  STEPS OF THE RING: slices of hashes, fields behind a pointer, nil pointers.
-/
namespace Go.Proofs.Ythkbejheedffjaa
open Go.RowKit Go.IntWalk

/-- The hashes ks lie at A. -/
def HV (w : World) (A : Option Addr) (ks : List (List UInt8)) : Prop :=
  0 < ks.length → ∃ b o, A = some ⟨b, o, none⟩ ∧ b < w.heap.size ∧ ∀ (i : Nat) l, ks[i]? = some l → l.length = 32 ∧ w.rangeAt b (o + 32 * i) (By l)
theorem rangeAt_later {w w' : World} {b o : Nat} {cs : List Value} (h : w.rangeAt b o cs) (hb : w'.heap[b]? = w.heap[b]?) : w'.rangeAt b o cs := fun j v hj => (World.cell?_of_block (w := w) (w' := w') (a := ⟨b, o + j, none⟩) hb).trans (h j v hj)
theorem HV.keep {w w' : World} {A : Option Addr} {ks : List (List UInt8)} (h : HV w A ks) (hs : w.heap.size ≤ w'.heap.size) (hk : ∀ b o, A = some ⟨b, o, none⟩ → b < w.heap.size → w'.heap[b]? = w.heap[b]?) : HV w' A ks := fun hl => by
  obtain ⟨b, o, e, hb, hc⟩ := h hl
  exact ⟨b, o, e, Nat.lt_of_lt_of_le hb hs, fun i l hi => ⟨(hc i l hi).1, rangeAt_later (hc i l hi).2 (hk b o e hb)⟩⟩
theorem HV.later {w w' : World} {A : Option Addr} {ks : List (List UInt8)} (h : HV w A ks) (hb : Below w.heap.size w w') : HV w' A ks := h.keep hb.size fun b _ _ hlt => hb.block b hlt
/-- The value v is a slice that reads the hashes ks. -/
def HS (w : World) (v : Value) (ks : List (List UInt8)) : Prop := ∃ A c, v = .slice A ks.length c ∧ ks.length ≤ c ∧ c ≤ 9223372036854775807 ∧ HV w A ks
theorem HS.later {w w' : World} {v : Value} {ks : List (List UInt8)} (h : HS w v ks) (hb : Below w.heap.size w w') : HS w' v ks := by
  obtain ⟨A, c, e, h1, h2, h3⟩ := h
  exact ⟨A, c, e, h1, h2, h3.later hb⟩
theorem HV.len {w : World} {A : Option Addr} {ks : List (List UInt8)} (h : HV w A ks) : ∀ l ∈ ks, l.length = 32 := fun l hl => by
  obtain ⟨i, hi, rfl⟩ := List.getElem_of_mem hl
  obtain ⟨b, o, _, _, hc⟩ := h (by omega)
  exact (hc i _ (List.getElem?_eq_getElem hi)).1
theorem HV.take {w : World} {A : Option Addr} {ks : List (List UInt8)} (h : HV w A ks) (n : Nat) : HV w A (ks.take n) := fun hl => by
  obtain ⟨b, o, e, hb, hc⟩ := h (by simp at hl; omega)
  refine ⟨b, o, e, hb, fun i l hi => hc i l ?_⟩
  rw [List.getElem?_take] at hi
  split at hi
  · exact hi
  · cases hi
theorem HS.nil (w : World) : HS w (.slice none 0 0) [] := ⟨none, 0, rfl, Nat.le_refl _, by decide, fun h => absurd h (by simp)⟩

section
variable {ops : Array Oper} {C0 : World → Prop} {Q : Act → Prop} {N : Nat} {E : List (Nat × Value)} {o : Oper} {rest : List Oper} {k : Nat}
theorem f_nilc {x : Operand} (p : Addr) (hg : o.guard = none) (hd : o.dst = some k) (hk : Nat.blt k N = true) (ho : o.op = .nilCheck x) (hx : ev E x = some (.pointer (some p)))
    (hn : bF Try.prog ops C0 Q rest N ((k, .pointer (some p)) :: E)) : bF Try.prog ops C0 Q (o :: rest) N E :=
  f_val _ hg hd hk (fun a ha w _ => by
    have h1 := ha.eval hx
    unfold execOp
    simp only [ho, h1]
    go_simp) hn
theorem f_leqI {x y : Operand} {t : TypeId} (m n : Int) (q : Bool) (hg : o.guard = none) (hd : o.dst = some k) (hk : Nat.blt k N = true) (ho : o.op = .binOp .leq 3 x y t) (hx : ev E x = some (.int .i64 m)) (hy : ev E y = some (.int .i64 n))
    (hr : decide (m ≤ n) = q) (hn : bF Try.prog ops C0 Q rest N ((k, .bool q) :: E)) : bF Try.prog ops C0 Q (o :: rest) N E :=
  f_val _ hg hd hk (fun a ha w _ => by
    have h1 := ha.eval hx
    have h2 := ha.eval hy
    subst hr
    unfold execOp
    simp only [ho, h1, h2]
    by_cases e : m ≤ n <;> go_simp) hn
theorem f_strB {x : Operand} (v : Value) (l : List UInt8) (hg : o.guard = none) (hd : o.dst = some k) (hk : Nat.blt k N = true) (ho : o.op = .convert 32 9 x) (hx : ev E x = some v) (hs : ∀ w, C0 w → SB w v l)
    (hn : bF Try.prog ops C0 Q rest N ((k, .string ⟨l.toArray⟩) :: E)) : bF Try.prog ops C0 Q (o :: rest) N E :=
  f_val _ hg hd hk (fun a ha w hw => by
    have h1 := ha.eval hx
    obtain ⟨A, c, rfl, hS⟩ := hs w hw
    unfold execOp
    simp only [ho, h1]
    cases A with
    | none =>
      obtain ⟨h3, h4⟩ := hS.none_ rfl
      obtain rfl := List.eq_nil_of_length_eq_zero h3
      have hr := run_convert_bytes_nil (P := Try.prog) w 32 5 Try.underlying32 Try.underlying5 0 c 9 Try.underlying9
      simp only [Sem.run_bind, List.length_nil, hr, Result.andThen_ok, Sem.run_pure]
      rfl
    | some ad =>
      have hr := run_convert_bytes_back (P := Try.prog) w 32 9 5 ad c l Try.underlying32 Try.underlying5 Try.underlying9 (fun j hj => hS.cells ad rfl j _ (by rw [By_at? hj, getElem!_pos l j hj]))
      simp only [Sem.run_bind, hr, Result.andThen_ok, Sem.run_pure]) hn
end
end Go.Proofs.Ythkbejheedffjaa
/-
  MORE STEPS, over states: equality of bools, of rows of bytes, of strings; bytes as strings; xor, min, cuts.
-/
namespace Go.Proofs.Ythkbejheedffjaa
open Go.RowKit Go.IntWalk

section
variable {P : Program} {b : Base} {ops : Array Oper} {Q : Exit → Act → World → Prop} {N : Nat} {E : SE} {L : List LV} {R : List Res} {F M : World → Prop} {o : Oper} {rest : List Oper} {k : Nat}
/-- A step whose value hangs on the frame alone. -/
theorem l_op (v : SV) (hv : v.Ok) (hg : o.guard = none) (hd : o.dst = some k) (hk : Nat.blt k N = true) (h : ∀ (G : Nat → Nat) (a : Act) (w : World), Fr N (denE G E) a → (execOp a.eval o).run P w = .ok (.value (v.den G)) w)
    (hn : lS P b ops Q N rest ⟨(k, v) :: E, L, R, F, M⟩) : lS P b ops Q N (o :: rest) ⟨E, L, R, F, M⟩ := fun a w ⟨G, S, h1, h2, h3⟩ => by
  refine wpl_go (oneS hg) (h G a w h1) ?_
  rw [hd]
  exact hn _ w ⟨G, S, h1.put hk _, h2.cons hv, h3⟩
/-- A step whose value hangs on what can be seen. -/
theorem l_opV (v : SV) (hv : v.Ok) (hg : o.guard = none) (hd : o.dst = some k) (hk : Nat.blt k N = true) (h : ∀ (G : Nat → Nat) (S : Nat → Prop) (a : Act) (w : World), Fr N (denE G E) a → View G S L R F M w → (execOp a.eval o).run P w = .ok (.value (v.den G)) w)
    (hn : lS P b ops Q N rest ⟨(k, v) :: E, L, R, F, M⟩) : lS P b ops Q N (o :: rest) ⟨E, L, R, F, M⟩ := fun a w ⟨G, S, h1, h2, h3⟩ => by
  refine wpl_go (oneS hg) (h G S a w h1 h3.view) ?_
  rw [hd]
  exact hn _ w ⟨G, S, h1.put hk _, h2.cons hv, h3⟩
variable {T' : List Oper} {G : Nat → Nat} {S : Nat → Prop} {w0 : World} {grest : List (Nat × Oper)} {i : Nat}
theorem g_opS (v : SV) (hv : v.Ok) (hg : o.guard = none) (hd : o.dst = some k) (hk : Nat.blt k N = true) (h : ∀ (G : Nat → Nat) (a : Act) (w : World), Fr N (denE G E) a → (execOp a.eval o).run P w = .ok (.value (v.den G)) w)
    (hn : gS P b ops Q N T' G w0 grest ((k, v) :: E)) : gS P b ops Q N T' G w0 ((i, o) :: grest) E := fun hE =>
  g_op rfl (fun a ha => b_val (by simp [Region.wanted, hg]) (fun w _ => h G a w ha) (by
    rw [hd]
    exact g_go (o := o) (hn (hE.cons hv)) _ (ha.put hk _)))
end
section
variable {N : Nat} {E : SE} {o : Oper} {x y : Operand} {t t' : TypeId}
/-- '==' of bools. -/
theorem run_eqBool {u v : SV} {p q : Bool} (ho : o.op = .binOp .eql 4 x y t') (hx : evS E x = some u) (hy : evS E y = some v) (hu : ∀ G, u.den G = .bool p) (hv : ∀ G, v.den G = .bool q) : ∀ (G : Nat → Nat) (a : Act) (w : World), Fr N (denE G E) a → (execOp a.eval o).run Try.prog w = .ok (.value ((SV.b (p == q)).den G)) w := fun G a w ha => by
  have h1 := ha.eval (evS_ok hx)
  have h2 := ha.eval (evS_ok hy)
  rw [hu G] at h1
  rw [hv G] at h2
  unfold execOp
  simp only [ho, h1, h2, SV.den, SQ.den, SC.den]
  cases p <;> cases q <;> go_simp
/-- '==' of rows of bytes. -/
theorem run_eqY {n : Nat} {l m : List UInt8} (ho : o.op = .binOp .eql t x y t') (hx : evS E x = some (.q (eY n l))) (hy : evS E y = some (.q (eY n m))) (ht : Try.prog.underlying t = some (.array n 5)) (hg : Try.prog.eqGuardType Try.prog.depth t = false) (hl : l.length = n) (hm : m.length = n) :
    ∀ (G : Nat → Nat) (a : Act) (w : World), Fr N (denE G E) a → (execOp a.eval o).run Try.prog w = .ok (.value ((SV.b (decide (l = m))).den G)) w := fun G a w ha => by
  have h1 : a.eval x = .agg (By l).toArray := ha.eval (evS_ok hx)
  have h2 : a.eval y = .agg (By m).toArray := ha.eval (evS_ok hy)
  unfold execOp
  simp only [ho, h1, h2, Sem.run_bind, run_eqGuard_agg (hm := hg), Result.andThen_ok, binOp, Op.equal, Op.maxDepth, equalIn_bytes 9998 n t l m ht hl hm w, Sem.run_pure]
  rfl
theorem run_neqY {n : Nat} {l m : List UInt8} (ho : o.op = .binOp .neq t x y t') (hx : evS E x = some (.q (eY n l))) (hy : evS E y = some (.q (eY n m))) (ht : Try.prog.underlying t = some (.array n 5)) (hg : Try.prog.eqGuardType Try.prog.depth t = false) (hl : l.length = n) (hm : m.length = n) :
    ∀ (G : Nat → Nat) (a : Act) (w : World), Fr N (denE G E) a → (execOp a.eval o).run Try.prog w = .ok (.value ((SV.b (!decide (l = m))).den G)) w := fun G a w ha => by
  have h1 : a.eval x = .agg (By l).toArray := ha.eval (evS_ok hx)
  have h2 : a.eval y = .agg (By m).toArray := ha.eval (evS_ok hy)
  unfold execOp
  simp only [ho, h1, h2, Sem.run_bind, run_eqGuard_agg (hm := hg), Result.andThen_ok, binOp, Op.equal, Op.maxDepth, equalIn_bytes 9998 n t l m ht hl hm w, Sem.run_pure]
  rfl
/-- A string. -/
abbrev vS (l : List UInt8) : SV := .v (.string ⟨l.toArray⟩)
theorem run_eqS {l m : List UInt8} (ho : o.op = .binOp .eql 9 x y t') (hx : evS E x = some (vS l)) (hy : evS E y = some (vS m)) :
    ∀ (G : Nat → Nat) (a : Act) (w : World), Fr N (denE G E) a → (execOp a.eval o).run Try.prog w = .ok (.value ((SV.b (decide (l = m))).den G)) w := fun G a w ha => by
  have h1 : a.eval x = .string ⟨l.toArray⟩ := ha.eval (evS_ok hx)
  have h2 : a.eval y = .string ⟨m.toArray⟩ := ha.eval (evS_ok hy)
  unfold execOp
  simp only [ho, h1, h2]
  by_cases e : l = m <;> go_simp <;> first | rfl | (rw [show (l == m) = false from by simpa using e]; rfl)
theorem run_neqS {l m : List UInt8} (ho : o.op = .binOp .neq 9 x y t') (hx : evS E x = some (vS l)) (hy : evS E y = some (vS m)) :
    ∀ (G : Nat → Nat) (a : Act) (w : World), Fr N (denE G E) a → (execOp a.eval o).run Try.prog w = .ok (.value ((SV.b (!decide (l = m))).den G)) w := fun G a w ha => by
  have h1 : a.eval x = .string ⟨l.toArray⟩ := ha.eval (evS_ok hx)
  have h2 : a.eval y = .string ⟨m.toArray⟩ := ha.eval (evS_ok hy)
  unfold execOp
  simp only [ho, h1, h2]
  by_cases e : l = m <;> go_simp <;> first | rfl | (rw [show (l == m) = false from by simpa using e]; rfl)
theorem run_xor {m n : Int} (ho : o.op = .binOp .xor 5 x y t') (hx : evS E x = some (.v (.int .u8 m))) (hy : evS E y = some (.v (.int .u8 n))) :
    ∀ (G : Nat → Nat) (a : Act) (w : World), Fr N (denE G E) a → (execOp a.eval o).run Try.prog w = .ok (.value ((SV.v (.int .u8 (bits .xor .u8 m n))).den G)) w := fun G a w ha => by
  have h1 : a.eval x = .int .u8 m := ha.eval (evS_ok hx)
  have h2 : a.eval y = .int .u8 n := ha.eval (evS_ok hy)
  unfold execOp
  simp only [ho, h1, h2]
  go_simp
  rfl
theorem run_min {p q : Nat} (ho : o.op = .call { callee := .builtin .min, args := #[x, y], argTypes := #[3, 3] }) (hx : evS E x = some (.v (.int .i64 (p : Int)))) (hy : evS E y = some (.v (.int .i64 (q : Int)))) :
    ∀ (G : Nat → Nat) (a : Act) (w : World), Fr N (denE G E) a → (execOp a.eval o).run Try.prog w = .ok (.value ((SV.v (.int .i64 ((min p q : Nat) : Int))).den G)) w := fun G a w ha => by
  have h1 : a.eval x = .int .i64 (p : Int) := ha.eval (evS_ok hx)
  have h2 : a.eval y = .int .i64 (q : Int) := ha.eval (evS_ok hy)
  unfold execOp
  simp only [ho]
  generalize a.eval = ρ at *
  show _ = Result.ok (Next.value (.int .i64 ((min p q : Nat) : Int))) w
  go_simp
  split <;> omega
/-- '== nil' of a slice. -/
theorem run_eqNilS {A : Option Addr} {n c : Nat} {e : TypeId} (ho : o.op = .binOp .eql t x (.const (.slice none 0 0)) t') (hu : Try.prog.underlying t = some (.slice e)) (hx : evS E x = some (.v (.slice A n c))) :
    ∀ (G : Nat → Nat) (a : Act) (w : World), Fr N (denE G E) a → (execOp a.eval o).run Try.prog w = .ok (.value ((SV.v (.bool A.isNone)).den G)) w := fun G a w ha => by
  have h1 : a.eval x = .slice A n c := ha.eval (evS_ok hx)
  have h3 := run_equal_slice_nil (P := Try.prog) w t e A n c hu
  unfold execOp
  have h4 : (eqGuard .eql t x (.const (.slice none 0 0)) (.slice A n c) (.slice none 0 0)).run Try.prog w = .ok () w := rfl
  simp only [ho, h1, show a.eval (.const (.slice none 0 0)) = .slice none 0 0 from rfl, Sem.run_bind, h4, Result.andThen_ok, binOp, h3, Sem.run_pure]
  rfl
theorem run_minI {p q : Int} (ho : o.op = .call { callee := .builtin .min, args := #[x, y], argTypes := #[3, 3] }) (hx : evS E x = some (.v (.int .i64 p))) (hy : evS E y = some (.v (.int .i64 q))) :
    ∀ (G : Nat → Nat) (a : Act) (w : World), Fr N (denE G E) a → (execOp a.eval o).run Try.prog w = .ok (.value ((SV.v (.int .i64 (min p q))).den G)) w := fun G a w ha => by
  have h1 : a.eval x = .int .i64 p := ha.eval (evS_ok hx)
  have h2 : a.eval y = .int .i64 q := ha.eval (evS_ok hy)
  unfold execOp
  simp only [ho]
  generalize a.eval = ρ at *
  show _ = Result.ok (Next.value (.int .i64 (min p q))) w
  go_simp
  split <;> omega
theorem run_maxI {p q : Int} (ho : o.op = .call { callee := .builtin .max, args := #[x, y], argTypes := #[3, 3] }) (hx : evS E x = some (.v (.int .i64 p))) (hy : evS E y = some (.v (.int .i64 q))) :
    ∀ (G : Nat → Nat) (a : Act) (w : World), Fr N (denE G E) a → (execOp a.eval o).run Try.prog w = .ok (.value ((SV.v (.int .i64 (max p q))).den G)) w := fun G a w ha => by
  have h1 : a.eval x = .int .i64 p := ha.eval (evS_ok hx)
  have h2 : a.eval y = .int .i64 q := ha.eval (evS_ok hy)
  unfold execOp
  simp only [ho]
  generalize a.eval = ρ at *
  show _ = Result.ok (Next.value (.int .i64 (max p q))) w
  go_simp
  split <;> omega
theorem run_sizeOf {P : Program} {e : TypeId} {k : Nat} (he : (P.info? e).map (·.size) = some k) (w : World) : (sizeOf e).run P w = .ok k w := by
  cases hq : P.info? e with
  | none => simp [hq] at he
  | some ie =>
    have hs : ie.size = k := by simpa [hq] using he
    simp [sizeOf, typeInfo, hq, hs]
/-- '!=' of bools. -/
theorem run_neqBoolW {u v : SV} {p q : Bool} (ho : o.op = .binOp .neq 4 x y t') (hx : evS E x = some u) (hy : evS E y = some v) (hu : ∀ G, u.den G = .bool p) (hv : ∀ G, v.den G = .bool q) : ∀ (G : Nat → Nat) (a : Act) (w : World), Fr N (denE G E) a → (execOp a.eval o).run Try.prog w = .ok (.value ((SV.b (!(p == q))).den G)) w := fun G a w ha => by
  have h1 : a.eval x = .bool p := (ha.eval (evS_ok hx)).trans (hu G)
  have h2 : a.eval y = .bool q := (ha.eval (evS_ok hy)).trans (hv G)
  unfold execOp
  simp only [ho, h1, h2]
  go_simp
  rfl
/-- A cut at the end: s[:j], any elements. -/
theorem run_cutHi {A : Option Addr} {n c j sz : Nat} {e : TypeId} (he : (Try.prog.info? e).map (·.size) = some sz) (hj : j ≤ c) (hA : A = none → c = 0) (ho : o.op = .slice t x none (some y) none) (hu : Try.prog.underlying t = some (.slice e)) (hx : evS E x = some (.v (.slice A n c))) (hy : evS E y = some (.v (.int .i64 (j : Int)))) :
    ∀ (G : Nat → Nat) (a : Act) (w : World), Fr N (denE G E) a → (execOp a.eval o).run Try.prog w = .ok (.value ((SV.v (.slice A j c)).den G)) w := fun G a w ha => by
  have h1 : a.eval x = .slice A n c := ha.eval (evS_ok hx)
  have h2 : a.eval y = .int .i64 (j : Int) := ha.eval (evS_ok hy)
  have h3 : (j : Int) ≤ (c : Int) := by omega
  have h4 : (0 : Int) ≤ (j : Int) := by omega
  have h5 := run_sizeOf he w
  unfold execOp
  simp only [ho]
  generalize a.eval = ρ at *
  simp only [Option.map, h1, h2]
  show _ = Result.ok (Next.value (.slice A j c)) w
  cases A with
  | none =>
    have := hA rfl
    obtain rfl : c = 0 := this
    obtain rfl : j = 0 := by omega
    go_simp
  | some ad => go_simp
end
section
variable {b : Base} {ops : Array Oper} {Q : Exit → Act → World → Prop} {N : Nat} {E : SE} {L : List LV} {R : List Res} {F M : World → Prop} {o : Oper} {rest : List Oper} {k : Nat}
/-- Bytes as a string. -/
theorem l_strB {x : Operand} {A : Option Addr} {c : Nat} (l : List UInt8) (hg : o.guard = none) (hd : o.dst = some k) (hk : Nat.blt k N = true) (ho : o.op = .convert 32 9 x) (hx : evS E x = some (.v (.slice A l.length c)))
    (h : ∀ G S w, View G S L R F M w → Rd 1 eB A c l w) (hn : lS Try.prog b ops Q N rest ⟨(k, vS l) :: E, L, R, F, M⟩) : lS Try.prog b ops Q N (o :: rest) ⟨E, L, R, F, M⟩ :=
  l_f (vS l) trivial (fun G S w C0 Q' hv h0 hQ => f_strB (.slice A l.length c) l hg hd hk ho (evS_ok hx) (fun w' hw' => by rw [h0 w' hw']; exact (h G S w hv).sb) hQ) (by rw [ho]; rfl) hn
end
end Go.Proofs.Ythkbejheedffjaa
/-
  FROM A CONTRACT TO A LAW'S ROW.
-/
namespace Go.Proofs.Ythkbejheedffjaa
open Go.RowKit Go.IntWalk

theorem spec_law {f : FuncId} {args : List Value} {F : World → Prop} [Pst F] (h : Spec f args [] F (one (.v (.bool true)))) {W : World} (hF : F W) : Calls Try.prog f args.toArray W fun e W' => e = .returned (.bool true) ∧ Below W.heap.size W W' :=
  (h W (fun _ => False) (fun _ => False) (fun _ h => h) (fun _ h => h.elim) (Stb.of_pst hF fun _ _ h => h.elim id id)).mono fun _ _ ⟨_, _, h1, _, h2, _⟩ => ⟨h1, h2.up fun _ _ h => h⟩
theorem Rd.of_sl {A : Option Addr} {c : Nat} {l : List UInt8} {W : World} (h : SL W 0 W.heap.size A l c) : Rd 1 eB A c l W := (Rd.of_sb ⟨A, c, rfl, h⟩).2
end Go.Proofs.Ythkbejheedffjaa
/-
  CELLS WITHIN ROWS, over states: a byte of a variable's row, a byte of a row in a slice of one's own; a slice appended to one's own.
-/
namespace Go.Proofs.Ythkbejheedffjaa
open Go.RowKit Go.IntWalk

theorem run_ixArr {P : Program} {t e : TypeId} {n sz : Nat} (ht : P.underlying t = some (.array n e)) (he : (P.info? e).map (·.size) = some sz) (g o : Nat) (K : IntKind) (i : Nat) (hi : i < n) (w : World) :
    (Instr.indexAt t (.pointer (some ⟨g, o, none⟩)) (.int K (i : Int))).run P w = .ok (.pointer (some ⟨g, o + sz * i, none⟩)) w := by
  cases hq : P.info? e with
  | none => simp [hq] at he
  | some ie =>
    have hs : ie.size = sz := by simpa [hq] using he
    have h1 : (i : Int) < (n : Int) := by omega
    have h2 : (0 : Int) ≤ (i : Int) := by omega
    simp [Instr.indexAt, asIntOf, Instr.sureAddr, run_underlying ht, sizeOf, typeInfo, hq, hs, Addr.add_mid, Nat.mul_comm, hi]
section
variable {P : Program} {T : List TyR} {b : Base} {ops : Array Oper} {Q : Exit → Act → World → Prop} {N : Nat} {E : SE} {L : List LV} {R : List Res} {F M : World → Prop} {o : Oper} {rest : List Oper} {k : Nat} {t e : TypeId} {x y z : Operand} {K : IntKind} {j off n sz g : Nat}
/-- The address of a part of a variable's row. -/
theorem runO_ixA (i : Nat) (ho : o.op = .indexAddr t x y) (ht : P.underlying t = some (.array n e)) (he : (P.info? e).map (·.size) = some sz) (hx : evS E x = some (.a j off)) (hy : evS E y = some (.v (.int K (i : Int)))) (hi : i < n) :
    ∀ (G : Nat → Nat) (a : Act) (w : World), Fr N (denE G E) a → (execOp a.eval o).run P w = .ok (.value ((SV.a j (off + sz * i)).den G)) w := fun G a w ha => by
  have e1 := ha.eval (evS_ok hx)
  have e2 := ha.eval (evS_ok hy)
  unfold execOp
  simp only [ho, e1, e2, SV.den, SQ.den, SC.den, Sem.run_bind, run_ixArr ht he _ _ _ _ hi, Result.andThen_ok, Sem.run_pure]
/-- The address of a part of a row behind an address. -/
theorem runO_ixP (i : Nat) (ho : o.op = .indexAddr t x y) (ht : P.underlying t = some (.array n e)) (he : (P.info? e).map (·.size) = some sz) (hx : evS E x = some (.v (.pointer (some ⟨g, off, none⟩)))) (hy : evS E y = some (.v (.int K (i : Int)))) (hi : i < n) :
    ∀ (G : Nat → Nat) (a : Act) (w : World), Fr N (denE G E) a → (execOp a.eval o).run P w = .ok (.value ((SV.v (.pointer (some ⟨g, off + sz * i, none⟩))).den G)) w := fun G a w ha => by
  have e1 := ha.eval (evS_ok hx)
  have e2 := ha.eval (evS_ok hy)
  unfold execOp
  simp only [ho, e1, e2, SV.den, SQ.den, SC.den, Sem.run_bind, run_ixArr ht he _ _ _ _ hi, Result.andThen_ok, Sem.run_pure]
/-- The address of an element of a slice. -/
theorem runO_ixS {c : Nat} (i : Nat) (ho : o.op = .indexAddr t x y) (ht : P.underlying t = some (.slice e)) (he : (P.info? e).map (·.size) = some sz) (hx : evS E x = some (.v (.slice (some ⟨g, off, none⟩) n c))) (hy : evS E y = some (.v (.int K (i : Int)))) (hi : i < n) :
    ∀ (G : Nat → Nat) (a : Act) (w : World), Fr N (denE G E) a → (execOp a.eval o).run P w = .ok (.value ((SV.v (.pointer (some ⟨g, off + sz * i, none⟩))).den G)) w := fun G a w ha => by
  have e1 := ha.eval (evS_ok hx)
  have e2 := ha.eval (evS_ok hy)
  unfold execOp
  simp only [ho, e1, e2, SV.den, SQ.den, SC.den, Sem.run_bind, run_index ht he _ _ _ _ _ _ hi, Result.andThen_ok, Sem.run_pure]
/-- A cell of a variable is read. -/
theorem runO_ldA {d : TypeDesc} {ps : List Pt} (v : Value) (ho : o.op = .load t x) (hx : evS E x = some (.a j off)) (hl : lookL L j = some ps) (hv : (catP ps)[off]? = some v) (hu : P.underlying t = some d) (hr : d.isRow = false) :
    ∀ (G : Nat → Nat) (S : Nat → Prop) (a : Act) (w : World), Fr N (denE G E) a → View G S L R F M w → (execOp a.eval o).run P w = .ok (.value ((SV.v v).den G)) w := fun G S a w ha hvw => by
  obtain ⟨z, hz, rfl, rfl⟩ := lookL_mem hl
  have hb := (hvw.var z hz).1
  have hc : w.cell? ⟨G z.j, off, none⟩ = some v := by rw [hb.cell]; exact hv
  have e1 := ha.eval (evS_ok hx)
  unfold execOp
  simp only [ho, e1, SV.den, SQ.den, SC.den, run_load_cell hu hr hc, Sem.run_bind, Sem.run_pure, Result.andThen_ok]
/-- A cell of a variable is written. -/
theorem l_stA {ps : List Pt} {v : Value} (ps' : List Pt) (hg : o.guard = none) (hd : o.dst = none) (ho : o.op = .store t x z) (hx : evS E x = some (.a j off)) (hz : evS E z = some (.v v)) (hl : lookL L j = some ps) (ht : (P.info? t).map (·.size) = some 1) (h1 : v.cells = #[v]) (h2 : v.oneCell' = true) (hlt : off < (catP ps).size) (hp : OkP ps')
    (hs : (catP ps').toList = (catP ps).toList.set off v) (hn : lS P b ops Q N rest ⟨E, putL L j ps', R, F, M⟩) : lS P b ops Q N (o :: rest) ⟨E, L, R, F, M⟩ := fun a w ⟨G, S, f1, f2, f3⟩ => by
  obtain ⟨u, hu, rfl, rfl⟩ := lookL_mem hl
  have e1 := f1.eval (evS_ok hx)
  have e2 := f1.eval (evS_ok hz)
  have hst := run_store_part (P := P) (t := t) (v := v) (off := off) (f3.at u hu) (by rw [ht, h1]; rfl) (by rw [h1]; exact hlt) (by rw [h1]; intro u hu; simp at hu; subst hu; exact h2)
  have e3 : ((catP u.ps).toList.take off ++ v.cells.toList ++ (catP u.ps).toList.drop (off + v.cells.size)).toArray = catP ps' := by
    apply Array.ext'
    rw [hs, List.set_eq_take_append_cons_drop, if_pos (by simpa using hlt), h1]
    simp
  rw [e3] at hst
  refine wpl_skip (w' := w.setRow (G u.j) (catP ps')) (oneS hg) (by
    unfold execOp
    simp only [ho, e1, e2, SV.den, SQ.den, SC.den, hst, Sem.run_bind, Sem.run_pure, Result.andThen_ok]) ?_
  rw [hd]
  exact hn _ _ ⟨G, S, f1, f2, f3.set (lookL_name hl) hp⟩
end
section
variable {α : Type} {fe : α → SQ} {l : List α} {P : Program} {T : List TyR} {b : Base} {ops : Array Oper} {Q : Exit → Act → World → Prop} {N : Nat} {E : SE} {L : List LV} {R : List Res} {F M : World → Prop} {o : Oper} {rest : List Oper} {k : Nat} {t e : TypeId} {x y z : Operand} {A : Option Addr} {lo c sz bs g m : Nat}
/-- Where a slice of one's own lies. -/
theorem l_where {l' : List Oper} (i : Nat) (hi : R[i]? = some (OwnS lo e sz fe A c l)) (h0 : 0 < l.length) (h : ∀ g, A = some ⟨g, 0, none⟩ → lS P b ops Q N l' ⟨E, L, R, F, M⟩) : lS P b ops Q N l' ⟨E, L, R, F, M⟩ := fun a w ⟨G, S, h1, h2, h3⟩ => by
  obtain ⟨S1, ⟨_, hrow, _⟩, _⟩ := h3.put hi
  rcases hrow.2 with ⟨_, h7⟩ | ⟨g, cap, cur, hv, _⟩
  · omega
  injection hv with v1 _ _
  exact h g v1 a w ⟨G, S, h1, h2, h3⟩
theorem OwnS.cell {w : World} {S : Nat → Prop} (h : (OwnS lo e sz fe (some ⟨g, 0, none⟩) c l).holds w S) {v : Value} (hv : (flatF fe l)[m]? = some v) : w.cell? ⟨g, m, none⟩ = some v := by
  obtain ⟨h1, h2, _⟩ := h
  rcases h2.2 with ⟨h4, _⟩ | ⟨g', cap, cur, hv', _, hg, _, _, _, ht⟩
  · injection h4 with h6
    cases h6
  · injection hv' with h6
    injection h6 with h6
    injection h6 with h6
    subst h6
    have hB : Blk w g e cur := hg
    rw [hB.cell]
    rw [← ht, List.getElem?_take] at hv
    split at hv
    · simpa using hv
    · cases hv
/-- A cell of a slice of one's own is read. -/
theorem runO_ldC {d : TypeDesc} (i : Nat) (v : Value) (hi : R[i]? = some (OwnS lo e sz fe (some ⟨g, 0, none⟩) c l)) (ho : o.op = .load t x) (hx : evS E x = some (.v (.pointer (some ⟨g, m, none⟩)))) (hv : (flatF fe l)[m]? = some v) (hu : P.underlying t = some d) (hr : d.isRow = false) :
    ∀ (G : Nat → Nat) (S : Nat → Prop) (a : Act) (w : World), Fr N (denE G E) a → View G S L R F M w → (execOp a.eval o).run P w = .ok (.value ((SV.v v).den G)) w := fun G S a w ha hvw => by
  obtain ⟨S1, _, h1, _⟩ := hvw.res.at hi
  have e1 := ha.eval (evS_ok hx)
  unfold execOp
  simp only [ho, e1, SV.den, SQ.den, SC.den, run_load_cell hu hr (OwnS.cell h1 hv), Sem.run_bind, Sem.run_pure, Result.andThen_ok]
/-- A cell of a slice of one's own is written. -/
theorem l_stC {v : Value} (i : Nat) (l' : List α) (hi : R[i]? = some (OwnS lo e sz fe (some ⟨g, 0, none⟩) c l)) (hg : o.guard = none) (hd : o.dst = none) (ho : o.op = .store t x z) (hx : evS E x = some (.v (.pointer (some ⟨g, m, none⟩)))) (hz : evS E z = some (.v v)) (ht : (P.info? t).map (·.size) = some 1) (h1 : v.cells = #[v]) (h2 : v.oneCell' = true)
    (hm : m < (flatF fe l).length) (hl : l'.length = l.length) (hok : OkF sz fe l') (hf : flatF fe l' = (flatF fe l).set m v)
    (hc : lS P b ops Q N rest ⟨E, L, R.set i (OwnS lo e sz fe (some ⟨g, 0, none⟩) c l'), F, M⟩) : lS P b ops Q N (o :: rest) ⟨E, L, R, F, M⟩ := fun a w ⟨G, S, f1, f2, f3⟩ => by
  obtain ⟨S1, ⟨hokl, hrow, hS1⟩, hput⟩ := f3.put hi
  rcases hrow.2 with ⟨h6, h7⟩ | ⟨g', cap, cur, hv, hb, hg', hnc, hmx, hcs, htk⟩
  · injection h6 with h6
    cases h6
  injection hv with v1 _ v2
  injection v1 with v1
  injection v1 with v1
  subst v1
  have hB : Blk w g e cur := hg'
  have e1 := f1.eval (evS_ok hx)
  have e2 := f1.eval (evS_ok hz)
  have hmc : m < cur.size := by
    rw [← htk, List.length_take] at hm
    have : cur.toList.length = cur.size := Array.length_toList
    omega
  have hst := run_store_part (P := P) (t := t) (v := v) (off := m) hB (by rw [ht, h1]; rfl) (by rw [h1]; exact hmc) (by rw [h1]; intro u hu; simp at hu; subst hu; exact h2)
  have e3 : (cur.toList.take m ++ v.cells.toList ++ cur.toList.drop (m + v.cells.size)) = cur.toList.set m v := by
    rw [List.set_eq_take_append_cons_drop, if_pos (by simpa using hmc), h1]
    simp
  rw [e3] at hst
  have hB' := hB.row (cur.toList.set m v).toArray
  obtain ⟨S'', h12⟩ := hput (OwnS lo e sz fe (some ⟨g, 0, none⟩) c l') (w.setRow g (cur.toList.set m v).toArray) S1 ((Chg.row w g _).mono fun k _ hk => (hS1 k).2 (by rw [hk]; rfl))
    ⟨hok, ⟨by rw [flatF_len hok, hl], .inr ⟨g, cap, _, by rw [hl, v2], hb, hB', by rw [hl]; exact hnc, hmx, by simpa using hcs, by
      rw [hl, hf, ← htk]
      show List.take _ (cur.toList.set m v) = _
      rw [List.take_set]⟩⟩, hS1⟩ (fun k hk _ => hk)
  refine wpl_skip (w' := w.setRow g (cur.toList.set m v).toArray) (oneS hg) (by
    unfold execOp
    simp only [ho, e1, e2, SV.den, SQ.den, SC.den, hst, Sem.run_bind, Sem.run_pure, Result.andThen_ok]) ?_
  rw [hd]
  exact hc _ _ ⟨G, S'', f1, f2, h12⟩
/-- An empty literal. -/
theorem l_list0 (lo : Nat) (fe : α → SQ) (hg : o.guard = none) (hd : o.dst = some k) (hk : Nat.blt k N = true) (ho : o.op = .buildSlice t 0 #[]) (hlo : lo ≤ b.B.heap.size)
    (hr : ∀ w : World, (Instr.buildSlice t 0 #[]).run P w = .ok (.slice (some ⟨w.heap.size, 0, none⟩) 0 0) (w.alloc (.cells #[] e)))
    (hc : ∀ A, lS P b ops Q N rest ⟨(k, .v (.slice A 0 0)) :: E, L, OwnS lo e sz fe A 0 [] :: R, F, M⟩) : lS P b ops Q N (o :: rest) ⟨E, L, R, F, M⟩ := fun a w ⟨G, S, h1, h2, h3⟩ => by
  refine wpl_go (v := .slice (some ⟨w.heap.size, 0, none⟩) 0 0) (w' := w.alloc (.cells #[] e)) (oneS hg) (by
    unfold execOp
    simp only [ho, List.map_toArray, List.map_nil, Sem.run_bind, hr, Result.andThen_ok, Sem.run_pure]) ?_
  rw [hd]
  obtain ⟨S', h4⟩ := h3.gain ((Below.refl w.heap.size w).alloc (Nat.le_refl _) (.cells #[] e)) (OwnS.new (lo := lo) (e := e) (k := sz) (fe := fe) (l := []) w (Nat.le_trans hlo h3.chg.size) (fun _ h => (by cases h)) (Nat.zero_le _)) (fun j hj => Nat.le_of_eq hj.symm)
  exact hc _ _ _ ⟨G, S', h1.put hk _, h2.cons trivial, h4⟩
/-- append(s, x...), s one's own. -/
theorem l_appY {A2 : Option Addr} {n c2 : Nat} (hT : OkT P T) (i : Nat) (m : List α) (hg : o.guard = none) (hd : o.dst = some k) (hk : Nat.blt k N = true) (ho : o.op = .call { callee := .builtin .append, args := #[x, y], argTypes := #[t, t] }) (hs : slS T t = some (e, sz, bs)) (hx : evS E x = some (.v (.slice A n c))) (hy : evS E y = some (.v (.slice A2 m.length c2)))
    (hi : R[i]? = some (OwnS lo e sz fe A c l)) (hn : n = l.length) (hrd : ∀ G S w, View G S L R F M w → Rd sz fe A2 c2 m w) (h0 : 0 < sz) (hb : (l.length + m.length) * bs ≤ 140737488355328) (hm : l.length + m.length ≤ 9223372036854775807 - 64) (hlo : lo ≤ b.B.heap.size)
    (hc : ∀ A' c', lS P b ops Q N rest ⟨(k, .v (.slice A' (l ++ m).length c')) :: E, L, R.set i (OwnS lo e sz fe A' c' (l ++ m)), F, M⟩) : lS P b ops Q N (o :: rest) ⟨E, L, R, F, M⟩ := fun a w ⟨G, S, f1, f2, f3⟩ => by
  have hR := hrd G S w f3.view
  obtain ⟨S1, h5, hput⟩ := f3.put hi
  have e1 := f1.eval (evS_ok hx)
  have e2 := f1.eval (evS_ok hy)
  subst hn
  have key : ∃ A' c' w' S', (Builtin.append_ #[t, t] o.type #[.slice A l.length c, .slice A2 m.length c2]).run P w = .ok (.slice A' (l ++ m).length c') w' ∧ Chg S1 w w' ∧ (OwnS lo e sz fe A' c' (l ++ m)).holds w' S' ∧ ∀ k, S' k → k < w.heap.size → S1 k := by
    cases hA2 : A2 with
    | none =>
      have hc2 := hR.2.2.1 hA2
      have hml : m = [] := List.eq_nil_of_length_eq_zero (by have := hR.1; omega)
      subst hml
      subst hc2
      obtain ⟨ht, ie, zz, hie, hz, hsz, hbs, hzs, _⟩ := slS_ok hT hs
      have hr := run_append_owned_none (P := P) w lo t o.type e ie sz ht hie _ l.length (flatF fe l) h5.2.1
      refine ⟨A, c, w, S1, by rw [List.append_nil]; exact hr, Chg.refl _ _, by rw [List.append_nil]; exact h5, fun _ h _ => h⟩
    | some ad =>
      refine OwnS.grow hT (d := c2) (ad := ad) o.type hs h0 h5 hR.2.2.2.1 (fun j v hj => ?_) hb hm (Nat.le_trans hlo f3.chg.size)
      have hlen := flatF_len hR.2.2.2.1
      have hjl := (List.getElem?_eq_some_iff.1 hj).1
      have hml : 0 < m.length := by
        rcases Nat.eq_zero_or_pos m.length with h | h
        · rw [hlen, h, Nat.zero_mul] at hjl
          omega
        · exact h
      obtain ⟨bb, oo, e, _, hcell⟩ := hR.2.2.2.2 hml
      rw [hA2] at e
      injection e with e
      subst e
      have hq : j / sz < m.length := by
        rw [hlen] at hjl
        exact Nat.div_lt_of_lt_mul (by rwa [Nat.mul_comm] at hjl)
      obtain ⟨B, Z, h9, h10, _⟩ := flatF_split hR.2.2.2.1 (List.getElem?_eq_getElem hq)
      have hmod := Nat.div_add_mod j sz
      have hlt := Nat.mod_lt j h0
      have hcl := (hR.2.2.2.1 _ (List.getElem_mem hq)).2
      have hv : (fe m[j / sz]).cl[j % sz]? = some v := by
        rw [h9, List.getElem?_append_right (by omega), h10, List.getElem?_append_left (by omega)] at hj
        rwa [show j - sz * (j / sz) = j % sz by omega] at hj
      have := hcell (j / sz) _ (List.getElem?_eq_getElem hq) (j % sz) v hv
      rw [Addr.add_mid]
      rwa [Nat.add_assoc, hmod] at this
  obtain ⟨A', c', w', S', hr, hch, ho', hS'⟩ := key
  obtain ⟨S'', h6⟩ := hput _ _ _ hch ho' hS'
  refine wpl_go (v := .slice A' (l ++ m).length c') (w' := w') (oneS hg) (by
    unfold execOp
    simp only [ho, resolve, invoke, builtin, Sem.run_bind, Sem.run_pure, Result.andThen_ok, List.map_toArray, List.map_cons, List.map_nil, e1, e2, SV.den, SQ.den, SC.den, hr]) ?_
  rw [hd]
  exact hc A' c' _ _ ⟨G, S'', f1.put hk _, f2.cons trivial, h6⟩
end
section
variable {α : Type} {P : Program} {T : List TyR} {b : Base} {ops : Array Oper} {Q : Exit → Act → World → Prop} {N : Nat} {E : SE} {L : List LV} {R : List Res} {F M : World → Prop} {T' : List Oper} {G : Nat → Nat} {S : Nat → Prop} {w0 : World} {rest : List (Nat × Oper)} {o : Oper} {i k sz bs : Nat} {t e : TypeId} {z : Operand}
/-- A step whose value hangs on what can be seen, the order drawn. -/
theorem g_opV (hst : StW b G S L R F M w0) (v : SV) (hv : v.Ok) (hg : o.guard = none) (hd : o.dst = some k) (hk : Nat.blt k N = true) (h : ∀ (G : Nat → Nat) (S : Nat → Prop) (a : Act) (w : World), Fr N (denE G E) a → View G S L R F M w → (execOp a.eval o).run P w = .ok (.value (v.den G)) w)
    (hn : gS P b ops Q N T' G w0 rest ((k, v) :: E)) : gS P b ops Q N T' G w0 ((i, o) :: rest) E := fun hE =>
  g_op rfl (fun a ha => b_val (by simp [Region.wanted, hg]) (fun w hw => h G S a w ha (hst.later hw.1).view) (by
    rw [hd]
    exact g_go (o := o) (hn (hE.cons hv)) _ (ha.put hk _)))
/-- The last of the drawn operations lays one element out. -/
theorem g_list1 {q : SQ} (hT : OkT P T) (hst : StW b G S L R F M w0) (fe : α → SQ) (x : α) (hg : o.guard = none) (hd : o.dst = some k) (hk : Nat.blt k N = true) (ho : o.op = .buildSlice t 1 #[(0, z)]) (hs : slS T t = some (e, sz, bs)) (hz : evS E z = some (.q q)) (hq : fe x = q) (hx : OkP (fe x).parts1 ∧ (fe x).cl.length = sz) (h0 : 0 < sz) (h24 : sz ≤ 16777216)
    (hn : ∀ g, lS P b ops Q N T' ⟨(k, .v (.slice (some ⟨g, 0, none⟩) 1 1)) :: E, L, R, F, fun w => Rd sz fe (some ⟨g, 0, none⟩) 1 [x] w ∧ M w⟩) : gS P b ops Q N T' G w0 [(i, o)] E := fun hE => by
  have hok : OkF sz fe [x] := fun y hy => by rw [List.mem_singleton.1 hy]; exact hx
  refine g_mem (fun v w => ∃ g, v = .slice (some ⟨g, 0, none⟩) 1 1 ∧ w0.heap.size ≤ g ∧ Rd sz fe (some ⟨g, 0, none⟩) 1 [x] w) hg hd hk rfl (by rw [ho]; rfl) (fun v w w' ⟨g, h1, h2, h3⟩ hb => ⟨g, h1, h2, h3.later hb⟩) (fun a ha w hw _ => ?_) fun v w hw hV => ?_
  · obtain ⟨ht, ie, zz, hie, hz', hsz, hbs, hzs, _⟩ := slS_ok hT hs
    have e1 := ha.eval (evS_ok hz)
    have hr := run_lit (P := P) ht hie hz' hsz [(fe x).den] 1 #[(0, a.eval z)] (by rw [e1, ← hq]; rfl) rfl (by omega) (by omega) (fun v hv => by
      rw [List.mem_singleton.1 hv]
      have := hx.2
      rwa [SQ.cl, Array.length_toList] at this) w
    have e2 : ([(fe x).den].flatMap fun v => v.cells.toList) = flatF fe [x] := by simp [flatF, SQ.cl]
    rw [e2] at hr
    unfold execOp
    simp only [ho, List.map_toArray, List.map_cons, List.map_nil, Sem.run_bind, hr, Result.andThen_ok, Sem.run_pure]
    exact ⟨(Below.refl w.heap.size w).alloc (Nat.le_refl _) _, w.heap.size, rfl, hw.size, OwnS.rd (OwnS.new (lo := 0) (e := e) w (Nat.zero_le _) hok (by simp))⟩
  · obtain ⟨g, rfl, hge, _⟩ := hV
    refine g_end fun w1 hw1 hf a ha => ?_
    have h1 := hf i _ (show lookP [(i, _)] i = some _ by unfold lookP; rw [Nat.beq_refl])
    obtain ⟨g', e1, _, h3⟩ := h1
    injection e1 with e1
    injection e1 with e1
    injection e1 with e1
    subst e1
    have h5 := hst.later hw1
    refine hn g a w1 ⟨G, S, ha, hE.cons trivial, h5.andM fun w2 hw2 => h3.keep hw2.size fun g0 e hlt => hw2.block g0 hlt fun hx => ?_⟩
    simp only [Option.map_some, Option.some.injEq] at e
    subst e
    rcases hx with hx | hx
    · exact Nat.lt_irrefl _ (Nat.lt_of_lt_of_le hx (Nat.le_trans hst.chg.size hge))
    · exact Nat.lt_irrefl _ (Nat.lt_of_lt_of_le (hst.lt _ hx) hge)
end
/-- A byte of a row in a slice of rows. -/
theorem flat_setY {n : Nat} {l : List (List UInt8)} {i j : Nat} {s : List UInt8} (h : OkF n (eY n) l) (hi : l[i]? = some s) (hj : j < s.length) (v : UInt8) :
    (flatF (eY n) l)[n * i + j]? = some (.int .u8 (s[j].toNat : Int)) ∧ flatF (eY n) (l.set i (s.set j v)) = (flatF (eY n) l).set (n * i + j) (.int .u8 (v.toNat : Int)) := by
  obtain ⟨B, Z, h9, h10, h11⟩ := flatF_split h hi
  have hcl : ∀ s : List UInt8, (eY n s).cl = By s := fun s => rfl
  rw [h11, h9, hcl, hcl]
  have hbl : (By s).length = s.length := By_len s
  constructor
  · rw [List.getElem?_append_right (by omega), h10, Nat.add_sub_cancel_left, List.getElem?_append_left (by omega)]
    have := By_at? hj
    rwa [getElem!_pos s j hj] at this
  · rw [List.set_append_right _ _ (by omega), h10, Nat.add_sub_cancel_left, List.set_append_left _ _ (by omega)]
    congr 2
    exact List.map_set
end Go.Proofs.Ythkbejheedffjaa
/-
  MORE STEPS, over states: remainders by what is known, bytes that are turned.
-/
namespace Go.Proofs.Ythkbejheedffjaa
open Go.RowKit Go.IntWalk

/-- A number of 64 bits, modulo a small one. -/
theorem wrapU_mod (f : Int) (m : Nat) (h0 : 0 < m) (hm : m ≤ 4294967296) : ∃ k : Nat, k < m ∧ k = (IntKind.u64.wrap f).toNat % m ∧ IntKind.i64.wrap ((IntKind.u64.wrap f).tmod (m : Int)) = (k : Int) := by
  have h1 : 0 ≤ IntKind.u64.wrap f := by show 0 ≤ f % 18446744073709551616; omega
  refine ⟨(IntKind.u64.wrap f).toNat % m, Nat.mod_lt _ h0, rfl, ?_⟩
  have h2 : (IntKind.u64.wrap f).tmod (m : Int) = (((IntKind.u64.wrap f).toNat % m : Nat) : Int) := by
    rw [Int.tmod_eq_emod_of_nonneg h1, Int.natCast_emod, Int.toNat_of_nonneg h1]
  have h3 := Nat.mod_lt (IntKind.u64.wrap f).toNat h0
  exact wrapI h2 (by omega) (by omega)
theorem wrapU {m r : Int} (h : m = r) (h1 : 0 ≤ r) (h2 : r < 18446744073709551616) : IntKind.u64.wrap m = r := by
  subst h
  show m % 18446744073709551616 = m
  omega
theorem run_remU {N : Nat} {E : SE} {o : Oper} {x y : Operand} {t' : TypeId} {m n : Int} (hz : n ≠ 0) (ho : o.op = .binOp .rem 35 x y t') (hx : evS E x = some (.v (.int .u64 m))) (hy : evS E y = some (.v (.int .u64 n))) :
    ∀ (G : Nat → Nat) (a : Act) (w : World), Fr N (denE G E) a → (execOp a.eval o).run Try.prog w = .ok (.value ((SV.v (.int .u64 (m.tmod n))).den G)) w := fun G a w ha => by
  have h1 : a.eval x = .int .u64 m := ha.eval (evS_ok hx)
  have h2 : a.eval y = .int .u64 n := ha.eval (evS_ok hy)
  unfold execOp
  simp only [ho, h1, h2]
  show _ = Result.ok (Next.value (.int .u64 (m.tmod n))) w
  go_simp
theorem byte_z {z : Int} (h : 0 ≤ z ∧ z < 256) : ∃ y : UInt8, z = (y.toNat : Int) := ⟨UInt8.ofNat z.toNat, by rw [UInt8.toNat_ofNat']; omega⟩
theorem xor_b1 (a : UInt8) : ∃ y : UInt8, bits .xor .u8 (a.toNat : Int) 1 = (y.toNat : Int) := by
  have key : ∀ m : Nat, m < 256 → 0 ≤ bits .xor .u8 (m : Int) 1 ∧ bits .xor .u8 (m : Int) 1 < 256 := by decide +kernel
  exact byte_z (key a.toNat a.toNat_lt)
theorem xor_b4 (a : UInt8) : ∃ y : UInt8, bits .xor .u8 (a.toNat : Int) 4 = (y.toNat : Int) := by
  have key : ∀ m : Nat, m < 256 → 0 ≤ bits .xor .u8 (m : Int) 4 ∧ bits .xor .u8 (m : Int) 4 < 256 := by decide +kernel
  exact byte_z (key a.toNat a.toNat_lt)
theorem sh_at {s : SC} {l : List UInt8} {j : Nat} (hj : j < l.length) : (catP [.one s, .agg 64 (By l).toArray])[1 + j]? = some (.int .u8 (l[j].toNat : Int)) := by
  have h1 := By_at? hj
  rw [getElem!_pos l j hj] at h1
  show (#[s.den] ++ (By l).toArray)[1 + j]? = _
  rw [Array.getElem?_append_right (by simp)]
  simpa using h1
theorem sh_set {s : SC} {l : List UInt8} {j : Nat} (y : UInt8) : (catP [.one s, .agg 64 (By (l.set j y)).toArray]).toList = (catP [.one s, .agg 64 (By l).toArray]).toList.set (1 + j) (.int .u8 (y.toNat : Int)) := by
  have h : ∀ l : List UInt8, (catP [.one s, .agg 64 (By l).toArray]).toList = s.den :: By l := fun l => by
    show (#[s.den] ++ (By l).toArray).toList = _
    simp
  have e : By (l.set j y) = (By l).set j (.int .u8 (y.toNat : Int)) := List.map_set
  rw [h, h, Nat.add_comm, List.set_cons_succ, e]
theorem tmod_nat (f : Int) (m : Nat) (h0 : 0 < m) : ∃ k : Nat, k < m ∧ (IntKind.u64.wrap f).tmod (m : Int) = (k : Int) := by
  have h1 : 0 ≤ IntKind.u64.wrap f := by show 0 ≤ f % 18446744073709551616; omega
  exact ⟨(IntKind.u64.wrap f).toNat % m, Nat.mod_lt _ h0, by rw [Int.tmod_eq_emod_of_nonneg h1, Int.natCast_emod, Int.toNat_of_nonneg h1]⟩
section
variable {α : Type} {fe : α → SQ} {l : List α} {P : Program} {b : Base} {ops : Array Oper} {Q : Exit → Act → World → Prop} {N : Nat} {E : SE} {L : List LV} {R : List Res} {F M : World → Prop} {e : TypeId} {A : Option Addr} {lo c sz : Nat}
/-- What hangs on a step that was left out is left out. -/
theorem l_skipU {o : Oper} {rest : List Oper} {j t k : Nat} {q : Bool} (hgd : o.guard = some (j, q)) (hj : (ops[j]?).bind (·.dst) = some t) (hN : Nat.blt t N = true) (ht : lookS E t = some (.v undef)) (hd : o.dst = some k) (hk : Nat.blt k N = true)
    (hn : lS P b ops Q N rest ⟨(k, .v undef) :: E, L, R, F, M⟩) : lS P b ops Q N (o :: rest) ⟨E, L, R, F, M⟩ := fun a w ⟨G, S, h1, h2, h3⟩ => by
  have hw : Region.wanted o (yielded ops a.tmps) = false := by
    have h4 := h1.get t undef (by rw [look_den, ht]; rfl)
    have htN : t < a.tmps.size := by rw [h1.size]; simpa using hN
    simp only [Act.eval, Array.getD_eq_getD_getElem?] at h4
    have h5 : a.tmps[t]? = some undef := by
      rw [Array.getElem?_eq_getElem htN] at h4 ⊢
      simpa using h4
    unfold Region.wanted
    rw [hgd]
    simp [yielded, hj, h5, undef]
  unfold wpList
  rw [hw, if_neg (by decide), hd]
  exact hn _ w ⟨G, S, h1.put hk undef, h2.cons trivial, h3⟩
/-- Where a slice of one's own lies. -/
theorem s_where {y : Code} (i : Nat) (hi : R[i]? = some (OwnS lo e sz fe A c l)) (h0 : 0 < l.length) (h : ∀ g, A = some ⟨g, 0, none⟩ → cS P b y Q N ⟨E, L, R, F, M⟩) : cS P b y Q N ⟨E, L, R, F, M⟩ := fun a w ⟨G, S, h1, h2, h3⟩ => by
  obtain ⟨S1, ⟨_, hrow, _⟩, _⟩ := h3.put hi
  rcases hrow.2 with ⟨_, h7⟩ | ⟨g, cap, cur, hv, _⟩
  · omega
  injection hv with v1 _ _
  exact h g v1 a w ⟨G, S, h1, h2, h3⟩
/-- What is known of a slice of one's own, whatever the world. -/
theorem s_own {y : Code} (i : Nat) (hi : R[i]? = some (OwnS lo e sz fe A c l)) (h : OkF sz fe l → l.length ≤ c → (A = none → c = 0) → cS P b y Q N ⟨E, L, R, F, M⟩) : cS P b y Q N ⟨E, L, R, F, M⟩ := fun a w ⟨G, S, h1, h2, h3⟩ => by
  obtain ⟨S1, h5, _⟩ := h3.put hi
  have hr := OwnS.rd h5
  exact h hr.2.2.2.1 hr.1 hr.2.2.1 a w ⟨G, S, h1, h2, h3⟩
theorem OwnS.cut {w : World} {S : Nat → Prop} (h : (OwnS lo e sz fe A c l).holds w S) (m : Nat) : (OwnS lo e sz fe A c (l.take m)).holds w S := by
  obtain ⟨h1, h2, h3⟩ := h
  have hok : OkF sz fe (l.take m) := fun x hx => h1 x (List.mem_of_mem_take hx)
  refine ⟨hok, ⟨flatF_len hok, ?_⟩, h3⟩
  rcases h2.2 with ⟨h4, h5⟩ | ⟨g, cap, cur, hv, hb, hg, hnc, hm, hs, ht⟩
  · have hl := List.eq_nil_of_length_eq_zero h5
    subst hl
    exact .inl ⟨by simpa using h4, by simp⟩
  · injection hv with v1 _ v3
    refine .inr ⟨g, cap, cur, by rw [v1, v3], hb, hg, Nat.le_trans (List.length_take_le' _ _) hnc, hm, hs, ?_⟩
    have e1 : flatF fe l = flatF fe (l.take m) ++ flatF fe (l.drop m) := by rw [← flatF_app, List.take_append_drop]
    have e2 : (flatF fe (l.take m)).length = (l.take m).length * sz := flatF_len hok
    have e3 : (l.take m).length * sz ≤ l.length * sz := Nat.mul_le_mul_right _ (List.length_take_le' _ _)
    have e4 := congrArg (List.take ((l.take m).length * sz)) ht
    rw [List.take_take, Nat.min_eq_left e3, e1, ← e2, List.take_left] at e4
    rw [← e2]
    exact e4
/-- Of a slice of one's own the first m are wanted from here on. -/
theorem l_cutR {l' : List Oper} (i m : Nat) (hi : R[i]? = some (OwnS lo e sz fe A c l)) (h : lS P b ops Q N l' ⟨E, L, R.set i (OwnS lo e sz fe A c (l.take m)), F, M⟩) : lS P b ops Q N l' ⟨E, L, R, F, M⟩ := fun a w ⟨G, S, h1, h2, h3⟩ => by
  obtain ⟨S1, h5, hput⟩ := h3.put hi
  obtain ⟨S', h6⟩ := hput _ w S1 (Chg.refl _ _) (OwnS.cut h5 m) (fun _ h _ => h)
  exact h a w ⟨G, S', h1, h2, h6⟩
end
/-- A bool that is seen. -/
def eV (t : Bool) : SQ := .c (.v (.bool t))
theorem eV_ok (t : Bool) : OkP (eV t).parts1 ∧ (eV t).cl.length = 1 := ⟨fun p hp => by rw [List.mem_singleton.1 hp]; exact ⟨trivial, rfl, rfl⟩, rfl⟩
end Go.Proofs.Ythkbejheedffjaa
/-
  OBJECTS, over states: written behind pointers; variables that are handed out as objects; slices cut at their begin.
-/
namespace Go.Proofs.Ythkbejheedffjaa
open Go.RowKit Go.IntWalk

section
variable {P : Program} {T : List TyR} {b : Base} {ops : Array Oper} {Q : Exit → Act → World → Prop} {N : Nat} {E E' : SE} {L : List LV} {R : List Res} {F M : World → Prop} {o : Oper} {rest : List Oper} {k : Nat} {t ty : TypeId} {x z : Operand} {off g : Nat} {ps ps' : List Pt} {q : SQ}
/-- What lies behind a pointer of one's own is written. -/
theorem l_stO (hT : OkT P T) (i : Nat) (hi : R[i]? = some (ObjS g ty ps)) (hg : o.guard = none) (hd : o.dst = none) (ho : o.op = .store t x z) (hx : evS E x = some (.v (.pointer (some ⟨g, off, none⟩)))) (hz : evS E z = some (.q q)) (hs : storeS T ps t off q = some ps')
    (hn : lS P b ops Q N rest ⟨E, L, R.set i (ObjS g ty ps'), F, M⟩) : lS P b ops Q N (o :: rest) ⟨E, L, R, F, M⟩ := fun a w ⟨G, S, f1, f2, f3⟩ => by
  obtain ⟨S1, ⟨⟨hb, hok⟩, hS1⟩, hput⟩ := f3.put hi
  have e1 : a.eval x = .pointer (some ⟨g, off, none⟩) := f1.eval (evS_ok hx)
  have e2 : a.eval z = q.den := f1.eval (evS_ok hz)
  obtain ⟨h3, h4⟩ := storeS_ok hT hok (f2.ev hz) hs
  obtain ⟨S'', h6⟩ := hput (ObjS g ty ps') (w.setRow g (catP ps')) S1 ((Chg.row w g _).mono fun k _ hk => (hS1 k).2 hk) ⟨⟨hb.row _, h3⟩, hS1⟩ (fun k hk _ => hk)
  refine wpl_skip (w' := w.setRow g (catP ps')) (oneS hg) (by
    unfold execOp
    simp only [ho, e1, e2, h4 hb, Sem.run_bind, Sem.run_pure, Result.andThen_ok]) ?_
  rw [hd]
  exact hn _ _ ⟨G, S'', f1, f2, h6⟩
theorem StW.give {G : Nat → Nat} {S : Nat → Prop} {y : LV} {w : World} (h : StW b G S (y :: L) R F M w) : StW b G (fun k => k = G y.j ∨ S k) L (ObjS (G y.j) y.t y.ps :: R) F M w := by
  have hM : ∀ k, Mine (fun k => k = G y.j ∨ S k) G L k → Mine S G (y :: L) k := fun k hk => by
    rcases hk with (rfl | hk) | ⟨j, hj, rfl⟩
    · exact .inr ⟨y.j, List.mem_cons_self, rfl⟩
    · exact .inl hk
    · exact .inr ⟨j, List.mem_cons_of_mem _ hj, rfl⟩
  have hy := h.var y List.mem_cons_self
  have hap := List.pairwise_cons.1 (show (y.j :: namesL L).Pairwise fun i j => G i ≠ G j from h.apart)
  refine ⟨fun x hx => h.var x (List.mem_cons_of_mem _ hx), hap.2, ⟨fun k => k = G y.j, S, ⟨⟨hy.1, hy.2.1⟩, fun _ => Iff.rfl⟩, h.res, fun _ => Iff.rfl, fun k hk hs => h.sep y.j List.mem_cons_self (by rw [← hk]; exact hs)⟩, fun j hj hs => ?_, h.fact.less fun k _ hk => hk.imp id (hM k), h.fresh.less fun k _ hk => hk.imp id (hM k), h.chg, fun k hk => h.mine k (hM k hk), h.old⟩
  rcases hs with hs | hs
  · exact hap.1 j hj hs.symm
  · exact h.sep j (List.mem_cons_of_mem _ hj) hs
/-- The newest variable is an object from here on. -/
theorem k_give {K : Act → World → Prop} {y : LV} (i : Nat) (hx : lookS E i = some (.a y.j 0)) (hs : SubS E' E) (h : ∀ g, kS b K N ⟨(i, .v (.pointer (some ⟨g, 0, none⟩))) :: E', L, ObjS g y.t y.ps :: R, F, M⟩) : kS b K N ⟨E, y :: L, R, F, M⟩ := fun a w ⟨G, S, h1, h2, h3⟩ => by
  refine h (G y.j) a w ⟨G, _, ?_, (hs.ok h2).cons trivial, h3.give⟩
  exact (h1.sub (denE_sub hs)).more (h1.get i _ (by rw [look_den, hx]; rfl))
end
/-- The address behind a cut at the begin. -/
def cutA (A : Option Addr) (c n : Nat) : Option Addr := if c = n then A else A.map (·.add n)
theorem Rd.part {A : Option Addr} {c n : Nat} {l : List UInt8} {w : World} (h : Rd 1 eB A c l w) (hn : n ≤ l.length) : Rd 1 eB (cutA A c n) (c - n) (l.drop n) w := by
  have h1 := h.sl.part (n := l.length - n) hn
  rw [List.take_of_length_le (by rw [List.length_drop]; exact Nat.le_refl _)] at h1
  exact Rd.of_sl h1
section
variable {N : Nat} {E : SE} {o : Oper} {x y : Operand} {t : TypeId}
/-- A cut at the begin: s[j:] of bytes. -/
theorem run_cutLo {A : Option Addr} {n c j : Nat} (hj : j ≤ n) (hc : n ≤ c) (hA : A = none → c = 0) (ho : o.op = .slice 32 x (some y) none none) (hx : evS E x = some (.v (.slice A n c))) (hy : evS E y = some (.v (.int .i64 (j : Int)))) :
    ∀ (G : Nat → Nat) (a : Act) (w : World), Fr N (denE G E) a → (execOp a.eval o).run Try.prog w = .ok (.value ((SV.v (.slice (cutA A c j) (n - j) (c - j))).den G)) w := fun G a w ha => by
  have h1 : a.eval x = .slice A n c := ha.eval (evS_ok hx)
  have h2 : a.eval y = .int .i64 (j : Int) := ha.eval (evS_ok hy)
  have h3 : (j : Int) ≤ (n : Int) := by omega
  have h4 : (0 : Int) ≤ (j : Int) := by omega
  have h5 : (n : Int) ≤ (c : Int) := by omega
  unfold execOp
  simp only [ho]
  generalize a.eval = ρ at *
  simp only [Option.map, h1, h2]
  show _ = Result.ok (Next.value (.slice (cutA A c j) (n - j) (c - j))) w
  cases A with
  | none =>
    obtain rfl : c = 0 := hA rfl
    obtain rfl : n = 0 := by omega
    obtain rfl : j = 0 := by omega
    go_simp
    rfl
  | some ad =>
    unfold cutA
    by_cases e : c = j
    · rw [if_pos e]
      go_simp
    · rw [if_neg e]
      go_simp
end
section
variable {α : Type} {fe : α → SQ} {l : List α} {P : Program} {T : List TyR} {b : Base} {ops : Array Oper} {Q : Exit → Act → World → Prop} {N : Nat} {E : SE} {L : List LV} {R : List Res} {F M : World → Prop} {o : Oper} {rest : List Oper} {k : Nat} {t e : TypeId} {x z : Operand} {lo c sz g : Nat}
/-- A part of an element of a slice of one's own is written. -/
theorem l_stFd {q : SQ} (i j off n : Nat) (u u' : α) (hi : R[i]? = some (OwnS lo e sz fe (some ⟨g, 0, none⟩) c l)) (hg : o.guard = none) (hd : o.dst = none) (ho : o.op = .store t x z) (hx : evS E x = some (.v (.pointer (some ⟨g, sz * j + off, none⟩)))) (hz : evS E z = some (.q q)) (hj : l[j]? = some u) (ht : (P.info? t).map (·.size) = some n) (hn : q.cl.length = n) (hone : ∀ v ∈ q.cl, v.oneCell' = true)
    (hcl : (fe u').cl = (fe u).cl.take off ++ q.cl ++ (fe u).cl.drop (off + n)) (hfit : off + n ≤ sz) (hok' : OkP (fe u').parts1 ∧ (fe u').cl.length = sz)
    (hc : lS P b ops Q N rest ⟨E, L, R.set i (OwnS lo e sz fe (some ⟨g, 0, none⟩) c (l.set j u')), F, M⟩) : lS P b ops Q N (o :: rest) ⟨E, L, R, F, M⟩ := fun a w ⟨G, S, f1, f2, f3⟩ => by
  obtain ⟨S1, ⟨hokl, hrow, hS1⟩, hput⟩ := f3.put hi
  rcases hrow.2 with ⟨h6, h7⟩ | ⟨g', cap, cur, hv, hb, hg', hnc, hmx, hcs, htk⟩
  · injection h6 with h6
    cases h6
  injection hv with v1 _ v2
  injection v1 with v1
  injection v1 with v1
  subst v1
  have hB : Blk w g e cur := hg'
  have e1 : a.eval x = .pointer (some ⟨g, sz * j + off, none⟩) := f1.eval (evS_ok hx)
  have e2 : a.eval z = q.den := f1.eval (evS_ok hz)
  obtain ⟨B, Z, s1, s2, s3⟩ := flatF_split hokl hj
  have hul := (hokl u (List.mem_of_getElem? hj)).2
  have hfl : (flatF fe l).length = B.length + (sz + Z.length) := by rw [s1, List.length_append, List.length_append, hul]
  have hmc : sz * j + off + n ≤ cur.size := by
    have h1 : (flatF fe l).length ≤ cur.size := by
      rw [← htk, List.length_take, ← Array.length_toList]
      exact Nat.min_le_right _ _
    omega
  have hqs : q.den.cells.size = n := by rw [← hn]; exact (Array.length_toList).symm
  have hst := run_store_part (P := P) (t := t) (v := q.den) (off := sz * j + off) hB (by rw [ht, hqs]) (by rw [hqs]; exact hmc) hone
  rw [hqs] at hst
  have hB' := hB.row (cur.toList.take (sz * j + off) ++ q.den.cells.toList ++ cur.toList.drop (sz * j + off + n)).toArray
  have hok2 : OkF sz fe (l.set j u') := fun y hy => by
    rcases List.mem_or_eq_of_mem_set hy with h | rfl
    · exact hokl y h
    · exact hok'
  have hll : (l.set j u').length = l.length := List.length_set
  have hnew : flatF fe (l.set j u') = (flatF fe l).take (sz * j + off) ++ q.cl ++ (flatF fe l).drop (sz * j + off + n) := by
    rw [s3, s1, hcl, ← s2]
    have t1 : (B ++ ((fe u).cl ++ Z)).take (B.length + off) = B ++ (fe u).cl.take off := by
      rw [List.take_append, List.take_of_length_le (by omega), Nat.add_sub_cancel_left, List.take_append_of_le_length (by omega)]
    have t2 : (B ++ ((fe u).cl ++ Z)).drop (B.length + off + n) = (fe u).cl.drop (off + n) ++ Z := by
      rw [List.drop_append, List.drop_of_length_le (by omega), List.nil_append, show B.length + off + n - B.length = off + n by omega, List.drop_append_of_le_length (by omega)]
    rw [t1, t2]
    simp only [List.append_assoc]
  obtain ⟨S'', h12⟩ := hput (OwnS lo e sz fe (some ⟨g, 0, none⟩) c (l.set j u')) (w.setRow g (cur.toList.take (sz * j + off) ++ q.den.cells.toList ++ cur.toList.drop (sz * j + off + n)).toArray) S1 ((Chg.row w g _).mono fun k _ hk => (hS1 k).2 (by rw [hk]; rfl))
    ⟨hok2, ⟨by rw [flatF_len hok2], .inr ⟨g, cap, _, by rw [hll, v2], hb, hB', by rw [hll]; exact hnc, hmx, by
      have h1 : cur.toList.length = cur.size := Array.length_toList
      have h2 : q.den.cells.toList.length = n := by rw [Array.length_toList, hqs]
      rw [List.size_toArray, List.length_append, List.length_append, List.length_take, List.length_drop, h2, h1, ← hcs]
      omega, by
      have h1 : cur.toList.length = cur.size := Array.length_toList
      have h2 : q.den.cells.toList.length = n := by rw [Array.length_toList, hqs]
      have h3 : l.length * sz = (flatF fe l).length := (flatF_len hokl).symm
      rw [hll, hnew, h3]
      rw [h3] at htk
      show List.take _ (cur.toList.take (sz * j + off) ++ q.den.cells.toList ++ cur.toList.drop (sz * j + off + n)) = _
      rw [List.take_append, List.take_of_length_le (by rw [List.length_append, List.length_take, h2]; omega), List.length_append, List.length_take, h2, Nat.min_eq_left (by omega)]
      conv => rhs; rw [← htk]
      rw [List.take_take, Nat.min_eq_left (by omega), List.drop_take]
      rfl⟩⟩, hS1⟩ (fun k hk _ => hk)
  refine wpl_skip (w' := w.setRow g (cur.toList.take (sz * j + off) ++ q.den.cells.toList ++ cur.toList.drop (sz * j + off + n)).toArray) (oneS hg) (by
    unfold execOp
    simp only [ho, e1, e2, hst, Sem.run_bind, Sem.run_pure, Result.andThen_ok]) ?_
  rw [hd]
  exact hc _ _ ⟨G, S'', f1, f2, h12⟩
end
end Go.Proofs.Ythkbejheedffjaa
