/-
  SEVERAL TEXTS IN ONE: Vo, Vq, Vr, Vt, Vu, Vx, Vz, Tup, CqT, CqL, Curve, Root, Pack.
-/
import Derived.Test.YtcbfalfkdnfelaaDoorMd
import Derived.Deep.RegionHeld3
import Derived.Laws.CopyOwn
import Derived.Test.YtcbfalfkdnfelaaDoorMb
import Derived.Test.YtcbfalfkdnfelaaDoorMa
/-
  CELLS WITHIN ROWS, over states: a byte of a variable's row, a byte of a row in a slice of one's own; a slice appended to one's own.
-/
namespace Go.Proofs.YtcbfalfkdnfelaaDoor
open Go.RowKit Go.IntWalk

theorem run_ixArr {P : Program} {t e : TypeId} {n sz : Nat} (ht : P.underlying t = some (.array n e)) (he : (P.info? e).map (·.size) = some sz) (g o : Nat) (K : IntKind) (i : Nat) (hi : i < n) (w : World) :
    (Instr.indexAt t (.pointer (some ⟨g, o, none⟩)) (.int K (i : Int))).run P w = .ok (.pointer (some ⟨g, o + sz * i, none⟩)) w := by
  cases hq : P.info? e with
  | none => simp [hq] at he
  | some ie =>
    have hs : ie.size = sz := by simpa [hq] using he
    have h1 : (i : Int) < (n : Int) := by omega
    have h2 : (0 : Int) ≤ (i : Int) := by omega
    simp [Instr.indexAt, asIntOf, Instr.sureAddr, run_underlying ht, sizeOf, typeInfo, hq, hs, Addr.add_mid, Nat.mul_comm, hi]
section
variable {P : Program} {T : List TyR} {b : Base} {ops : Array Oper} {Q : Exit → Act → World → Prop} {N : Nat} {E : SE} {L : List LV} {R : List Res} {F M : World → Prop} {o : Oper} {rest : List Oper} {k : Nat} {t e : TypeId} {x y z : Operand} {K : IntKind} {j off n sz g : Nat}
/-- The address of a part of a variable's row. -/
theorem runO_ixA (i : Nat) (ho : o.op = .indexAddr t x y) (ht : P.underlying t = some (.array n e)) (he : (P.info? e).map (·.size) = some sz) (hx : evS E x = some (.a j off)) (hy : evS E y = some (.v (.int K (i : Int)))) (hi : i < n) :
    ∀ (G : Nat → Nat) (a : Act) (w : World), Fr N (denE G E) a → (execOp a.eval o).run P w = .ok (.value ((SV.a j (off + sz * i)).den G)) w := fun G a w ha => by
  have e1 := ha.eval (evS_ok hx)
  have e2 := ha.eval (evS_ok hy)
  unfold execOp
  simp only [ho, e1, e2, SV.den, SQ.den, SC.den, Sem.run_bind, run_ixArr ht he _ _ _ _ hi, Result.andThen_ok, Sem.run_pure]
/-- The address of a part of a row behind an address. -/
theorem runO_ixP (i : Nat) (ho : o.op = .indexAddr t x y) (ht : P.underlying t = some (.array n e)) (he : (P.info? e).map (·.size) = some sz) (hx : evS E x = some (.v (.pointer (some ⟨g, off, none⟩)))) (hy : evS E y = some (.v (.int K (i : Int)))) (hi : i < n) :
    ∀ (G : Nat → Nat) (a : Act) (w : World), Fr N (denE G E) a → (execOp a.eval o).run P w = .ok (.value ((SV.v (.pointer (some ⟨g, off + sz * i, none⟩))).den G)) w := fun G a w ha => by
  have e1 := ha.eval (evS_ok hx)
  have e2 := ha.eval (evS_ok hy)
  unfold execOp
  simp only [ho, e1, e2, SV.den, SQ.den, SC.den, Sem.run_bind, run_ixArr ht he _ _ _ _ hi, Result.andThen_ok, Sem.run_pure]
/-- The address of an element of a slice. -/
theorem runO_ixS {c : Nat} (i : Nat) (ho : o.op = .indexAddr t x y) (ht : P.underlying t = some (.slice e)) (he : (P.info? e).map (·.size) = some sz) (hx : evS E x = some (.v (.slice (some ⟨g, off, none⟩) n c))) (hy : evS E y = some (.v (.int K (i : Int)))) (hi : i < n) :
    ∀ (G : Nat → Nat) (a : Act) (w : World), Fr N (denE G E) a → (execOp a.eval o).run P w = .ok (.value ((SV.v (.pointer (some ⟨g, off + sz * i, none⟩))).den G)) w := fun G a w ha => by
  have e1 := ha.eval (evS_ok hx)
  have e2 := ha.eval (evS_ok hy)
  unfold execOp
  simp only [ho, e1, e2, SV.den, SQ.den, SC.den, Sem.run_bind, run_index ht he _ _ _ _ _ _ hi, Result.andThen_ok, Sem.run_pure]
/-- A cell of a variable is read. -/
theorem runO_ldA {d : TypeDesc} {ps : List Pt} (v : Value) (ho : o.op = .load t x) (hx : evS E x = some (.a j off)) (hl : lookL L j = some ps) (hv : (catP ps)[off]? = some v) (hu : P.underlying t = some d) (hr : d.isRow = false) :
    ∀ (G : Nat → Nat) (S : Nat → Prop) (a : Act) (w : World), Fr N (denE G E) a → View G S L R F M w → (execOp a.eval o).run P w = .ok (.value ((SV.v v).den G)) w := fun G S a w ha hvw => by
  obtain ⟨z, hz, rfl, rfl⟩ := lookL_mem hl
  have hb := (hvw.var z hz).1
  have hc : w.cell? ⟨G z.j, off, none⟩ = some v := by rw [hb.cell]; exact hv
  have e1 := ha.eval (evS_ok hx)
  unfold execOp
  simp only [ho, e1, SV.den, SQ.den, SC.den, run_load_cell hu hr hc, Sem.run_bind, Sem.run_pure, Result.andThen_ok]
/-- A cell of a variable is written. -/
theorem l_stA {ps : List Pt} {v : Value} (ps' : List Pt) (hg : o.guard = none) (hd : o.dst = none) (ho : o.op = .store t x z) (hx : evS E x = some (.a j off)) (hz : evS E z = some (.v v)) (hl : lookL L j = some ps) (ht : (P.info? t).map (·.size) = some 1) (h1 : v.cells = #[v]) (h2 : v.oneCell' = true) (hlt : off < (catP ps).size) (hp : OkP ps')
    (hs : (catP ps').toList = (catP ps).toList.set off v) (hn : lS P b ops Q N rest ⟨E, putL L j ps', R, F, M⟩) : lS P b ops Q N (o :: rest) ⟨E, L, R, F, M⟩ := fun a w ⟨G, S, f1, f2, f3⟩ => by
  obtain ⟨u, hu, rfl, rfl⟩ := lookL_mem hl
  have e1 := f1.eval (evS_ok hx)
  have e2 := f1.eval (evS_ok hz)
  have hst := run_store_part (P := P) (t := t) (v := v) (off := off) (f3.at u hu) (by rw [ht, h1]; rfl) (by rw [h1]; exact hlt) (by rw [h1]; intro u hu; simp at hu; subst hu; exact h2)
  have e3 : ((catP u.ps).toList.take off ++ v.cells.toList ++ (catP u.ps).toList.drop (off + v.cells.size)).toArray = catP ps' := by
    apply Array.ext'
    rw [hs, List.set_eq_take_append_cons_drop, if_pos (by simpa using hlt), h1]
    simp
  rw [e3] at hst
  refine wpl_skip (w' := w.setRow (G u.j) (catP ps')) (oneS hg) (by
    unfold execOp
    simp only [ho, e1, e2, SV.den, SQ.den, SC.den, hst, Sem.run_bind, Sem.run_pure, Result.andThen_ok]) ?_
  rw [hd]
  exact hn _ _ ⟨G, S, f1, f2, f3.set (lookL_name hl) hp⟩
end
section
variable {α : Type} {fe : α → SQ} {l : List α} {P : Program} {T : List TyR} {b : Base} {ops : Array Oper} {Q : Exit → Act → World → Prop} {N : Nat} {E : SE} {L : List LV} {R : List Res} {F M : World → Prop} {o : Oper} {rest : List Oper} {k : Nat} {t e : TypeId} {x y z : Operand} {A : Option Addr} {lo c sz bs g m : Nat}
/-- An empty literal. -/
theorem l_list0 (lo : Nat) (fe : α → SQ) (hg : o.guard = none) (hd : o.dst = some k) (hk : Nat.blt k N = true) (ho : o.op = .buildSlice t 0 #[]) (hlo : lo ≤ b.B.heap.size)
    (hr : ∀ w : World, (Instr.buildSlice t 0 #[]).run P w = .ok (.slice (some ⟨w.heap.size, 0, none⟩) 0 0) (w.alloc (.cells #[] e)))
    (hc : ∀ A, lS P b ops Q N rest ⟨(k, .v (.slice A 0 0)) :: E, L, OwnS lo e sz fe A 0 [] :: R, F, M⟩) : lS P b ops Q N (o :: rest) ⟨E, L, R, F, M⟩ := fun a w ⟨G, S, h1, h2, h3⟩ => by
  refine wpl_go (v := .slice (some ⟨w.heap.size, 0, none⟩) 0 0) (w' := w.alloc (.cells #[] e)) (oneS hg) (by
    unfold execOp
    simp only [ho, List.map_toArray, List.map_nil, Sem.run_bind, hr, Result.andThen_ok, Sem.run_pure]) ?_
  rw [hd]
  obtain ⟨S', h4⟩ := h3.gain ((Below.refl w.heap.size w).alloc (Nat.le_refl _) (.cells #[] e)) (OwnS.new (lo := lo) (e := e) (k := sz) (fe := fe) (l := []) w (Nat.le_trans hlo h3.chg.size) (fun _ h => (by cases h)) (Nat.zero_le _)) (fun j hj => Nat.le_of_eq hj.symm)
  exact hc _ _ _ ⟨G, S', h1.put hk _, h2.cons trivial, h4⟩
/-- append(s, x...), s one's own. -/
theorem l_appY {A2 : Option Addr} {n c2 : Nat} (hT : OkT P T) (i : Nat) (m : List α) (hg : o.guard = none) (hd : o.dst = some k) (hk : Nat.blt k N = true) (ho : o.op = .call { callee := .builtin .append, args := #[x, y], argTypes := #[t, t] }) (hs : slS T t = some (e, sz, bs)) (hx : evS E x = some (.v (.slice A n c))) (hy : evS E y = some (.v (.slice A2 m.length c2)))
    (hi : R[i]? = some (OwnS lo e sz fe A c l)) (hn : n = l.length) (hrd : ∀ G S w, View G S L R F M w → Rd sz fe A2 c2 m w) (h0 : 0 < sz) (hb : (l.length + m.length) * bs ≤ 140737488355328) (hm : l.length + m.length ≤ 9223372036854775807 - 64) (hlo : lo ≤ b.B.heap.size)
    (hc : ∀ A' c', lS P b ops Q N rest ⟨(k, .v (.slice A' (l ++ m).length c')) :: E, L, R.set i (OwnS lo e sz fe A' c' (l ++ m)), F, M⟩) : lS P b ops Q N (o :: rest) ⟨E, L, R, F, M⟩ := fun a w ⟨G, S, f1, f2, f3⟩ => by
  have hR := hrd G S w f3.view
  obtain ⟨S1, h5, hput⟩ := f3.put hi
  have e1 := f1.eval (evS_ok hx)
  have e2 := f1.eval (evS_ok hy)
  subst hn
  have key : ∃ A' c' w' S', (Builtin.append_ #[t, t] o.type #[.slice A l.length c, .slice A2 m.length c2]).run P w = .ok (.slice A' (l ++ m).length c') w' ∧ Chg S1 w w' ∧ (OwnS lo e sz fe A' c' (l ++ m)).holds w' S' ∧ ∀ k, S' k → k < w.heap.size → S1 k := by
    cases hA2 : A2 with
    | none =>
      have hc2 := hR.2.2.1 hA2
      have hml : m = [] := List.eq_nil_of_length_eq_zero (by have := hR.1; omega)
      subst hml
      subst hc2
      obtain ⟨ht, ie, zz, hie, hz, hsz, hbs, hzs, _⟩ := slS_ok hT hs
      have hr := run_append_owned_none (P := P) w lo t o.type e ie sz ht hie _ l.length (flatF fe l) h5.2.1
      refine ⟨A, c, w, S1, by rw [List.append_nil]; exact hr, Chg.refl _ _, by rw [List.append_nil]; exact h5, fun _ h _ => h⟩
    | some ad =>
      refine OwnS.grow hT (d := c2) (ad := ad) o.type hs h0 h5 hR.2.2.2.1 (fun j v hj => ?_) hb hm (Nat.le_trans hlo f3.chg.size)
      have hlen := flatF_len hR.2.2.2.1
      have hjl := (List.getElem?_eq_some_iff.1 hj).1
      have hml : 0 < m.length := by
        rcases Nat.eq_zero_or_pos m.length with h | h
        · rw [hlen, h, Nat.zero_mul] at hjl
          omega
        · exact h
      obtain ⟨bb, oo, e, _, hcell⟩ := hR.2.2.2.2 hml
      rw [hA2] at e
      injection e with e
      subst e
      have hq : j / sz < m.length := by
        rw [hlen] at hjl
        exact Nat.div_lt_of_lt_mul (by rwa [Nat.mul_comm] at hjl)
      obtain ⟨B, Z, h9, h10, _⟩ := flatF_split hR.2.2.2.1 (List.getElem?_eq_getElem hq)
      have hmod := Nat.div_add_mod j sz
      have hlt := Nat.mod_lt j h0
      have hcl := (hR.2.2.2.1 _ (List.getElem_mem hq)).2
      have hv : (fe m[j / sz]).cl[j % sz]? = some v := by
        rw [h9, List.getElem?_append_right (by omega), h10, List.getElem?_append_left (by omega)] at hj
        rwa [show j - sz * (j / sz) = j % sz by omega] at hj
      have := hcell (j / sz) _ (List.getElem?_eq_getElem hq) (j % sz) v hv
      rw [Addr.add_mid]
      rwa [Nat.add_assoc, hmod] at this
  obtain ⟨A', c', w', S', hr, hch, ho', hS'⟩ := key
  obtain ⟨S'', h6⟩ := hput _ _ _ hch ho' hS'
  refine wpl_go (v := .slice A' (l ++ m).length c') (w' := w') (oneS hg) (by
    unfold execOp
    simp only [ho, resolve, invoke, builtin, Sem.run_bind, Sem.run_pure, Result.andThen_ok, List.map_toArray, List.map_cons, List.map_nil, e1, e2, SV.den, SQ.den, SC.den, hr]) ?_
  rw [hd]
  exact hc A' c' _ _ ⟨G, S'', f1.put hk _, f2.cons trivial, h6⟩
end
end Go.Proofs.YtcbfalfkdnfelaaDoor
/-
  MORE STEPS, over states: remainders by what is known, bytes that are turned.
-/
namespace Go.Proofs.YtcbfalfkdnfelaaDoor
open Go.RowKit Go.IntWalk

/-- A number of 64 bits, modulo a small one. -/
theorem wrapU_mod (f : Int) (m : Nat) (h0 : 0 < m) (hm : m ≤ 4294967296) : ∃ k : Nat, k < m ∧ k = (IntKind.u64.wrap f).toNat % m ∧ IntKind.i64.wrap ((IntKind.u64.wrap f).tmod (m : Int)) = (k : Int) := by
  have h1 : 0 ≤ IntKind.u64.wrap f := by show 0 ≤ f % 18446744073709551616; omega
  refine ⟨(IntKind.u64.wrap f).toNat % m, Nat.mod_lt _ h0, rfl, ?_⟩
  have h2 : (IntKind.u64.wrap f).tmod (m : Int) = (((IntKind.u64.wrap f).toNat % m : Nat) : Int) := by
    rw [Int.tmod_eq_emod_of_nonneg h1, Int.natCast_emod, Int.toNat_of_nonneg h1]
  have h3 := Nat.mod_lt (IntKind.u64.wrap f).toNat h0
  exact wrapI h2 (by omega) (by omega)
theorem wrapU {m r : Int} (h : m = r) (h1 : 0 ≤ r) (h2 : r < 18446744073709551616) : IntKind.u64.wrap m = r := by
  subst h
  show m % 18446744073709551616 = m
  omega
theorem byte_z {z : Int} (h : 0 ≤ z ∧ z < 256) : ∃ y : UInt8, z = (y.toNat : Int) := ⟨UInt8.ofNat z.toNat, by rw [UInt8.toNat_ofNat']; omega⟩
theorem tmod_nat (f : Int) (m : Nat) (h0 : 0 < m) : ∃ k : Nat, k < m ∧ (IntKind.u64.wrap f).tmod (m : Int) = (k : Int) := by
  have h1 : 0 ≤ IntKind.u64.wrap f := by show 0 ≤ f % 18446744073709551616; omega
  exact ⟨(IntKind.u64.wrap f).toNat % m, Nat.mod_lt _ h0, by rw [Int.tmod_eq_emod_of_nonneg h1, Int.natCast_emod, Int.toNat_of_nonneg h1]⟩
section
variable {α : Type} {fe : α → SQ} {l : List α} {P : Program} {b : Base} {ops : Array Oper} {Q : Exit → Act → World → Prop} {N : Nat} {E : SE} {L : List LV} {R : List Res} {F M : World → Prop} {e : TypeId} {A : Option Addr} {lo c sz : Nat}
/-- What hangs on a step that was left out is left out. -/
theorem l_skipU {o : Oper} {rest : List Oper} {j t k : Nat} {q : Bool} (hgd : o.guard = some (j, q)) (hj : (ops[j]?).bind (·.dst) = some t) (hN : Nat.blt t N = true) (ht : lookS E t = some (.v undef)) (hd : o.dst = some k) (hk : Nat.blt k N = true)
    (hn : lS P b ops Q N rest ⟨(k, .v undef) :: E, L, R, F, M⟩) : lS P b ops Q N (o :: rest) ⟨E, L, R, F, M⟩ := fun a w ⟨G, S, h1, h2, h3⟩ => by
  have hw : Region.wanted o (yielded ops a.tmps) = false := by
    have h4 := h1.get t undef (by rw [look_den, ht]; rfl)
    have htN : t < a.tmps.size := by rw [h1.size]; simpa using hN
    simp only [Act.eval, Array.getD_eq_getD_getElem?] at h4
    have h5 : a.tmps[t]? = some undef := by
      rw [Array.getElem?_eq_getElem htN] at h4 ⊢
      simpa using h4
    unfold Region.wanted
    rw [hgd]
    simp [yielded, hj, h5, undef]
  unfold wpList
  rw [hw, if_neg (by decide), hd]
  exact hn _ w ⟨G, S, h1.put hk undef, h2.cons trivial, h3⟩
/-- What is known of a slice of one's own, whatever the world. -/
theorem s_own {y : Code} (i : Nat) (hi : R[i]? = some (OwnS lo e sz fe A c l)) (h : OkF sz fe l → l.length ≤ c → (A = none → c = 0) → cS P b y Q N ⟨E, L, R, F, M⟩) : cS P b y Q N ⟨E, L, R, F, M⟩ := fun a w ⟨G, S, h1, h2, h3⟩ => by
  obtain ⟨S1, h5, _⟩ := h3.put hi
  have hr := OwnS.rd h5
  exact h hr.2.2.2.1 hr.1 hr.2.2.1 a w ⟨G, S, h1, h2, h3⟩
theorem OwnS.cut {w : World} {S : Nat → Prop} (h : (OwnS lo e sz fe A c l).holds w S) (m : Nat) : (OwnS lo e sz fe A c (l.take m)).holds w S := by
  obtain ⟨h1, h2, h3⟩ := h
  have hok : OkF sz fe (l.take m) := fun x hx => h1 x (List.mem_of_mem_take hx)
  refine ⟨hok, ⟨flatF_len hok, ?_⟩, h3⟩
  rcases h2.2 with ⟨h4, h5⟩ | ⟨g, cap, cur, hv, hb, hg, hnc, hm, hs, ht⟩
  · have hl := List.eq_nil_of_length_eq_zero h5
    subst hl
    exact .inl ⟨by simpa using h4, by simp⟩
  · injection hv with v1 _ v3
    refine .inr ⟨g, cap, cur, by rw [v1, v3], hb, hg, Nat.le_trans (List.length_take_le' _ _) hnc, hm, hs, ?_⟩
    have e1 : flatF fe l = flatF fe (l.take m) ++ flatF fe (l.drop m) := by rw [← flatF_app, List.take_append_drop]
    have e2 : (flatF fe (l.take m)).length = (l.take m).length * sz := flatF_len hok
    have e3 : (l.take m).length * sz ≤ l.length * sz := Nat.mul_le_mul_right _ (List.length_take_le' _ _)
    have e4 := congrArg (List.take ((l.take m).length * sz)) ht
    rw [List.take_take, Nat.min_eq_left e3, e1, ← e2, List.take_left] at e4
    rw [← e2]
    exact e4
/-- Of a slice of one's own the first m are wanted from here on. -/
theorem l_cutR {l' : List Oper} (i m : Nat) (hi : R[i]? = some (OwnS lo e sz fe A c l)) (h : lS P b ops Q N l' ⟨E, L, R.set i (OwnS lo e sz fe A c (l.take m)), F, M⟩) : lS P b ops Q N l' ⟨E, L, R, F, M⟩ := fun a w ⟨G, S, h1, h2, h3⟩ => by
  obtain ⟨S1, h5, hput⟩ := h3.put hi
  obtain ⟨S', h6⟩ := hput _ w S1 (Chg.refl _ _) (OwnS.cut h5 m) (fun _ h _ => h)
  exact h a w ⟨G, S', h1, h2, h6⟩
end
end Go.Proofs.YtcbfalfkdnfelaaDoor
/-
  OBJECTS, over states: written behind pointers; variables that are handed out as objects; slices cut at their begin.
-/
namespace Go.Proofs.YtcbfalfkdnfelaaDoor
open Go.RowKit Go.IntWalk

section
variable {P : Program} {T : List TyR} {b : Base} {ops : Array Oper} {Q : Exit → Act → World → Prop} {N : Nat} {E E' : SE} {L : List LV} {R : List Res} {F M : World → Prop} {o : Oper} {rest : List Oper} {k : Nat} {t ty : TypeId} {x z : Operand} {off g : Nat} {ps ps' : List Pt} {q : SQ}
/-- What lies behind a pointer of one's own is written. -/
theorem l_stO (hT : OkT P T) (i : Nat) (hi : R[i]? = some (ObjS g ty ps)) (hg : o.guard = none) (hd : o.dst = none) (ho : o.op = .store t x z) (hx : evS E x = some (.v (.pointer (some ⟨g, off, none⟩)))) (hz : evS E z = some (.q q)) (hs : storeS T ps t off q = some ps')
    (hn : lS P b ops Q N rest ⟨E, L, R.set i (ObjS g ty ps'), F, M⟩) : lS P b ops Q N (o :: rest) ⟨E, L, R, F, M⟩ := fun a w ⟨G, S, f1, f2, f3⟩ => by
  obtain ⟨S1, ⟨⟨hb, hok⟩, hS1⟩, hput⟩ := f3.put hi
  have e1 : a.eval x = .pointer (some ⟨g, off, none⟩) := f1.eval (evS_ok hx)
  have e2 : a.eval z = q.den := f1.eval (evS_ok hz)
  obtain ⟨h3, h4⟩ := storeS_ok hT hok (f2.ev hz) hs
  obtain ⟨S'', h6⟩ := hput (ObjS g ty ps') (w.setRow g (catP ps')) S1 ((Chg.row w g _).mono fun k _ hk => (hS1 k).2 hk) ⟨⟨hb.row _, h3⟩, hS1⟩ (fun k hk _ => hk)
  refine wpl_skip (w' := w.setRow g (catP ps')) (oneS hg) (by
    unfold execOp
    simp only [ho, e1, e2, h4 hb, Sem.run_bind, Sem.run_pure, Result.andThen_ok]) ?_
  rw [hd]
  exact hn _ _ ⟨G, S'', f1, f2, h6⟩
theorem StW.give {G : Nat → Nat} {S : Nat → Prop} {y : LV} {w : World} (h : StW b G S (y :: L) R F M w) : StW b G (fun k => k = G y.j ∨ S k) L (ObjS (G y.j) y.t y.ps :: R) F M w := by
  have hM : ∀ k, Mine (fun k => k = G y.j ∨ S k) G L k → Mine S G (y :: L) k := fun k hk => by
    rcases hk with (rfl | hk) | ⟨j, hj, rfl⟩
    · exact .inr ⟨y.j, List.mem_cons_self, rfl⟩
    · exact .inl hk
    · exact .inr ⟨j, List.mem_cons_of_mem _ hj, rfl⟩
  have hy := h.var y List.mem_cons_self
  have hap := List.pairwise_cons.1 (show (y.j :: namesL L).Pairwise fun i j => G i ≠ G j from h.apart)
  refine ⟨fun x hx => h.var x (List.mem_cons_of_mem _ hx), hap.2, ⟨fun k => k = G y.j, S, ⟨⟨hy.1, hy.2.1⟩, fun _ => Iff.rfl⟩, h.res, fun _ => Iff.rfl, fun k hk hs => h.sep y.j List.mem_cons_self (by rw [← hk]; exact hs)⟩, fun j hj hs => ?_, h.fact.less fun k _ hk => hk.imp id (hM k), h.fresh.less fun k _ hk => hk.imp id (hM k), h.chg, fun k hk => h.mine k (hM k hk), h.old⟩
  rcases hs with hs | hs
  · exact hap.1 j hj hs.symm
  · exact h.sep j (List.mem_cons_of_mem _ hj) hs
/-- The newest variable is an object from here on. -/
theorem k_give {K : Act → World → Prop} {y : LV} (i : Nat) (hx : lookS E i = some (.a y.j 0)) (hs : SubS E' E) (h : ∀ g, kS b K N ⟨(i, .v (.pointer (some ⟨g, 0, none⟩))) :: E', L, ObjS g y.t y.ps :: R, F, M⟩) : kS b K N ⟨E, y :: L, R, F, M⟩ := fun a w ⟨G, S, h1, h2, h3⟩ => by
  refine h (G y.j) a w ⟨G, _, ?_, (hs.ok h2).cons trivial, h3.give⟩
  exact (h1.sub (denE_sub hs)).more (h1.get i _ (by rw [look_den, hx]; rfl))
end
/-- The address behind a cut at the begin. -/
def cutA (A : Option Addr) (c n : Nat) : Option Addr := if c = n then A else A.map (·.add n)
theorem Rd.part {A : Option Addr} {c n : Nat} {l : List UInt8} {w : World} (h : Rd 1 eB A c l w) (hn : n ≤ l.length) : Rd 1 eB (cutA A c n) (c - n) (l.drop n) w := by
  have h1 := h.sl.part (n := l.length - n) hn
  rw [List.take_of_length_le (by rw [List.length_drop]; exact Nat.le_refl _)] at h1
  exact Rd.of_sl h1
section
variable {N : Nat} {E : SE} {o : Oper} {x y : Operand} {t : TypeId}
/-- A cut at the begin: s[j:] of bytes. -/
theorem run_cutLo {A : Option Addr} {n c j : Nat} (hj : j ≤ n) (hc : n ≤ c) (hA : A = none → c = 0) (ho : o.op = .slice 33 x (some y) none none) (hx : evS E x = some (.v (.slice A n c))) (hy : evS E y = some (.v (.int .i64 (j : Int)))) :
    ∀ (G : Nat → Nat) (a : Act) (w : World), Fr N (denE G E) a → (execOp a.eval o).run Tryd.prog w = .ok (.value ((SV.v (.slice (cutA A c j) (n - j) (c - j))).den G)) w := fun G a w ha => by
  have h1 : a.eval x = .slice A n c := ha.eval (evS_ok hx)
  have h2 : a.eval y = .int .i64 (j : Int) := ha.eval (evS_ok hy)
  have h3 : (j : Int) ≤ (n : Int) := by omega
  have h4 : (0 : Int) ≤ (j : Int) := by omega
  have h5 : (n : Int) ≤ (c : Int) := by omega
  unfold execOp
  simp only [ho]
  generalize a.eval = ρ at *
  simp only [Option.map, h1, h2]
  show _ = Result.ok (Next.value (.slice (cutA A c j) (n - j) (c - j))) w
  cases A with
  | none =>
    obtain rfl : c = 0 := hA rfl
    obtain rfl : n = 0 := by omega
    obtain rfl : j = 0 := by omega
    go_simp
    rfl
  | some ad =>
    unfold cutA
    by_cases e : c = j
    · rw [if_pos e]
      go_simp
    · rw [if_neg e]
      go_simp
end
end Go.Proofs.YtcbfalfkdnfelaaDoor
/-
  DRAWN REGIONS WITH MEMORY, over states: what only reads is taken as early as may be; what is left goes step by step.
-/
namespace Go.Proofs.YtcbfalfkdnfelaaDoor
open Go.RowKit Go.IntWalk

/-! ### Whatever order, from one world -/
section
variable {P : Program} {ops : Array Oper} {Q : Exit → Act → World → Prop} {Inv : World → Prop}
theorem still_wpOp {i : Nat} {oi : Oper} {v : Value} {K : Act → World → Prop} {a : Act} {w : World} (hi : ops[i]? = some oi) (hst : stillG oi.op = true) (hy : YieldsB P ops Inv oi (· = v) a) (hC : Inv w) (h : K (a.put oi.dst v) w) : wpOp P ops Q i K a w := by
  unfold Go.wpOp
  simp only [hi]
  rcases hy with ⟨hw, hv⟩ | ⟨hw, hv⟩
  · simp only [hw, if_true]
    refine .inl ?_
    have h3 := hv w hC
    unfold atB at h3
    unfold Oper.wp
    cases hr : (execOp a.eval oi).run P w with
    | ok n w' =>
      rw [hr] at h3
      rcases still_ok hst hr with ⟨u, rfl⟩ | rfl
      · simp only [uponB] at h3
        obtain ⟨e1, e2⟩ := h3
        subst e1 e2
        exact h
      · simp only [uponB] at h3
        obtain ⟨e1, e2⟩ := h3
        subst e1 e2
        exact h
    | halt x w' =>
      rw [hr] at h3
      simp only [uponB] at h3
  · simp only [hw, Bool.false_eq_true, if_false]
    rw [hv]
    exact h
theorem upon_then {o : Oper} {a : Act} {K next : Act → World → Prop} (r : Result Next) (h : o.upon P a next (Exit.then K Q) r) : o.upon P a next Q r := by
  cases r with
  | ok n w' => cases n <;> exact h
  | halt x w' => cases x <;> exact h
theorem wpOp_of_list {i : Nat} {o : Oper} {K : Act → World → Prop} {a : Act} {w : World} (hi : ops[i]? = some o) (h : wpList P ops (Exit.then K Q) [o] a w) : wpOp P ops Q i K a w := by
  unfold Go.wpOp
  simp only [hi]
  unfold wpList at h
  split
  · rename_i hw
    rw [if_pos hw] at h
    refine h.imp (fun h => ?_) id
    exact Oper.wp_mono (fun a' w' h' => h') (upon_then _ h)
  · rename_i hw
    rw [if_neg hw] at h
    exact h
end
/-! ### Over states -/
/-- What the variables L hold, where they lie. -/
def InvL (L : List LV) (w : World) : Prop := ∀ x ∈ L, ∃ g, x.g = some g ∧ Blk w g x.t (catP x.ps)
section
variable {P : Program} {T : List TyR} {b : Base} {ops : Array Oper} {Q : Exit → Act → World → Prop} {N n m fuel : Nat} {listed : Array Bool} {E : SE} {L L0 : List LV} {R : List Res} {F M : World → Prop} {Inv : World → Prop} {e : Env}
theorem inv_of {E' : SE} {L' : List LV} {R' : List Res} {F' M' : World → Prop} (hsub : ∀ x ∈ L0, x ∈ L' ∧ x.g.isSome = true) : ∀ a w, St b N ⟨E', L', R', F', M'⟩ a w → InvL L0 w := fun a w ⟨G, S, _, _, h3⟩ x hx => by
  obtain ⟨h1, h2⟩ := hsub x hx
  obtain ⟨g, hg⟩ := Option.isSome_iff_exists.1 h2
  have h4 := h3.var x h1
  refine ⟨g, hg, ?_⟩
  rw [← h4.2.2 g hg]
  exact h4.1
theorem StW.drew {G : Nat → Nat} {S : Nat → Prop} {w : World} (h : StW b G S L R F M w) : StW b G S L R F M w.drew := h.later (Up.drew w)
/-- The variables, with where they lie. -/
def withG (G : Nat → Nat) : List LV → List LV
  | [] => []
  | x :: L => { x with g := some (G x.j) } :: withG G L
theorem withG_names (G : Nat → Nat) : ∀ L : List LV, namesL (withG G L) = namesL L
  | [] => rfl
  | x :: L => congrArg (x.j :: ·) (withG_names G L)
theorem withG_mem {G : Nat → Nat} : ∀ {L : List LV} {x : LV}, x ∈ withG G L → ∃ y ∈ L, x = { y with g := some (G y.j) }
  | [], _, h => by cases h
  | y :: L, x, h => by
    rcases List.mem_cons.1 h with rfl | h
    · exact ⟨y, List.mem_cons_self, rfl⟩
    · obtain ⟨z, hz, e⟩ := withG_mem h
      exact ⟨z, List.mem_cons_of_mem _ hz, e⟩
theorem s_locs {c : Code} (h : ∀ G : Nat → Nat, cS P b c Q N ⟨E, withG G L, R, F, M⟩) : cS P b c Q N ⟨E, L, R, F, M⟩ := fun a w ⟨G, S, h1, h2, h3⟩ => by
  have hM : ∀ k, Mine S G (withG G L) k ↔ Mine S G L k := fun k => by unfold Mine; rw [withG_names]
  refine h G a w ⟨G, S, h1, h2, ⟨fun x hx => ?_, by rw [withG_names]; exact h3.apart, h3.res, by rw [withG_names]; exact h3.sep, h3.fact.less fun k _ hk => hk.imp id (hM k).1, h3.fresh.less fun k _ hk => hk.imp id (hM k).1, h3.chg, fun k hk => h3.mine k ((hM k).1 hk), h3.old⟩⟩
  obtain ⟨y, hy, rfl⟩ := withG_mem hx
  exact ⟨(h3.var y hy).1, (h3.var y hy).2.1, fun g hg => Option.some.inj hg⟩
theorem withG_is {G : Nat → Nat} : ∀ {L : List LV}, ∀ u ∈ withG G L, u ∈ withG G L ∧ u.g.isSome = true
  | [], _, h => by cases h
  | _ :: _, _, h => by
    rcases List.mem_cons.1 h with rfl | h
    · exact ⟨List.mem_cons_self, rfl⟩
    · exact ⟨List.mem_cons_of_mem _ (withG_is _ h).1, (withG_is _ h).2⟩
end
end Go.Proofs.YtcbfalfkdnfelaaDoor
/-
  DIGESTS OF PARTS, over states: a slice of slices and the call that reads it.
-/
namespace Go.Proofs.YtcbfalfkdnfelaaDoor
open Go.RowKit Go.IntWalk

end Go.Proofs.YtcbfalfkdnfelaaDoor
/-
  DRAWN REGIONS, over states: those that make some new variables at once ('x, y := ..'); those of which any operations may be taken first, the others in their order.
-/
namespace Go.Proofs.YtcbfalfkdnfelaaDoor
open Go.RowKit Go.IntWalk

/-! ### New variables, some at once -/
/-- Where the new ones lie, and the elder ones. -/
def gOf : List LV → Nat → (Nat → Nat) → (Nat → Nat) → Nat → Nat
  | [], _, _, G, j => G j
  | u :: us, i, gs, G, j => if j = u.j then gs i else gOf us (i + 1) gs G j
def ptrV : List LV → SE → SE
  | [], E => E
  | u :: us, E => (u.j, .a u.j 0) :: ptrV us E
/-- The variables' slots, types, first cells. -/
def nvL : List LV → List (Array Value) → List NV
  | u :: us, z :: zs => ⟨u.j, u.t, z⟩ :: nvL us zs
  | _, _ => []
def freeV (E : SE) (L : List LV) : List LV → Bool
  | [] => true
  | u :: us => farL u.j L && farE u.j E && (match u.g with | none => true | some _ => false) && farL u.j us && freeV E L us
theorem gOf_far {gs G : Nat → Nat} {j : Nat} : ∀ {us : List LV} {i : Nat}, j ∉ namesL us → gOf us i gs G j = G j
  | [], _, _ => rfl
  | u :: us, i, h => by
    unfold gOf
    rw [if_neg fun e => h (by rw [e]; exact List.mem_cons_self)]
    exact gOf_far fun h2 => h (List.mem_cons_of_mem _ h2)
theorem gOf_mem {gs G : Nat → Nat} : ∀ {us : List LV} {i j : Nat} , j ∈ namesL us → ∃ k, i ≤ k ∧ k < i + us.length ∧ gOf us i gs G j = gs k
  | [], _, _, h => by cases h
  | u :: us, i, j, h => by
    unfold gOf
    by_cases e : j = u.j
    · rw [if_pos e]
      exact ⟨i, Nat.le_refl _, by simp, rfl⟩
    · rw [if_neg e]
      rcases List.mem_cons.1 h with e2 | h
      · exact absurd e2 e
      · obtain ⟨k, h1, h2, h3⟩ := gOf_mem (i := i + 1) h
        exact ⟨k, by omega, by simp only [List.length_cons]; omega, h3⟩
theorem freeV_far {E : SE} {L : List LV} : ∀ {us : List LV}, freeV E L us = true → ∀ u ∈ us, farL u.j L = true ∧ farE u.j E = true ∧ u.g = none
  | [], _, u, h => by cases h
  | v :: us, hf, u, h => by
    simp only [freeV, Bool.and_eq_true] at hf
    obtain ⟨⟨⟨⟨h1, h2⟩, h3⟩, h4⟩, h5⟩ := hf
    rcases List.mem_cons.1 h with rfl | h
    · refine ⟨h1, h2, ?_⟩
      cases hg : u.g with
      | none => rfl
      | some x => rw [hg] at h3; cases h3
    · exact freeV_far h5 u h
section
variable {P : Program} {T : List TyR} {b : Base} {ops : Array Oper} {Q : Exit → Act → World → Prop} {N : Nat} {G gs : Nat → Nat} {S : Nat → Prop} {E : SE} {L : List LV} {R : List Res} {F M : World → Prop} {w0 w' : World}
theorem gOf_pair {i0 : Nat} : ∀ {us : List LV} {i : Nat}, freeV E L us = true → (∀ k l, i0 ≤ k → k < i + us.length → i0 ≤ l → l < i + us.length → k ≠ l → gs k ≠ gs l) → i0 ≤ i → (namesL us).Pairwise fun x y => gOf us i gs G x ≠ gOf us i gs G y
  | [], _, _, _, _ => List.Pairwise.nil
  | u :: us, i, hf, hd, hi => by
    simp only [freeV, Bool.and_eq_true] at hf
    obtain ⟨⟨_, h4⟩, h5⟩ := hf
    have hn := farL_mem h4
    have hne : ∀ j ∈ namesL us, gOf (u :: us) i gs G j = gOf us (i + 1) gs G j := fun j hj => by
      show (if j = u.j then _ else _) = _
      rw [if_neg fun e => hn (by rw [← e]; exact hj)]
    refine List.Pairwise.cons (fun j hj => ?_) ?_
    · rw [hne j hj]
      show (if u.j = u.j then gs i else _) ≠ _
      rw [if_pos rfl]
      obtain ⟨k, h1, h2, h3⟩ := gOf_mem (gs := gs) (G := G) (i := i + 1) hj
      rw [h3]
      exact hd i k (by omega) (by simp only [List.length_cons]; omega) (by omega) (by simp only [List.length_cons]; omega) (by omega)
    · refine (gOf_pair (us := us) (i := i + 1) h5 (fun k l a b c d => hd k l a (by simp only [List.length_cons]; omega) c (by simp only [List.length_cons]; omega)) (by omega)).imp_of_mem fun {x y} hx hy h => ?_
      rw [hne x hx, hne y hy]
      exact h
theorem gOf_blk (G : Nat → Nat) : ∀ {us : List LV} {zs : List (Array Value)} {i : Nat}, freeV E L us = true → us.length = zs.length → blks w' (nvL us zs) (us.map fun u => catP u.ps) i gs → ∀ u ∈ us, Blk w' (gOf us i gs G u.j) u.t (catP u.ps)
  | [], _, _, _, _, _, u, h => by cases h
  | _ :: _, [], _, _, hl, _, _, _ => by cases hl
  | v :: us, z :: zs, i, hf, hl, hb, u, h => by
    simp only [freeV, Bool.and_eq_true] at hf
    obtain ⟨⟨_, h4⟩, h5⟩ := hf
    have hn := farL_mem h4
    obtain ⟨hb1, hb2⟩ := hb
    rcases List.mem_cons.1 h with rfl | h
    · show Blk w' (if u.j = u.j then gs i else _) _ _
      rw [if_pos rfl]
      exact hb1
    · have := gOf_blk G h5 (by simpa using hl) hb2 u h
      show Blk w' (if u.j = v.j then _ else _) _ _
      rw [if_neg fun e => hn (by rw [← e]; exact List.mem_map.2 ⟨u, h, rfl⟩)]
      exact this
/-- Some new variables. -/
theorem StW.news (h : StW b G S L R F M w0) (hU : Up w0 w') (us : List LV) (hf : freeV E L us = true) (hp : ∀ u ∈ us, OkP u.ps) (hge : ∀ j, j < us.length → w0.heap.size ≤ gs j) (hd : ∀ i j, i < us.length → j < us.length → i ≠ j → gs i ≠ gs j) (hb : ∀ u ∈ us, Blk w' (gOf us 0 gs G u.j) u.t (catP u.ps)) :
    StW b (gOf us 0 gs G) S (us ++ L) R F M w' := by
  have h1 := h.later hU
  have hfr := freeV_far hf
  have hno : ∀ j ∈ namesL L, j ∉ namesL us := fun j hj hj2 => by
    obtain ⟨u, hu, rfl⟩ := List.mem_map.1 hj2
    exact farL_mem (hfr u hu).1 hj
  have hG : ∀ j ∈ namesL L, gOf us 0 gs G j = G j := fun j hj => gOf_far (hno j hj)
  have hlt : ∀ i ∈ namesL L, G i < w0.heap.size := fun i hi => h.lt _ (.inr ⟨i, hi, rfl⟩)
  have hnew : ∀ j ∈ namesL us, w0.heap.size ≤ gOf us 0 gs G j := fun j hj => by
    obtain ⟨k, h2, h3, h4⟩ := gOf_mem (gs := gs) (G := G) (i := 0) hj
    rw [h4]
    exact hge k (by omega)
  have hnames : namesL (us ++ L) = namesL us ++ namesL L := List.map_append
  have hM : ∀ k, Mine S (gOf us 0 gs G) (us ++ L) k → w0.heap.size ≤ k ∨ Mine S G L k := fun k hk => by
    rcases hk with hk | ⟨i, hi, rfl⟩
    · exact .inr (.inl hk)
    · rw [hnames] at hi
      rcases List.mem_append.1 hi with hi | hi
      · exact .inl (hnew i hi)
      · exact .inr (.inr ⟨i, hi, (hG i hi).symm⟩)
  refine ⟨fun x hx => ?_, ?_, h1.res, fun i hi => ?_, ?_, ?_, h1.chg, fun k hk hlt2 => ?_, h.old⟩
  · rcases List.mem_append.1 hx with hx | hx
    · exact ⟨hb x hx, hp x hx, fun g hg => by rw [(hfr x hx).2.2] at hg; cases hg⟩
    · rw [hG _ (List.mem_map.2 ⟨x, hx, rfl⟩)]
      exact h1.var x hx
  · rw [hnames]
    refine List.pairwise_append.2 ⟨gOf_pair (i0 := 0) hf (fun k l _ a _ c => hd k l (by omega) (by omega)) (Nat.le_refl _), h.apart.imp_of_mem fun {x y} hx hy e => ?_, fun i hi j hj => ?_⟩
    · rw [hG x hx, hG y hy]
      exact e
    · have := hnew i hi
      have := hlt j hj
      rw [hG j hj]
      omega
  · rw [hnames] at hi
    rcases List.mem_append.1 hi with hi | hi
    · intro hs
      have := h.res.lt _ hs
      have := hnew i hi
      omega
    · rw [hG i hi]
      exact h.sep i hi
  · refine h.fact.past (Chg.of_up hU) fun i hi hd => ?_
    rcases hd with hd | hd
    · exact .inl hd
    · rcases hM i hd with h2 | hd
      · exact absurd hi (Nat.not_lt.2 h2)
      · exact .inr hd
  · refine h.fresh.past (Chg.of_up hU) fun i hi hd => ?_
    rcases hd with hd | hd
    · exact .inl hd
    · rcases hM i hd with h2 | hd
      · exact absurd hi (Nat.not_lt.2 h2)
      · exact .inr hd
  · rcases hM k hk with h2 | h2
    · have := h.chg.size
      omega
    · exact h.mine k h2 hlt2
theorem den_gOf {us : List LV} {i : Nat} {v : SV} (h : ∀ u ∈ us, v.farB u.j = true) : v.den (gOf us i gs G) = v.den G := by
  induction us generalizing i with
  | nil => rfl
  | cons u us ih =>
    have h1 := h u List.mem_cons_self
    have h2 := ih (i := i + 1) fun x hx => h x (List.mem_cons_of_mem _ hx)
    rw [← h2]
    cases v with
    | a j off =>
      have h1 : (!Nat.beq j u.j) = true := h1
      have : j ≠ u.j := fun e => by rw [e] at h1; simp at h1
      show Value.pointer (some ⟨gOf (u :: us) i gs G j, off, none⟩) = _
      unfold gOf
      rw [if_neg this]
      rfl
    | s j off n c =>
      have h1 : (!Nat.beq j u.j) = true := h1
      have : j ≠ u.j := fun e => by rw [e] at h1; simp at h1
      show Value.slice (some ⟨gOf (u :: us) i gs G j, off, none⟩) n c = _
      unfold gOf
      rw [if_neg this]
      rfl
    | q x => rfl
    | t vs => rfl
theorem denE_gOf {us : List LV} : ∀ {E : SE}, (∀ u ∈ us, farE u.j E = true) → denE (gOf us 0 gs G) E = denE G E
  | [], _ => rfl
  | (k, v) :: r, h => by
    have h1 : ∀ u ∈ us, v.farB u.j = true ∧ farE u.j r = true := fun u hu => by
      have := h u hu
      unfold farE at this
      rw [List.all_cons, Bool.and_eq_true] at this
      exact this
    rw [denE, denE, den_gOf fun u hu => (h1 u hu).1, denE_gOf fun u hu => (h1 u hu).2]
theorem ptrV_den : ∀ {us : List LV} {zs : List (Array Value)} {i : Nat} {E1 : List (Nat × Value)} {G0 : Nat → Nat}, freeV E L us = true → us.length = zs.length → (∀ j ∈ namesL us, G0 j = gOf us i gs G j) → denE G0 E = E1 → denE G0 (ptrV us E) = ptrs (nvL us zs) i gs E1
  | [], [], _, _, _, _, _, _, h => h
  | u :: us, z :: zs, i, E1, G0, hf, hl, hg, h => by
    simp only [freeV, Bool.and_eq_true] at hf
    obtain ⟨⟨_, h4⟩, h5⟩ := hf
    have hn := farL_mem h4
    have h0 := hg u.j List.mem_cons_self
    have e0 : G0 u.j = gs i := by
      rw [h0]
      unfold gOf
      rw [if_pos rfl]
    show (u.j, Value.pointer (some ⟨G0 u.j, 0, none⟩)) :: denE G0 (ptrV us E) = (u.j, Value.pointer (some ⟨gs i, 0, none⟩)) :: ptrs (nvL us zs) (i + 1) gs E1
    rw [e0, ptrV_den (i := i + 1) h5 (by simpa using hl) (fun j hj => ?_) h]
    rw [hg j (List.mem_cons_of_mem _ hj)]
    show (if j = u.j then _ else _) = _
    rw [if_neg fun e => hn (by rw [← e]; exact hj)]
  | [], _ :: _, _, _, _, _, hl, _, _ => by cases hl
  | _ :: _, [], _, _, _, _, hl, _, _ => by cases hl
theorem ptrV_ok : ∀ {us : List LV}, OkE E → OkE (ptrV us E)
  | [], h => h
  | _ :: us, h => (ptrV_ok (us := us) h).cons trivial
/-! ### The steps ahead of them -/
/-- What is left of the operations ahead of the new variables. -/
def nS (P : Program) (ops : Array Oper) (N : Nat) (w0 : World) (Z : Act → Prop) (G : Nat → Nat) (l : List Oper) (E : SE) : Prop := OkE E → bF P ops (Up w0) Z l N (denE G E)
variable {Z : Act → Prop} {vs : List NV} {T' l rest : List Oper} {o : Oper} {k : Nat}
theorem n_f (hst : StW b G S L R F M w0) (v : SV) (hv : v.Ok) (h : ∀ (C0 : World → Prop) (Q' : Act → Prop), (∀ w, C0 w → View G S L R F M w) → bF P ops C0 Q' [] N ((k, v.den G) :: denE G E) → bF P ops C0 Q' [o] N (denE G E)) (hn : nS P ops N w0 Z G rest ((k, v) :: E)) : nS P ops N w0 Z G (o :: rest) E := fun hE =>
  h (Up w0) (fun a' => wpB P ops (Up w0) Z rest a') (fun _ hw => (hst.later hw).view) (fun a' ha' => hn (hE.cons hv) a' ha')
theorem n_op (hst : StW b G S L R F M w0) (v : SV) (hv : v.Ok) (hg : o.guard = none) (hd : o.dst = some k) (hk : Nat.blt k N = true) (h : ∀ (G : Nat → Nat) (a : Act) (w : World), Fr N (denE G E) a → (execOp a.eval o).run P w = .ok (.value (v.den G)) w) (hn : nS P ops N w0 Z G rest ((k, v) :: E)) : nS P ops N w0 Z G (o :: rest) E :=
  n_f hst v hv (fun _ _ _ hQ => f_val _ hg hd hk (fun a ha w _ => h G a w ha) hQ) hn
theorem n_opV (hst : StW b G S L R F M w0) (v : SV) (hv : v.Ok) (hg : o.guard = none) (hd : o.dst = some k) (hk : Nat.blt k N = true) (h : ∀ (G : Nat → Nat) (S : Nat → Prop) (a : Act) (w : World), Fr N (denE G E) a → View G S L R F M w → (execOp a.eval o).run P w = .ok (.value (v.den G)) w) (hn : nS P ops N w0 Z G rest ((k, v) :: E)) : nS P ops N w0 Z G (o :: rest) E :=
  n_f hst v hv (fun _ _ hC hQ => f_val _ hg hd hk (fun a ha w hw => h G S a w ha (hC w hw)) hQ) hn
theorem n_st {v : SV} (hT : OkT P T) (hst : StW b G S L R F M w0) (hE : OkE E) (hg : o.guard = none) (hd : o.dst = some k) (hk : Nat.blt k N = true) (h : stepS T E L o.op = some v) (hn : nS P ops N w0 Z G rest ((k, v) :: E)) : nS P ops N w0 Z G (o :: rest) E :=
  n_f hst v (stepS_ok hT (N := N) (o := o) hE hst.okL h).1 (fun _ _ hC hQ => f_val _ hg hd hk (fun _ ha w hw => (stepS_ok hT hE hst.okL h).2 ha fun x hx => ((hC w hw).var x hx).1) hQ) hn
/-- What is left behind those that are reckoned. -/
def autoN (T : List TyR) (ops : Array Oper) (N : Nat) (L : List LV) : List Oper → SE → List Oper × SE
  | [], E => ([], E)
  | o :: l, E => match o.guard, o.dst with
    | none, some k => match Nat.blt k N with
      | true => match stepS T E L o.op with
        | some v => autoN T ops N L l ((k, v) :: E)
        | none => (o :: l, E)
      | false => (o :: l, E)
    | _, _ => (o :: l, E)
theorem autoN_ok (hT : OkT P T) (hst : StW b G S L R F M w0) : ∀ {l : List Oper} {E : SE}, OkE E → nS P ops N w0 Z G (autoN T ops N L l E).1 (autoN T ops N L l E).2 → nS P ops N w0 Z G l E
  | [], _, _, h => h
  | o :: l, E, hE, h => by
    unfold autoN at h
    split at h
    · rename_i k hg hd
      split at h
      · rename_i hk
        split at h
        · rename_i v hv
          exact n_st hT hst hE hg hd hk hv (autoN_ok hT hst (hE.cons (stepS_ok hT (N := N) (o := o) hE hst.okL hv).1) h)
        · exact h
      · exact h
    · exact h
theorem n_auto {l' : List Oper} {E' : SE} (hT : OkT P T) (hst : StW b G S L R F M w0) (h : autoN T ops N L l E = (l', E')) (hn : nS P ops N w0 Z G l' E') : nS P ops N w0 Z G l E := fun hE => autoN_ok hT hst hE (by rw [h]; exact hn) hE
/-- The new variables, and what they hold at first. -/
theorem n_new {T2 : List Oper} (hst : StW b G S L R F M w0) (us : List LV) (zs : List (Array Value)) (xs : List Operand) (hvs : nvL us zs = vs) (hl : us.length = zs.length) (hf : freeV E L us = true) (hp : ∀ u ∈ us, OkP u.ps) (hfar : far (denE G E) vs) (hap : tsApart vs = true) (hso : stOk vs xs T' T2) (hv : valOk P (denE G E) vs xs (us.map fun u => catP u.ps))
    (h : lS P b ops Q N T2 ⟨ptrV us E, us ++ L, R, F, M⟩) : nS P ops N w0 (newPost P ops Q w0 vs T' N) G [] E := fun hE => by
  subst hvs
  have hlen : (nvL us zs).length = us.length := by
    clear hf hp hfar hap hso hv h
    induction us generalizing zs with
    | nil => rfl
    | cons u us ih =>
      cases zs with
      | nil => cases hl
      | cons z zs => exact congrArg (· + 1) (ih zs (by simpa using hl))
  refine f_new xs (us.map fun u => catP u.ps) hfar hap hso hv fun gs w' hge hd hU hb a ha => ?_
  rw [hlen] at hge hd
  have hfr := freeV_far hf
  refine h a w' ⟨gOf us 0 gs G, S, ?_, ptrV_ok hE, hst.news hU us hf hp hge hd (gOf_blk G hf hl hb)⟩
  rw [ptrV_den (L := L) hf hl (fun _ _ => rfl) (denE_gOf fun u hu => (hfr u hu).2.1)]
  exact ha
end
section
variable {P : Program} {T : List TyR} {b : Base} {Q : Exit → Act → World → Prop} {N : Nat} {E : SE} {L : List LV} {R : List Res} {F M : World → Prop} {l : List Oper} {id : Nat} {y : Code}
/-- **'x, y, .. := u, v, ..'**, the order drawn: n operations ahead, the new variables vs, then the rest. -/
theorem s_new (n : Nat) (vs : List NV) (hn : n + vs.length ≤ l.length) (hap : tsApart vs = true) (hnv : nvOk P N (l.drop n) vs) (hm : P.follows .mixedOrders = true)
    (hB : tailB l.toArray n vs.length (l.drop (n + vs.length)).length = true)
    (hC : newC l.toArray n (marks vs.length n (marks n 0 (Array.replicate l.toArray.size false))) vs.length (List.range vs.length) (marks n 0 (Array.replicate l.toArray.size false)) = true)
    (h : ∀ K : Act → World → Prop, (∀ e', cS P b y Q N e' → kS b K N e') → ∀ G S w0, StW b G S L R F M w0 → nS P l.toArray N w0 (newPost P l.toArray (NoPanic (Exit.then K Q)) w0 vs (l.drop (n + vs.length)) N) G (l.take n) E) : cS P b (.seq (.region id l.toArray true) y) Q N ⟨E, L, R, F, M⟩ :=
  s_seq fun K hK a w ⟨G, S, h1, h2, h3⟩ => by
    refine wp_region_noPanic ?_
    exact c_new n vs hn hap hnv hm hB hC (fun _ _ _ _ _ h => h) (h K hK G S w h3 h2) a h1
end
end Go.Proofs.YtcbfalfkdnfelaaDoor
/-
  DRAWN REGIONS THAT MAKE DIGESTS, over states: in the text's order, each operation by what those told that it waits for.
-/
namespace Go.Proofs.YtcbfalfkdnfelaaDoor
open Go.RowKit Go.IntWalk

/-! ### Operations that hang on one that was left out -/
def nopB : SV → Bool
  | .q (.c (.v (.tuple ⟨[]⟩))) => true
  | _ => false
/-- They are left out as well. -/
def skipU (ops : Array Oper) (N : Nat) : List Oper → SE → List Oper × SE
  | [], E => ([], E)
  | o :: l, E => match o.guard, o.dst with
    | some (j, _), some k => match (ops[j]?).bind (·.dst), Nat.blt k N with
      | some t, true => match Nat.blt t N, lookS E t with
        | true, some v => match nopB v with
          | true => skipU ops N l ((k, .v undef) :: E)
          | false => (o :: l, E)
        | _, _ => (o :: l, E)
      | _, _ => (o :: l, E)
    | _, _ => (o :: l, E)
def skipUD (ops : Array Oper) (N : Nat) : List (Nat × Oper) → SE → List (Nat × Oper) × SE
  | [], E => ([], E)
  | (i, o) :: l, E => match o.guard, o.dst with
    | some (j, _), some k => match (ops[j]?).bind (·.dst), Nat.blt k N with
      | some t, true => match Nat.blt t N, lookS E t with
        | true, some v => match nopB v with
          | true => skipUD ops N l ((k, .v undef) :: E)
          | false => ((i, o) :: l, E)
        | _, _ => ((i, o) :: l, E)
      | _, _ => ((i, o) :: l, E)
    | _, _ => ((i, o) :: l, E)

/-- What is left of a drawn region's operations, and what is told of memory. -/
def hS (P : Program) (ops : Array Oper) (Q : Exit → Act → World → Prop) (N : Nat) (T' : List Oper) (G : Nat → Nat) (w0 : World) (l : List (Nat × Oper)) (E : SE) (Fa : Told) : Prop := OkE E → gF P Bel ops (Up w0) (endG P ops Q (Up w0) T') l N (denE G E) Fa
section
variable {P : Program} {T : List TyR} {b : Base} {ops : Array Oper} {Q : Exit → Act → World → Prop} {N : Nat} {G : Nat → Nat} {S : Nat → Prop} {E : SE} {L : List LV} {R : List Res} {F M : World → Prop} {w0 : World} {T' : List Oper} {Fa : Told} {i k : Nat} {o : Oper} {rest : List (Nat × Oper)} {l : List Oper} {id : Nat} {y : Code}
theorem s_regH (n : Nat) (hn : n ≤ l.length) (hm : P.follows .mixedOrders = true) (hB : tailH l.toArray n (l.drop n).length = true)
    (h : ∀ K : Act → World → Prop, (∀ e', cS P b y Q N e' → kS b K N e') → ∀ G S w0, StW b G S L R F M w0 → hS P l.toArray (Exit.then K Q) N (l.drop n) G w0 (idx 0 (l.take n)) E []) : cS P b (.seq (.region id l.toArray true) y) Q N ⟨E, L, R, F, M⟩ :=
  s_regD n hn hm hB fun K hK G S w0 hst => h K hK G S w0 hst
theorem h_f (hst : StW b G S L R F M w0) (v : SV) (hv : v.Ok) (hf : farP i Fa = true) (h : ∀ (C0 : World → Prop) (Q' : Act → Prop), (∀ w, C0 w → View G S L R F M w ∧ Uses o Fa w) → bF P ops C0 Q' [] N ((k, v.den G) :: denE G E) → bF P ops C0 Q' [o] N (denE G E)) (hn : hS P ops Q N T' G w0 rest ((k, v) :: E) Fa) : hS P ops Q N T' G w0 ((i, o) :: rest) E Fa := fun hE =>
  g_op hf (h _ _ (fun _ hw => ⟨(hst.later hw.1).view, hw.2⟩) (g_go (o := o) (hn (hE.cons hv))))
theorem h_op (hst : StW b G S L R F M w0) (v : SV) (hv : v.Ok) (hf : farP i Fa = true) (hg : o.guard = none) (hd : o.dst = some k) (hk : Nat.blt k N = true) (h : ∀ (G : Nat → Nat) (a : Act) (w : World), Fr N (denE G E) a → (execOp a.eval o).run P w = .ok (.value (v.den G)) w) (hn : hS P ops Q N T' G w0 rest ((k, v) :: E) Fa) : hS P ops Q N T' G w0 ((i, o) :: rest) E Fa :=
  h_f hst v hv hf (fun _ _ _ hQ => f_val _ hg hd hk (fun _ ha w _ => h G _ w ha) hQ) hn
theorem h_opV (hst : StW b G S L R F M w0) (v : SV) (hv : v.Ok) (hf : farP i Fa = true) (hg : o.guard = none) (hd : o.dst = some k) (hk : Nat.blt k N = true) (h : ∀ (G : Nat → Nat) (S : Nat → Prop) (a : Act) (w : World), Fr N (denE G E) a → View G S L R F M w → (execOp a.eval o).run P w = .ok (.value (v.den G)) w) (hn : hS P ops Q N T' G w0 rest ((k, v) :: E) Fa) : hS P ops Q N T' G w0 ((i, o) :: rest) E Fa :=
  h_f hst v hv hf (fun _ _ hC hQ => f_val _ hg hd hk (fun _ ha w hw => h G S _ w ha (hC w hw).1) hQ) hn
theorem h_st {v : SV} (hT : OkT P T) (hst : StW b G S L R F M w0) (hE : OkE E) (hf : farP i Fa = true) (hg : o.guard = none) (hd : o.dst = some k) (hk : Nat.blt k N = true) (h : stepS T E L o.op = some v) (hn : hS P ops Q N T' G w0 rest ((k, v) :: E) Fa) : hS P ops Q N T' G w0 ((i, o) :: rest) E Fa :=
  h_f hst v (stepS_ok hT (N := N) (o := o) hE hst.okL h).1 hf (fun _ _ hC hQ => f_val _ hg hd hk (fun _ ha w hw => (stepS_ok hT hE hst.okL h).2 ha fun x hx => ((hC w hw).1.var x hx).1) hQ) hn
/-- What is left behind those that are reckoned. -/
def autoH (T : List TyR) (ops : Array Oper) (N : Nat) (L : List LV) (Fa : Told) : List (Nat × Oper) → SE → List (Nat × Oper) × SE
  | [], E => ([], E)
  | (i, o) :: l, E => match wantS ops N E o, farP i Fa, o.dst with
    | some false, true, some k => match Nat.blt k N with
      | true => autoH T ops N L Fa l ((k, .v undef) :: E)
      | false => ((i, o) :: l, E)
    | some true, true, some k => match Nat.blt k N with
      | true => match stepS T E L o.op with
        | some v => autoH T ops N L Fa l ((k, v) :: E)
        | none => ((i, bareO o) :: l, E)
      | false => ((i, o) :: l, E)
    | some true, true, none => ((i, bareO o) :: l, E)
    | _, _, _ => ((i, o) :: l, E)
theorem h_bare (hw : wantS ops N E o = some true) (h : hS P ops Q N T' G w0 ((i, bareO o) :: rest) E Fa) : hS P ops Q N T' G w0 ((i, o) :: rest) E Fa := fun hE a F ha hF => by
  have hwt := wantS_ok ha hw
  have h1 := h hE a F ha hF
  obtain ⟨dst, op, ty, pos, af, gd⟩ := o
  unfold wpG at h1 ⊢
  rw [if_pos hwt]
  rw [if_pos (by rfl)] at h1
  exact h1
theorem h_undef (hw : wantS ops N E o = some false) (hf : farP i Fa = true) (hd : o.dst = some k) (hk : Nat.blt k N = true) (h : hS P ops Q N T' G w0 rest ((k, .v undef) :: E) Fa) : hS P ops Q N T' G w0 ((i, o) :: rest) E Fa := fun hE a F ha hF => by
  have hwt := wantS_ok ha hw
  unfold wpG
  rw [hwt, if_neg (by decide)]
  dsimp only
  rw [hd]
  exact h (hE.cons (v := .v undef) trivial) _ _ (ha.put hk undef) (hF.up hf)
theorem autoH_ok (hT : OkT P T) (hst : StW b G S L R F M w0) : ∀ {l : List (Nat × Oper)} {E : SE}, OkE E → hS P ops Q N T' G w0 (autoH T ops N L Fa l E).1 (autoH T ops N L Fa l E).2 Fa → hS P ops Q N T' G w0 l E Fa
  | [], _, _, h => h
  | (i, o) :: l, E, hE, h => by
    unfold autoH at h
    split at h
    · rename_i k hw hf hd
      split at h
      · rename_i hk
        exact h_undef hw hf hd hk (autoH_ok hT hst (hE.cons (v := .v undef) trivial) h)
      · exact h
    · rename_i k hw hf hd
      split at h
      · rename_i hk
        split at h
        · rename_i v hv
          have h2 := autoH_ok hT hst (hE.cons (stepS_ok hT (N := N) (o := bareO o) hE hst.okL hv).1) h
          exact h_bare hw (h_st hT hst hE hf rfl hd hk hv h2)
        · exact h_bare hw h
      · exact h
    · rename_i hw hf hd
      exact h_bare hw h
    · exact h
theorem h_auto {l l' : List (Nat × Oper)} {E' : SE} (hT : OkT P T) (hst : StW b G S L R F M w0) (h : autoH T ops N L Fa l E = (l', E')) (hn : hS P ops Q N T' G w0 l' E' Fa) : hS P ops Q N T' G w0 l E Fa := fun hE => autoH_ok hT hst hE (by rw [h]; exact hn) hE
theorem h_is {l : List (Nat × Oper)} (k : Nat) {t : Bool} (q : Bool) (h : lookS E k = some (.b t)) (he : t = q) (hn : hS P ops Q N T' G w0 l ((k, .v (.bool q)) :: E) Fa) : hS P ops Q N T' G w0 l E Fa := fun hE => by
  subst he
  intro a F ha hF
  exact hn (hE.cons trivial) a F (ha.more (ha.get k _ (by rw [look_den, h]; rfl))) hF
/-- The end of what may be taken in any order. -/
theorem h_end (hst : StW b G S L R F M w0) (h : lS P b ops Q N T' ⟨E, L, R, F, M⟩) : hS P ops Q N T' G w0 [] E Fa := fun hE => g_end fun w hw _ => fun a ha => h a w ⟨G, S, ha, hE, hst.later hw⟩
end
section
variable {T : List TyR} {b : Base} {ops : Array Oper} {Q : Exit → Act → World → Prop} {N : Nat} {G : Nat → Nat} {S : Nat → Prop} {E : SE} {L : List LV} {R : List Res} {F M : World → Prop} {w0 : World} {T' : List Oper} {Fa : Told} {i k e bs : Nat} {o : Oper} {rest : List (Nat × Oper)}
/-- A call whose answer is told by what it lies in. -/
theorem h_callE {α : Type} {post : Post α} {F' : World → Prop} [Pst F'] [hP : ∀ x, Pst (post.p x)] {f : FuncId} {xs : Array Operand} {ats : Array TypeId} {svs : List SV} (hst : StW b G S L R F M w0) (args : List Value) (hf : farP i Fa = true) (hg : o.guard = none) (hd : o.dst = some k) (hk : Nat.blt k N = true) (how : Own f) (ho : o.op = .call { callee := .value (.func f), args := xs, argTypes := ats }) (hx : evSs E xs.toList = some svs)
    (ha : (∀ x ∈ L, ∀ g, x.g = some g → G x.j = g) → svs.map (SV.den G) = args) (hs : Spec f args [] F' post) (hF : ∀ w, View G S L R F M w → Uses o Fa w → F' w)
    (hn : ∀ x, (post.ret x).sv.Ok → hS Tryd.prog ops Q N T' G w0 rest ((k, (post.ret x).sv) :: E) ((i, fun w => ∃ y, (post.ret x).den = (post.ret y).den ∧ post.p y w) :: Fa)) : hS Tryd.prog ops Q N T' G w0 ((i, o) :: rest) E Fa := fun hE => by
  refine g_call args.toArray (fun v w => ∃ x, v = (post.ret x).den ∧ (post.ret x).sv.Ok ∧ post.p x w) hg hd hk hf (fun v w w' ⟨x, h1, h2, h3⟩ hb => ⟨x, h1, h2, (hP x).later _ _ h3 hb⟩) how (fun w hw hu => ?_) ho (by rw [evSs_ok hx, ha fun x hx => (hst.var x hx).2.2]) fun v w _ hv => ?_
  · refine (hs w (fun _ => False) (fun _ => False) (fun _ h => h) (fun _ h => h.elim) (Stb.of_pst (hF w (hst.later hw).view hu) fun _ _ h => h.elim id id)).mono ?_
    rintro e w' ⟨x, S', h1, h2, h3, h4, h5, h6, h7⟩
    exact ⟨_, h1, ⟨x, rfl, h2, h6.now⟩, h3.up fun _ _ h => h⟩
  · obtain ⟨x, rfl, hok, _⟩ := hv
    intro a F ha hF
    refine hn x hok (hE.cons hok) a F (by rw [denE, RV.sv_den]; exact ha) fun y hy w hw => ?_
    rcases List.mem_cons.1 hy with rfl | hy
    · obtain ⟨z, e, _, h3⟩ := hF _ List.mem_cons_self w hw
      exact ⟨z, e, h3⟩
    · exact hF y (List.mem_cons_of_mem _ hy) w hw
/-- Bytes that were told are a string. -/
theorem h_strU {x : Operand} {A : Option Addr} {c : Nat} (l : List UInt8) (hst : StW b G S L R F M w0) (hf : farP i Fa = true) (hg : o.guard = none) (hd : o.dst = some k) (hk : Nat.blt k N = true) (ho : o.op = .convert 33 9 x) (hx : evS E x = some (.v (.slice A l.length c)))
    (h : ∀ w, View G S L R F M w → Uses o Fa w → Rd 1 eB A c l w) (hn : hS Tryd.prog ops Q N T' G w0 rest ((k, vS l) :: E) Fa) : hS Tryd.prog ops Q N T' G w0 ((i, o) :: rest) E Fa :=
  h_f hst (vS l) trivial hf (fun _ _ hC hQ => f_strB (.slice A l.length c) l hg hd hk ho (evS_ok hx) (fun w' hw' => (h w' (hC w' hw').1 (hC w' hw').2).sb) hQ) hn
end
end Go.Proofs.YtcbfalfkdnfelaaDoor
/-
  REGIONS THAT DRAW THEIR ORDER: 'x, ok := f(..)', where what is stored need not wait for the second part.
-/
namespace Go.Proofs.YtcbfalfkdnfelaaDoor
open Go.RowKit Go.IntWalk

end Go.Proofs.YtcbfalfkdnfelaaDoor
/-
  'x, ok := f(..)' OVER FRAMES BY WHAT IS KNOWN OF THEM, the order drawn.
-/
namespace Go.Proofs.YtcbfalfkdnfelaaDoor
open Go.RowKit Go.IntWalk

end Go.Proofs.YtcbfalfkdnfelaaDoor
/-
  THE STEPS THAT DO MOST, over states: what is reckoned up to the next call, bits too; calls by their contracts; regions with new variables; cells of rows.
-/
namespace Go.Proofs.YtcbfalfkdnfelaaDoor
open Go.RowKit Go.IntWalk

/-! ### Bits -/
theorem run_andB {P : Program} {t : TypeId} {K : IntKind} {m n : Int} {w : World} : (binOp .and t (.int K m) (.int K n)).run P w = .ok (.int K (bits .and K m n)) w := by cases K <;> go_simp
theorem run_orB {P : Program} {t : TypeId} {K : IntKind} {m n : Int} {w : World} : (binOp .or t (.int K m) (.int K n)).run P w = .ok (.int K (bits .or K m n)) w := by cases K <;> go_simp
theorem run_xorB {P : Program} {t : TypeId} {K : IntKind} {m n : Int} {w : World} : (binOp .xor t (.int K m) (.int K n)).run P w = .ok (.int K (bits .xor K m n)) w := by cases K <;> go_simp
/-- An array of n cells. -/
def Arr (t : TypeId) (n : Nat) : Prop := ∃ e, Tryd.prog.underlying t = some (.array n e) ∧ (Tryd.prog.info? e).map (·.size) = some 1
theorem arr32 : Arr 54 32 := ⟨_, Tryd.underlying54, by kernel_rfl⟩
theorem arr64 : Arr 89 64 := ⟨_, Tryd.underlying89, by kernel_rfl⟩
/-- The arrays whose parts are cut. -/
def arrK (t u : TypeId) (n : Nat) : Option Nat := match Nat.beq t u with
  | true => some n
  | false => none
def orA : Option Nat → Option Nat → Option Nat
  | some n, _ => some n
  | none, b => b
def lenA (t : TypeId) : Option Nat :=
  orA (arrK t 54 32) <|
  orA (arrK t 89 64) <|
  (match Nat.beq t 0 with | true => none | false => none)
theorem arrK_ok {t u : TypeId} {n m : Nat} (h : arrK t u n = some m) : t = u ∧ n = m := by
  unfold arrK at h
  split at h
  · rename_i e
    cases h
    exact ⟨Nat.eq_of_beq_eq_true e, rfl⟩
  · cases h
theorem orA_ok {a b : Option Nat} {m : Nat} (h : orA a b = some m) : a = some m ∨ b = some m := by
  cases a
  · exact .inr h
  · exact .inl h
theorem lenA_ok {t : TypeId} {n : Nat} (h : lenA t = some n) : Arr t n := by
  unfold lenA at h
  rcases orA_ok h with h | h
  · obtain ⟨rfl, rfl⟩ := arrK_ok h; exact ⟨_, Tryd.underlying54, by kernel_rfl⟩
  rcases orA_ok h with h | h
  · obtain ⟨rfl, rfl⟩ := arrK_ok h; exact ⟨_, Tryd.underlying89, by kernel_rfl⟩
  split at h <;> cases h
def bndS (E : SE) (x : Option Operand) (n : Nat) : Option Nat := match x with
  | none => some n
  | some y => match evS E y with
    | some (.q (.c (.v (.int _ (.ofNat k))))) => some k
    | _ => none
theorem run_bound {P : Program} {K : IntKind} {i y : Nat} {code : BoundsCode} (h : i ≤ y) (w : World) : (Instr.sliceBound (.int K (i : Int)) y code).run P w = .ok i w := by
  have h1 : (0 : Int) ≤ i ∧ (i : Int) ≤ y := by omega
  simp only [Instr.sliceBound, asIntOf, Sem.run_bind, Sem.run_pure, Result.andThen_ok, h1, and_self, if_true, Int.toNat_natCast]
theorem bndS_ok {E : SE} {x : Option Operand} {n m : Nat} (h : bndS E x n = some m) : x = none ∧ m = n ∨ ∃ y K, x = some y ∧ evS E y = some (.v (.int K (m : Int))) := by
  unfold bndS at h
  split at h
  · cases h
    exact .inl ⟨rfl, rfl⟩
  · split at h
    · rename_i y _ K k hy
      cases h
      exact .inr ⟨y, K, rfl, hy⟩
    · cases h
theorem run_cutA {P : Program} {t e : TypeId} {g off n l h : Nat} {lo hi : Option Value} (ht : P.underlying t = some (.array n e)) (he : (P.info? e).map (·.size) = some 1) (hl : lo = none ∧ l = 0 ∨ ∃ K, lo = some (.int K (l : Int))) (hh : hi = none ∧ h = n ∨ ∃ K, hi = some (.int K (h : Int))) (h1 : l ≤ h) (h2 : h ≤ n) (h3 : l < n) (w : World) :
    (Instr.sliceAt t (.pointer (some ⟨g, off, none⟩)) lo hi none).run P w = .ok (.slice (some ⟨g, off + l, none⟩) (h - l) (n - l)) w := by
  have h5 := run_sizeOf he w
  have h6 : ¬ n = l := by omega
  have hu := run_underlying (P := P) ht (w := w)
  have hb := fun c => run_bound (P := P) (K := .i64) (i := h) (y := n) (code := c) h2 w
  rcases hl with ⟨rfl, rfl⟩ | ⟨K, rfl⟩ <;> rcases hh with ⟨rfl, rfl⟩ | ⟨K2, rfl⟩ <;>
    simp [Instr.sliceAt, Instr.sureAddr, hu, Instr.sliceBounds, h5, run_bound h2, run_bound h1, Sem.run_bind, Addr.add_mid, h6]
/-- What an operation at bits hands back. -/
def moreS (E : SE) : Op → Option SV
  | .binOp op _ x y _ => match evS E x, evS E y with
    | some (.q (.c (.v (.int K m)))), some (.q (.c (.v (.int K' n)))) => match op, ikB K K', n with
      | .and, true, _ => some (.v (.int K (bits .and K m n)))
      | .or, true, _ => some (.v (.int K (bits .or K m n)))
      | .xor, true, _ => some (.v (.int K (bits .xor K m n)))
      | .shl, _, .ofNat c => some (.v (.int K (K.wrap (m * 2 ^ min c K.bits))))
      | .shr, _, .ofNat c => some (.v (.int K (m.fdiv (2 ^ min c K.bits))))
      | _, _, _ => none
    | _, _ => none
  | .unOp .xor _ x => match evS E x with
    | some (.q (.c (.v (.int K n)))) => some (.v (.int K (bits .xor K (if K.signed then -1 else K.max) n)))
    | _ => none
  | .slice t x lo hi none => match evS E x, lenA t with
    | some (.a j off), some n => match bndS E lo 0, bndS E hi n with
      | some l, some h => match Nat.ble l h, Nat.ble h n, Nat.blt l n with
        | true, true, true => some (.s j (off + l) (h - l) (n - l))
        | _, _, _ => none
      | _, _ => none
    | _, _ => none
  | .sliceToArrayPointer t x => match evS E x, lenA t with
    | some (.s j off n _), some m => match Nat.ble m n with
      | true => some (.a j off)
      | false => none
    | _, _ => none
  | _ => none
theorem moreS_ok {E : SE} {N : Nat} {o : Oper} {v : SV} (h : moreS E o.op = some v) : v.Ok ∧ ∀ (G : Nat → Nat) (a : Act) (w : World), Fr N (denE G E) a → (execOp a.eval o).run Tryd.prog w = .ok (.value (v.den G)) w := by
  obtain ⟨dst, op, ty, pos, af, gd⟩ := o
  dsimp only at h
  unfold moreS at h
  split at h
  · rename_i op t x y _
    split at h
    · rename_i K m K' n hx hy
      have go : ∀ u : Value, (∀ w, (binOp op t (.int K m) (.int K' n)).run Tryd.prog w = .ok u w) → op ≠ .eql → op ≠ .neq → ∀ (G : Nat → Nat) (a : Act) (w : World), Fr N (denE G E) a → (execOp a.eval (⟨dst, .binOp op t x y ‹_›, ty, pos, af, gd⟩ : Oper)).run Tryd.prog w = .ok (.value ((SV.v u).den G)) w := fun u hu h1 h2 G a w ha => by
        have e1 := ha.eval (evS_ok (G := G) hx)
        have e2 := ha.eval (evS_ok (G := G) hy)
        unfold execOp
        simp only [e1, e2, SV.den, SQ.den, SC.den]
        cases op <;> first | (exact absurd rfl h1) | (exact absurd rfl h2) | simp [eqGuard, hu]
      split at h
      · rename_i h1
        cases h
        obtain rfl := ikB_ok h1
        exact ⟨trivial, go _ (fun w => run_andB) (by simp) (by simp)⟩
      · rename_i h1
        cases h
        obtain rfl := ikB_ok h1
        exact ⟨trivial, go _ (fun w => run_orB) (by simp) (by simp)⟩
      · rename_i h1
        cases h
        obtain rfl := ikB_ok h1
        exact ⟨trivial, go _ (fun w => run_xorB) (by simp) (by simp)⟩
      · cases h
        exact ⟨trivial, go _ (fun w => by simp only [binOp, Op.shift]; rw [if_neg (by simp)]; rfl) (by simp) (by simp)⟩
      · cases h
        exact ⟨trivial, go _ (fun w => by simp only [binOp, Op.shift]; rw [if_neg (by simp)]; rfl) (by simp) (by simp)⟩
      · cases h
    · cases h
  · rename_i t x
    split at h
    · rename_i K n hx
      cases h
      refine ⟨trivial, fun G a w ha => ?_⟩
      have e1 := ha.eval (evS_ok (G := G) hx)
      unfold execOp
      simp only [e1, SV.den, SQ.den, SC.den]
      cases K <;> go_simp
    · cases h
  · rename_i t x lo hi
    split at h
    · rename_i j off n hx hn
      split at h
      · rename_i l m hl hm
        split at h
        · rename_i c1 c2 c3
          cases h
          refine ⟨trivial, fun G a w ha => ?_⟩
          obtain ⟨e, ht, he⟩ := lenA_ok hn
          have e1 : a.eval x = .pointer (some ⟨G j, off, none⟩) := ha.eval (evS_ok hx)
          have go : ∀ {y : Option Operand} {q d : Nat}, bndS E y d = some q → y.map a.eval = none ∧ q = d ∨ ∃ K, y.map a.eval = some (.int K (q : Int)) := fun h => by
            rcases bndS_ok h with ⟨rfl, h9⟩ | ⟨u, K, rfl, h9⟩
            · exact .inl ⟨rfl, h9⟩
            · exact .inr ⟨K, congrArg some (ha.eval (evS_ok h9))⟩
          have hr := run_cutA (P := Tryd.prog) (g := G j) (off := off) ht he (go hl) (go hm) (Nat.le_of_ble_eq_true c1) (Nat.le_of_ble_eq_true c2) (Nat.le_of_ble_eq_true c3) w
          unfold execOp
          simp only [e1, Option.map_none, hr, Sem.run_bind, Sem.run_pure, Result.andThen_ok]
          rfl
        · cases h
      · cases h
    · cases h
  · rename_i t x
    split at h
    · rename_i j off n c m hx hm
      split at h
      · rename_i c1
        cases h
        refine ⟨trivial, fun G a w ha => ?_⟩
        obtain ⟨e, ht, he⟩ := lenA_ok hm
        have e1 : a.eval x = .slice (some ⟨G j, off, none⟩) n c := ha.eval (evS_ok hx)
        have hu := run_underlying (P := Tryd.prog) ht (w := w)
        unfold execOp
        simp only [e1, Instr.arrayAt, Sem.run_bind, hu, Result.andThen_ok]
        rw [if_neg (Nat.not_lt.2 (Nat.le_of_ble_eq_true c1))]
        rfl
      · cases h
    · cases h
  · cases h
/-- What is reckoned, bits too: the order forced. -/
def autoXL (ops : Array Oper) (N : Nat) : Nat → List Oper → SE → List LV → List Oper × SE × List LV
  | 0, l, E, L => autoS TY ops N l E L
  | f + 1, l, E, L => match autoS TY ops N l E L with
    | (o :: l', E', L') => match o.guard, o.dst, moreS E' o.op with
      | none, some k, some v => match Nat.blt k N with
        | true => autoXL ops N f l' ((k, v) :: E') L'
        | false => (o :: l', E', L')
      | _, _, _ => (o :: l', E', L')
    | ([], E', L') => ([], E', L')
/-- The same, ahead of new variables. -/
def autoXN (ops : Array Oper) (N : Nat) (L : List LV) : Nat → List Oper → SE → List Oper × SE
  | 0, l, E => autoN TY ops N L l E
  | f + 1, l, E => match autoN TY ops N L l E with
    | (o :: l', E') => match o.guard, o.dst, moreS E' o.op with
      | none, some k, some v => match Nat.blt k N with
        | true => autoXN ops N L f l' ((k, v) :: E')
        | false => (o :: l', E')
      | _, _, _ => (o :: l', E')
    | ([], E') => ([], E')
section
variable {b : Base} {ops : Array Oper} {Q : Exit → Act → World → Prop} {N : Nat} {G : Nat → Nat} {S : Nat → Prop} {R : List Res} {F M : World → Prop} {w0 : World} {Z : Act → Prop}
theorem autoXL_ok : ∀ {f : Nat} {l : List Oper} {E : SE} {L : List LV}, lS Tryd.prog b ops Q N (autoXL ops N f l E L).1 ⟨(autoXL ops N f l E L).2.1, (autoXL ops N f l E L).2.2, R, F, M⟩ → lS Tryd.prog b ops Q N l ⟨E, L, R, F, M⟩
  | 0, _, _, _, h => autoS_ok TY_ok h
  | f + 1, l, E, L, h => by
    unfold autoXL at h
    refine autoS_ok TY_ok ?_
    split at h
    · rename_i o l' E' L' e
      rw [e]
      split at h
      · rename_i k v hg hd hv
        split at h
        · rename_i hk
          exact l_op v (moreS_ok (N := N) hv).1 hg hd hk (moreS_ok hv).2 (autoXL_ok h)
        · exact h
      · exact h
    · rename_i E' L' e
      rw [e]
      exact h
theorem autoXN_ok {L : List LV} (hst : StW b G S L R F M w0) : ∀ {f : Nat} {l : List Oper} {E : SE}, OkE E → nS Tryd.prog ops N w0 Z G (autoXN ops N L f l E).1 (autoXN ops N L f l E).2 → nS Tryd.prog ops N w0 Z G l E
  | 0, _, _, hE, h => autoN_ok TY_ok hst hE h
  | f + 1, l, E, hE, h => by
    unfold autoXN at h
    refine n_auto TY_ok hst rfl ?_
    split at h
    · rename_i o l' E' e
      rw [e]
      split at h
      · rename_i k v hg hd hv
        split at h
        · rename_i hk
          exact n_op hst v (moreS_ok (N := N) hv).1 hg hd hk (moreS_ok hv).2 fun hE' => autoXN_ok hst hE' h hE'
        · exact h
      · exact h
    · rename_i E' e
      rw [e]
      exact h
theorem l_auto2 {l l' : List Oper} {E E' : SE} {L L' : List LV} (h : autoXL ops N l.length l E L = (l', E', L')) (hn : lS Tryd.prog b ops Q N l' ⟨E', L', R, F, M⟩) : lS Tryd.prog b ops Q N l ⟨E, L, R, F, M⟩ := autoXL_ok (by rw [h]; exact hn)
theorem n_auto2 {L : List LV} (hst : StW b G S L R F M w0) {l l' : List Oper} {E E' : SE} (h : autoXN ops N L l.length l E = (l', E')) (hn : nS Tryd.prog ops N w0 Z G l' E') : nS Tryd.prog ops N w0 Z G l E := fun hE => autoXN_ok hst hE (by rw [h]; exact hn) hE
end
/-! ### The call that comes next -/
def callB (N : Nat) (E : SE) (o : Oper) : Option (Nat × FuncId × List SV) := match o.guard, o.dst, o.op with
  | none, some k, .call { callee := .value (.func f), args := xs, argTypes := _ } => match Nat.blt k N with
    | true => match evSs E xs.toList with
      | some vs => some (k, f, vs)
      | none => none
    | false => none
  | _, _, _ => none
theorem callB_ok {N : Nat} {E : SE} {o : Oper} {k : Nat} {f : FuncId} {vs : List SV} (h : callB N E o = some (k, f, vs)) : o.guard = none ∧ o.dst = some k ∧ Nat.blt k N = true ∧ ∃ xs ats, o.op = .call { callee := .value (.func f), args := xs, argTypes := ats } ∧ evSs E xs.toList = some vs := by
  unfold callB at h
  split at h
  · rename_i k' f' xs ats hg hd ho
    split at h
    · rename_i hk
      split at h
      · rename_i us hu
        injection h with h
        injection h with h1 h
        injection h with h2 h3
        subst h1 h2 h3
        exact ⟨hg, hd, hk, xs, ats, ho, hu⟩
      · cases h
    · cases h
  · cases h
def nextN (ops : Array Oper) (N : Nat) (L : List LV) (l : List Oper) (E : SE) : Option (List Oper × SE × Nat × FuncId × List SV) := match autoXN ops N L l.length l E with
  | (o :: l', E') => match callB N E' o with
    | some (k, f, vs) => some (l', E', k, f, vs)
    | none => none
  | _ => none
def nextL (ops : Array Oper) (N : Nat) (l : List Oper) (E : SE) (L : List LV) : Option (List Oper × SE × List LV × Nat × FuncId × List SV) := match autoXL ops N l.length l E L with
  | (o :: l', E', L') => match callB N E' o with
    | some (k, f, vs) => some (l', E', L', k, f, vs)
    | none => none
  | _ => none
/-- A call's contract, over whatever lies there. -/
structure Ct {α : Type} (F : World → Prop) (f : FuncId) (qs : List SQ) (post : Post α) : Prop where
  own : Own f
  spec : Spec f (qs.map SQ.den) [] F post
section
variable {b : Base} {ops : Array Oper} {Q : Exit → Act → World → Prop} {N : Nat} {G : Nat → Nat} {S : Nat → Prop} {E E' : SE} {L L' : List LV} {R : List Res} {F M : World → Prop} {w0 : World} {Z : Act → Prop} {l l' : List Oper} {k : Nat} {α : Type} {post : Post α} {f : FuncId} {qs : List SQ}
theorem den_q (qs : List SQ) (G : Nat → Nat) : (qs.map SV.q).map (SV.den G) = qs.map SQ.den := by
  rw [List.map_map]
  rfl
/-- What is reckoned, then a call. -/
theorem n_X [Pst F] (hst : StW b G S L R F M w0) (c : Ct F f qs post) (h : nextN ops N L l E = some (l', E', k, f, qs.map SV.q)) (hn : ∀ x, nS Tryd.prog ops N w0 Z G l' ((k, (post.ret x).sv) :: E')) : nS Tryd.prog ops N w0 Z G l E := by
  unfold nextN at h
  split at h
  · rename_i o l2 E2 h2
    split at h
    · rename_i k2 f2 v2 h3
      simp only [Option.some.injEq, Prod.mk.injEq] at h
      obtain ⟨rfl, rfl, rfl, rfl, rfl⟩ := h
      obtain ⟨hg, hd, hk, xs, ats, ho, hx⟩ := callB_ok h3
      refine n_auto2 hst h2 fun hE => ?_
      refine f_callV (qs.map SQ.den).toArray (fun v => ∃ x, (post.ret x).sv.Ok ∧ v = (post.ret x).den) hg hd hk c.own (fun w hw => (c.spec w (fun _ => False) (fun _ => False) (fun _ h => h) (fun _ h => h.elim) (Stb.of_pst (hst.later hw).view.fact fun _ _ h => h.elim id id)).mono ?_) ho (by rw [evSs_ok hx, den_q]) ?_
      · rintro e w2 ⟨x, _, h1, h2, h3, _⟩
        exact ⟨_, h1, ⟨x, h2, rfl⟩, h3.up fun _ _ h => h⟩
      · rintro _ ⟨x, hx, rfl⟩
        have h := hn x (hE.cons hx)
        rw [show denE G ((k2, (post.ret x).sv) :: E2) = (k2, (post.ret x).den) :: denE G E2 by rw [denE, RV.sv_den]] at h
        exact h
    · cases h
  · cases h
theorem l_X (c : Ct F f qs post) (ho : ∀ x, post.own x = []) (h : nextL ops N l E L = some (l', E', L', k, f, qs.map SV.q)) (hn : ∀ x, lS Tryd.prog b ops Q N l' ⟨(k, (post.ret x).sv) :: E', L', R, F, M⟩) : lS Tryd.prog b ops Q N l ⟨E, L, R, F, M⟩ := by
  unfold nextL at h
  split at h
  · rename_i o l2 E2 L2 h2
    split at h
    · rename_i k2 f2 v2 h3
      simp only [Option.some.injEq, Prod.mk.injEq] at h
      obtain ⟨rfl, rfl, rfl, rfl, rfl, rfl⟩ := h
      obtain ⟨hg, hd, hk, xs, ats, ho', hx⟩ := callB_ok h3
      refine l_auto2 h2 ?_
      refine l_callA (own := []) (qs.map SQ.den) hg hd hk c.own ho' hx (fun G _ => den_q qs G) c.spec (fun w h _ => h) fun x => ?_
      rw [ho x]
      exact fun a w ⟨G, S, h1, h2, h3⟩ => hn x a w ⟨G, S, h1, h2, { h3 with fact := h3.fact.imp fun _ h => h.2, fresh := h3.fresh.imp fun _ h => h.2 }⟩
    · cases h
  · cases h
end
/-! ### New variables of rows and structs -/
def zT (t : TypeId) : List Pt := match findT TY t with
  | some r => r.zero
  | none => []
def nvs (us : List (Nat × TypeId)) : List NV := us.map fun u => ⟨u.1, u.2, catP (zT u.2)⟩
def nvB (N : Nat) : List Oper → List (Nat × TypeId) → Bool
  | _, [] => true
  | [], _ :: _ => false
  | o :: l, u :: us => match o.guard, o.dst, o.op with
    | none, some k, .alloc t => Nat.beq k u.1 && Nat.blt k N && Nat.beq t u.2 && (findT TY t).isSome && nvB N l us
    | _, _, _ => false
theorem zT_ok {t : TypeId} (h : (findT TY t).isSome = true) : ∃ r, findT TY t = some r ∧ r.ok Tryd.prog ∧ r.t = t ∧ zT t = r.zero := by
  unfold zT
  cases hr : findT TY t with
  | none => rw [hr] at h; cases h
  | some r => exact ⟨r, rfl, (findT_ok TY_ok hr).1, (findT_ok TY_ok hr).2, rfl⟩
theorem nvB_ok {N : Nat} : ∀ {l : List Oper} {us : List (Nat × TypeId)}, nvB N l us = true → nvOk Tryd.prog N l (nvs us)
  | _, [], _ => by unfold nvs; simp [nvOk]
  | [], _ :: _, h => by cases h
  | o :: l, u :: us, h => by
    unfold nvB at h
    split at h
    · rename_i k t hg hd ho
      simp only [Bool.and_eq_true] at h
      obtain ⟨⟨⟨⟨h1, h2⟩, h3⟩, h4⟩, h5⟩ := h
      obtain rfl := Nat.eq_of_beq_eq_true h1
      obtain rfl := Nat.eq_of_beq_eq_true h3
      obtain ⟨r, hr, hok, ht, hz⟩ := zT_ok h4
      obtain ⟨it, d, h6, h7, h8, h9, _⟩ := hok.info
      refine ⟨⟨hg, hd, h2, ho, ?_⟩, nvB_ok h5⟩
      show (Tryd.prog.info? u.2).bind _ = some (catP (zT u.2))
      rw [hz, ← ht, h6, Option.bind_some, h9]
    · cases h
def newRB (N n : Nat) (l : List Oper) (us : List (Nat × TypeId)) : Bool := Nat.ble (n + us.length) l.length && tsApart (nvs us) && nvB N (l.drop n) us && tailB l.toArray n us.length (l.drop (n + us.length)).length && newC l.toArray n (marks us.length n (marks n 0 (Array.replicate l.toArray.size false))) us.length (List.range us.length) (marks n 0 (Array.replicate l.toArray.size false))
def stX : List (Nat × TypeId) → List Oper → Option (List Operand × List Oper)
  | [], T => some ([], T)
  | u :: us, o :: T => match o.guard, o.dst, o.op with
    | none, none, .store t (.tmp k) y => match Nat.beq t u.2, Nat.beq k u.1, stX us T with
      | true, true, some (xs, T2) => some (y :: xs, T2)
      | _, _, _ => none
    | _, _, _ => none
  | _, [] => none
theorem stX_ok : ∀ {us : List (Nat × TypeId)} {T T2 : List Oper} {xs : List Operand}, stX us T = some (xs, T2) → stOk (nvs us) xs T T2
  | [], _, _, _, h => by cases h; rfl
  | _ :: _, [], _, _, h => by cases h
  | u :: us, o :: T, T2, xs, h => by
    unfold stX at h
    split at h
    · rename_i t k y hg hd ho
      split at h
      · rename_i ys T3 h1 h2 h3
        cases h
        obtain rfl := Nat.eq_of_beq_eq_true h1
        obtain rfl := Nat.eq_of_beq_eq_true h2
        exact ⟨⟨hg, hd, ho⟩, stX_ok h3⟩
      · cases h
    · cases h
/-- The new variables, by what they are given. -/
def mkV (E : SE) : List (Nat × TypeId) → List Operand → Option (List LV)
  | [], [] => some []
  | u :: us, x :: xs => match evS E x, mkV E us xs with
    | some (.q (.p ps)), some vs => match Nat.beq (sizeP ps) (sizeP (zT u.2)), (findT TY u.2).isSome, lookS E u.1 with
      | true, true, none => some (⟨u.1, none, u.2, ps⟩ :: vs)
      | _, _, _ => none
    | _, _ => none
  | _, _ => none
theorem mkV_ok {E : SE} (hE : OkE E) (G : Nat → Nat) : ∀ {us : List (Nat × TypeId)} {xs : List Operand} {vs : List LV}, mkV E us xs = some vs → nvL vs (us.map fun u => catP (zT u.2)) = nvs us ∧ vs.length = us.length ∧ (∀ v ∈ vs, OkP v.ps) ∧ far (denE G E) (nvs us) ∧ valOk Tryd.prog (denE G E) (nvs us) xs (vs.map fun v => catP v.ps)
  | [], [], _, h => by cases h; exact ⟨rfl, rfl, (fun _ h => by cases h), trivial, trivial⟩
  | [], _ :: _, _, h => by cases h
  | _ :: _, [], _, h => by cases h
  | u :: us, x :: xs, vs, h => by
    unfold mkV at h
    split at h
    · rename_i ps ws h1 h2
      split at h
      · rename_i h3 h4 h5
        cases h
        obtain ⟨e1, e2, e3, e4, e5⟩ := mkV_ok hE G h2
        obtain ⟨r, hr, hok, ht, hz⟩ := zT_ok h4
        obtain ⟨it, d, h6, h7, h8, h9, _⟩ := hok.info
        have hp : OkP ps := hE.ev h1
        have hs : sizeP ps = sizeP r.zero := hz ▸ Nat.eq_of_beq_eq_true h3
        refine ⟨congrArg (_ :: ·) e1, congrArg (· + 1) e2, fun v hv => ?_, ⟨by rw [look_den, h5]; rfl, e4⟩, ⟨⟨evS_ok h1, ?_, ?_, fun v hv => hp.one v hv⟩, e5⟩⟩
        · rcases List.mem_cons.1 hv with rfl | hv
          · exact hp
          · exact e3 v hv
        · show (catP (zT u.2)).size = (catP ps).size
          rw [hz, hok.2.size, hp.size, hs]
        · show (Tryd.prog.info? u.2).map (·.size) = some (catP ps).size
          rw [← ht, h6, hp.size, hs, ← h8]
          rfl
      · cases h
    · cases h
/-- What is left behind a drawn region with new variables. -/
def endN (ops : Array Oper) (N : Nat) (us : List (Nat × TypeId)) (L : List LV) (T' l : List Oper) (E : SE) : Option (SE × List LV) := match autoXN ops N L l.length l E with
  | ([], E1) => match stX us T' with
    | some (xs, T2) => match mkV E1 us xs with
      | some vs => match freeV E1 L vs with
        | true => match autoXL ops N T2.length T2 (ptrV vs E1) (vs ++ L) with
          | ([], E2, L2) => some (E2, L2)
          | _ => none
        | false => none
      | none => none
    | none => none
  | _ => none
section
variable {b : Base} {Q : Exit → Act → World → Prop} {N : Nat} {G : Nat → Nat} {S : Nat → Prop} {E E' E2 : SE} {L L' L2 : List LV} {R : List Res} {F M : World → Prop} {w0 : World} {T' l : List Oper} {id : Nat} {y : Code} {ops : Array Oper} {K : Act → World → Prop}
/-- **A drawn region**: n operations that are reckoned or called, the new variables us, then stores. -/
theorem s_N (n : Nat) (us : List (Nat × TypeId)) (hB : newRB N n l us = true)
    (h : ∀ K : Act → World → Prop, (∀ e', cS Tryd.prog b y Q N e' → kS b K N e') → ∀ G S w0, StW b G S L R F M w0 → nS Tryd.prog l.toArray N w0 (newPost Tryd.prog l.toArray (NoPanic (Exit.then K Q)) w0 (nvs us) (l.drop (n + us.length)) N) G (l.take n) E) : cS Tryd.prog b (.seq (.region id l.toArray true) y) Q N ⟨E, L, R, F, M⟩ := by
  unfold newRB at hB
  simp only [Bool.and_eq_true] at hB
  obtain ⟨⟨⟨⟨h1, h2⟩, h3⟩, h4⟩, h5⟩ := hB
  have hl : (nvs us).length = us.length := by simp [nvs]
  rw [← hl] at h1 h4 h5 h
  exact s_new n (nvs us) (Nat.le_of_ble_eq_true h1) h2 (nvB_ok h3) rfl h4 h5 h
/-- Its end. -/
theorem n_N {us : List (Nat × TypeId)} (hst : StW b G S L R F M w0) (hap : tsApart (nvs us) = true) (hK : ∀ e', cS Tryd.prog b y Q N e' → kS b K N e') (h : endN ops N us L T' l E = some (E2, L2)) (hn : cS Tryd.prog b y Q N ⟨E2, L2, R, F, M⟩) : nS Tryd.prog ops N w0 (newPost Tryd.prog ops (NoPanic (Exit.then K Q)) w0 (nvs us) T' N) G l E := by
  unfold endN at h
  split at h
  · rename_i E1 h1
    split at h
    · rename_i xs T2 h2
      split at h
      · rename_i vs h3
        split at h
        · rename_i h4
          split at h
          · rename_i E3 L3 h5
            cases h
            refine n_auto2 hst h1 fun hE => ?_
            obtain ⟨e1, e2, e3, e4, e5⟩ := mkV_ok hE G h3
            exact n_new hst vs _ xs e1 (by rw [e2, List.length_map]) h4 e3 e4 hap (stX_ok h2) e5 (l_auto2 h5 (s_end (hK _ hn))) hE
          · cases h
        · cases h
      · cases h
    · cases h
  · cases h
theorem l_E {l : List Oper} {ops : Array Oper} (h : autoXL ops N l.length l E L = ([], E2, L2)) (hn : kS b (Q .normal) N ⟨E2, L2, R, F, M⟩) : lS Tryd.prog b ops Q N l ⟨E, L, R, F, M⟩ := l_auto2 h (s_end hn)
/-- A region whose order is forced: its end. -/
theorem l_N (hK : ∀ e', cS Tryd.prog b y Q N e' → kS b K N e') (h : autoXL ops N l.length l E L = ([], E2, L2)) (hn : cS Tryd.prog b y Q N ⟨E2, L2, R, F, M⟩) : lS Tryd.prog b ops (Exit.then K Q) N l ⟨E, L, R, F, M⟩ := l_auto2 h (s_end (hK _ hn))
end

/-- A cell of a variable's row: where it lies, what is asked. -/
structure RwL where
  k1 : Nat
  k2 : Nat
  j : Nat
  off : Nat
  i : Nat
  t : TypeId
  ps : List Pt
  K : IntKind := .u8
  m : Int := 0
def ixS (N : Nat) (E : SE) (L : List LV) (o : Oper) : Option RwL := match o.guard, o.dst, o.op with
  | none, some k, .indexAddr t x y => match evS E x, evS E y, Nat.blt k N with
    | some (.a j off), some (.q (.c (.v (.int _ (.ofNat i))))), true => match lookL L j with
      | some ps => some { k1 := k, k2 := 0, j := j, off := off, i := i, t := t, ps := ps }
      | none => none
    | _, _, _ => none
  | _, _, _ => none
theorem ixS_ok {N : Nat} {E : SE} {L : List LV} {o : Oper} {u : RwL} (h : ixS N E L o = some u) : o.guard = none ∧ o.dst = some u.k1 ∧ Nat.blt u.k1 N = true ∧ lookL L u.j = some u.ps ∧ ∃ x y K, o.op = .indexAddr u.t x y ∧ evS E x = some (.a u.j u.off) ∧ evS E y = some (.v (.int K (u.i : Int))) := by
  unfold ixS at h
  split at h
  · rename_i k t x y hg hd ho
    split at h
    · rename_i j off K i hx hy hk
      split at h
      · rename_i ps hl
        cases h
        exact ⟨hg, hd, hk, hl, x, y, K, ho, hx, hy⟩
      · cases h
    · cases h
  · cases h
/-- It is read. -/
def ldS (N : Nat) (E : SE) (L : List LV) (o1 o2 : Oper) : Option RwL := match ixS N E L o1, o2.guard, o2.dst, o2.op with
  | some u, none, some k, .load e (.tmp z) => match Nat.beq z u.k1, Nat.blt k N, findT TY e with
    | true, true, some r => match r.kind with
      | 0 => some { u with k2 := k }
      | _ => none
    | _, _, _ => none
  | _, _, _, _ => none
theorem ldS_ok {N : Nat} {E : SE} {L : List LV} {o1 o2 : Oper} {u : RwL} (h : ldS N E L o1 o2 = some u) : ∃ u0 : RwL, ixS N E L o1 = some u0 ∧ u = { u0 with k2 := u.k2 } ∧ o2.guard = none ∧ o2.dst = some u.k2 ∧ Nat.blt u.k2 N = true ∧ ∃ e d, o2.op = .load e (.tmp u0.k1) ∧ Tryd.prog.underlying e = some d ∧ d.isRow = false := by
  unfold ldS at h
  split at h
  · rename_i u0 k e z h0 hg hd ho
    split at h
    · rename_i r hz hk hr
      split at h
      · rename_i h9
        cases h
        obtain rfl := Nat.eq_of_beq_eq_true hz
        obtain ⟨h1, h2⟩ := findT_ok TY_ok hr
        obtain ⟨it, d, _, h4, _, _, h7, _⟩ := h1.info
        exact ⟨u0, h0, rfl, hg, hd, hk, e, d, ho, h2 ▸ h4, kind_not (h7.trans h9)⟩
      · cases h
    · cases h
  · cases h
/-- It is written. -/
def wrS (N : Nat) (E : SE) (L : List LV) (o1 o2 : Oper) : Option RwL := match ixS N E L o1, o2.guard, o2.dst, o2.op with
  | some u, none, none, .store e (.tmp z) y => match Nat.beq z u.k1, evS E y, findT TY e with
    | true, some (.q (.c (.v (.int K m)))), some r => match Nat.beq (sizeP r.zero) 1, lookS E u.k1 with
      | true, none => some { u with K := K, m := m }
      | _, _ => none
    | _, _, _ => none
  | _, _, _, _ => none
theorem wrS_ok {N : Nat} {E : SE} {L : List LV} {o1 o2 : Oper} {u : RwL} (h : wrS N E L o1 o2 = some u) : ∃ u0 : RwL, ixS N E L o1 = some u0 ∧ u = { u0 with K := u.K, m := u.m } ∧ o2.guard = none ∧ o2.dst = none ∧ lookS E u0.k1 = none ∧ ∃ e y, o2.op = .store e (.tmp u0.k1) y ∧ evS E y = some (.v (.int u.K u.m)) ∧ (Tryd.prog.info? e).map (·.size) = some 1 := by
  unfold wrS at h
  split at h
  · rename_i u0 e z y h0 hg hd ho
    split at h
    · rename_i K m r hz hy hr
      split at h
      · rename_i h9 hl
        cases h
        obtain rfl := Nat.eq_of_beq_eq_true hz
        obtain ⟨h1, h2⟩ := findT_ok TY_ok hr
        obtain ⟨it, d, h3, _, h5, _⟩ := h1.info
        exact ⟨u0, h0, rfl, hg, hd, hl, e, y, ho, hy, by rw [← h2, h3, Option.map_some, h5, Nat.eq_of_beq_eq_true h9]⟩
      · cases h
    · cases h
  · cases h
theorem lookS_cons {E : SE} {k j : Nat} {v : SV} (h : Nat.beq k j = false) : lookS ((k, v) :: E) j = lookS E j := by rw [lookS, h]
theorem evS_new {E : SE} {k : Nat} {v u : SV} {x : Operand} (hk : lookS E k = none) (h : evS E x = some u) : evS ((k, v) :: E) x = some u := by
  cases x with
  | tmp j =>
    have h : lookS E j = some u := h
    cases hb : Nat.beq k j with
    | false => exact (lookS_cons hb).trans h
    | true =>
      rw [← Nat.eq_of_beq_eq_true hb, hk] at h
      cases h
  | _ => exact h
section
variable {b : Base} {ops : Array Oper} {Q : Exit → Act → World → Prop} {N n : Nat} {G : Nat → Nat} {S : Nat → Prop} {E : SE} {L : List LV} {R : List Res} {F M : World → Prop} {w0 : World} {Z : Act → Prop} {rest : List Oper} {o1 o2 : Oper} {u : RwL}
theorem l_cell (h : ldS N E L o1 o2 = some u) (ha : Arr u.t n) (hi : u.i < n) (v : Value) (hv : (catP u.ps)[u.off + u.i]? = some v) (hn : lS Tryd.prog b ops Q N rest ⟨(u.k2, .v v) :: (u.k1, .a u.j (u.off + u.i)) :: E, L, R, F, M⟩) : lS Tryd.prog b ops Q N (o1 :: o2 :: rest) ⟨E, L, R, F, M⟩ := by
  obtain ⟨u0, h0, hu0, hg, hd, hk, e, d, ho, hu, hr⟩ := ldS_ok h
  rw [hu0] at ha hi hv hn
  dsimp only at ha hi hv hn
  obtain ⟨hg1, hd1, hk1, hl, x, y, K, ho1, hx, hy⟩ := ixS_ok h0
  obtain ⟨te, ht, he⟩ := ha
  refine l_op (.a u0.j (u0.off + 1 * u0.i)) trivial hg1 hd1 hk1 (runO_ixA u0.i ho1 ht he hx hy hi) ?_
  rw [Nat.one_mul]
  exact l_opV (.v v) trivial hg hd hk (runO_ldA v ho (by show lookS ((u0.k1, _) :: E) u0.k1 = _; unfold lookS; rw [Nat.beq_refl]) hl hv hu hr) hn
theorem n_cell (hst : StW b G S L R F M w0) (h : ldS N E L o1 o2 = some u) (ha : Arr u.t n) (hi : u.i < n) (v : Value) (hv : (catP u.ps)[u.off + u.i]? = some v) (hn : nS Tryd.prog ops N w0 Z G rest ((u.k2, .v v) :: (u.k1, .a u.j (u.off + u.i)) :: E)) : nS Tryd.prog ops N w0 Z G (o1 :: o2 :: rest) E := by
  obtain ⟨u0, h0, hu0, hg, hd, hk, e, d, ho, hu, hr⟩ := ldS_ok h
  rw [hu0] at ha hi hv hn
  dsimp only at ha hi hv hn
  obtain ⟨hg1, hd1, hk1, hl, x, y, K, ho1, hx, hy⟩ := ixS_ok h0
  obtain ⟨te, ht, he⟩ := ha
  refine n_op hst (.a u0.j (u0.off + 1 * u0.i)) trivial hg1 hd1 hk1 (runO_ixA u0.i ho1 ht he hx hy hi) ?_
  rw [Nat.one_mul]
  exact n_opV hst (.v v) trivial hg hd hk (runO_ldA v ho (by show lookS ((u0.k1, _) :: E) u0.k1 = _; unfold lookS; rw [Nat.beq_refl]) hl hv hu hr) hn
theorem l_put (h : wrS N E L o1 o2 = some u) (ha : Arr u.t n) (hi : u.i < n) (ps' : List Pt) (hp : OkP ps') (hlt : u.off + u.i < (catP u.ps).size) (hs : (catP ps').toList = (catP u.ps).toList.set (u.off + u.i) (.int u.K u.m)) (hn : lS Tryd.prog b ops Q N rest ⟨(u.k1, .a u.j (u.off + u.i)) :: E, putL L u.j ps', R, F, M⟩) : lS Tryd.prog b ops Q N (o1 :: o2 :: rest) ⟨E, L, R, F, M⟩ := by
  obtain ⟨u0, h0, hu, hg, hd, hl, e, y', ho, hy', he1⟩ := wrS_ok h
  rw [hu] at ha hi hlt hs hn
  dsimp only at ha hi hlt hs hn
  obtain ⟨hg1, hd1, hk1, hlk, x, y, K, ho1, hx, hy⟩ := ixS_ok h0
  obtain ⟨te, ht, he⟩ := ha
  refine l_op (.a u0.j (u0.off + 1 * u0.i)) trivial hg1 hd1 hk1 (runO_ixA u0.i ho1 ht he hx hy hi) ?_
  rw [Nat.one_mul]
  exact l_stA ps' hg hd ho (by show lookS ((u0.k1, _) :: E) u0.k1 = _; unfold lookS; rw [Nat.beq_refl]) (evS_new hl hy') hlk he1 rfl rfl hlt hp hs hn
theorem n_ix (hst : StW b G S L R F M w0) (h : ixS N E L o1 = some u) (ha : Arr u.t n) (hi : u.i < n) (hn : nS Tryd.prog ops N w0 Z G rest ((u.k1, .a u.j (u.off + u.i)) :: E)) : nS Tryd.prog ops N w0 Z G (o1 :: rest) E := by
  obtain ⟨hg1, hd1, hk1, hl, x, y, K, ho1, hx, hy⟩ := ixS_ok h
  obtain ⟨te, ht, he⟩ := ha
  refine n_op hst (.a u.j (u.off + 1 * u.i)) trivial hg1 hd1 hk1 (runO_ixA u.i ho1 ht he hx hy hi) ?_
  rw [Nat.one_mul]
  exact hn
/-- A cell is written. -/
def stC (E : SE) (L : List LV) (o : Oper) : Option RwL := match o.guard, o.dst, o.op with
  | none, none, .store e x y => match evS E x, evS E y, findT TY e with
    | some (.a j off), some (.q (.c (.v (.int K m)))), some r => match Nat.beq (sizeP r.zero) 1, lookL L j with
      | true, some ps => some { k1 := 0, k2 := 0, j := j, off := off, i := 0, t := e, ps := ps, K := K, m := m }
      | _, _ => none
    | _, _, _ => none
  | _, _, _ => none
theorem l_st1 (h : stC E L o1 = some u) (ps' : List Pt) (hp : OkP ps') (hlt : u.off < (catP u.ps).size) (hs : (catP ps').toList = (catP u.ps).toList.set u.off (.int u.K u.m)) (hn : lS Tryd.prog b ops Q N rest ⟨E, putL L u.j ps', R, F, M⟩) : lS Tryd.prog b ops Q N (o1 :: rest) ⟨E, L, R, F, M⟩ := by
  unfold stC at h
  split at h
  · rename_i e x y hg hd ho
    split at h
    · rename_i j off K m r hx hy hr
      split at h
      · rename_i ps h9 hl
        cases h
        obtain ⟨h1, h2⟩ := findT_ok TY_ok hr
        obtain ⟨it, d, h3, _, h5, _⟩ := h1.info
        exact l_stA ps' hg hd ho hx hy hl (by rw [← h2, h3, Option.map_some, h5, Nat.eq_of_beq_eq_true h9]) rfl rfl hlt hp hs hn
      · cases h
    · cases h
  · cases h
theorem n_eq {l : List Oper} (k : Nat) {v : SV} (v' : SV) (h : lookS E k = some v) (he : v = v') (hn : nS Tryd.prog ops N w0 Z G l ((k, v') :: E)) : nS Tryd.prog ops N w0 Z G l E := fun hE => by
  subst he
  exact fun a ha => hn (hE.cons (hE.get h)) a (ha.more (ha.get k _ (by rw [look_den, h]; rfl)))
theorem n_num {l : List Oper} (k : Nat) {K : IntKind} {m : Int} (n : Int) (h : lookS E k = some (.v (.int K m))) (he : m = n) (hn : nS Tryd.prog ops N w0 Z G l ((k, .v (.int K n)) :: E)) : nS Tryd.prog ops N w0 Z G l E := n_eq k _ h (by rw [he]) hn
/-- A drawn region without new variables, behind which nothing comes. -/
theorem s_drawnN {l : List Oper} {id : Nat} (n : Nat) (hB : newRB N n l [] = true) (h : ∀ G S w0, StW b G S L R F M w0 → nS Tryd.prog l.toArray N w0 (newPost Tryd.prog l.toArray (NoPanic Q) w0 (nvs []) (l.drop n) N) G (l.take n) E) : cS Tryd.prog b (.region id l.toArray true) Q N ⟨E, L, R, F, M⟩ := by
  unfold newRB at hB
  simp only [Bool.and_eq_true] at hB
  obtain ⟨⟨⟨⟨h1, _⟩, h3⟩, h4⟩, h5⟩ := hB
  exact fun a w ⟨G, S, g1, g2, g3⟩ => wp_region_noPanic (c_new n (nvs []) (Nat.le_of_ble_eq_true h1) rfl (nvB_ok h3) rfl h4 h5 (fun _ _ _ _ _ h => h) (h G S w g3 g2) a g1)
/-- Behind the reads, the rest in its order. -/
theorem n_L (hst : StW b G S L R F M w0) {T' : List Oper} {l : List Oper} {E2 : SE} (h : autoXN ops N L l.length l E = ([], E2)) (hn : lS Tryd.prog b ops Q N T' ⟨E2, L, R, F, M⟩) : nS Tryd.prog ops N w0 (newPost Tryd.prog ops Q w0 (nvs []) T' N) G l E :=
  n_auto2 hst h (n_new hst [] [] [] rfl rfl rfl (fun _ h => by cases h) trivial rfl rfl trivial hn)
end
theorem Ct.imp {α : Type} {F F' : World → Prop} {f : FuncId} {qs : List SQ} {post : Post α} (c : Ct F f qs post) (h : ∀ w, F' w → F w) : Ct F' f qs post := ⟨c.own, c.spec.imp h⟩
section
variable {P : Program} {N : Nat} {E : SE} {o : Oper} {x : Operand} {t : TypeId} {d : TypeDesc} {L : List LV} {R : List Res} {F M : World → Prop}
/-- A cell behind a pointer. -/
theorem run_ldM {a0 : Addr} {v : Value} (ho : o.op = .load t x) (hx : evS E x = some (.v (.pointer (some a0)))) (hu : P.underlying t = some d) (hr : d.isRow = false) (hc : ∀ G S w, View G S L R F M w → w.cell? a0 = some v) : ∀ (G : Nat → Nat) (S : Nat → Prop) (a : Act) (w : World), Fr N (denE G E) a → View G S L R F M w → (execOp a.eval o).run P w = .ok (.value ((SV.v v).den G)) w := fun G S a w ha hw => by
  have h1 := ha.eval (evS_ok (G := G) hx)
  have h2 := run_load_cell (P := P) (t := t) hu hr (hc G S w hw)
  unfold execOp
  simp only [ho, h1, SV.den, SQ.den, SC.den, h2, Sem.run_bind, Sem.run_pure, Result.andThen_ok]
end
instance {α : Type} {f : α → RV} {x : α} : Pst (({ ret := f } : Post α).p x) := ⟨fun _ _ _ _ => trivial⟩
theorem no_ok : ∀ u ∈ ([] : List SQ), u.Ok := fun _ h => by cases h
end Go.Proofs.YtcbfalfkdnfelaaDoor
/-
PLAIN NUMBERS: primes, Fermat's little theorem, Pocklington's criterion; p = 2^255 - 19 is prime. No program is imported.
PLAIN NUMBERS: the numbers modulo a prime as Fin n: no divisors of zero, powers, inverses, roots. No program is imported.
PLAIN NUMBERS: the curve -x² + y² = 1 + d x² y² modulo a prime, where -1 is a square and d is none: its sums are a group. No program is imported.
-/

namespace Nums

/-! Fermat. -/
/-! Powers modulo a number, reckoned. -/
end Nums

namespace Nums
end Nums

namespace Nums

section
variable {n : Nat} [NeZero n]

namespace Ed
variable {d : Fin n}

end Ed
end
end Nums
/-
PLAIN NUMBERS: the sums of the curve's points are a group; multiples. No program is imported.
PLAIN NUMBERS: multiples of the curve's points; the sum in coordinates over one z. No program is imported.
PLAIN NUMBERS: p = 2^255 - 19: which numbers are squares, and their roots; the curve's d. No program is imported.
-/
namespace Nums
namespace Ed
variable {n : Nat} [NeZero n] {d : Fin n}

end Ed
end Nums

namespace Nums
namespace Ed
variable {n : Nat} [NeZero n] {d : Fin n}

end Ed
end Nums

namespace Nums

end Nums
/-
PLAIN NUMBERS: the base point's order divides L. No program is imported.
PLAIN NUMBERS: rows of digits of 16 bits, carries, products digit by digit. No program is imported.
PLAIN NUMBERS: 16 digits of 16 bits as numbers modulo p: carries that come back 38 times, products, the packed row. No program is imported.
PLAIN NUMBERS: the packed row (below p), its bytes, the folded product. No program is imported.
-/
namespace Nums

end Nums

namespace Nums

end Nums

namespace Nums

end Nums

namespace Nums

/-- Bytes, the least first. -/
def le : List UInt8 → Nat
  | [] => 0
  | b :: bs => b.toNat + 256 * le bs

/-- The bytes of digits, the digits of bytes. -/
def split : List Int → List UInt8
  | [] => []
  | d :: ds => UInt8.ofNat (d % 256).toNat :: UInt8.ofNat (d / 256).toNat :: split ds
theorem le_inj : ∀ {a b : List UInt8}, a.length = b.length → le a = le b → a = b
  | [], [], _, _ => rfl
  | x :: a, y :: b, hl, h => by
    have h1 := x.toNat_lt
    have h2 := y.toNat_lt
    have h3 : x.toNat + 256 * le a = y.toNat + 256 * le b := h
    have h4 : x = y := UInt8.toNat.inj (by omega)
    have h5 := le_inj (a := a) (b := b) (by simpa using hl) (by omega)
    rw [h4, h5]

/-- So many bytes of a number, the least first. -/
def bytes : Nat → Nat → List UInt8
  | 0, _ => []
  | k + 1, v => UInt8.ofNat v :: bytes k (v / 256)
theorem bytes_len : ∀ k v, (bytes k v).length = k
  | 0, _ => rfl
  | k + 1, v => by show (bytes k (v / 256)).length + 1 = k + 1; rw [bytes_len]
theorem le_bytes : ∀ k v, le (bytes k v) = v % 256 ^ k
  | 0, v => by show 0 = v % 1; omega
  | k + 1, v => by
    show (UInt8.ofNat v).toNat + 256 * le (bytes k (v / 256)) = v % 256 ^ (k + 1)
    rw [le_bytes, UInt8.toNat_ofNat', show 256 ^ (k + 1) = 256 * 256 ^ k by rw [Nat.pow_succ, Nat.mul_comm], Nat.mod_mul]

end Nums
