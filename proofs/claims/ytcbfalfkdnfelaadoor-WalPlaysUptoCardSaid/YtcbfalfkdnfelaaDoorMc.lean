/-
  SEVERAL TEXTS IN ONE: Va, Vb, Vc, Vd, Ve.
-/
import Derived.Test.YtcbfalfkdnfelaaDoorMb
import Derived.Deep.MidRow
import Derived.Laws.Tables
/-
  STEPS OVER STATES THAT ARE RECKONED AT ONCE: moves, choices, parts of variables read and written, new variables, structs put together.
-/
namespace Go.Proofs.YtcbfalfkdnfelaaDoor
open Go.RowKit Go.IntWalk

/-! ### Types, by the parts of their noughts -/
/-- A type: a cell (0), a row of cells (1), a struct (2); the parts of its nought; of what a slice is; which kind of number; is it a pointer? its bytes. -/
structure TyR where
  t : TypeId
  kind : Nat
  zero : List Pt
  el : Option TypeId := none
  ik : Option IntKind := none
  pt : Bool := false
  w : Nat := 8
def kindOf : TypeDesc → Nat
  | .array _ _ => 1
  | .struct _ => 2
  | _ => 0
def elOf : TypeDesc → Option TypeId
  | .slice e => some e
  | _ => none
def ikOf : TypeDesc → Option IntKind
  | .int k => some k
  | _ => none
def ptOf : TypeDesc → Bool
  | .pointer _ => true
  | _ => false
def rowOf (P : Program) (t : TypeId) : Option (Nat × Option (Array Value) × Nat × Option (List (Nat × Nat)) × Option TypeId × Option IntKind × Bool × Nat) :=
  match P.info? t, P.underlying t with
  | some it, some d => some (it.size, it.zero.map (·.cells), kindOf d, (match d with
    | .struct fs => fs.toList.mapM fun f => (P.info? f.type).map fun i => (f.offset, i.size)
    | .array _ e => (P.info? e).map fun _ => []
    | _ => some []), elOf d, ikOf d, ptOf d, it.bytes)
  | _, _ => none
def placesP : Nat → List Pt → List (Nat × Nat)
  | _, [] => []
  | o, p :: r => (o, p.size) :: placesP (o + p.size) r
def TyR.ok (P : Program) (r : TyR) : Prop := rowOf P r.t = some (sizeP r.zero, some (catP r.zero), r.kind, some (match r.kind with | 2 => placesP 0 r.zero | _ => []), r.el, r.ik, r.pt, r.w) ∧ OkP r.zero
def OkT (P : Program) (T : List TyR) : Prop := ∀ r ∈ T, r.ok P
def isOneB : Value → Bool
  | .agg _ => false
  | .tuple _ => false
  | _ => true
theorem isOneB_ok {v : Value} (h : isOneB v = true) : v.oneCell' = true ∧ v.cells = #[v] := by
  cases v <;> first | exact ⟨rfl, rfl⟩ | cases h
def okPB (ps : List Pt) : Bool := ps.all fun p => match p with
  | .one (.v v) => isOneB v
  | .one _ => false
  | .agg n cs => cs.size == n && cs.toList.all fun v => v.oneCell'
theorem okPB_ok {ps : List Pt} (h : okPB ps = true) : OkP ps := fun p hp => by
  have := List.all_eq_true.1 h p hp
  cases p with
  | one s =>
    cases s with
    | v x => exact ⟨trivial, isOneB_ok this⟩
    | b e => cases this
    | o x => cases this
  | agg n cs =>
    simp only [Bool.and_eq_true, beq_iff_eq, List.all_eq_true] at this
    exact this
/-- A table of types is right. -/
theorem okT_of {P : Program} {T : List TyR} (h : T.map (fun r => rowOf P r.t) = T.map fun r => some (sizeP r.zero, some (catP r.zero), r.kind, some (match r.kind with | 2 => placesP 0 r.zero | _ => []), r.el, r.ik, r.pt, r.w))
    (h2 : (T.all fun r => okPB r.zero) = true) : OkT P T := fun r hr => by
  refine ⟨?_, okPB_ok (List.all_eq_true.1 h2 r hr)⟩
  obtain ⟨i, hi, rfl⟩ := List.getElem_of_mem hr
  have h1 := congrArg (·[i]?) h
  simpa [hi] using h1
def findT : List TyR → TypeId → Option TyR
  | [], _ => none
  | r :: T, t => match Nat.beq r.t t with
    | true => some r
    | false => findT T t
theorem findT_ok {P : Program} : ∀ {T : List TyR} {t : TypeId} {r : TyR}, OkT P T → findT T t = some r → r.ok P ∧ r.t = t
  | [], _, _, _, h => by cases h
  | r0 :: T, t, r, hT, h => by
    unfold findT at h
    split at h
    · rename_i e
      injection h with h
      subst h
      exact ⟨hT _ List.mem_cons_self, Nat.eq_of_beq_eq_true e⟩
    · exact findT_ok (fun r hr => hT r (List.mem_cons_of_mem _ hr)) h
section
variable {P : Program} {r : TyR}
theorem TyR.ok.info (h : r.ok P) : ∃ it d, P.info? r.t = some it ∧ P.underlying r.t = some d ∧ it.size = sizeP r.zero ∧ it.zero.map (·.cells) = some (catP r.zero) ∧ kindOf d = r.kind ∧
    (match d with | .struct fs => fs.toList.mapM fun f => (P.info? f.type).map fun i => (f.offset, i.size) | .array _ e => (P.info? e).map fun _ => [] | _ => some []) = some (match r.kind with | 2 => placesP 0 r.zero | _ => []) ∧ elOf d = r.el ∧ ikOf d = r.ik ∧ ptOf d = r.pt ∧ it.bytes = r.w := by
  have h1 := h.1
  unfold rowOf at h1
  split at h1
  · rename_i it d h2 h3
    simp only [Option.some.injEq, Prod.mk.injEq] at h1
    exact ⟨it, d, h2, h3, h1.1, h1.2.1, h1.2.2.1, h1.2.2.2.1, h1.2.2.2.2⟩
  · cases h1
end
theorem kind_row {d : TypeDesc} (h : kindOf d ≠ 0) : d.isRow = true := by
  cases d <;> first | rfl | exact absurd rfl h
theorem kind_not {d : TypeDesc} (h : kindOf d = 0) : d.isRow = false := by
  cases d <;> first | rfl | cases h

/-! ### Loads and stores -/
def loadS (T : List TyR) (ps : List Pt) (t : TypeId) (off : Nat) : Option SQ := match findT T t with
  | none => none
  | some r => match r.kind with
    | 0 => match atP ps off with
      | some (.one v) => some (.c v)
      | _ => none
    | _ + 1 => match Nat.beq off 0, Nat.beq (sizeP ps) (sizeP r.zero) with
      | true, true => some (.p ps)
      | _, _ => match atP ps off with
        | some (.agg n cs) => match Nat.beq n (sizeP r.zero) with
          | true => some (.p [.agg n cs])
          | false => none
        | _ => none
theorem range_of {w : World} {g ty : Nat} {cs : Array Value} {A B Z : List Value} (hb : Blk w g ty cs) (h : cs.toList = A ++ (B ++ Z)) : w.rangeAt g A.length B := fun j v hj => by
  rw [hb.cell]
  have h1 : cs.toList[A.length + j]? = some v := by
    rw [h, List.getElem?_append_right (by omega), Nat.add_sub_cancel_left, List.getElem?_append_left (List.getElem?_eq_some_iff.1 hj).1]
    exact hj
  simpa using h1
theorem run_load_cell {P : Program} {w : World} {t : TypeId} {a : Addr} {v : Value} {d : TypeDesc} (hu : P.underlying t = some d) (hd : d.isRow = false) (hc : w.cell? a = some v) : (Instr.loadAt t (.pointer (some a))).run P w = .ok v w := by
  have h1 : (isAgg t).run P w = .ok false w := by
    unfold isAgg
    simp only [Sem.run_bind, run_underlying hu, Result.andThen_ok]
    cases d <;> first | rfl | cases hd
  simp only [Instr.loadAt, Instr.sureAddr, loadVar, Sem.run_bind, Sem.run_pure, Result.andThen_ok, h1, Bool.false_eq_true, if_false]
  simp [load, Sem.run, hc]
theorem run_load_row {P : Program} {w : World} {t : TypeId} {g off : Nat} {cs : Array Value} {d : TypeDesc} (hu : P.underlying t = some d) (hd : d.isRow = true) (hi : (P.info? t).map (·.size) = some cs.size) (hc : w.rangeAt g off cs.toList) :
    (Instr.loadAt t (.pointer (some ⟨g, off, none⟩))).run P w = .ok (.agg cs) w := by
  have h1 := run_loadVar_mid w g off t cs.toList d hc hu hd (by simpa using hi)
  simp only [Instr.loadAt, Instr.sureAddr, Sem.run_bind, Sem.run_pure, Result.andThen_ok, h1, Array.toArray_toList]
theorem range_in {w : World} {g base : Nat} {cs A B Z : List Value} (hb : w.rangeAt g base cs) (h : cs = A ++ (B ++ Z)) : w.rangeAt g (base + A.length) B := fun j v hj => by
  rw [Nat.add_assoc]
  refine hb (A.length + j) v ?_
  rw [h, List.getElem?_append_right (by omega), Nat.add_sub_cancel_left, List.getElem?_append_left (List.getElem?_eq_some_iff.1 hj).1]
  exact hj
theorem loadS_at {P : Program} {T : List TyR} (hT : OkT P T) {ps : List Pt} {t : TypeId} {off : Nat} {q : SQ} (hok : OkP ps) (h : loadS T ps t off = some q) :
    q.Ok ∧ ∀ {w : World} {g base : Nat}, w.rangeAt g base (catP ps).toList → (Instr.loadAt t (.pointer (some ⟨g, base + off, none⟩))).run P w = .ok q.den w := by
  unfold loadS at h
  split at h
  · cases h
  rename_i r hr
  have hro := findT_ok hT hr
  clear hr
  obtain ⟨hro, rfl⟩ := hro
  obtain ⟨it, d, h1, h2, h3, h4, h5, -⟩ := hro.info
  split at h
  · rename_i hk
    split at h
    · rename_i v hv
      injection h with h
      subst h
      obtain ⟨ho, A, Z, e, hA⟩ := atP_ok hok hv
      refine ⟨ho.1, fun hb => run_load_cell h2 (kind_not (by rw [h5, hk])) ?_⟩
      have := range_in hb e 0 v.den rfl
      rwa [hA, Nat.add_zero] at this
    · cases h
  · rename_i hk
    have hd : d.isRow = true := kind_row (by rw [h5, hk]; omega)
    split at h
    · rename_i e1 e2
      injection h with h
      subst h
      obtain rfl := Nat.eq_of_beq_eq_true e1
      exact ⟨hok, fun hb => run_load_row h2 hd (by rw [h1, Option.map_some, h3, hok.size, Nat.eq_of_beq_eq_true e2]) hb⟩
    · split at h
      · rename_i n cs hv
        split at h
        · rename_i e
          injection h with h
          subst h
          obtain ⟨ho, A, Z, e3, hA⟩ := atP_ok hok hv
          refine ⟨fun p hp => by rw [List.mem_singleton.1 hp]; exact ho, fun hb => run_load_row h2 hd (by rw [h1, Option.map_some, h3]; exact congrArg some ((Nat.eq_of_beq_eq_true e).symm.trans ho.1.symm)) ?_⟩
          have := range_in hb e3
          rwa [hA] at this
        · cases h
      · cases h
theorem loadS_ok {P : Program} {T : List TyR} (hT : OkT P T) {ps : List Pt} {t : TypeId} {off : Nat} {q : SQ} (hok : OkP ps) (h : loadS T ps t off = some q) :
    q.Ok ∧ ∀ {w : World} {g ty : Nat}, Blk w g ty (catP ps) → (Instr.loadAt t (.pointer (some ⟨g, off, none⟩))).run P w = .ok q.den w := by
  obtain ⟨h1, h2⟩ := loadS_at hT hok h
  refine ⟨h1, fun {w g ty} hb => ?_⟩
  have h3 : w.rangeAt g 0 (catP ps).toList := range_of (A := []) (Z := []) hb (by simp)
  have := h2 h3
  rwa [Nat.zero_add] at this
def fitC : SC → Bool
  | .v x => isOneB x
  | _ => true
theorem fitC_ok {s : SC} (hs : s.Ok) (h : fitC s = true) : s.den.oneCell' = true ∧ s.den.cells = #[s.den] := by
  cases s with
  | v x => exact isOneB_ok h
  | b e => exact ⟨rfl, rfl⟩
  | o x => exact hs
def fitP (n : Nat) : SQ → Option Pt
  | .c s => match Nat.beq n 1, fitC s with
    | true, true => some (.one s)
    | _, _ => none
  | .p ps => match Nat.beq (sizeP ps) n with
    | true => match ps with
      | [.agg m cs] => some (.agg m cs)
      | _ => some (.agg n (catP ps))
    | false => none
theorem fitP_ok {n : Nat} {q : SQ} {p : Pt} (hq : q.Ok) (h : fitP n q = some p) : p.Ok ∧ p.size = n ∧ q.den.cells = p.cells := by
  cases q with
  | c s =>
    simp only [fitP] at h
    split at h
    · rename_i e1 e2
      injection h with h
      subst h
      obtain ⟨h1, h2⟩ := fitC_ok hq e2
      exact ⟨⟨hq, h1, h2⟩, (Nat.eq_of_beq_eq_true e1).symm, h2⟩
    · cases h
  | p ps =>
    simp only [fitP] at h
    split at h
    · rename_i e
      have e := Nat.eq_of_beq_eq_true e
      split at h
      · rename_i m cs
        injection h with h
        subst h
        exact ⟨hq _ List.mem_cons_self, e, rfl⟩
      · injection h with h
        subst h
        exact ⟨⟨(OkP.size hq).trans e, OkP.one hq⟩, rfl, rfl⟩
    · cases h
def SQ.parts : SQ → Option (List Pt)
  | .p ps => some ps
  | _ => none
theorem SQ.parts_ok {q : SQ} {ps : List Pt} (h : q.parts = some ps) : q = .p ps := by
  cases q with
  | c x => cases h
  | p qs => cases h; rfl
def storeS (T : List TyR) (ps : List Pt) (t : TypeId) (off : Nat) (q : SQ) : Option (List Pt) := match findT T t with
  | none => none
  | some r => match Nat.beq off 0, Nat.beq (sizeP ps) (sizeP r.zero), q.parts with
    | true, true, some qs => match Nat.beq (sizeP qs) (sizeP r.zero) with
      | true => some qs
      | false => none
    | _, _, _ => match fitP (sizeP r.zero) q with
      | some p => setP ps off p
      | none => none
theorem run_store_part {P : Program} {w : World} {t : TypeId} {g off ty : Nat} {v : Value} {cs : Array Value} (hb : Blk w g ty cs) (hi : (P.info? t).map (·.size) = some v.cells.size) (hfit : off + v.cells.size ≤ cs.size) (h1 : ∀ u ∈ v.cells.toList, u.oneCell' = true) :
    (Instr.storeAt t (.pointer (some ⟨g, off, none⟩)) v).run P w = .ok () (w.setRow g (cs.toList.take off ++ v.cells.toList ++ cs.toList.drop (off + v.cells.size)).toArray) := by
  have hst := run_storeCells_at P g off ty v.cells.toList 0 cs w hb (by simp; omega) h1
  simp only [Nat.add_zero, Array.length_toList] at hst
  cases hq : P.info? t with
  | none => simp [hq] at hi
  | some i =>
    have hs : i.size = v.cells.size := by simpa [hq] using hi
    simp [Instr.storeAt, Instr.sureAddr, storeVar, sizeOf, typeInfo, hq, hs, Sem.run_bind, hst]
theorem storeS_ok {P : Program} {T : List TyR} (hT : OkT P T) {ps ps' : List Pt} {t : TypeId} {off : Nat} {q : SQ} (hok : OkP ps) (hq : q.Ok) (h : storeS T ps t off q = some ps') :
    OkP ps' ∧ ∀ {w : World} {g ty : Nat}, Blk w g ty (catP ps) → (Instr.storeAt t (.pointer (some ⟨g, off, none⟩)) q.den).run P w = .ok () (w.setRow g (catP ps')) := by
  unfold storeS at h
  split at h
  · cases h
  rename_i r hr
  have hro := findT_ok hT hr
  clear hr
  obtain ⟨hro, rfl⟩ := hro
  obtain ⟨it, d, h1, h2, h3, h4, h5, -⟩ := hro.info
  split at h
  · rename_i qs e1 e2 eq
    obtain rfl := SQ.parts_ok eq
    split at h
    · rename_i e3
      injection h with h
      subst h
      obtain rfl := Nat.eq_of_beq_eq_true e1
      have e2 := Nat.eq_of_beq_eq_true e2
      have e3 := Nat.eq_of_beq_eq_true e3
      have hsz : (catP qs).size = (catP ps).size := by rw [OkP.size hq, hok.size, e2, e3]
      refine ⟨hq, fun hb => ?_⟩
      have hr := run_store_part (P := P) (t := r.t) (v := .agg (catP qs)) (off := 0) hb (by rw [h1, Option.map_some, h3]; exact congrArg some ((OkP.size hq).trans e3).symm) (by rw [Nat.zero_add]; exact Nat.le_of_eq hsz) (OkP.one hq)
      simp only [Value.cells, List.take_zero, List.nil_append, Nat.zero_add] at hr
      rw [List.drop_eq_nil_of_le (by rw [Array.length_toList]; omega), List.append_nil, Array.toArray_toList] at hr
      exact hr
    · cases h
  · split at h
    · rename_i p hp
      obtain ⟨hp1, hp2, hp3⟩ := fitP_ok hq hp
      obtain ⟨h6, h7, A, B, Z, h8, h9, h10, h11⟩ := setP_ok hok hp1 h
      refine ⟨h6, fun hb => ?_⟩
      have hsz : q.den.cells.size = B.length := by rw [hp3, hp1.size, h10]
      have hcl : (catP ps).size = A.length + (B.length + Z.length) := by
        rw [← Array.length_toList, h8, List.length_append, List.length_append]
      have hr := run_store_part (P := P) (t := r.t) (v := q.den) (off := off) hb (by rw [h1, Option.map_some, h3, hp3, hp1.size, hp2]) (by omega) (by rw [hp3]; exact hp1.one)
      rw [hr]
      congr 1
      rw [← Array.toArray_toList (xs := catP ps'), h11, h8, hsz, ← h9, hp3]
      congr 2
      rw [List.take_left, List.append_assoc, ← List.append_assoc A B Z, ← List.length_append, List.drop_left]
    · cases h

/-! ### Fields, structs -/
def fieldS (T : List TyR) (t : TypeId) (i : Nat) : Option Nat := match findT T t with
  | none => none
  | some r => match Nat.beq r.kind 2 with
    | true => match (placesP 0 r.zero)[i]? with
      | some (o, n) => match Nat.ble 1 n with
        | true => some o
        | false => none
      | none => none
    | false => none
theorem mapM_get {α β : Type} {f : α → Option β} : ∀ {l : List α} {m : List β}, l.mapM f = some m → ∀ (i : Nat) b, m[i]? = some b → ∃ a, l[i]? = some a ∧ f a = some b
  | [], m, h, i, b, hb => by
    have : m = [] := by simpa using h.symm
    subst this
    simp at hb
  | x :: l, m, h, i, b, hb => by
    rw [List.mapM_cons] at h
    cases hx : f x with
    | none => rw [hx] at h; cases h
    | some y =>
      rw [hx] at h
      cases hm : l.mapM f with
      | none => rw [hm] at h; cases h
      | some ys =>
        rw [hm] at h
        have e : m = y :: ys := (Option.some.inj h).symm
        subst e
        cases i with
        | zero =>
          simp only [List.getElem?_cons_zero, Option.some.injEq] at hb
          exact ⟨x, rfl, by rw [hx, hb]⟩
        | succ i =>
          obtain ⟨a, h1, h2⟩ := mapM_get hm i b (by simpa using hb)
          exact ⟨a, by simpa using h1, h2⟩
theorem fieldS_ok {P : Program} {T : List TyR} (hT : OkT P T) {t : TypeId} {i o : Nat} (h : fieldS T t i = some o) (g off : Nat) (w : World) :
    (Instr.fieldAt t (.pointer (some ⟨g, off, none⟩)) i).run P w = .ok (.pointer (some ⟨g, off + o, none⟩)) w := by
  unfold fieldS at h
  split at h
  · cases h
  rename_i r hr
  have hro := findT_ok hT hr
  clear hr
  obtain ⟨hro, rfl⟩ := hro
  obtain ⟨it, d, h1, h2, h3, h4, h5, h6, -⟩ := hro.info
  split at h
  · rename_i hk
    have hk := Nat.eq_of_beq_eq_true hk
    split at h
    · rename_i o' n hp
      split at h
      · rename_i hn
        injection h with h
        subst h
        have hn := Nat.le_of_ble_eq_true hn
        have hd : kindOf d = 2 := by rw [h5, hk]
        cases d <;> first | (cases hd; done) | skip
        rename_i fs
        rw [hk] at h6
        dsimp only at h6
        obtain ⟨f, h7, h8⟩ := mapM_get h6 i (o', n) hp
        cases hf : P.info? f.type with
        | none => rw [hf] at h8; cases h8
        | some fi =>
          rw [hf] at h8
          simp only [Option.map_some, Option.some.injEq, Prod.mk.injEq] at h8
          have h9 : fs[i]? = some f := by simpa using h7
          have h10 : ¬ fi.size = 0 := by omega
          simp only [Instr.fieldAt, Sem.run_bind, run_underlying h2, Result.andThen_ok, h9, Instr.sureAddr, Sem.run_pure, fieldPlace, sizeOf, typeInfo]
          simp [hf, h10, Addr.add_mid, h8.1]
      · cases h
    · cases h
  · cases h
/-- A part of a struct that is built. -/
theorem fill_cells (place : Nat → Option (Nat × Nat)) (i n : Nat) (A O Z V : List Value) (rest : List (Nat × Value)) (v : Value) (hp : place i = some (A.length, n)) (hV : V.length = n) (hO : O.length = n) (hv : v.cells = V.toArray) :
    Instr.fill place (A ++ (O ++ Z)).toArray ((i, v) :: rest) = Instr.fill place (A ++ (V ++ Z)).toArray rest := by
  have := fill_put place i n A O Z V rest hp hV hO
  rw [← this, Instr.fill, Instr.fill, hv]
  rfl
/-- The parts of a struct, some of them given. -/
def buildS (E : SE) : List Pt → List (Nat × Operand) → Option (List Pt)
  | zs, [] => some zs
  | zs, (i, x) :: r => match zs[i]?, evS E x with
    | some z, some (.q q) => match fitP z.size q with
      | some p => buildS E (zs.set i p) r
      | none => none
    | _, _ => none
theorem catP_set : ∀ {zs : List Pt} {i : Nat} {z p : Pt}, zs[i]? = some z → ∃ A Z : List Value, (catP zs).toList = A ++ (z.cells.toList ++ Z) ∧ (catP (zs.set i p)).toList = A ++ (p.cells.toList ++ Z) ∧ ∀ o, OkP zs → (placesP o zs)[i]? = some (o + A.length, z.size)
  | [], i, z, p, h => by simp at h
  | y :: zs, 0, z, p, h => by
    simp only [List.getElem?_cons_zero, Option.some.injEq] at h
    subst h
    refine ⟨[], (catP zs).toList, by rw [catP_cons]; simp, by rw [List.set_cons_zero, catP_cons]; simp, fun o _ => by simp [placesP]⟩
  | y :: zs, i + 1, z, p, h => by
    obtain ⟨A, Z, h1, h2, h3⟩ := catP_set (zs := zs) (i := i) (p := p) (by simpa using h)
    refine ⟨y.cells.toList ++ A, Z, by rw [catP_cons, Array.toList_append, h1, List.append_assoc], by rw [List.set_cons_succ, catP_cons, Array.toList_append, h2, List.append_assoc], fun o hok => ?_⟩
    have h4 := h3 (o + y.size) fun x hx => hok x (by simp [hx])
    rw [List.length_append, Array.length_toList, (hok y (by simp)).size, ← Nat.add_assoc]
    simpa [placesP] using h4
theorem okP_set {zs : List Pt} {i : Nat} {p : Pt} (h : OkP zs) (hp : p.Ok) : OkP (zs.set i p) := fun x hx => by
  rcases List.mem_or_eq_of_mem_set hx with h1 | rfl
  · exact h x h1
  · exact hp
theorem places_set : ∀ {zs : List Pt} {i : Nat} {z p : Pt} (o : Nat), zs[i]? = some z → p.size = z.size → placesP o (zs.set i p) = placesP o zs
  | [], i, z, p, o, h, _ => by simp at h
  | y :: zs, 0, z, p, o, h, e => by
    simp only [List.getElem?_cons_zero, Option.some.injEq] at h
    subst h
    simp only [List.set_cons_zero, placesP, e]
  | y :: zs, i + 1, z, p, o, h, e => by
    simp only [List.set_cons_succ, placesP]
    rw [places_set (z := z) _ (by simpa using h) e]
theorem fill_ok {G : Nat → Nat} {E : SE} (hE : OkE E) {places : List (Nat × Nat)} : ∀ {parts : List (Nat × Operand)} {zs ps : List Pt}, OkP zs → placesP 0 zs = places → buildS E zs parts = some ps →
    ∀ (f : Operand → Value), (∀ x v, evS E x = some v → f x = v.den G) → OkP ps ∧ Instr.fill (places.toArray[·]?) (catP zs) (parts.map fun (i, x) => (i, f x)) = some (catP ps)
  | [], zs, ps, hz, _, h, f, _ => by
    cases h
    exact ⟨hz, rfl⟩
  | (i, x) :: r, zs, ps, hz, hpl, h, f, hf => by
    unfold buildS at h
    split at h
    · rename_i z q hi hx
      split at h
      · rename_i p hp
        have hq : q.Ok := hE.ev hx
        obtain ⟨h1, h2, h3⟩ := fitP_ok hq hp
        obtain ⟨A, Z, h4, h5, h6⟩ := catP_set (p := p) hi
        have h7 := h6 0 hz
        rw [hpl, Nat.zero_add] at h7
        have hzo := hz z (List.mem_of_getElem? hi)
        obtain ⟨h8, h9⟩ := fill_ok hE (parts := r) (okP_set hz h1) ((places_set 0 hi h2).trans hpl) h f hf
        refine ⟨h8, ?_⟩
        rw [← h9]
        have hv : f x = q.den := hf x _ hx
        rw [List.map_cons, ← Array.toArray_toList (xs := catP zs), h4]
        have := fill_cells (fun k => places.toArray[k]?) i p.size A z.cells.toList Z p.cells.toList (r.map fun (i, x) => (i, f x)) (f x) (by simpa [h2] using h7) (by rw [Array.length_toList, h1.size]) (by rw [Array.length_toList, hzo.size, h2]) (by rw [hv, h3, Array.toArray_toList])
        rw [this, ← h5, Array.toArray_toList]
      · cases h
    · cases h
end Go.Proofs.YtcbfalfkdnfelaaDoor
/-
  STEPS OVER STATES, reckoned at once.
-/
namespace Go.Proofs.YtcbfalfkdnfelaaDoor
open Go.RowKit Go.IntWalk

def ikB : IntKind → IntKind → Bool
  | .i8, .i8 => true
  | .i16, .i16 => true
  | .i32, .i32 => true
  | .i64, .i64 => true
  | .u8, .u8 => true
  | .u16, .u16 => true
  | .u32, .u32 => true
  | .u64, .u64 => true
  | _, _ => false
theorem ikB_ok {a b : IntKind} (h : ikB a b = true) : a = b := by
  cases a <;> cases b <;> first | rfl | cases h
/-- A number that is written there and isn't 0. -/
def nzB : Operand → Bool
  | .const (.int _ (.ofNat (_ + 1))) => true
  | _ => false
def binS (op : BinOp) (y : Operand) (K : IntKind) (m n : Int) : Option SV := match op with
  | .add => some (.v (.int K (K.wrap (m + n))))
  | .sub => some (.v (.int K (K.wrap (m - n))))
  | .mul => some (.v (.int K (K.wrap (m * n))))
  | .quo => match nzB y with
    | true => some (.v (.int K (K.wrap (m.tdiv n))))
    | false => none
  | .rem => match nzB y with
    | true => some (.v (.int K (m.tmod n)))
    | false => none
  | .eql => some (.b (decide (m = n)))
  | .neq => some (.b (decide (m ≠ n)))
  | .lss => some (.b (decide (m < n)))
  | .leq => some (.b (decide (m ≤ n)))
  | .gtr => some (.b (decide (m > n)))
  | .geq => some (.b (decide (m ≥ n)))
  | _ => none
theorem nzB_ok {E : SE} {y : Operand} {K : IntKind} {n : Int} (h : nzB y = true) (hy : evS E y = some (.v (.int K n))) : n ≠ 0 := by
  unfold nzB at h
  split at h
  · injection hy with hy
    injection hy with hy
    injection hy with hy
    injection hy with hy
    injection hy with _ hy
    subst hy
    exact fun h => (by cases h)
  · cases h
theorem binS_ok {P : Program} {E : SE} {op : BinOp} {t : TypeId} {y : Operand} {K : IntKind} {m n : Int} {v : SV} (hy : evS E y = some (.v (.int K n))) (h : binS op y K m n = some v) :
    v.Ok ∧ ∀ G w, (binOp op t (.int K m) (.int K n)).run P w = .ok (v.den G) w := by
  cases op <;> simp only [binS] at h
  case quo =>
    split at h
    · rename_i hz
      have := nzB_ok hz hy
      injection h with h
      subst h
      exact ⟨trivial, fun G w => by simp [binOp, Op.intDiv, this, SV.den, SQ.den, SC.den]⟩
    · cases h
  case rem =>
    split at h
    · rename_i hz
      have := nzB_ok hz hy
      injection h with h
      subst h
      exact ⟨trivial, fun G w => by simp [binOp, Op.intDiv, this, SV.den, SQ.den, SC.den]⟩
    · cases h
  all_goals first | (cases h; done) | skip
  all_goals injection h with h
  all_goals subst h
  all_goals refine ⟨trivial, fun G w => ?_⟩
  all_goals first | (simp [binOp, Op.intArith, SV.den, SQ.den, SC.den]; done) | skip
  all_goals simp [binOp, Op.intCmp, SV.den, SQ.den, SC.den]
  all_goals rfl
/-- What an operation hands back, where the state tells it. -/
def stepS (T : List TyR) (E : SE) (L : List LV) : Op → Option SV
  | .move x => evS E x
  | .assign x => evS E x
  | .pick c x y => match evS E c with
    | some (.q (.c (.v (.bool true)))) => evS E x
    | some (.q (.c (.v (.bool false)))) => evS E y
    | _ => none
  | .extract x i => match evS E x with
    | some (.t vs) => match vs[i]? with
      | some q => some (.q q)
      | none => none
    | _ => none
  | .unOp .not _ x => match evS E x with
    | some (.q (.c (.v (.bool true)))) => some (.v (.bool false))
    | some (.q (.c (.v (.bool false)))) => some (.v (.bool true))
    | some (.q (.c (.b e))) => some (.b !e)
    | _ => none
  | .nilCheck x => match evS E x with
    | some (.a j off) => some (.a j off)
    | some (.q (.c (.v (.pointer (some p))))) => some (.v (.pointer (some p)))
    | _ => none
  | .fieldAddr t x i => match evS E x, fieldS T t i with
    | some (.a j off), some o => some (.a j (off + o))
    | some (.q (.c (.v (.pointer (some ⟨g, off, none⟩))))), some o => some (.v (.pointer (some ⟨g, off + o, none⟩)))
    | _, _ => none
  | .load t x => match evS E x with
    | some (.a j off) => match lookL L j with
      | some ps => match loadS T ps t off with
        | some q => some (.q q)
        | none => none
      | none => none
    | _ => none
  | .build t parts => match findT T t with
    | some r => match Nat.beq r.kind 2 with
      | true => match buildS E r.zero parts.toList with
        | some ps => some (.p ps)
        | none => none
      | false => match Nat.beq r.kind 1, parts.toList with
        | true, [] => some (.p r.zero)
        | _, _ => none
    | none => none
  | .binOp op t x y _ => match evS E x, evS E y with
    | some (.q (.c (.v (.int K m)))), some (.q (.c (.v (.int K' n)))) => match ikB K K' with
      | true => binS op y K m n
      | false => none
    | some (.q (.c (.v (.pointer p)))), some (.q (.c (.v (.pointer none)))) => match findT T t with
      | some r => match r.pt, op, p with
        | true, .eql, none => some (.v (.bool true))
        | true, .eql, some _ => some (.v (.bool false))
        | true, .neq, none => some (.v (.bool false))
        | true, .neq, some _ => some (.v (.bool true))
        | _, _, _ => none
      | none => none
    | _, _ => none
  | .convert src dst x => match findT T src, findT T dst, evS E x with
    | some _, some r, some (.q (.c (.v (.int _ n)))) => match r.ik with
      | some K => some (.v (.int K (K.wrap n)))
      | none => none
    | _, _, _ => none
  | .call { callee := .builtin .len, args := ⟨[x]⟩, argTypes := ⟨[t]⟩ } => match findT T t with
    | some r => match r.el, evS E x with
      | some _, some (.q (.c (.v (.slice _ n _)))) => some (.v (.int .i64 (n : Int)))
      | some _, some (.s _ _ n _) => some (.v (.int .i64 (n : Int)))
      | _, _ => none
    | none => none
  | _ => none
def OkL (L : List LV) : Prop := ∀ x ∈ L, OkP x.ps
/-- The variables lie in the world. -/
def LAt (G : Nat → Nat) (L : List LV) (w : World) : Prop := ∀ x ∈ L, Blk w (G x.j) x.t (catP x.ps)
theorem built_eq {P : Program} {t : TypeId} {r : TyR} (hr : r.ok P) (ht : r.t = t) (hk : r.kind = 2) (parts : List (Nat × Value)) : P.built t parts = Instr.fill ((placesP 0 r.zero).toArray[·]?) (catP r.zero) parts := by
  subst ht
  obtain ⟨it, d, h1, h2, h3, h4, h5, h6, -⟩ := hr.info
  rw [hk] at h5 h6
  cases d <;> first | (cases h5; done) | skip
  rename_i fs
  dsimp only at h6
  cases hz : it.zero with
  | none => rw [hz] at h4; cases h4
  | some z =>
    rw [hz] at h4
    simp only [Option.map_some, Option.some.injEq] at h4
    unfold Program.built
    simp only [h1, h2, hz, h6, h4]
theorem built_row1 {P : Program} {t : TypeId} {r : TyR} (hr : r.ok P) (ht : r.t = t) (hk : r.kind = 1) : P.built t [] = some (catP r.zero) := by
  subst ht
  obtain ⟨it, d, h1, h2, h3, h4, h5, h6, -⟩ := hr.info
  rw [hk] at h5 h6
  cases d <;> first | (cases h5; done) | skip
  rename_i n e
  dsimp only at h6
  cases he : P.info? e with
  | none => rw [he] at h6; cases h6
  | some ie =>
    cases hz : it.zero with
    | none => rw [hz] at h4; cases h4
    | some z =>
      rw [hz] at h4
      simp only [Option.map_some, Option.some.injEq] at h4
      unfold Program.built
      simp only [h1, h2, hz, he, h4]
      rfl
theorem run_len {P : Program} {t : TypeId} {e : TypeId} (ht : P.underlying t = some (.slice e)) (ty : TypeId) (A : Option Addr) (n c : Nat) (w : World) : (Builtin.len_ #[t] ty #[.slice A n c]).run P w = .ok (.int .i64 (n : Int)) w := by
  simp [Builtin.len_, run_underlying ht, goInt]
theorem stepS_ok {P : Program} {T : List TyR} (hT : OkT P T) {E : SE} {L : List LV} {N : Nat} {o : Oper} {v : SV} (hE : OkE E) (hL : OkL L) (h : stepS T E L o.op = some v) :
    v.Ok ∧ ∀ {G : Nat → Nat} {a : Act} {w : World}, Fr N (denE G E) a → LAt G L w → (execOp a.eval o).run P w = .ok (.value (v.den G)) w := by
  obtain ⟨dst, op, ty, pos, af, gd⟩ := o
  dsimp only at h
  have hev : ∀ {x : Operand} {u : SV}, evS E x = some u → ∀ {G : Nat → Nat} {a : Act}, Fr N (denE G E) a → a.eval x = u.den G := by
    intro x u hx G a ha
    exact ha.eval (evS_ok hx)
  cases op
  case move x =>
    refine ⟨hE.ev h, fun ha _ => ?_⟩
    have h1 := hev h ha
    unfold execOp
    simp only [h1, Sem.run_pure]
  case assign x =>
    refine ⟨hE.ev h, fun ha _ => ?_⟩
    have h1 := hev h ha
    unfold execOp
    simp only [h1, Sem.run_pure]
  case pick c x y =>
    simp only [stepS] at h
    split at h
    · rename_i hc
      refine ⟨hE.ev h, fun ha _ => ?_⟩
      have h1 := hev hc ha
      have h2 := hev h ha
      unfold execOp
      simp only [h1, h2, SV.den, SQ.den, SC.den, asBool, Sem.run_bind, Sem.run_pure, Result.andThen_ok, if_true]
    · rename_i hc
      refine ⟨hE.ev h, fun ha _ => ?_⟩
      have h1 := hev hc ha
      have h2 := hev h ha
      unfold execOp
      simp only [h1, h2, SV.den, SQ.den, SC.den, asBool, Sem.run_bind, Sem.run_pure, Result.andThen_ok, Bool.false_eq_true, if_false]
    · cases h
  case extract x i =>
    simp only [stepS] at h
    split at h
    · rename_i vs hx
      split at h
      · rename_i q hq
        injection h with h
        subst h
        refine ⟨hE.ev hx q (List.mem_of_getElem? hq), fun ha _ => ?_⟩
        have h1 := hev hx ha
        have h2 : (vs.map SQ.den).toArray[i]? = some q.den := by simp [hq]
        unfold execOp
        simp only [h1, SV.den, Instr.extract, h2, Sem.run_bind, Sem.run_pure, Result.andThen_ok]
      · cases h
    · cases h
  case unOp k t x =>
    cases k
    case not =>
      simp only [stepS] at h
      split at h
      · rename_i hx
        injection h with h
        subst h
        refine ⟨trivial, fun ha _ => ?_⟩
        have h1 := hev hx ha
        unfold execOp
        simp only [h1, SV.den, SQ.den, SC.den, Op.unary, Sem.run_bind, Sem.run_pure, Result.andThen_ok, Bool.not_true]
      · rename_i hx
        injection h with h
        subst h
        refine ⟨trivial, fun ha _ => ?_⟩
        have h1 := hev hx ha
        unfold execOp
        simp only [h1, SV.den, SQ.den, SC.den, Op.unary, Sem.run_bind, Sem.run_pure, Result.andThen_ok, Bool.not_false]
      · rename_i e hx
        injection h with h
        subst h
        refine ⟨trivial, fun ha _ => ?_⟩
        have h1 := hev hx ha
        unfold execOp
        simp only [h1, SV.den, SQ.den, SC.den, Op.unary, Sem.run_bind, Sem.run_pure, Result.andThen_ok]
      · cases h
    all_goals cases h
  case nilCheck x =>
    simp only [stepS] at h
    split at h
    · rename_i j off hx
      injection h with h
      subst h
      refine ⟨trivial, fun ha _ => ?_⟩
      have h1 := hev hx ha
      unfold execOp
      simp only [h1, SV.den, Sem.run_pure]
    · rename_i p hx
      injection h with h
      subst h
      refine ⟨trivial, fun ha _ => ?_⟩
      have h1 := hev hx ha
      unfold execOp
      simp only [h1, SV.den, SQ.den, SC.den, Sem.run_pure]
    · cases h
  case fieldAddr t x i =>
    simp only [stepS] at h
    split at h
    · rename_i j off o hx ho
      injection h with h
      subst h
      refine ⟨trivial, fun ha _ => ?_⟩
      have h1 := hev hx ha
      unfold execOp
      simp only [h1, SV.den, fieldS_ok hT ho, Sem.run_bind, Sem.run_pure, Result.andThen_ok]
    · rename_i g off o hx ho
      injection h with h
      subst h
      refine ⟨trivial, fun ha _ => ?_⟩
      have h1 := hev hx ha
      unfold execOp
      simp only [h1, SV.den, SQ.den, SC.den, fieldS_ok hT ho, Sem.run_bind, Sem.run_pure, Result.andThen_ok]
    · cases h
  case load t x =>
    simp only [stepS] at h
    split at h
    · rename_i j off hx
      split at h
      · rename_i ps hps
        split at h
        · rename_i q hq
          injection h with h
          subst h
          obtain ⟨y, hy, rfl, rfl⟩ := lookL_mem hps
          obtain ⟨h3, h4⟩ := loadS_ok hT (hL y hy) hq
          refine ⟨h3, fun ha hl => ?_⟩
          have h1 := hev hx ha
          unfold execOp
          simp only [h1, SV.den, h4 (hl y hy), Sem.run_bind, Sem.run_pure, Result.andThen_ok]
        · cases h
      · cases h
    · cases h
  case build t parts =>
    simp only [stepS] at h
    split at h
    · rename_i r hr
      split at h
      · rename_i hk
        split at h
        · rename_i ps hps
          injection h with h
          subst h
          obtain ⟨h3, h4⟩ := findT_ok hT hr
          have hf := fun (G : Nat → Nat) => fill_ok (G := G) hE (places := placesP 0 r.zero) h3.2 rfl hps
          refine ⟨(hf (fun _ => 0) (fun x => ((evS E x).map (SV.den fun _ => 0)).getD undef) (fun x u hx => by rw [hx]; rfl)).1, fun {G a w} ha _ => ?_⟩
          have h5 := (hf G a.eval (fun x u hx => hev hx ha)).2
          rw [← built_eq h3 h4 (Nat.eq_of_beq_eq_true hk)] at h5
          have h6 := run_build (P := P) w t (parts.map fun (i, x) => (i, a.eval x)) (catP ps) (by rw [Array.toList_map]; exact h5)
          unfold execOp
          simp only [h6, SV.den, SQ.den, Sem.run_bind, Sem.run_pure, Result.andThen_ok]
        · cases h
      · split at h
        · rename_i hk hpt
          injection h with h
          subst h
          obtain ⟨h3, h4⟩ := findT_ok hT hr
          have hpt' : parts = #[] := by simpa using hpt
          subst hpt'
          refine ⟨h3.2, fun {G a w} _ _ => ?_⟩
          have h6 := run_build (P := P) w t #[] (catP r.zero) (built_row1 h3 h4 (Nat.eq_of_beq_eq_true hk))
          unfold execOp
          simp only [List.map_toArray, List.map_nil, h6, SV.den, SQ.den, Sem.run_bind, Sem.run_pure, Result.andThen_ok]
        · cases h
    · cases h
  case binOp op t x y t2 =>
    simp only [stepS] at h
    split at h
    · rename_i K m K' n hx hy
      split at h
      · rename_i hK
        obtain rfl := ikB_ok hK
        obtain ⟨h1, h2⟩ := binS_ok (P := P) (t := t) hy h
        refine ⟨h1, fun {G a w} ha _ => ?_⟩
        have e1 := hev hx ha
        have e2 := hev hy ha
        have e3 : (eqGuard op t x y (.int K m) (.int K n)).run P w = .ok () w := by
          cases op <;> rfl
        unfold execOp
        simp only [e1, e2, SV.den, SQ.den, SC.den, Sem.run_bind, e3, h2 G w, Sem.run_pure, Result.andThen_ok]
      · cases h
    · rename_i p hx hy
      split at h
      · rename_i r hr
        obtain ⟨h3, rfl⟩ := findT_ok hT hr
        obtain ⟨it, d, h5, h6, -, -, -, -, -, -, h7, -⟩ := h3.info
        have hpt : r.pt = true → ∃ e, P.underlying r.t = some (.pointer e) := fun he => by
          rw [he] at h7
          cases d <;> first | (cases h7; done) | skip
          exact ⟨_, h6⟩
        have key : ∀ {G : Nat → Nat} {a : Act} {w : World}, Fr N (denE G E) a → ∀ b : Bool, (binOp op r.t (.pointer p) (.pointer none)).run P w = .ok (.bool b) w → (execOp a.eval ⟨dst, .binOp op r.t x y t2, ty, pos, af, gd⟩).run P w = .ok (.value (.bool b)) w := fun {G a w} ha b hb => by
          have e1 := hev hx ha
          have e2 := hev hy ha
          have e3 : (eqGuard op r.t x y (.pointer p) (.pointer none)).run P w = .ok () w := by
            cases op <;> rfl
          unfold execOp
          simp only [e1, e2, SV.den, SQ.den, SC.den, Sem.run_bind, e3, hb, Sem.run_pure, Result.andThen_ok]
        have heq : ∀ w, r.pt = true → (Op.equal r.t (.pointer p) (.pointer none)).run P w = .ok p.isNone w := fun w he => by
          obtain ⟨e, hu⟩ := hpt he
          unfold Op.equal Op.maxDepth
          rw [show (10000 : Nat) = 9999 + 1 from rfl, Op.equalIn]
          simp only [Sem.run_bind, run_underlying hu, Result.andThen_ok]
          cases p <;> rfl
        split at h
        all_goals first | (cases h; done) | skip
        all_goals rename_i he
        all_goals injection h with h
        all_goals subst h
        all_goals refine ⟨trivial, fun ha _ => key ha _ ?_⟩
        all_goals simp [binOp, heq _ he]
      · cases h
    · cases h
  case convert src dst' x =>
    simp only [stepS] at h
    split at h
    · rename_i r0 r K0 n h0 hr hx
      split at h
      · rename_i K hK
        injection h with h
        subst h
        have q1 := findT_ok hT h0
        have q2 := findT_ok hT hr
        clear h0 hr
        obtain ⟨q1, rfl⟩ := q1
        obtain ⟨q2, rfl⟩ := q2
        obtain ⟨it0, d0, _, h6, -⟩ := q1.info
        obtain ⟨it, d, _, h7, -, -, -, -, -, h8, -⟩ := q2.info
        rw [hK] at h8
        cases d <;> first | (cases h8; done) | skip
        injection h8 with h8
        subst h8
        refine ⟨trivial, fun ha _ => ?_⟩
        have e1 := hev hx ha
        unfold execOp
        simp only [e1, SV.den, SQ.den, SC.den]
        simp [convert, run_underlying h6, run_underlying h7, Conv.intToInt]
      · cases h
    · cases h
  case call c =>
    obtain ⟨callee, args, ats⟩ := c
    cases callee
    case builtin bi =>
     cases bi
     case len =>
      obtain ⟨args⟩ := args
      obtain ⟨ats⟩ := ats
      rcases args with _ | ⟨x, _ | ⟨y, r⟩⟩
      · cases h
      rcases ats with _ | ⟨t, _ | ⟨y, r⟩⟩
      all_goals first | (cases h; done) | skip
      simp only [stepS] at h
      split at h
      · rename_i r hr
        obtain ⟨h3, rfl⟩ := findT_ok hT hr
        obtain ⟨it, d, h5, h6, -, -, -, -, h7, -⟩ := h3.info
        have hu : ∀ e, r.el = some e → P.underlying r.t = some (.slice e) := fun e he => by
          rw [he] at h7
          cases d <;> first | (cases h7; done) | skip
          injection h7 with h7
          subst h7
          exact h6
        split at h
        · rename_i e A n cc he hx
          injection h with h
          subst h
          refine ⟨trivial, fun ha _ => ?_⟩
          have h1 := hev hx ha
          unfold execOp
          simp only [resolve, invoke, builtin, List.map_toArray, List.map_cons, List.map_nil, h1, SV.den, SQ.den, SC.den, Sem.run_bind, Sem.run_pure, Result.andThen_ok, run_len (hu e he)]
        · rename_i e j off n cc he hx
          injection h with h
          subst h
          refine ⟨trivial, fun ha _ => ?_⟩
          have h1 := hev hx ha
          unfold execOp
          simp only [resolve, invoke, builtin, List.map_toArray, List.map_cons, List.map_nil, h1, SV.den, SQ.den, SC.den, Sem.run_bind, Sem.run_pure, Result.andThen_ok, run_len (hu e he)]
        · cases h
      · cases h
     all_goals cases h
    all_goals cases h
  all_goals cases h
end Go.Proofs.YtcbfalfkdnfelaaDoor
/-
  REGIONS OVER STATES: what is reckoned at once, the order forced.
-/
namespace Go.Proofs.YtcbfalfkdnfelaaDoor
open Go.RowKit Go.IntWalk

/-- Is the operation wanted, as far as the state tells? -/
def wantS (ops : Array Oper) (N : Nat) (E : SE) (o : Oper) : Option Bool :=
  match o.guard with
  | none => some true
  | some (j, b) => match (ops[j]?).bind (·.dst) with
    | some t => match Nat.blt t N with
      | true => match lookS E t with
        | some (.q (.c (.v (.bool true)))) => some b
        | some (.q (.c (.v (.bool false)))) => some (!b)
        | _ => none
      | false => none
    | none => none
theorem wantS_ok {ops : Array Oper} {N : Nat} {G : Nat → Nat} {E : SE} {a : Act} {o : Oper} {q : Bool} (ha : Fr N (denE G E) a) (h : wantS ops N E o = some q) : Region.wanted o (yielded ops a.tmps) = q := by
  refine wantG_ok ha ?_
  unfold wantS at h
  unfold wantG
  cases hg : o.guard with
  | none =>
    rw [hg] at h
    exact h
  | some p =>
    obtain ⟨j, b⟩ := p
    rw [hg] at h
    dsimp only at h ⊢
    cases hj : (ops[j]?).bind (·.dst) with
    | none =>
      rw [hj] at h
      cases h
    | some t =>
      rw [hj] at h
      dsimp only at h ⊢
      cases hN : Nat.blt t N with
      | false =>
        rw [hN] at h
        cases h
      | true =>
        rw [hN] at h
        dsimp only at h ⊢
        split at h
        · rename_i hc
          rw [look_den, hc]
          exact h
        · rename_i hc
          rw [look_den, hc]
          exact h
        · cases h
def farE (j : Nat) (E : SE) : Bool := E.all fun x => x.2.farB j
/-- A new variable. -/
def newS (T : List TyR) (E : SE) (L : List LV) (k : Nat) : Op → Option (TypeId × List Pt)
  | .alloc ty => match findT T ty, farL k L, farE k E with
    | some r, true, true => some (ty, r.zero)
    | _, _, _ => none
  | .box ty x => match evS E x, farL k L, farE k E with
    | some (.q (.p ps)), true, true => some (ty, ps)
    | some (.q (.c s)), true, true => match fitC s with
      | true => some (ty, [.one s])
      | false => none
    | _, _, _ => none
  | _ => none
/-- A variable that is written. -/
def setS (T : List TyR) (E : SE) (L : List LV) : Op → Option (Nat × List Pt)
  | .store t x y => match evS E x, evS E y with
    | some (.a j off), some (.q q) => match lookL L j with
      | some ps => match storeS T ps t off q with
        | some qs => some (j, qs)
        | none => none
      | none => none
    | _, _ => none
  | _ => none
/-- What is left behind the operations that are reckoned. -/
def autoS (T : List TyR) (ops : Array Oper) (N : Nat) : List Oper → SE → List LV → List Oper × SE × List LV
  | [], E, L => ([], E, L)
  | o :: l, E, L => match wantS ops N E o with
    | none => (o :: l, E, L)
    | some false => match o.dst with
      | some k => match Nat.blt k N with
        | true => autoS T ops N l ((k, .v undef) :: E) L
        | false => (o :: l, E, L)
      | none => autoS T ops N l E L
    | some true => match o.dst with
      | some k => match Nat.blt k N with
        | true => match stepS T E L o.op with
          | some v => autoS T ops N l ((k, v) :: E) L
          | none => match newS T E L k o.op with
            | some (ty, ps) => autoS T ops N l ((k, .a k 0) :: E) (⟨k, none, ty, ps⟩ :: L)
            | none => (bareO o :: l, E, L)
        | false => (o :: l, E, L)
      | none => match setS T E L o.op with
        | some (j, ps) => autoS T ops N l E (putL L j ps)
        | none => (bareO o :: l, E, L)

/-! ### What becomes of states -/
theorem StW.okL {b : Base} {G : Nat → Nat} {S : Nat → Prop} {L : List LV} {R : List Res} {F M : World → Prop} {w : World} (h : StW b G S L R F M w) : OkL L := fun x hx => (h.var x hx).2.1
theorem StW.at {b : Base} {G : Nat → Nat} {S : Nat → Prop} {L : List LV} {R : List Res} {F M : World → Prop} {w : World} (h : StW b G S L R F M w) : LAt G L w := fun x hx => (h.var x hx).1
theorem farL_mem : ∀ {L : List LV} {j : Nat}, farL j L = true → j ∉ namesL L
  | [], _, _, h => by cases h
  | x :: r, j, h, hm => by
    unfold farL at h
    simp only [Bool.and_eq_true, Bool.not_eq_true'] at h
    rcases List.mem_cons.1 hm with e | hm
    · rw [e] at h
      simp at h
    · exact farL_mem h.2 hm
theorem den_far {G : Nat → Nat} {j g : Nat} {v : SV} (h : v.farB j = true) : v.den (fun i => if i = j then g else G i) = v.den G := by
  cases v with
  | q x => rfl
  | a i off =>
    have : i ≠ j := by
      rintro rfl
      simp [SV.farB] at h
    simp [SV.den, this]
  | s i off n c =>
    have : i ≠ j := by
      rintro rfl
      simp [SV.farB] at h
    simp [SV.den, this]
  | t vs => rfl
theorem denE_far {G : Nat → Nat} {j g : Nat} : ∀ {E : SE}, farE j E = true → denE (fun i => if i = j then g else G i) E = denE G E
  | [], _ => rfl
  | (k, v) :: r, h => by
    unfold farE at h
    rw [List.all_cons, Bool.and_eq_true] at h
    rw [denE, denE, den_far h.1, denE_far h.2]
section
variable {b : Base} {G : Nat → Nat} {S : Nat → Prop} {L : List LV} {R : List Res} {F M : World → Prop} {w : World}
/-- A new variable. -/
theorem StW.new (h : StW b G S L R F M w) {j : Nat} {t : TypeId} {ps : List Pt} (hj : farL j L = true) (hp : OkP ps) : StW b (fun i => if i = j then w.heap.size else G i) S (⟨j, none, t, ps⟩ :: L) R F M (w.alloc (.cells (catP ps) t)) := by
  have hal := (Below.refl w.heap.size w).alloc (Nat.le_refl _) (.cells (catP ps) t)
  have hn := farL_mem hj
  have hne : ∀ i, i ∈ namesL L → i ≠ j := fun i hi e => hn (e ▸ hi)
  have hG : ∀ i ∈ namesL L, (if i = j then w.heap.size else G i) = G i := fun i hi => if_neg (hne i hi)
  have hlt : ∀ i ∈ namesL L, G i < w.heap.size := fun i hi => h.lt _ (.inr ⟨i, hi, rfl⟩)
  have h1 := h.later hal
  have hM : ∀ k, Mine S (fun i => if i = j then w.heap.size else G i) (⟨j, none, t, ps⟩ :: L) k → k = w.heap.size ∨ Mine S G L k := fun k hk => by
    rcases hk with hk | ⟨i, hi, rfl⟩
    · exact .inr (.inl hk)
    · rcases List.mem_cons.1 hi with rfl | hi
      · exact .inl (if_pos rfl)
      · exact .inr (.inr ⟨i, hi, (hG i hi).symm⟩)
  refine ⟨fun x hx => ?_, List.Pairwise.cons (fun i hi => ?_) ?_, h1.res, fun i hi => ?_, ?_, ?_, h1.chg, fun k hk hlt => ?_, h.old⟩
  · rcases List.mem_cons.1 hx with rfl | hx
    · refine ⟨?_, hp, fun g hg => by cases hg⟩
      show Blk _ (if j = j then w.heap.size else G j) t (catP ps)
      rw [if_pos rfl]
      exact Blk.new w _ _
    · rw [hG _ (List.mem_map.2 ⟨x, hx, rfl⟩)]
      exact h1.var x hx
  · show (if j = j then w.heap.size else G j) ≠ _
    rw [if_pos rfl, hG i hi]
    exact Nat.ne_of_gt (hlt i hi)
  · refine List.Pairwise.imp_of_mem (fun {x y} hx hy hxy => ?_) h.apart
    rw [hG x hx, hG y hy]
    exact hxy
  · rcases List.mem_cons.1 hi with rfl | hi
    · show ¬ S (if i = i then w.heap.size else G i)
      rw [if_pos rfl]
      exact fun hs => Nat.lt_irrefl _ (h.res.lt _ hs)
    · rw [hG i hi]
      exact h.sep i hi
  · refine h.fact.past (Chg.of_up hal) fun i hi hd => ?_
    rcases hd with hd | hd
    · exact .inl hd
    · rcases hM i hd with rfl | hd
      · exact absurd hi (Nat.lt_irrefl _)
      · exact .inr hd
  · refine h.fresh.past (Chg.of_up hal) fun i hi hd => ?_
    rcases hd with hd | hd
    · exact .inl hd
    · rcases hM i hd with rfl | hd
      · exact absurd hi (Nat.lt_irrefl _)
      · exact .inr hd
  · rcases hM k hk with rfl | hk
    · exact absurd (Nat.lt_of_le_of_lt h.chg.size hlt) (Nat.lt_irrefl _)
    · exact h.mine k hk hlt
theorem putL_mem {j : Nat} {ps : List Pt} : ∀ {L : List LV}, (namesL L).Nodup → ∀ y ∈ putL L j ps, (y ∈ L ∧ y.j ≠ j) ∨ ∃ x ∈ L, x.j = j ∧ y = { x with ps := ps }
  | [], _, y, h => by cases h
  | x :: r, hd, y, h => by
    unfold putL at h
    have hd' := List.nodup_cons.1 hd
    split at h
    · rename_i e
      have e := Nat.eq_of_beq_eq_true e
      rcases List.mem_cons.1 h with rfl | h
      · exact .inr ⟨x, List.mem_cons_self, e, rfl⟩
      · refine .inl ⟨List.mem_cons_of_mem _ h, fun e2 => hd'.1 ?_⟩
        show x.j ∈ namesL r
        rw [e, ← e2]
        exact List.mem_map.2 ⟨y, h, rfl⟩
    · rename_i e
      rcases List.mem_cons.1 h with rfl | h
      · exact .inl ⟨List.mem_cons_self, fun e2 => by rw [e2] at e; simp at e⟩
      · rcases putL_mem hd'.2 y h with ⟨h1, h2⟩ | ⟨z, h1, h2, h3⟩
        · exact .inl ⟨List.mem_cons_of_mem _ h1, h2⟩
        · exact .inr ⟨z, List.mem_cons_of_mem _ h1, h2, h3⟩
theorem StW.nodup (h : StW b G S L R F M w) : (namesL L).Nodup := h.apart.imp fun hxy e => hxy (congrArg G e)
/-- A variable is written. -/
theorem StW.set (h : StW b G S L R F M w) {j : Nat} {ps : List Pt} (hj : j ∈ namesL L) (hp : OkP ps) : StW b G S (putL L j ps) R F M (w.setRow (G j) (catP ps)) := by
  have hc := Chg.row w (G j) (catP ps)
  have hmine : Mine S G L (G j) := .inr ⟨j, hj, rfl⟩
  have hne : ∀ i ∈ namesL L, i ≠ j → G i ≠ G j := fun i hi e => by
    have := h.apart
    obtain ⟨p, hp, rfl⟩ := List.getElem_of_mem hi
    obtain ⟨q, hq, rfl⟩ := List.getElem_of_mem hj
    rcases Nat.lt_trichotomy p q with h1 | h1 | h1
    · exact List.pairwise_iff_getElem.1 this p q hp hq h1
    · subst h1; exact absurd rfl e
    · exact (List.pairwise_iff_getElem.1 this q p hq hp h1).symm
  have hM : ∀ k, Mine S G (putL L j ps) k ↔ Mine S G L k := fun k => by unfold Mine; rw [putL_names]
  refine ⟨fun y hy => ?_, by rw [putL_names]; exact h.apart, h.res.keep fun k hk => hc.block k (h.res.lt k hk) (fun e => h.sep j hj (e ▸ hk)), by rw [putL_names]; exact h.sep, ?_, ?_, h.chg.step hc (fun i hi e => by subst e; exact h.mine _ hmine hi), fun k hk => h.mine k ((hM k).1 hk), h.old⟩
  · rcases putL_mem h.nodup y hy with ⟨h1, h2⟩ | ⟨x, h1, h2, rfl⟩
    · refine ⟨(h.var y h1).1.rowFar (hne _ (List.mem_map.2 ⟨y, h1, rfl⟩) h2) _, (h.var y h1).2⟩
    · subst h2
      exact ⟨(h.var x h1).1.row _, hp, (h.var x h1).2.2⟩
  · refine h.fact.past (D' := Dof b.X S G (putL L j ps)) (hc.mono (D' := Dof b.X S G L) fun i _ e => by subst e; exact .inr hmine) fun i _ hd => ?_
    exact hd.imp id (hM i).1
  · refine h.fresh.past (D' := Nof b S G (putL L j ps)) (hc.mono (D' := Nof b S G L) fun i _ e => by subst e; exact .inr hmine) fun i _ hd => ?_
    exact hd.imp id (hM i).1
end

/-! ### Regions, the order forced -/
def lS (P : Program) (b : Base) (ops : Array Oper) (Q : Exit → Act → World → Prop) (N : Nat) (l : List Oper) (e : Env) : Prop := ∀ a w, St b N e a w → wpList P ops Q l a w
theorem runBox {P : Program} {o : Oper} {ty : TypeId} {x : Operand} (ho : o.op = .box ty x) (a : Act) (w : World) : (execOp a.eval o).run P w = .ok (.value (.pointer (some ⟨w.heap.size, 0, none⟩))) (w.alloc (.cells (a.eval x).cells ty)) := by
  unfold execOp
  simp [ho, Instr.box, newVar, newRow]
theorem lookL_name {L : List LV} {j : Nat} {ps : List Pt} (h : lookL L j = some ps) : j ∈ namesL L := by
  obtain ⟨x, hx, rfl, _⟩ := lookL_mem h
  exact List.mem_map.2 ⟨x, hx, rfl⟩
section
variable {P : Program} {b : Base} {T : List TyR} {ops : Array Oper} {Q : Exit → Act → World → Prop} {N : Nat} {R : List Res} {F M : World → Prop}
theorem wpl_go {o : Oper} {l : List Oper} {a : Act} {w w' : World} {v : Value} (hw : Region.wanted o (yielded ops a.tmps) = true) (hr : (execOp a.eval o).run P w = .ok (.value v) w') (h : wpList P ops Q l (a.put o.dst v) w') : wpList P ops Q (o :: l) a w := by
  unfold wpList
  rw [if_pos hw]
  refine .inl ?_
  unfold Oper.wp
  rw [hr]
  exact h
theorem wpl_skip {o : Oper} {l : List Oper} {a : Act} {w w' : World} (hw : Region.wanted o (yielded ops a.tmps) = true) (hr : (execOp a.eval o).run P w = .ok .skip w') (h : wpList P ops Q l (a.put o.dst undef) w') : wpList P ops Q (o :: l) a w := by
  unfold wpList
  rw [if_pos hw]
  refine .inl ?_
  unfold Oper.wp
  rw [hr]
  exact h
theorem wpl_bare {o : Oper} {l : List Oper} {a : Act} {w : World} (hw : Region.wanted o (yielded ops a.tmps) = true) (h : wpList P ops Q (bareO o :: l) a w) : wpList P ops Q (o :: l) a w := by
  obtain ⟨dst, op, ty, pos, af, gd⟩ := o
  unfold wpList at h ⊢
  rw [if_pos hw]
  rw [if_pos (by rfl)] at h
  exact h
theorem StA.put {e : Env} {G : Nat → Nat} {S : Nat → Prop} {a : Act} {w : World} (h : StA b N e G S a w) {k : Nat} (hk : Nat.blt k N = true) {v : SV} (hv : v.Ok) : StA b N { e with E := (k, v) :: e.E } G S (a.put (some k) (v.den G)) w := ⟨h.fr.put hk _, h.ok.cons hv, h.st⟩
theorem autoS_ok (hT : OkT P T) : ∀ {l : List Oper} {E : SE} {L : List LV}, lS P b ops Q N (autoS T ops N l E L).1 ⟨(autoS T ops N l E L).2.1, (autoS T ops N l E L).2.2, R, F, M⟩ → lS P b ops Q N l ⟨E, L, R, F, M⟩
  | [], _, _, h => h
  | o :: l, E, L, h => by
    intro a w ⟨G, S, hs⟩
    have hst := hs.st
    dsimp only at hst
    unfold autoS at h
    cases hw : wantS ops N E o with
    | none => rw [hw] at h; exact h a w ⟨G, S, hs⟩
    | some q =>
      rw [hw] at h
      have hwt := wantS_ok hs.fr hw
      cases q with
      | false =>
        dsimp only at h
        have key : ∀ K, wpList P ops Q l (a.put o.dst undef) w → K = (o :: l) → wpList P ops Q K a w := fun K hk e => by
          rw [e]
          unfold wpList
          rw [hwt, if_neg (by decide)]
          exact hk
        cases hd : o.dst with
        | none =>
          rw [hd] at h
          exact key _ (by rw [hd]; exact autoS_ok hT h a w ⟨G, S, hs⟩) rfl
        | some k =>
          rw [hd] at h
          dsimp only at h
          cases hk : Nat.blt k N with
          | false => rw [hk] at h; exact h a w ⟨G, S, hs⟩
          | true =>
            rw [hk] at h
            exact key _ (by rw [hd]; exact autoS_ok hT h _ w ⟨G, S, hs.put (v := .v undef) hk trivial⟩) rfl
      | true =>
        dsimp only at h
        cases hd : o.dst with
        | none =>
          rw [hd] at h
          dsimp only at h
          cases hv : setS T E L o.op with
          | none => rw [hv] at h; exact wpl_bare hwt (h a w ⟨G, S, hs⟩)
          | some jp =>
            obtain ⟨j, qs⟩ := jp
            rw [hv] at h
            dsimp only at h
            obtain ⟨dst, op, ty, pos, af, gd⟩ := o
            dsimp only at hv hd
            subst hd
            cases op <;> first | (cases hv; done) | skip
            rename_i t x y
            simp only [setS] at hv
            split at hv
            · rename_i i off q hx hy
              split at hv
              · rename_i ps hps
                split at hv
                · rename_i qs' hq
                  injection hv with hv
                  injection hv with e1 e2
                  subst e1 e2
                  obtain ⟨z, hz, rfl, rfl⟩ := lookL_mem hps
                  obtain ⟨h3, h4⟩ := storeS_ok hT (hst.okL z hz) (hs.ok.ev hy) hq
                  have e1 := hs.fr.eval (evS_ok hx)
                  have e2 := hs.fr.eval (evS_ok hy)
                  refine wpl_skip (w' := w.setRow (G z.j) (catP qs')) hwt ?_ (autoS_ok hT h _ _ ⟨G, S, hs.fr, hs.ok, hst.set (lookL_name hps) h3⟩)
                  unfold execOp
                  simp only [e1, e2, SV.den, h4 (hst.at z hz), Sem.run_bind, Sem.run_pure, Result.andThen_ok]
                · cases hv
              · cases hv
            · cases hv
        | some k =>
          rw [hd] at h
          dsimp only at h
          cases hk : Nat.blt k N with
          | false => rw [hk] at h; exact h a w ⟨G, S, hs⟩
          | true =>
            rw [hk] at h
            dsimp only at h
            cases hv : stepS T E L o.op with
            | some v =>
              rw [hv] at h
              obtain ⟨h1, h2⟩ := stepS_ok hT hs.ok hst.okL hv
              exact wpl_go hwt (h2 hs.fr hst.at) (by rw [hd]; exact autoS_ok hT h _ w ⟨G, S, hs.put hk h1⟩)
            | none =>
              rw [hv] at h
              dsimp only at h
              cases hn : newS T E L k o.op with
              | none => rw [hn] at h; exact wpl_bare hwt (h a w ⟨G, S, hs⟩)
              | some tp =>
                obtain ⟨ty, ps⟩ := tp
                rw [hn] at h
                dsimp only at h
                have key : OkP ps → farL k L = true → farE k E = true → (execOp a.eval o).run P w = .ok (.value (.pointer (some ⟨w.heap.size, 0, none⟩))) (w.alloc (.cells (catP ps) ty)) → wpList P ops Q (o :: l) a w := fun hp hf hfe hr => by
                  refine wpl_go hwt hr ?_
                  rw [hd]
                  have hfr := hs.fr.put hk (.pointer (some ⟨w.heap.size, 0, none⟩))
                  refine autoS_ok hT h _ _ ⟨_, S, ?_, hs.ok.cons trivial, hst.new hf hp⟩
                  show Fr N ((k, .pointer (some ⟨if k = k then w.heap.size else G k, 0, none⟩)) :: denE _ E) _
                  rw [if_pos rfl, denE_far hfe]
                  exact hfr
                obtain ⟨dst, op, ty', pos, af, gd⟩ := o
                dsimp only at hn hd
                subst hd
                cases op <;> first | (cases hn; done) | skip
                · simp only [newS] at hn
                  split at hn
                  · rename_i r hr hf hfe
                    injection hn with hn
                    injection hn with e1 e2
                    subst e1 e2
                    obtain ⟨h3, h4⟩ := findT_ok hT hr
                    subst h4
                    obtain ⟨it, d, h5, _, _, h6, _⟩ := h3.info
                    exact key h3.2 hf hfe (exec_alloc rfl (by rw [h5]; exact h6) a w)
                  · cases hn
                · simp only [newS] at hn
                  split at hn
                  · rename_i qs hx hf hfe
                    injection hn with hn
                    injection hn with e1 e2
                    subst e1 e2
                    have e1 := hs.fr.eval (evS_ok hx)
                    refine key (hs.ok.ev hx) hf hfe ?_
                    rw [runBox rfl, e1]
                    rfl
                  · rename_i s hx hf hfe
                    split at hn
                    · rename_i hfc
                      injection hn with hn
                      injection hn with e1 e2
                      subst e1 e2
                      have e1 := hs.fr.eval (evS_ok hx)
                      have hso : s.Ok := hs.ok.ev hx
                      obtain ⟨h5, h6⟩ := fitC_ok hso hfc
                      refine key (fun p hp => by rw [List.mem_singleton.1 hp]; exact ⟨hso, h5, h6⟩) hf hfe ?_
                      rw [runBox rfl, e1]
                      show _ = Result.ok _ (w.alloc (.cells #[s.den] _))
                      rw [← h6]
                      rfl
                    · cases hn
                  · cases hn
theorem l_autoS (hT : OkT P T) {l l' : List Oper} {E E' : SE} {L L' : List LV} (h : autoS T ops N l E L = (l', E', L')) (hn : lS P b ops Q N l' ⟨E', L', R, F, M⟩) : lS P b ops Q N l ⟨E, L, R, F, M⟩ := autoS_ok hT (by rw [h]; exact hn)
end
end Go.Proofs.YtcbfalfkdnfelaaDoor
/-
  CODE OVER STATES; what a call does: contracts that speak of what is owned, of facts, of what is new.
-/
namespace Go.Proofs.YtcbfalfkdnfelaaDoor
open Go.RowKit Go.IntWalk

def cS (P : Program) (b : Base) (c : Code) (Q : Exit → Act → World → Prop) (N : Nat) (e : Env) : Prop := ∀ a w, St b N e a w → c.wp P Q a w
def kS (b : Base) (K : Act → World → Prop) (N : Nat) (e : Env) : Prop := ∀ a w, St b N e a w → K a w

/-! ### Less is known -/
def SubS : SE → SE → Prop
  | [], _ => True
  | p :: r, E => lookS E p.1 = some p.2 ∧ SubS r E
def findL : List LV → Nat → Option LV
  | [], _ => none
  | x :: r, j => match Nat.beq x.j j with
    | true => some x
    | false => findL r j
def SubL : List LV → List LV → Prop
  | [], _ => True
  | x :: r, L => findL L x.j = some x ∧ farL x.j r = true ∧ SubL r L
theorem SubS.ok : ∀ {E' E : SE}, SubS E' E → OkE E → OkE E'
  | [], _, _, _ => fun _ hx => by cases hx
  | (j, u) :: r, E, hs, h => fun x hx => by
    rcases List.mem_cons.1 hx with rfl | hx
    · exact h.get hs.1
    · exact SubS.ok hs.2 h x hx
theorem findL_mem : ∀ {L : List LV} {j : Nat} {x : LV}, findL L j = some x → x ∈ L ∧ x.j = j
  | [], _, _, h => by cases h
  | y :: r, j, x, h => by
    unfold findL at h
    split at h
    · rename_i e
      injection h with h
      subst h
      exact ⟨List.mem_cons_self, Nat.eq_of_beq_eq_true e⟩
    · exact ⟨List.mem_cons_of_mem _ (findL_mem h).1, (findL_mem h).2⟩
theorem SubL.mem : ∀ {L' L : List LV}, SubL L' L → ∀ x ∈ L', x ∈ L
  | [], _, _, _, h => by cases h
  | y :: r, L, h, x, hx => by
    rcases List.mem_cons.1 hx with rfl | hx
    · exact (findL_mem h.1).1
    · exact SubL.mem h.2.2 x hx
theorem SubL.names {L' L : List LV} (h : SubL L' L) : ∀ j ∈ namesL L', j ∈ namesL L := fun j hj => by
  obtain ⟨x, hx, rfl⟩ := List.mem_map.1 hj
  exact List.mem_map.2 ⟨x, h.mem x hx, rfl⟩
theorem SubL.nodup : ∀ {L' L : List LV}, SubL L' L → (namesL L').Nodup
  | [], _, _ => List.nodup_nil
  | _ :: _, _, h => List.nodup_cons.2 ⟨farL_mem h.2.1, SubL.nodup h.2.2⟩
theorem pair_of {G : Nat → Nat} {l m : List Nat} (h : m.Pairwise fun i j => G i ≠ G j) (hl : ∀ j ∈ l, j ∈ m) (hd : l.Nodup) : l.Pairwise fun i j => G i ≠ G j := by
  refine List.Pairwise.imp_of_mem (fun {x y} hx hy hxy => ?_) hd
  obtain ⟨p, hp, e1⟩ := List.getElem_of_mem (hl x hx)
  obtain ⟨q, hq, e2⟩ := List.getElem_of_mem (hl y hy)
  rw [← e1, ← e2]
  rcases Nat.lt_trichotomy p q with h1 | h1 | h1
  · exact List.pairwise_iff_getElem.1 h p q hp hq h1
  · subst h1; exact absurd (e1.symm.trans e2) hxy
  · exact (List.pairwise_iff_getElem.1 h q p hq hp h1).symm
theorem denE_sub {G : Nat → Nat} : ∀ {E' E : SE}, SubS E' E → Sub (denE G E') (denE G E)
  | [], _, _ => trivial
  | (k, v) :: r, E, h => ⟨by rw [look_den, h.1]; rfl, denE_sub h.2⟩
/-- What is known in e is enough for e'. -/
structure Weak (e e' : Env) : Prop where
  E : SubS e'.E e.E
  L : SubL e'.L e.L
  R : e.R.Perm e'.R
  F : ∀ w, e.F w → e.M w → e'.F w
  M : ∀ w, e.M w → e'.M w
section
variable {b : Base} {N : Nat} {e e' : Env} {a : Act} {w : World}
theorem StW.less {G : Nat → Nat} {S : Nat → Prop} {L L' : List LV} {R : List Res} {F M : World → Prop} (h : StW b G S L R F M w) (hL : SubL L' L) : StW b G S L' R F M w := by
  have hM : ∀ k, Mine S G L' k → Mine S G L k := fun k hk => hk.imp id fun ⟨j, hj, e⟩ => ⟨j, hL.names j hj, e⟩
  exact ⟨fun x hx => h.var x (hL.mem x hx), pair_of h.apart hL.names hL.nodup, h.res, fun j hj => h.sep j (hL.names j hj), h.fact.less fun k _ hk => hk.imp id (hM k), h.fresh.less fun k _ hk => hk.imp id (hM k), h.chg, fun k hk => h.mine k (hM k hk), h.old⟩
theorem St.weak (h : St b N e a w) (hw : Weak e e') : St b N e' a w := by
  obtain ⟨G, S, h1, h2, h3⟩ := h
  refine ⟨G, S, h1.sub (denE_sub hw.E), hw.E.ok h2, ?_⟩
  have h4 := (h3.less hw.L).imp hw.F hw.M
  exact { h4 with res := h4.res.perm hw.R }
end
section
variable {P : Program} {b : Base} {Q : Exit → Act → World → Prop} {N : Nat} {e e' : Env}
theorem k_weak {K : Act → World → Prop} (hw : Weak e e') (h : kS b K N e') : kS b K N e := fun a w hs => h a w (hs.weak hw)
theorem c_weak {c : Code} (hw : Weak e e') (h : cS P b c Q N e') : cS P b c Q N e := fun a w hs => h a w (hs.weak hw)
/-! ### Code -/
theorem s_seq {x y : Code} (h : ∀ K : Act → World → Prop, (∀ e', cS P b y Q N e' → kS b K N e') → cS P b x (Exit.then K Q) N e) : cS P b (.seq x y) Q N e := fun a w hs =>
  wp_seq_k fun K hK => h K (fun _ h' a' w' hs' => hK _ _ (h' a' w' hs')) a w hs
theorem s_lit {id : Nat} {l : List Oper} (h : lS P b l.toArray Q N l e) : cS P b (.region id l.toArray false) Q N e := fun a w hs => wp_region_lit (h a w hs)
/-- A region, the order forced, and what comes behind it. -/
theorem s_reg {id : Nat} {l : List Oper} {y : Code} (h : ∀ K : Act → World → Prop, (∀ e', cS P b y Q N e' → kS b K N e') → lS P b l.toArray (Exit.then K Q) N l e) : cS P b (.seq (.region id l.toArray false) y) Q N e := s_seq fun K hK => s_lit (h K hK)
theorem s_end {ops : Array Oper} (h : kS b (Q .normal) N e) : lS P b ops Q N [] e := fun a w hs => wpl_nil (h a w hs)
theorem s_if {c : Operand} {x y : Code} {E : SE} {L : List LV} {R : List Res} {F M : World → Prop} (t : Bool) (hc : evS E c = some (.b t)) (h1 : t = true → cS P b x Q N ⟨E, L, R, F, M⟩) (h2 : t = false → cS P b y Q N ⟨E, L, R, F, M⟩) : cS P b (.cond c x y) Q N ⟨E, L, R, F, M⟩ := fun a w hs => by
  have hs' := hs
  obtain ⟨G, S, h3⟩ := hs
  exact wp_cond_split (h3.fr.eval (evS_ok hc)) (fun ht => h1 ht a w hs') (fun ht => h2 ht a w hs')
theorem s_ifD {c : Operand} {x y : Code} {E : SE} {L : List LV} {R : List Res} {F M : World → Prop} (p : Prop) [Decidable p] (hc : evS E c = some (.b (decide p))) (h1 : p → cS P b x Q N ⟨E, L, R, F, M⟩) (h2 : ¬ p → cS P b y Q N ⟨E, L, R, F, M⟩) : cS P b (.cond c x y) Q N ⟨E, L, R, F, M⟩ :=
  s_if (decide p) hc (fun h => h1 (of_decide_eq_true h)) (fun h => h2 (of_decide_eq_false h))
theorem s_yes {c : Operand} {x y : Code} {E : SE} {L : List LV} {R : List Res} {F M : World → Prop} (hc : evS E c = some (.v (.bool true))) (h1 : cS P b x Q N ⟨E, L, R, F, M⟩) : cS P b (.cond c x y) Q N ⟨E, L, R, F, M⟩ := fun a w hs => by
  have hs' := hs
  obtain ⟨G, S, h3⟩ := hs
  exact wp_cond_true (h3.fr.eval (evS_ok hc)) (h1 a w hs')
theorem s_no {c : Operand} {x y : Code} {E : SE} {L : List LV} {R : List Res} {F M : World → Prop} (hc : evS E c = some (.v (.bool false))) (h1 : cS P b y Q N ⟨E, L, R, F, M⟩) : cS P b (.cond c x y) Q N ⟨E, L, R, F, M⟩ := fun a w hs => by
  have hs' := hs
  obtain ⟨G, S, h3⟩ := hs
  exact wp_cond_false (h3.fr.eval (evS_ok hc)) (h1 a w hs')
theorem s_block {id : Nat} {c : Code} (h : cS P b c (Exit.inBlock id Q) N e) : cS P b (.block id c) Q N e := fun a w hs => wp_block (h a w hs)
theorem s_skip (h : kS b (Q .normal) N e) : cS P b .skip Q N e := fun a w hs => wp_skip (h a w hs)
theorem s_exit {id : Nat} (h : kS b (Q (.exit id)) N e) : cS P b (.exit id) Q N e := fun a w hs => wp_exit (h a w hs)
theorem s_ret (h : kS b (Q .ret) N e) : cS P b .ret Q N e := fun a w hs => wp_ret (h a w hs)
/-- The end of a block by its exit. -/
theorem k_out {id : Nat} (h : kS b (Q .normal) N e) : kS b (Exit.inBlock id Q (.exit id)) N e := fun a w hs => by
  simp only [Exit.inBlock, if_true]
  exact h a w hs
theorem k_pass {id : Nat} {K : Act → World → Prop} (h : kS b (Q (.exit id)) N e) : kS b (Exit.then K Q (.exit id)) N e := h
theorem k_passB {id id' : Nat} (hne : (id == id') = false) (h : kS b (Q (.exit id)) N e) : kS b (Exit.inBlock id' Q (.exit id)) N e := fun a w hs => by
  simp only [Exit.inBlock]
  rw [if_neg (by simpa using hne)]
  exact h a w hs
/-- **A loop**: its states, what is known at each, what gets less. -/
theorem s_loop {σ : Type} {c : Code} (m : σ → Nat) (F : σ → Env) (I : σ → Prop)
    (round : ∀ s, I s → cS P b c (Exit.then (fun a' w' => ∃ s', I s' ∧ St b N (F s') a' w' ∧ m s' < m s) Q) N (F s)) (s0 : σ) (h0 : I s0) : cS P b (.loop c) Q N (F s0) := fun a w hs => by
  obtain ⟨G, S, h1, h2, h3⟩ := hs
  refine c_loop (σ := σ × (Nat → Nat) × (Nat → Prop)) (m := fun x => m x.1) (F := fun x => denE x.2.1 (F x.1).E) (R := fun x w => I x.1 ∧ OkE (F x.1).E ∧ StW b x.2.1 x.2.2 (F x.1).L (F x.1).R (F x.1).F (F x.1).M w) ?_ (s0, G, S) ⟨h0, h2, h3⟩ a h1
  rintro ⟨s, G, S⟩ w ⟨hI, hE, hW⟩ a ha
  refine wp_mono (round s hI a w ⟨G, S, ha, hE, hW⟩) fun x a' w' hx => ?_
  cases x with
  | normal =>
    obtain ⟨s', hI', ⟨G', S', h4, h5, h6⟩, hm⟩ := hx
    exact ⟨(s', G', S'), ⟨hI', h5, h6⟩, h4, hm⟩
  | exit _ => exact hx
  | goto _ => exact hx
  | ret => exact hx
  | panic _ => exact hx
  | outgrown => exact hx
/-- The end of a loop's round. -/
theorem k_next {σ : Type} {m : σ → Nat} {F : σ → Env} {I : σ → Prop} {s : σ} (s' : σ) (hI : I s') (hm : m s' < m s) (hw : Weak e (F s')) : kS b (fun a' w' => ∃ s', I s' ∧ St b N (F s') a' w' ∧ m s' < m s) N e := fun _ _ hs => ⟨s', hI, hs.weak hw, hm⟩
end

/-! ### Contracts -/
/-- What is handed back. -/
inductive RV where
  | q (x : SQ)
  | t (vs : List SQ)
def RV.sv : RV → SV
  | .q x => .q x
  | .t vs => .t vs
def RV.den : RV → Value
  | .q x => x.den
  | .t vs => .tuple (vs.map SQ.den).toArray
theorem RV.sv_den (r : RV) (G : Nat → Nat) : r.sv.den G = r.den := by cases r <;> rfl
abbrev RV.v (x : Value) : RV := .q (.c (.v x))
/-- What holds behind a call: for some x, what is handed back, what is owned, facts, facts of new memory alone. -/
structure Post (α : Type) where
  ret : α → RV
  own : α → List Res := fun _ => []
  p : α → World → Prop := fun _ _ => True
  n : α → World → Prop := fun _ _ => True
/-- **A contract.** -/
def Spec (f : FuncId) (args : List Value) (own : List Res) (F : World → Prop) {α : Type} (post : Post α) : Prop :=
  ∀ (w : World) (S X : Nat → Prop), starL own w S → (∀ k, X k → k < w.heap.size ∧ ¬ S k) → Stb (fun k => X k ∨ S k) F w →
    Calls Tryd.prog f args.toArray w fun e w' => ∃ x S', e = .returned (post.ret x).den ∧ (post.ret x).sv.Ok ∧ Chg S w w' ∧ starL (post.own x) w' S' ∧ (∀ k, S' k → k < w.heap.size → S k) ∧
      Stb (fun k => X k ∨ S' k) (post.p x) w' ∧ Stb (fun k => k < w.heap.size ∨ S' k) (post.n x) w'
/-- One value, no memory. -/
abbrev one (r : RV) : Post Unit := { ret := fun _ => r }
theorem Spec.pure {f : FuncId} {args : List Value} {F : World → Prop} {r : RV} (hr : r.sv.Ok) (h : ∀ w, F w → Calls Tryd.prog f args.toArray w fun e w' => e = .returned r.den ∧ Below w.heap.size w w') : Spec f args [] F (one r) := fun w _ _ _ _ hF =>
  (h w hF.now).mono fun _ _ ⟨h1, h2⟩ => ⟨(), fun _ => False, h1, hr, Chg.of_up h2, fun _ h => h, fun _ h => h.elim, fun _ _ => trivial, fun _ _ => trivial⟩
theorem Spec.imp {f : FuncId} {args : List Value} {own : List Res} {F F' : World → Prop} {α : Type} {post : Post α} (h : Spec f args own F post) (hF : ∀ w, F' w → F w) : Spec f args own F' post := fun w S X hS hX hf => h w S X hS hX (hf.imp hF)

/-! ### Begin and end -/
def argS : Nat → List SQ → SE
  | _, [] => []
  | j, v :: vs => (j, .q v) :: argS (j + 1) vs
theorem argS_den (G : Nat → Nat) : ∀ (vs : List SQ) (j : Nat), denE G (argS j vs) = argE j (vs.map SQ.den)
  | [], _ => rfl
  | v :: vs, j => by rw [argS, denE, argS_den G vs (j + 1)]; rfl
theorem argS_ok : ∀ {vs : List SQ} {j : Nat}, (∀ v ∈ vs, v.Ok) → OkE (argS j vs)
  | [], _, _ => fun _ h => by cases h
  | v :: vs, j, h => OkE.cons (argS_ok fun u hu => h u (by simp [hu])) (h v (by simp))
/-- What is asked at a call's end. -/
def endS {α : Type} (b : Base) (post : Post α) (e : Ending) (w' : World) : Prop := ∃ x S', e = .returned (post.ret x).den ∧ (post.ret x).sv.Ok ∧ Chg b.D b.B w' ∧ starL (post.own x) w' S' ∧ (∀ k, S' k → k < b.B.heap.size → b.D k) ∧
  Stb (fun k => b.X k ∨ S' k) (post.p x) w' ∧ Stb (fun k => k < b.B.heap.size ∨ S' k) (post.n x) w'
theorem spec_S {f : FuncId} {fn : Func} {c : Code} {own : List Res} {F : World → Prop} {α : Type} {post : Post α} (vs : List SQ) (N : Nat) (hf : Tryd.prog.funcs[f]? = some fn) (hb : fn.body = some c) (hn : vs.length + (fn.ntmps - vs.length) = N) (hv : ∀ v ∈ vs, v.Ok)
    (h : ∀ b : Base, cS Tryd.prog b c (bodyPost Tryd.prog fn (endS b post)) N ⟨argS 0 vs, [], own, F, fun _ => True⟩) : Spec f (vs.map SQ.den) own F post := fun w S X hS hX hF => by
  refine calls_F N hf hb (by simpa using hn) fun a ha => ?_
  refine h ⟨X, w, S⟩ a w ⟨fun _ => 0, S, by rw [argS_den]; exact ha, argS_ok hv, fun x hx => (by cases hx), List.Pairwise.nil, hS, fun x hx => (by cases hx), ?_, fun _ _ => trivial, Chg.refl _ _, fun k hk _ => ?_, hX⟩
  · exact hF.less fun k _ hk => hk.imp id fun hk => hk.elim id fun ⟨j, hj, _⟩ => by cases hj
  · exact hk.elim id fun ⟨j, hj, _⟩ => by cases hj
/-- What lies where the results are. -/
def resS (T : List TyR) (E : SE) (L : List LV) : List ResultVar → Option (List SQ)
  | [] => some []
  | .tmp t :: r => match lookS E t, resS T E L r with
    | some (.q q), some qs => some (q :: qs)
    | _, _ => none
  | .cell t ty :: r => match lookS E t, resS T E L r with
    | some (.a j off), some qs => match lookL L j with
      | some ps => match loadS T ps ty off with
        | some q => some (q :: qs)
        | none => none
      | none => none
    | _, _ => none
def retOf : List SQ → RV
  | [q] => .q q
  | qs => .t qs
def elemR (tmps : Array Value) : ResultVar → Sem Value
  | .tmp t => pure (tmps.getD t undef)
  | .cell p t => do loadVar t (← asAddr (tmps.getD p undef))
theorem elemR_ok {P : Program} {T : List TyR} (hT : OkT P T) {E : SE} {L : List LV} (hE : OkE E) (hL : OkL L) {N : Nat} {G : Nat → Nat} {a : Act} {w : World} (ha : Fr N (denE G E) a) (hl : LAt G L w) {r : ResultVar} {rs : List ResultVar} {qs : List SQ} (h : resS T E L (r :: rs) = some qs) :
    ∃ q qs', qs = q :: qs' ∧ q.Ok ∧ (elemR a.tmps r).run P w = .ok q.den w ∧ resS T E L rs = some qs' := by
  cases r with
  | tmp t =>
    simp only [resS] at h
    split at h
    · rename_i q qs' h1 h2
      injection h with h
      subst h
      have e : a.tmps.getD t undef = q.den := ha.get t _ (by rw [look_den, h1]; rfl)
      exact ⟨q, qs', rfl, hE.get h1, by simp only [elemR, Sem.run_pure, e], h2⟩
    · cases h
  | cell t ty =>
    simp only [resS] at h
    split at h
    · rename_i j off qs' h1 h2
      split at h
      · rename_i ps hps
        split at h
        · rename_i q hq
          injection h with h
          subst h
          obtain ⟨y, hy, rfl, rfl⟩ := lookL_mem hps
          obtain ⟨h5, h6⟩ := loadS_ok hT (hL y hy) hq
          have e : a.tmps.getD t undef = .pointer (some ⟨G y.j, off, none⟩) := ha.get t _ (by rw [look_den, h1]; rfl)
          have h7 := h6 (hl y hy)
          simp only [Instr.loadAt, Instr.sureAddr, Sem.run_bind, Sem.run_pure, Result.andThen_ok] at h7
          exact ⟨q, qs', rfl, h5, by simp only [elemR, Sem.run_bind, Sem.run_pure, Result.andThen_ok, e, asAddr, h7], h2⟩
        · cases h
      · cases h
    · cases h
theorem results_eq (fn : Func) (tmps : Array Value) : results fn tmps = (do
    let vs ← fn.results.mapM (elemR tmps)
    pure (if h : vs.size = 1 then vs[0] else .tuple vs)) := by
  unfold results
  congr 2
theorem run_results {P : Program} {T : List TyR} (hT : OkT P T) {E : SE} {L : List LV} (hE : OkE E) (hL : OkL L) {N : Nat} {G : Nat → Nat} {fn : Func} {a : Act} {w : World} (ha : Fr N (denE G E) a) (hl : LAt G L w) {rs : List ResultVar} {qs : List SQ} (hr : fn.results = rs.toArray) (hs : rs.length ≤ 3) (h : resS T E L rs = some qs) :
    (retOf qs).sv.Ok ∧ (results fn a.tmps).run P w = .ok (retOf qs).den w := by
  rw [results_eq, hr]
  rcases rs with _ | ⟨r1, _ | ⟨r2, _ | ⟨r3, _ | ⟨r4, rs⟩⟩⟩⟩
  · cases h
    exact ⟨fun _ h => (by cases h), by simp [retOf, RV.den]⟩
  · obtain ⟨q1, qs, rfl, o1, e1, h⟩ := elemR_ok hT hE hL ha hl h
    cases h
    exact ⟨o1, by simp [retOf, RV.den, e1]⟩
  · obtain ⟨q1, qs, rfl, o1, e1, h⟩ := elemR_ok hT hE hL ha hl h
    obtain ⟨q2, qs, rfl, o2, e2, h⟩ := elemR_ok hT hE hL ha hl h
    cases h
    refine ⟨fun x hx => ?_, by simp [retOf, RV.den, e1, e2]⟩
    simp only [List.mem_cons, List.not_mem_nil, or_false] at hx
    rcases hx with rfl | rfl <;> assumption
  · obtain ⟨q1, qs, rfl, o1, e1, h⟩ := elemR_ok hT hE hL ha hl h
    obtain ⟨q2, qs, rfl, o2, e2, h⟩ := elemR_ok hT hE hL ha hl h
    obtain ⟨q3, qs, rfl, o3, e3, h⟩ := elemR_ok hT hE hL ha hl h
    cases h
    refine ⟨fun x hx => ?_, by simp [retOf, RV.den, e1, e2, e3]⟩
    simp only [List.mem_cons, List.not_mem_nil, or_false] at hx
    rcases hx with rfl | rfl | rfl <;> assumption
  · simp at hs
/-- **The end of a call.** -/
theorem k_ret {T : List TyR} (hT : OkT Tryd.prog T) {b : Base} {fn : Func} {N : Nat} {E : SE} {L : List LV} {R : List Res} {F M : World → Prop} {α : Type} {post : Post α} {rs : List ResultVar} {qs : List SQ} (x : α) (hr : fn.results = rs.toArray) (hs : rs.length ≤ 3) (h : resS T E L rs = some qs)
    (hx : post.ret x = retOf qs) (hR : post.own x = R) (hp : ∀ w, F w → M w → post.p x w) (hn : ∀ w, M w → post.n x w) : kS b (bodyPost Tryd.prog fn (endS b post) .ret) N ⟨E, L, R, F, M⟩ := fun a w ⟨G, S, h1, h2, h3⟩ => by
  obtain ⟨h4, h5⟩ := run_results hT h2 h3.okL h1 h3.at hr hs h
  refine bodyPost_ret h5 h1.defers ⟨x, S, by rw [hx], by rw [hx]; exact h4, h3.chg, by rw [hR]; exact h3.res, fun k hk hlt => h3.mine k (.inl hk) hlt, (h3.all.imp fun w hw => hp w hw.1 hw.2).less fun k _ hk => hk.imp id .inl, (h3.fresh.imp hn).less fun k _ hk => hk.imp id .inl⟩
/-- The same, where what is handed back is said otherwise. -/
theorem k_retD {T : List TyR} (hT : OkT Tryd.prog T) {b : Base} {fn : Func} {N : Nat} {E : SE} {L : List LV} {R : List Res} {F M : World → Prop} {α : Type} {post : Post α} {rs : List ResultVar} {qs : List SQ} (x : α) (hr : fn.results = rs.toArray) (hs : rs.length ≤ 3) (h : resS T E L rs = some qs)
    (hx : (post.ret x).den = (retOf qs).den) (ho : (post.ret x).sv.Ok) (hR : post.own x = R) (hp : ∀ w, F w → M w → post.p x w) (hn : ∀ w, M w → post.n x w) : kS b (bodyPost Tryd.prog fn (endS b post) .ret) N ⟨E, L, R, F, M⟩ := fun a w ⟨G, S, h1, h2, h3⟩ => by
  obtain ⟨h4, h5⟩ := run_results hT h2 h3.okL h1 h3.at hr hs h
  refine bodyPost_ret h5 h1.defers ⟨x, S, by rw [hx], ho, h3.chg, by rw [hR]; exact h3.res, fun k hk hlt => h3.mine k (.inl hk) hlt, (h3.all.imp fun w hw => hp w hw.1 hw.2).less fun k _ hk => hk.imp id .inl, (h3.fresh.imp hn).less fun k _ hk => hk.imp id .inl⟩
end Go.Proofs.YtcbfalfkdnfelaaDoor
/-
  STEPS OVER STATES: elder steps, calls by their contracts; regions whose order is drawn.
-/
namespace Go.Proofs.YtcbfalfkdnfelaaDoor
open Go.RowKit Go.IntWalk

/-! ### Calls -/
/-- What can be seen: the variables, what is owned, the facts. -/
structure View (G : Nat → Nat) (S : Nat → Prop) (L : List LV) (R : List Res) (F M : World → Prop) (w : World) : Prop where
  var : ∀ x ∈ L, Blk w (G x.j) x.t (catP x.ps) ∧ OkP x.ps ∧ ∀ g, x.g = some g → G x.j = g
  res : starL R w S
  fact : F w
  fresh : M w
section
variable {b : Base} {G : Nat → Nat} {S : Nat → Prop} {L : List LV} {R R' own : List Res} {F M F' : World → Prop} {w w' : World} {α : Type} {post : Post α} {f : FuncId} {args : List Value}
theorem StW.view (h : StW b G S L R F M w) : View G S L R F M w := ⟨h.var, h.res, h.fact.now, h.all.now.2⟩
/-- The own blocks, split. -/
theorem StW.split (h : StW b G S L (own ++ R') F M w) : ∃ S1 S2, starL own w S1 ∧ starL R' w S2 ∧ (∀ k, S k ↔ S1 k ∨ S2 k) ∧ ∀ k, S1 k → ¬ S2 k := starL.app.1 h.res
/-- Behind a change of what is one's own. -/
theorem StW.chgd (h : StW b G S L R F M w) {S1 S2 S' : Nat → Prop} (hS : ∀ k, S k ↔ S1 k ∨ S2 k) (hc : Chg S1 w w') (hr : starL R' w' fun k => S' k ∨ S2 k) (hS' : ∀ k, S' k → k < w.heap.size → S1 k) : StW b G (fun k => S' k ∨ S2 k) L R' F M w' := by
  have hSm : ∀ k, S1 k → Mine S G L k := fun k hk => .inl ((hS k).2 (.inl hk))
  have hM : ∀ k, k < w.heap.size → Mine (fun k => S' k ∨ S2 k) G L k → Mine S G L k := fun k hlt hk => hk.imp (fun hk => (hS k).2 (hk.imp (fun h => hS' k h hlt) id)) id
  refine ⟨fun x hx => ⟨(hc.block _ (h.var x hx).1.lt fun hs => h.sep x.j (List.mem_map.2 ⟨x, hx, rfl⟩) ((hS _).2 (.inl hs))).trans (h.var x hx).1, (h.var x hx).2⟩, h.apart, hr, fun j hj hs => ?_, ?_, ?_, h.chg.step hc fun i hi hs => h.mine i (hSm i hs) hi, fun k hk hlt => h.mine k (hM k (Nat.lt_of_lt_of_le hlt h.chg.size) hk) hlt, h.old⟩
  · have hlt := h.lt (G j) (.inr ⟨j, hj, rfl⟩)
    exact h.sep j hj ((hS _).2 (hs.imp (fun h => hS' _ h hlt) id))
  · exact h.fact.past (D' := Dof b.X (fun k => S' k ∨ S2 k) G L) (hc.mono (D' := Dof b.X S G L) fun i _ hs => .inr (hSm i hs)) fun i hi hd => hd.imp id (hM i hi)
  · exact h.fresh.past (D' := Nof b (fun k => S' k ∨ S2 k) G L) (hc.mono (D' := Nof b S G L) fun i _ hs => .inr (hSm i hs)) fun i hi hd => hd.imp id (hM i hi)
/-- Behind a call that changed what it was lent. -/
theorem StW.lent (h : StW b G S L (own ++ R') F M w) {S1 S2 S' : Nat → Prop} {own' : List Res} (h2 : starL R' w S2) (hS : ∀ k, S k ↔ S1 k ∨ S2 k) (hd : ∀ k, S1 k → ¬ S2 k) (hc : Chg S1 w w') (h1' : starL own' w' S') (hS' : ∀ k, S' k → k < w.heap.size → S1 k) :
    StW b G (fun k => S' k ∨ S2 k) L (own' ++ R') F M w' := h.chgd hS hc (starL.app.2 ⟨S', S2, h1', h2.keep fun k hk => hc.block k (h2.lt k hk) fun hs => hd k hs hk, fun _ => Iff.rfl, fun k hk hk2 => hd k (hS' k hk (h2.lt k hk2)) hk2⟩) hS'
/-- One of what is owned is changed. -/
theorem StW.put (h : StW b G S L R F M w) {i : Nat} {r : Res} (hi : R[i]? = some r) : ∃ S1, r.holds w S1 ∧ ∀ (r' : Res) (w' : World) (S' : Nat → Prop), Chg S1 w w' → r'.holds w' S' → (∀ k, S' k → k < w.heap.size → S1 k) → ∃ S'', StW b G S'' L (R.set i r') F M w' := by
  obtain ⟨S1, S2, h1, h2, h3, h4, h5⟩ := h.res.at hi
  refine ⟨S1, h1, fun r' w' S' hc hr hS' => ⟨_, h.chgd h2 hc (h5 r' w' S' hr (fun k hk => hc.block k (h4.lt k hk) fun hs => h3 k hs hk) fun k hk hk2 => h3 k (hS' k hk (h4.lt k hk2)) hk2) hS'⟩⟩
/-- Something more is owned: of new blocks alone. -/
theorem StW.gain (h : StW b G S L R F M w) (k : Below w.heap.size w w') {r : Res} {S' : Nat → Prop} (hr : r.holds w' S') (hn : ∀ k, S' k → w.heap.size ≤ k) : ∃ S'', StW b G S'' L (r :: R) F M w' := by
  refine ⟨_, h.chgd (S1 := fun _ => False) (S2 := S) (S' := S') (fun k => ⟨.inr, fun h => h.elim False.elim id⟩) (Chg.of_up k) ⟨S', S, hr, h.res.keep fun i hi => k.block i (h.res.lt i hi), fun _ => Iff.rfl, fun i hi hs => ?_⟩ fun i hi hlt => ?_⟩
  · exact Nat.lt_irrefl _ (Nat.lt_of_lt_of_le (h.res.lt i hs) (hn i hi))
  · exact Nat.lt_irrefl _ (Nat.lt_of_lt_of_le hlt (hn i hi))
/-- What is owned no more, and what stays of it. -/
theorem StW.let (h : StW b G S L R F M w) {i : Nat} {r : Res} (hi : R[i]? = some r) : ∃ S1 S2, r.holds w S1 ∧ (∀ k, S1 k → ¬ S2 k) ∧ (∀ k, S k ↔ S1 k ∨ S2 k) ∧ StW b G S2 L (R.eraseIdx i) F M w := by
  obtain ⟨S1, S2, h1, h2, h3, h4, _⟩ := h.res.at hi
  have hM : ∀ k, Mine S2 G L k → Mine S G L k := fun k hk => hk.imp (fun h => (h2 k).2 (.inr h)) id
  exact ⟨S1, S2, h1, h3, h2, { h with res := h4, sep := fun j hj hs => h.sep j hj ((h2 _).2 (.inr hs)), fact := h.fact.less fun k _ hk => hk.imp id (hM k), fresh := h.fresh.less fun k _ hk => hk.imp id (hM k), mine := fun k hk => h.mine k (hM k hk) }⟩
/-- **A call**: its facts from facts; what it tells stays. -/
theorem StW.callA (h : StW b G S L (own ++ R') F M w) (hs : Spec f args own F' post) (hF : ∀ w, F w → M w → F' w) :
    Calls Tryd.prog f args.toArray w fun e w' => ∃ x S', e = .returned (post.ret x).den ∧ (post.ret x).sv.Ok ∧ StW b G S' L (post.own x ++ R') (fun w => post.p x w ∧ F w) (fun w => post.n x w ∧ M w) w' := by
  obtain ⟨S1, S2, h1, h2, hS, hd⟩ := h.split
  have hX : ∀ k, b.X k ∨ (S2 k ∨ ∃ j ∈ namesL L, G j = k) → k < w.heap.size ∧ ¬ S1 k := fun k hk => by
    rcases hk with hk | hk | ⟨j, hj, rfl⟩
    · exact ⟨Nat.lt_of_lt_of_le (h.old k hk).1 h.chg.size, fun hs => (h.old k hk).2 (h.mine k (.inl ((hS k).2 (.inl hs))) (h.old k hk).1)⟩
    · exact ⟨h2.lt k hk, fun hs => hd k hs hk⟩
    · exact ⟨h.lt _ (.inr ⟨j, hj, rfl⟩), fun hs => h.sep j hj ((hS _).2 (.inl hs))⟩
  refine (hs w S1 (fun k => b.X k ∨ (S2 k ∨ ∃ j ∈ namesL L, G j = k)) h1 hX ((h.all.imp fun w hw => hF w hw.1 hw.2).less fun k _ hk => ?_)).mono ?_
  · rcases hk with (hk | hk | hk) | hk
    · exact .inl hk
    · exact .inr (.inl ((hS k).2 (.inr hk)))
    · exact .inr (.inr hk)
    · exact .inr (.inl ((hS k).2 (.inl hk)))
  · rintro e w' ⟨x, S', he, hok, hc, h1', hS', hp, hn⟩
    have h3 := h.lent h2 hS hd hc h1' hS'
    refine ⟨x, _, he, hok, (h3.and (p := post.p x) (hp.less fun k _ hk => ?_)).andM (p := post.n x) (hn.less fun k _ hk => ?_)⟩
    · rcases hk with hk | (hk | hk) | hk
      · exact .inl (.inl hk)
      · exact .inr hk
      · exact .inl (.inr (.inl hk))
      · exact .inl (.inr (.inr hk))
    · rcases hk with hk | (hk | hk) | ⟨j, hj, rfl⟩
      · exact .inl (Nat.lt_of_lt_of_le hk h.chg.size)
      · exact .inr hk
      · exact .inl (h2.lt k hk)
      · exact .inl (h.lt _ (.inr ⟨j, hj, rfl⟩))
/-- **A call**: its facts from all that can be seen, what it is lent aside; of what it tells, what is new stays. -/
theorem StW.callC (h : StW b G S L (own ++ R') F M w) (hs : Spec f args own F' post) (hF : ∀ S w, View G S L R' F M w → F' w) :
    Calls Tryd.prog f args.toArray w fun e w' => ∃ x S', e = .returned (post.ret x).den ∧ (post.ret x).sv.Ok ∧ StW b G S' L (post.own x ++ R') F (fun w => post.n x w ∧ M w) w' := by
  obtain ⟨S1, S2, h1, h2, hS, hd⟩ := h.split
  have hX : ∀ k, b.X k → k < w.heap.size ∧ ¬ S1 k := fun k hk => ⟨Nat.lt_of_lt_of_le (h.old k hk).1 h.chg.size, fun hs => (h.old k hk).2 (h.mine k (.inl ((hS k).2 (.inl hs))) (h.old k hk).1)⟩
  have hXm : ∀ k, b.X k → ¬ Mine S G L k := fun k hk hm => (h.old k hk).2 (h.mine k hm (h.old k hk).1)
  refine (hs w S1 b.X h1 hX fun w1 hw1 => hF S2 w1 ⟨fun x hx => ⟨?_, (h.var x hx).2⟩, h2.keep fun k hk => hw1.block k (h2.lt k hk) ?_, ?_, ?_⟩).mono ?_
  · have hm : Mine S G L (G x.j) := .inr ⟨x.j, List.mem_map.2 ⟨x, hx, rfl⟩, rfl⟩
    refine (hw1.block _ (h.var x hx).1.lt fun hk => ?_).trans (h.var x hx).1
    rcases hk with hk | hk
    · exact hXm _ hk hm
    · exact h.sep x.j (List.mem_map.2 ⟨x, hx, rfl⟩) ((hS _).2 (.inl hk))
  · rintro (hk1 | hk1)
    · exact hXm k hk1 (.inl ((hS k).2 (.inr hk)))
    · exact hd k hk1 hk
  · exact (h.all w1 (hw1.mono fun k _ hk => hk.imp id fun hk => .inl ((hS k).2 (.inl hk)))).1
  · exact (h.all w1 (hw1.mono fun k _ hk => hk.imp id fun hk => .inl ((hS k).2 (.inl hk)))).2
  · rintro e w' ⟨x, S', he, hok, hc, h1', hS', hp, hn⟩
    have h3 := h.lent h2 hS hd hc h1' hS'
    refine ⟨x, _, he, hok, h3.andM (p := post.n x) (hn.less fun k _ hk => ?_)⟩
    rcases hk with hk | (hk | hk) | ⟨j, hj, rfl⟩
    · exact .inl (Nat.lt_of_lt_of_le hk h.chg.size)
    · exact .inr hk
    · exact .inl (h2.lt k hk)
    · exact .inl (h.lt _ (.inr ⟨j, hj, rfl⟩))
end

/-! ### The order forced -/
section
variable {b : Base} {ops : Array Oper} {Q : Exit → Act → World → Prop} {N : Nat} {E : SE} {L : List LV} {R R' own : List Res} {F M F' : World → Prop} {o : Oper} {rest : List Oper} {k : Nat} {α : Type} {post : Post α} {f : FuncId} {xs : Array Operand} {ats : Array TypeId} {svs : List SV}
theorem call_run {G : Nat → Nat} {a : Act} {w : World} (hf : Own f) (ho : o.op = .call { callee := .value (.func f), args := xs, argTypes := ats }) (hx : evSs E xs.toList = some svs) (ha : Fr N (denE G E) a) :
    (execOp a.eval o).run Tryd.prog w = .ok (.enter f (svs.map (SV.den G)).toArray) w := by
  rw [run_call_fn hf ho, map_eval (ha.evals _ _ (by rw [evSs_ok hx]))]
theorem l_callA (args : List Value) (hg : o.guard = none) (hd : o.dst = some k) (hk : Nat.blt k N = true) (hf : Own f) (ho : o.op = .call { callee := .value (.func f), args := xs, argTypes := ats }) (hx : evSs E xs.toList = some svs)
    (ha : ∀ G : Nat → Nat, (∀ x ∈ L, ∀ g, x.g = some g → G x.j = g) → svs.map (SV.den G) = args) (hs : Spec f args own F' post) (hF : ∀ w, F w → M w → F' w)
    (hn : ∀ x, lS Tryd.prog b ops Q N rest ⟨(k, (post.ret x).sv) :: E, L, post.own x ++ R', fun w => post.p x w ∧ F w, fun w => post.n x w ∧ M w⟩) : lS Tryd.prog b ops Q N (o :: rest) ⟨E, L, own ++ R', F, M⟩ := fun a w ⟨G, S, h1, h2, h3⟩ => by
  have hr := call_run (w := w) hf ho hx h1
  rw [ha G fun x hx => (h3.var x hx).2.2] at hr
  unfold wpList
  rw [if_pos (by simp [Region.wanted, hg])]
  refine .inl ?_
  unfold Oper.wp
  rw [hr]
  simp only [Oper.upon, hd]
  refine (h3.callA hs hF).mono ?_
  rintro e w' ⟨x, S', rfl, hok, h4⟩
  have h5 := h1.put hk (post.ret x).den
  rw [← RV.sv_den _ G] at h5
  have h6 := hn x _ w' ⟨G, S', h5, h2.cons hok, h4⟩
  rw [RV.sv_den] at h6
  exact h6
theorem l_callC (args : (Nat → Nat) → List Value) (hg : o.guard = none) (hd : o.dst = some k) (hk : Nat.blt k N = true) (hf : Own f) (ho : o.op = .call { callee := .value (.func f), args := xs, argTypes := ats }) (hx : evSs E xs.toList = some svs)
    (ha : ∀ G : Nat → Nat, (∀ x ∈ L, ∀ g, x.g = some g → G x.j = g) → svs.map (SV.den G) = args G) (F' : (Nat → Nat) → World → Prop) (hs : ∀ G, Spec f (args G) own (F' G) post) (hF : ∀ G S w, View G S L R' F M w → F' G w)
    (hn : ∀ x, lS Tryd.prog b ops Q N rest ⟨(k, (post.ret x).sv) :: E, L, post.own x ++ R', F, fun w => post.n x w ∧ M w⟩) : lS Tryd.prog b ops Q N (o :: rest) ⟨E, L, own ++ R', F, M⟩ := fun a w ⟨G, S, h1, h2, h3⟩ => by
  have hr := call_run (w := w) hf ho hx h1
  rw [ha G fun x hx => (h3.var x hx).2.2] at hr
  unfold wpList
  rw [if_pos (by simp [Region.wanted, hg])]
  refine .inl ?_
  unfold Oper.wp
  rw [hr]
  simp only [Oper.upon, hd]
  refine (h3.callC (hs G) (hF G)).mono ?_
  rintro e w' ⟨x, S', rfl, hok, h4⟩
  have h5 := h1.put hk (post.ret x).den
  rw [← RV.sv_den _ G] at h5
  have h6 := hn x _ w' ⟨G, S', h5, h2.cons hok, h4⟩
  rw [RV.sv_den] at h6
  exact h6
/-- A call that hands back one value and leaves nothing. -/
theorem l_call1 {r : RV} (args : List Value) (hg : o.guard = none) (hd : o.dst = some k) (hk : Nat.blt k N = true) (hf : Own f) (ho : o.op = .call { callee := .value (.func f), args := xs, argTypes := ats }) (hx : evSs E xs.toList = some svs)
    (ha : ∀ G : Nat → Nat, (∀ x ∈ L, ∀ g, x.g = some g → G x.j = g) → svs.map (SV.den G) = args) (hr : r.sv.Ok) (hs : ∀ G S w, View G S L R F M w → Calls Tryd.prog f args.toArray w fun e w' => e = .returned r.den ∧ Below w.heap.size w w')
    (hn : lS Tryd.prog b ops Q N rest ⟨(k, r.sv) :: E, L, R, F, M⟩) : lS Tryd.prog b ops Q N (o :: rest) ⟨E, L, R, F, M⟩ := fun a w ⟨G, S, h1, h2, h3⟩ => by
  have hr' := call_run (w := w) hf ho hx h1
  rw [ha G fun x hx => (h3.var x hx).2.2] at hr'
  unfold wpList
  rw [if_pos (by simp [Region.wanted, hg])]
  refine .inl ?_
  unfold Oper.wp
  rw [hr']
  simp only [Oper.upon, hd]
  refine (hs G S w h3.view).mono ?_
  rintro e w' ⟨rfl, hb⟩
  have h5 := h1.put hk r.den
  rw [← RV.sv_den _ G] at h5
  have h6 := hn _ w' ⟨G, S, h5, h2.cons hr, h3.later hb⟩
  rw [RV.sv_den] at h6
  exact h6
/-- An elder step, of the usual kind. -/
theorem l_f {P : Program} (v : SV) (hv : v.Ok) (h : ∀ (G : Nat → Nat) (S : Nat → Prop) (w : World) (C0 : World → Prop) (Q' : Act → Prop), View G S L R F M w → (∀ w', C0 w' → w' = w) → bF P ops C0 Q' [] N ((k, v.den G) :: denE G E) → bF P ops C0 Q' [o] N (denE G E)) (hs : stillG o.op = true)
    (hn : lS P b ops Q N rest ⟨(k, v) :: E, L, R, F, M⟩) : lS P b ops Q N (o :: rest) ⟨E, L, R, F, M⟩ := fun a w ⟨G, S, h1, h2, h3⟩ => by
  refine wpList_of_Bs [o] a w (by simp [hs]) (h G S w (· = w) _ h3.view (fun _ h => h) (fun a' ha' => wpB_nil ?_) a h1)
  exact hn a' w ⟨G, S, ha', h2.cons hv, h3⟩
/-- What a slot holds, said otherwise. -/
theorem l_eq {P : Program} {l : List Oper} (k : Nat) {v : SV} (v' : SV) (h : lookS E k = some v) (he : v = v') (hn : lS P b ops Q N l ⟨(k, v') :: E, L, R, F, M⟩) : lS P b ops Q N l ⟨E, L, R, F, M⟩ := fun a w ⟨G, S, h1, h2, h3⟩ => by
  subst he
  exact hn a w ⟨G, S, h1.more (h1.get k _ (by rw [look_den, h]; rfl)), h2.cons (h2.get h), h3⟩
/-- A bool that is known. -/
theorem l_is {P : Program} {l : List Oper} (k : Nat) {t : Bool} (q : Bool) (h : lookS E k = some (.b t)) (he : t = q) (hn : lS P b ops Q N l ⟨(k, .v (.bool q)) :: E, L, R, F, M⟩) : lS P b ops Q N l ⟨E, L, R, F, M⟩ := fun a w ⟨G, S, h1, h2, h3⟩ => by
  subst he
  exact hn a w ⟨G, S, h1.more (h1.get k _ (by rw [look_den, h]; rfl)), h2.cons trivial, h3⟩
/-- A number, said otherwise. -/
theorem l_num {P : Program} {l : List Oper} (k : Nat) {K : IntKind} {m : Int} (n : Int) (h : lookS E k = some (.v (.int K m))) (he : m = n) (hn : lS P b ops Q N l ⟨(k, .v (.int K n)) :: E, L, R, F, M⟩) : lS P b ops Q N l ⟨E, L, R, F, M⟩ := l_eq k _ h (by rw [he]) hn
end

/-! ### The order drawn -/
/-- What is left of a drawn region's operations: over whatever world that came of w0. -/
def gS (P : Program) (_b : Base) (ops : Array Oper) (Q : Exit → Act → World → Prop) (N : Nat) (T : List Oper) (G : Nat → Nat) (w0 : World) (l : List (Nat × Oper)) (E : SE) : Prop := OkE E → gF P Bel ops (Up w0) (endG P ops Q (Up w0) T) l N (denE G E) []
section
variable {P : Program} {b : Base} {Q : Exit → Act → World → Prop} {N : Nat} {E : SE} {L : List LV} {R : List Res} {F M : World → Prop} {id : Nat} {l : List Oper}
theorem s_drawn (n : Nat) (hn : n ≤ l.length) (hm : P.follows .mixedOrders = true) (hB : tailH l.toArray n (l.drop n).length = true)
    (h : ∀ G S w0, StW b G S L R F M w0 → gS P b l.toArray Q N (l.drop n) G w0 (idx 0 (l.take n)) E) : cS P b (.region id l.toArray true) Q N ⟨E, L, R, F, M⟩ := fun a w ⟨G, S, h1, h2, h3⟩ =>
  c_g n hn hm hB (h G S w h3 h2) a h1
/-- A drawn region and what comes behind it. -/
theorem s_regD {y : Code} (n : Nat) (hn : n ≤ l.length) (hm : P.follows .mixedOrders = true) (hB : tailH l.toArray n (l.drop n).length = true)
    (h : ∀ K : Act → World → Prop, (∀ e', cS P b y Q N e' → kS b K N e') → ∀ G S w0, StW b G S L R F M w0 → gS P b l.toArray (Exit.then K Q) N (l.drop n) G w0 (idx 0 (l.take n)) E) : cS P b (.seq (.region id l.toArray true) y) Q N ⟨E, L, R, F, M⟩ := s_seq fun K hK => s_drawn n hn hm hB (h K hK)
end
/-- What is left behind the operations that are reckoned. -/
def autoD (T : List TyR) (ops : Array Oper) (N : Nat) (L : List LV) : List (Nat × Oper) → SE → List (Nat × Oper) × SE
  | [], E => ([], E)
  | (i, o) :: l, E => match wantS ops N E o with
    | none => ((i, o) :: l, E)
    | some false => match o.dst with
      | some k => match Nat.blt k N with
        | true => autoD T ops N L l ((k, .v undef) :: E)
        | false => ((i, o) :: l, E)
      | none => ((i, o) :: l, E)
    | some true => match o.dst with
      | some k => match Nat.blt k N with
        | true => match stepS T E L o.op with
          | some v => autoD T ops N L l ((k, v) :: E)
          | none => ((i, bareO o) :: l, E)
        | false => ((i, o) :: l, E)
      | none => ((i, bareO o) :: l, E)
section
variable {P : Program} {b : Base} {T : List TyR} {ops : Array Oper} {Q : Exit → Act → World → Prop} {N : Nat} {T' : List Oper} {G : Nat → Nat} {S : Nat → Prop} {L : List LV} {R : List Res} {F M : World → Prop} {w0 : World}
theorem autoD_ok (hT : OkT P T) (hst : StW b G S L R F M w0) : ∀ {l : List (Nat × Oper)} {E : SE}, gS P b ops Q N T' G w0 (autoD T ops N L l E).1 (autoD T ops N L l E).2 → gS P b ops Q N T' G w0 l E
  | [], _, h => h
  | (i, o) :: l, E, h => by
    unfold autoD at h
    cases hw : wantS ops N E o with
    | none => rw [hw] at h; exact h
    | some q =>
      rw [hw] at h
      intro hE a Fa ha hF
      have hwt := wantS_ok ha hw
      cases q with
      | false =>
        dsimp only at h
        cases hd : o.dst with
        | none => rw [hd] at h; exact h hE a Fa ha hF
        | some k =>
          rw [hd] at h
          dsimp only at h
          cases hk : Nat.blt k N with
          | false => rw [hk] at h; exact h hE a Fa ha hF
          | true =>
            rw [hk] at h
            unfold wpG
            rw [hwt, if_neg (by decide)]
            dsimp only
            rw [hd]
            exact autoD_ok hT hst h (hE.cons (v := .v undef) trivial) _ _ (ha.put hk undef) (hF.up rfl)
      | true =>
        dsimp only at h
        have hgd : gS P b ops Q N T' G w0 ((i, bareO o) :: l) E → wpG P Bel ops (Up w0) (endG P ops Q (Up w0) T') ((i, o) :: l) Fa a := fun h1 => by
          have h1 := h1 hE a Fa ha hF
          obtain ⟨dst, op, ty, pos, af, gd⟩ := o
          unfold wpG at h1 ⊢
          rw [if_pos hwt]
          rw [if_pos (by rfl)] at h1
          exact h1
        cases hd : o.dst with
        | none => rw [hd] at h; exact hgd h
        | some k =>
          rw [hd] at h
          dsimp only at h
          cases hk : Nat.blt k N with
          | false => rw [hk] at h; exact h hE a Fa ha hF
          | true =>
            rw [hk] at h
            dsimp only at h
            cases hv : stepS T E L o.op with
            | none => rw [hv] at h; exact hgd h
            | some v =>
              rw [hv] at h
              obtain ⟨h1, h2⟩ := stepS_ok hT hE hst.okL hv
              refine g_op rfl (fun a ha => b_val (wantS_ok ha hw) (fun w hw => h2 ha (hst.later hw.1).at) ?_) a Fa ha hF
              rw [hd]
              exact g_go (o := o) (autoD_ok hT hst h (hE.cons h1)) _ (ha.put hk _)
theorem g_autoS (hT : OkT P T) (hst : StW b G S L R F M w0) {l l' : List (Nat × Oper)} {E E' : SE} (h : autoD T ops N L l E = (l', E')) (hn : gS P b ops Q N T' G w0 l' E') : gS P b ops Q N T' G w0 l E := autoD_ok hT hst (by rw [h]; exact hn)
/-- The end of what may be taken in any order. -/
theorem g_endS (hst : StW b G S L R F M w0) {E : SE} (h : lS P b ops Q N T' ⟨E, L, R, F, M⟩) : gS P b ops Q N T' G w0 [] E := fun hE => g_end fun w hw _ a ha => h a w ⟨G, S, ha, hE, hst.later hw⟩
variable {E : SE} {o : Oper} {rest : List (Nat × Oper)} {i k : Nat}
theorem g_eq {l : List (Nat × Oper)} (k : Nat) {v : SV} (v' : SV) (h : lookS E k = some v) (he : v = v') (hn : gS P b ops Q N T' G w0 l ((k, v') :: E)) : gS P b ops Q N T' G w0 l E := fun hE => by
  subst he
  intro a Fa ha hF
  exact hn (hE.cons (hE.get h)) a Fa (ha.more (ha.get k _ (by rw [look_den, h]; rfl))) hF
theorem g_num {l : List (Nat × Oper)} (k : Nat) {K : IntKind} {m : Int} (n : Int) (h : lookS E k = some (.v (.int K m))) (he : m = n) (hn : gS P b ops Q N T' G w0 l ((k, .v (.int K n)) :: E)) : gS P b ops Q N T' G w0 l E := g_eq k _ h (by rw [he]) hn
end
end Go.Proofs.YtcbfalfkdnfelaaDoor
