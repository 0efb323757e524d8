/-
  SEVERAL TEXTS IN ONE: Vi, Vj, Vk, RgS, Vm, Vn, Vo, Vq, Vr, Curve, Root, Pack, ShaP, TrP, TrB, TrG.
-/
import Derived.Test.YtoecohpcnojokaaDoorMd
import Derived.Lib.SlBytesConst
import Derived.Test.YtoecohpcnojokaaDoorMc
import Derived.Laws.IdiomStrings
import Derived.Laws.BytesArg
/-
  REGIONS THAT ARE RECKONED WHOLE; objects behind pointers; bytes, hashes, numbers as elements.
-/
namespace Go.Proofs.YtoecohpcnojokaaDoor
open Go.RowKit Go.IntWalk

/-! ### Whole regions -/
/-- Of the slots, these. -/
def keepE : List Nat → SE → SE
  | [], _ => []
  | k :: ks, E => match lookS E k with
    | some v => (k, v) :: keepE ks E
    | none => keepE ks E
theorem keepE_sub : ∀ (ks : List Nat) (E : SE), SubS (keepE ks E) E
  | [], _ => trivial
  | k :: ks, E => by
    unfold keepE
    split
    · rename_i v h
      exact ⟨h, keepE_sub ks E⟩
    · exact keepE_sub ks E
def memB (j : Nat) : List Nat → Bool
  | [] => false
  | k :: ks => match Nat.beq k j with
    | true => true
    | false => memB j ks
/-- Of the variables, these. -/
def keepL (js : List Nat) : List LV → List LV
  | [] => []
  | x :: L => match memB x.j js with
    | true => x :: keepL js L
    | false => keepL js L
theorem keepL_mem {js : List Nat} : ∀ {L : List LV} {x : LV}, x ∈ keepL js L → x ∈ L
  | [], _, h => by cases h
  | y :: L, x, h => by
    unfold keepL at h
    split at h
    · rcases List.mem_cons.1 h with rfl | h
      · exact List.mem_cons_self
      · exact List.mem_cons_of_mem _ (keepL_mem h)
    · exact List.mem_cons_of_mem _ (keepL_mem h)
theorem keepL_names {js : List Nat} : ∀ {L : List LV}, (namesL (keepL js L)).Sublist (namesL L)
  | [] => List.Sublist.slnil
  | y :: L => by
    unfold keepL
    split
    · exact (keepL_names (L := L)).cons_cons _
    · exact (keepL_names (L := L)).cons _
section
variable {b : Base} {N : Nat} {E : SE} {L : List LV} {R : List Res} {F M : World → Prop} {a : Act} {w : World}
theorem StW.keep {G : Nat → Nat} {S : Nat → Prop} (h : StW b G S L R F M w) (js : List Nat) : StW b G S (keepL js L) R F M w := by
  have hn : ∀ j, j ∈ namesL (keepL js L) → j ∈ namesL L := fun j hj => keepL_names.subset hj
  have hM : ∀ k, Mine S G (keepL js L) k → Mine S G L k := fun k hk => hk.imp id fun ⟨j, hj, e⟩ => ⟨j, hn j hj, e⟩
  exact ⟨fun x hx => h.var x (keepL_mem hx), h.apart.sublist keepL_names, h.res, fun j hj => h.sep j (hn j hj), h.fact.less fun k _ hk => hk.imp id (hM k), h.fresh.less fun k _ hk => hk.imp id (hM k), h.chg, fun k hk => h.mine k (hM k hk), h.old⟩
theorem St.keep (h : St b N ⟨E, L, R, F, M⟩ a w) (ks js : List Nat) : St b N ⟨keepE ks E, keepL js L, R, F, M⟩ a w := by
  obtain ⟨G, S, h1, h2, h3⟩ := h
  exact ⟨G, S, h1.sub (denE_sub (keepE_sub ks E)), (keepE_sub ks E).ok h2, h3.keep js⟩
end
section
variable {P : Program} {b : Base} {T : List TyR} {Q : Exit → Act → World → Prop} {N : Nat} {E E' E2 : SE} {L L' L2 : List LV} {R : List Res} {F M : World → Prop}
theorem s_keep {c : Code} (ks js : List Nat) (h1 : keepE ks E = E') (h2 : keepL js L = L') (h : cS P b c Q N ⟨E', L', R, F, M⟩) : cS P b c Q N ⟨E, L, R, F, M⟩ := fun a w hs => by
  subst h1 h2
  exact h a w (hs.keep ks js)
/-- A region that is reckoned whole, and what comes behind it. -/
theorem s_auto {id : Nat} {l : List Oper} {y : Code} (hT : OkT P T) (h : autoS T l.toArray N l E L = ([], E', L')) (hn : cS P b y Q N ⟨E', L', R, F, M⟩) : cS P b (.seq (.region id l.toArray false) y) Q N ⟨E, L, R, F, M⟩ :=
  s_reg fun _ hK => l_autoS hT h (s_end (hK _ hn))
/-- A region that is reckoned whole, at the end. -/
theorem s_autoE {id : Nat} {l : List Oper} (hT : OkT P T) (h : autoS T l.toArray N l E L = ([], E', L')) (hn : kS b (Q .normal) N ⟨E', L', R, F, M⟩) : cS P b (.region id l.toArray false) Q N ⟨E, L, R, F, M⟩ :=
  s_lit (l_autoS hT h (s_end hn))
/-- What the facts say whatever the world. -/
theorem s_pure {c : Code} (φ : Prop) (h : ∀ w, F w → M w → φ) (hn : φ → cS P b c Q N ⟨E, L, R, F, M⟩) : cS P b c Q N ⟨E, L, R, F, M⟩ := fun a w hs => by
  have hs' := hs
  obtain ⟨G, S, h1, h2, h3⟩ := hs
  exact hn (h w h3.all.now.1 h3.all.now.2) a w hs'
theorem l_pure {ops : Array Oper} {l : List Oper} (φ : Prop) (h : ∀ w, F w → M w → φ) (hn : φ → lS P b ops Q N l ⟨E, L, R, F, M⟩) : lS P b ops Q N l ⟨E, L, R, F, M⟩ := fun a w hs => by
  have hs' := hs
  obtain ⟨G, S, h1, h2, h3⟩ := hs
  exact hn (h w h3.all.now.1 h3.all.now.2) a w hs'
/-- A region, the order forced: first what is reckoned. -/
theorem s_regA {id : Nat} {l l' : List Oper} {y : Code} (hT : OkT P T) (h : autoS T l.toArray N l E L = (l', E', L')) (hn : ∀ K : Act → World → Prop, (∀ e', cS P b y Q N e' → kS b K N e') → lS P b l.toArray (Exit.then K Q) N l' ⟨E', L', R, F, M⟩) : cS P b (.seq (.region id l.toArray false) y) Q N ⟨E, L, R, F, M⟩ :=
  s_reg fun K hK => l_autoS hT h (hn K hK)
end

/-! ### Objects behind pointers -/
/-- The object in block g. -/
def ObjF (g : Nat) (t : TypeId) (ps : List Pt) (w : World) : Prop := Blk w g t (catP ps) ∧ OkP ps
instance {g : Nat} {t : TypeId} {ps : List Pt} : Pst (ObjF g t ps) := ⟨fun _ _ h hb => ⟨h.1.later hb, h.2⟩⟩
/-- An object that may be written. -/
def ObjS (g : Nat) (t : TypeId) (ps : List Pt) : Res where
  holds w S := ObjF g t ps w ∧ ∀ j, S j ↔ j = g
  keep := fun ⟨h1, h2⟩ hk => ⟨⟨(hk g ((h2 g).2 rfl)).trans h1.1, h1.2⟩, h2⟩
  lt := fun ⟨h1, h2⟩ j hj => by rw [(h2 j).1 hj]; exact h1.1.lt
section
variable {P : Program} {b : Base} {T : List TyR} {ops : Array Oper} {Q : Exit → Act → World → Prop} {N : Nat} {E : SE} {L : List LV} {R : List Res} {F M : World → Prop} {o : Oper} {k g off : Nat} {t : TypeId} {x : Operand} {ty : TypeId} {ps : List Pt} {q : SQ}
theorem load_obj (hT : OkT P T) (ho : o.op = .load t x) (hx : evS E x = some (.v (.pointer (some ⟨g, off, none⟩)))) (hl : loadS T ps t off = some q) {G : Nat → Nat} {a : Act} {w : World} (ha : Fr N (denE G E) a) (h : ObjF g ty ps w) : q.Ok ∧ (execOp a.eval o).run P w = .ok (.value q.den) w := by
  obtain ⟨h1, h2⟩ := loadS_ok hT h.2 hl
  refine ⟨h1, ?_⟩
  have e := ha.eval (evS_ok hx)
  unfold execOp
  simp only [ho, e, SV.den, SQ.den, SC.den, h2 h.1, Sem.run_bind, Sem.run_pure, Result.andThen_ok]
theorem l_ldO {rest : List Oper} (hT : OkT P T) (hg : o.guard = none) (hd : o.dst = some k) (hk : Nat.blt k N = true) (ho : o.op = .load t x) (hx : evS E x = some (.v (.pointer (some ⟨g, off, none⟩)))) (hl : loadS T ps t off = some q) (h : ∀ G S w, View G S L R F M w → ObjF g ty ps w)
    (hn : lS P b ops Q N rest ⟨(k, .q q) :: E, L, R, F, M⟩) : lS P b ops Q N (o :: rest) ⟨E, L, R, F, M⟩ := fun a w ⟨G, S, h1, h2, h3⟩ => by
  obtain ⟨h4, h5⟩ := load_obj hT ho hx hl h1 (h G S w h3.view)
  refine wpl_go (oneS hg) h5 ?_
  rw [hd]
  exact hn _ w ⟨G, S, h1.put hk _, h2.cons h4, h3⟩
theorem g_ldO {T' : List Oper} {G : Nat → Nat} {S : Nat → Prop} {w0 : World} {rest : List (Nat × Oper)} {i : Nat} (hT : OkT P T) (hst : StW b G S L R F M w0) (hg : o.guard = none) (hd : o.dst = some k) (hk : Nat.blt k N = true) (ho : o.op = .load t x) (hx : evS E x = some (.v (.pointer (some ⟨g, off, none⟩)))) (hl : loadS T ps t off = some q) (h : ∀ G S w, View G S L R F M w → ObjF g ty ps w)
    (hn : gS P b ops Q N T' G w0 rest ((k, .q q) :: E)) : gS P b ops Q N T' G w0 ((i, o) :: rest) E := fun hE =>
  g_op rfl (fun a ha => b_val (v := q.den) (by simp [Region.wanted, hg]) (fun w hw => (load_obj hT ho hx hl ha (h G S w (hst.later hw.1).view)).2) (by
    rw [hd]
    exact g_go (o := o) (hn (hE.cons (loadS_ok hT (h G S w0 hst.view).2 hl).1)) _ (ha.put hk _)))
end
theorem obj_own {g : Nat} {t : TypeId} {ps : List Pt} {L : List LV} {R : List Res} {F M : World → Prop} (i : Nat) (hi : R[i]? = some (ObjS g t ps)) : ∀ G S w, View G S L R F M w → ObjF g t ps w := fun _ _ _ h => by
  obtain ⟨S1, _, h1, _⟩ := h.res.at hi
  exact h1.1
theorem obj_fact {g : Nat} {t : TypeId} {ps : List Pt} {L : List LV} {R : List Res} {F M : World → Prop} (h : ∀ w, F w → M w → ObjF g t ps w) : ∀ G S w, View G S L R F M w → ObjF g t ps w := fun _ _ w hv => h w hv.fact hv.fresh

/-! ### Elements -/
def eB (x : UInt8) : SQ := .c (.v (.int .u8 (x.toNat : Int)))
def eT (t : Bool) : SQ := .c (.b t)
/-- A row of bytes. -/
def eY (n : Nat) (l : List UInt8) : SQ := .p [.agg n (By l).toArray]
theorem eB_ok (x : UInt8) : OkP (eB x).parts1 ∧ (eB x).cl.length = 1 := ⟨fun p hp => by rw [List.mem_singleton.1 hp]; exact ⟨trivial, rfl, rfl⟩, rfl⟩
theorem eY_ok {n : Nat} {l : List UInt8} (h : l.length = n) : OkP (eY n l).parts1 ∧ (eY n l).cl.length = n := by
  have h1 : (By l).toArray.size = n := by rw [List.size_toArray, By_len, h]
  exact ⟨fun p hp => by rw [List.mem_singleton.1 hp]; exact ⟨h1, By_one l⟩, by rw [SQ.cl, Array.length_toList]; exact h1⟩
theorem okF_B (l : List UInt8) : OkF 1 eB l := fun x _ => eB_ok x
/-- Bytes that are read. -/
theorem Rd.sb {A : Option Addr} {c : Nat} {l : List UInt8} {w : World} (h : Rd 1 eB A c l w) : SB w (.slice A l.length c) l := by
  obtain ⟨h1, h2, h3, _, h5⟩ := h
  refine ⟨A, c, rfl, h1, h2, h3, fun hl => ?_⟩
  obtain ⟨b, o, e, hb, hr⟩ := h5 hl
  refine ⟨⟨b, o, none⟩, e, Nat.zero_le _, hb, fun j x hx => ?_⟩
  have := hr j x hx 0 (.int .u8 (x.toNat : Int)) rfl
  rw [Addr.add_mid]
  simpa using this
theorem Rd.of_sb {A : Option Addr} {c n : Nat} {l : List UInt8} {w : World} (h : SB w (.slice A n c) l) : n = l.length ∧ Rd 1 eB A c l w := by
  obtain ⟨A', c', e, h1, h2, h3, h4⟩ := h
  injection e with e1 e2 e3
  subst e1 e2 e3
  refine ⟨rfl, h1, h2, h3, okF_B l, fun hl => ?_⟩
  obtain ⟨ad, e, _, h6, h7⟩ := h4 hl
  obtain ⟨b, o, sp⟩ := ad
  have hsp : sp = none := by
    have h8 := h7 0 l[0] (List.getElem?_eq_getElem hl)
    cases sp with
    | none => rfl
    | some s =>
      unfold World.cell? Addr.add at h8
      simp only [if_true] at h8
      split at h8
      · simp at h8
      · cases h8
  subst hsp
  refine ⟨b, o, e, h6, fun i x hi j v hj => ?_⟩
  have h8 := h7 i x hi
  rw [Addr.add_mid] at h8
  cases j with
  | zero =>
    have e : v = .int .u8 (x.toNat : Int) := by
      have : (eB x).cl[0]? = some (.int .u8 (x.toNat : Int)) := rfl
      rw [this] at hj
      exact (Option.some.inj hj).symm
    rw [e, Nat.one_mul, Nat.add_zero]
    exact h8
  | succ j =>
    have : (eB x).cl[j + 1]? = none := rfl
    rw [this] at hj
    cases hj
/-! ### Numbers -/
theorem wrapI {m r : Int} (h : m = r) (h1 : -9223372036854775808 ≤ r) (h2 : r ≤ 9223372036854775807) : IntKind.i64.wrap m = r := by
  rw [h, i64_left, wrap64_in _ ⟨h1, by omega⟩]
theorem wrapQ (n d : Nat) (h : n ≤ 9223372036854775807) : IntKind.i64.wrap ((n : Int).tdiv (d : Int)) = ((n / d : Nat) : Int) := by
  have h1 : (n : Int).tdiv (d : Int) = ((n / d : Nat) : Int) := by rw [Int.tdiv_eq_ediv_of_nonneg (by omega)]; rfl
  have h2 : n / d ≤ n := Nat.div_le_self _ _
  rw [h1]
  generalize n / d = q at *
  exact wrapI rfl (by omega) (by omega)
theorem one_ok {v : SQ} (h : v.Ok) : ∀ u ∈ [v], u.Ok := fun u hu => by rw [List.mem_singleton.1 hu]; exact h
theorem two_ok {v v2 : SQ} (h : v.Ok) (h2 : v2.Ok) : ∀ u ∈ [v, v2], u.Ok := fun u hu => by
  rcases List.mem_cons.1 hu with rfl | hu
  · exact h
  · exact one_ok h2 u hu
theorem more_ok {v : SQ} {vs : List SQ} (h : v.Ok) (h2 : ∀ u ∈ vs, u.Ok) : ∀ u ∈ v :: vs, u.Ok := fun u hu => by
  rcases List.mem_cons.1 hu with rfl | hu
  · exact h
  · exact h2 u hu
end Go.Proofs.YtoecohpcnojokaaDoor
/-
  CALLS IN DRAWN REGIONS BY THEIR CONTRACTS; slices of slices.
-/
namespace Go.Proofs.YtoecohpcnojokaaDoor
open Go.RowKit Go.IntWalk

instance {p q : World → Prop} [hp : Pst p] [hq : Pst q] : Pst (fun w => p w ∧ q w) := ⟨fun _ _ h hb => ⟨hp.later _ _ h.1 hb, hq.later _ _ h.2 hb⟩⟩
instance {α : Type} {p : α → World → Prop} {l : List α} [hp : ∀ a, Pst (p a)] : Pst (fun w => ∀ a ∈ l, p a w) := ⟨fun _ _ h hb a ha => (hp a).later _ _ (h a ha) hb⟩
/-- A call that hands back one value and leaves nothing, by its contract, the order drawn. -/
theorem g_callS {b : Base} {ops : Array Oper} {Q : Exit → Act → World → Prop} {N : Nat} {T' : List Oper} {G : Nat → Nat} {S : Nat → Prop} {L : List LV} {R : List Res} {F M F' : World → Prop} {w0 : World} {E : SE} {o : Oper} {rest : List (Nat × Oper)} {i k : Nat} {f : FuncId} {xs : Array Operand} {ats : Array TypeId} {svs : List SV} {r : RV} [Pst F']
    (hst : StW b G S L R F M w0) (args : List Value) (hg : o.guard = none) (hd : o.dst = some k) (hk : Nat.blt k N = true) (hf : Own f) (ho : o.op = .call { callee := .value (.func f), args := xs, argTypes := ats }) (hx : evSs E xs.toList = some svs)
    (ha : (∀ x ∈ L, ∀ g, x.g = some g → G x.j = g) → svs.map (SV.den G) = args) (hs : Spec f args [] F' (one r)) (hr : r.sv.Ok) (hF : ∀ G S w, View G S L R F M w → F' w)
    (hn : gS Tryd.prog b ops Q N T' G w0 rest ((k, r.sv) :: E)) : gS Tryd.prog b ops Q N T' G w0 ((i, o) :: rest) E :=
  g_call1 hst args hg hd hk hf ho hx ha hr (fun w hv => (hs w (fun _ => False) (fun _ => False) (fun _ h => h) (fun _ h => h.elim) (Stb.of_pst (hF _ _ _ hv) fun _ _ h => h.elim id id)).mono fun _ _ ⟨_, _, h1, _, h2, _⟩ => ⟨h1, h2.up fun _ _ h => h⟩) hn
/-- A call that is lent nothing. -/
theorem l_call0 {b : Base} {ops : Array Oper} {Q : Exit → Act → World → Prop} {N : Nat} {E : SE} {L : List LV} {R : List Res} {F M F' : World → Prop} {o : Oper} {rest : List Oper} {k : Nat} {α : Type} {post : Post α} {f : FuncId} {xs : Array Operand} {ats : Array TypeId} {svs : List SV}
    (args : List Value) (hg : o.guard = none) (hd : o.dst = some k) (hk : Nat.blt k N = true) (hf : Own f) (ho : o.op = .call { callee := .value (.func f), args := xs, argTypes := ats }) (hx : evSs E xs.toList = some svs)
    (ha : ∀ G : Nat → Nat, (∀ x ∈ L, ∀ g, x.g = some g → G x.j = g) → svs.map (SV.den G) = args) (hs : Spec f args [] F' post) (hF : ∀ w, F w → M w → F' w)
    (hn : ∀ x, lS Tryd.prog b ops Q N rest ⟨(k, (post.ret x).sv) :: E, L, post.own x ++ R, fun w => post.p x w ∧ F w, fun w => post.n x w ∧ M w⟩) : lS Tryd.prog b ops Q N (o :: rest) ⟨E, L, R, F, M⟩ :=
  l_callA (own := []) (R' := R) args hg hd hk hf ho hx ha hs hF hn
/-- What a slot holds, said by another shape. -/
theorem l_as {P : Program} {b : Base} {ops : Array Oper} {Q : Exit → Act → World → Prop} {N : Nat} {E : SE} {L : List LV} {R : List Res} {F M : World → Prop} {l : List Oper} (k : Nat) {v : SV} (v' : SV) (h : lookS E k = some v) (he : ∀ G, v.den G = v'.den G) (ho : v'.Ok) (hn : lS P b ops Q N l ⟨(k, v') :: E, L, R, F, M⟩) : lS P b ops Q N l ⟨E, L, R, F, M⟩ := fun a w ⟨G, S, h1, h2, h3⟩ =>
  hn a w ⟨G, S, h1.more (h1.get k _ (by rw [look_den, h]; exact congrArg some (he G))), h2.cons ho, h3⟩
/-- What is owned, said otherwise. -/
theorem l_R {P : Program} {b : Base} {ops : Array Oper} {Q : Exit → Act → World → Prop} {N : Nat} {E : SE} {L : List LV} {R : List Res} {F M : World → Prop} {l : List Oper} (R2 : List Res) (h : R = R2) (hn : lS P b ops Q N l ⟨E, L, R2, F, M⟩) : lS P b ops Q N l ⟨E, L, R, F, M⟩ := h ▸ hn
/-- What is owned no more. -/
theorem k_drop {b : Base} {K : Act → World → Prop} {N : Nat} {E : SE} {L : List LV} {R : List Res} {F M : World → Prop} (i : Nat) {r : Res} (hi : R[i]? = some r) (h : kS b K N ⟨E, L, R.eraseIdx i, F, M⟩) : kS b K N ⟨E, L, R, F, M⟩ := fun a w ⟨G, S, h1, h2, h3⟩ => by
  obtain ⟨S1, S2, _, _, _, h4⟩ := h3.let hi
  exact h a w ⟨G, S2, h1, h2, h4⟩
/-- A slice of bytes as an element: where it lies, its room, what it reads. -/
structure Seg where
  A : Option Addr
  c : Nat
  l : List UInt8
/-- It is read. -/
def Seg.rd (s : Seg) (w : World) : Prop := Rd 1 eB s.A s.c s.l w
instance {s : Seg} : Pst s.rd := ⟨fun _ _ h hb => h.later hb⟩
theorem Rd.sl {A : Option Addr} {c : Nat} {l : List UInt8} {w : World} (h : Rd 1 eB A c l w) : SL w 0 w.heap.size A l c := by
  obtain ⟨A', c', e, h1⟩ := h.sb
  injection e with e1 _ e2
  subst e1 e2
  exact h1
end Go.Proofs.YtoecohpcnojokaaDoor
/-
  LITERALS OF BYTES, over states.
-/
namespace Go.Proofs.YtoecohpcnojokaaDoor
open Go.RowKit Go.IntWalk

end Go.Proofs.YtoecohpcnojokaaDoor
/-
  STEPS OF THE RING: slices of hashes, fields behind a pointer, nil pointers.
-/
namespace Go.Proofs.YtoecohpcnojokaaDoor
open Go.RowKit Go.IntWalk

/-- The hashes ks lie at A. -/
def HV (w : World) (A : Option Addr) (ks : List (List UInt8)) : Prop :=
  0 < ks.length → ∃ b o, A = some ⟨b, o, none⟩ ∧ b < w.heap.size ∧ ∀ (i : Nat) l, ks[i]? = some l → l.length = 32 ∧ w.rangeAt b (o + 32 * i) (By l)
/-- The value v is a slice that reads the hashes ks. -/
def HS (w : World) (v : Value) (ks : List (List UInt8)) : Prop := ∃ A c, v = .slice A ks.length c ∧ ks.length ≤ c ∧ c ≤ 9223372036854775807 ∧ HV w A ks
section
variable {ops : Array Oper} {C0 : World → Prop} {Q : Act → Prop} {N : Nat} {E : List (Nat × Value)} {o : Oper} {rest : List Oper} {k : Nat}
theorem f_strB {x : Operand} (v : Value) (l : List UInt8) (hg : o.guard = none) (hd : o.dst = some k) (hk : Nat.blt k N = true) (ho : o.op = .convert 35 9 x) (hx : ev E x = some v) (hs : ∀ w, C0 w → SB w v l)
    (hn : bF Tryd.prog ops C0 Q rest N ((k, .string ⟨l.toArray⟩) :: E)) : bF Tryd.prog ops C0 Q (o :: rest) N E :=
  f_val _ hg hd hk (fun a ha w hw => by
    have h1 := ha.eval hx
    obtain ⟨A, c, rfl, hS⟩ := hs w hw
    unfold execOp
    simp only [ho, h1]
    cases A with
    | none =>
      obtain ⟨h3, h4⟩ := hS.none_ rfl
      obtain rfl := List.eq_nil_of_length_eq_zero h3
      have hr := run_convert_bytes_nil (P := Tryd.prog) w 35 5 Tryd.underlying35 Tryd.underlying5 0 c 9 Tryd.underlying9
      simp only [Sem.run_bind, List.length_nil, hr, Result.andThen_ok, Sem.run_pure]
      rfl
    | some ad =>
      have hr := run_convert_bytes_back (P := Tryd.prog) w 35 9 5 ad c l Tryd.underlying35 Tryd.underlying5 Tryd.underlying9 (fun j hj => hS.cells ad rfl j _ (by rw [By_at? hj, getElem!_pos l j hj]))
      simp only [Sem.run_bind, hr, Result.andThen_ok, Sem.run_pure]) hn
end
end Go.Proofs.YtoecohpcnojokaaDoor
/-
  MORE STEPS, over states: equality of bools, of rows of bytes, of strings; bytes as strings; xor, min, cuts.
-/
namespace Go.Proofs.YtoecohpcnojokaaDoor
open Go.RowKit Go.IntWalk

section
variable {P : Program} {b : Base} {ops : Array Oper} {Q : Exit → Act → World → Prop} {N : Nat} {E : SE} {L : List LV} {R : List Res} {F M : World → Prop} {o : Oper} {rest : List Oper} {k : Nat}
/-- A step whose value hangs on the frame alone. -/
theorem l_op (v : SV) (hv : v.Ok) (hg : o.guard = none) (hd : o.dst = some k) (hk : Nat.blt k N = true) (h : ∀ (G : Nat → Nat) (a : Act) (w : World), Fr N (denE G E) a → (execOp a.eval o).run P w = .ok (.value (v.den G)) w)
    (hn : lS P b ops Q N rest ⟨(k, v) :: E, L, R, F, M⟩) : lS P b ops Q N (o :: rest) ⟨E, L, R, F, M⟩ := fun a w ⟨G, S, h1, h2, h3⟩ => by
  refine wpl_go (oneS hg) (h G a w h1) ?_
  rw [hd]
  exact hn _ w ⟨G, S, h1.put hk _, h2.cons hv, h3⟩
/-- A step whose value hangs on what can be seen. -/
theorem l_opV (v : SV) (hv : v.Ok) (hg : o.guard = none) (hd : o.dst = some k) (hk : Nat.blt k N = true) (h : ∀ (G : Nat → Nat) (S : Nat → Prop) (a : Act) (w : World), Fr N (denE G E) a → View G S L R F M w → (execOp a.eval o).run P w = .ok (.value (v.den G)) w)
    (hn : lS P b ops Q N rest ⟨(k, v) :: E, L, R, F, M⟩) : lS P b ops Q N (o :: rest) ⟨E, L, R, F, M⟩ := fun a w ⟨G, S, h1, h2, h3⟩ => by
  refine wpl_go (oneS hg) (h G S a w h1 h3.view) ?_
  rw [hd]
  exact hn _ w ⟨G, S, h1.put hk _, h2.cons hv, h3⟩
variable {T' : List Oper} {G : Nat → Nat} {S : Nat → Prop} {w0 : World} {grest : List (Nat × Oper)} {i : Nat}
theorem g_opS (v : SV) (hv : v.Ok) (hg : o.guard = none) (hd : o.dst = some k) (hk : Nat.blt k N = true) (h : ∀ (G : Nat → Nat) (a : Act) (w : World), Fr N (denE G E) a → (execOp a.eval o).run P w = .ok (.value (v.den G)) w)
    (hn : gS P b ops Q N T' G w0 grest ((k, v) :: E)) : gS P b ops Q N T' G w0 ((i, o) :: grest) E := fun hE =>
  g_op rfl (fun a ha => b_val (by simp [Region.wanted, hg]) (fun w _ => h G a w ha) (by
    rw [hd]
    exact g_go (o := o) (hn (hE.cons hv)) _ (ha.put hk _)))
end
section
variable {N : Nat} {E : SE} {o : Oper} {x y : Operand} {t t' : TypeId}
/-- '==' of bools. -/
theorem run_eqBool {u v : SV} {p q : Bool} (ho : o.op = .binOp .eql 4 x y t') (hx : evS E x = some u) (hy : evS E y = some v) (hu : ∀ G, u.den G = .bool p) (hv : ∀ G, v.den G = .bool q) : ∀ (G : Nat → Nat) (a : Act) (w : World), Fr N (denE G E) a → (execOp a.eval o).run Tryd.prog w = .ok (.value ((SV.b (p == q)).den G)) w := fun G a w ha => by
  have h1 := ha.eval (evS_ok hx)
  have h2 := ha.eval (evS_ok hy)
  rw [hu G] at h1
  rw [hv G] at h2
  unfold execOp
  simp only [ho, h1, h2, SV.den, SQ.den, SC.den]
  cases p <;> cases q <;> go_simp
/-- '==' of rows of bytes. -/
theorem run_eqY {n : Nat} {l m : List UInt8} (ho : o.op = .binOp .eql t x y t') (hx : evS E x = some (.q (eY n l))) (hy : evS E y = some (.q (eY n m))) (ht : Tryd.prog.underlying t = some (.array n 5)) (hg : Tryd.prog.eqGuardType Tryd.prog.depth t = false) (hl : l.length = n) (hm : m.length = n) :
    ∀ (G : Nat → Nat) (a : Act) (w : World), Fr N (denE G E) a → (execOp a.eval o).run Tryd.prog w = .ok (.value ((SV.b (decide (l = m))).den G)) w := fun G a w ha => by
  have h1 : a.eval x = .agg (By l).toArray := ha.eval (evS_ok hx)
  have h2 : a.eval y = .agg (By m).toArray := ha.eval (evS_ok hy)
  unfold execOp
  simp only [ho, h1, h2, Sem.run_bind, run_eqGuard_agg (hm := hg), Result.andThen_ok, binOp, Op.equal, Op.maxDepth, equalIn_bytes 9998 n t l m ht hl hm w, Sem.run_pure]
  rfl
theorem run_neqY {n : Nat} {l m : List UInt8} (ho : o.op = .binOp .neq t x y t') (hx : evS E x = some (.q (eY n l))) (hy : evS E y = some (.q (eY n m))) (ht : Tryd.prog.underlying t = some (.array n 5)) (hg : Tryd.prog.eqGuardType Tryd.prog.depth t = false) (hl : l.length = n) (hm : m.length = n) :
    ∀ (G : Nat → Nat) (a : Act) (w : World), Fr N (denE G E) a → (execOp a.eval o).run Tryd.prog w = .ok (.value ((SV.b (!decide (l = m))).den G)) w := fun G a w ha => by
  have h1 : a.eval x = .agg (By l).toArray := ha.eval (evS_ok hx)
  have h2 : a.eval y = .agg (By m).toArray := ha.eval (evS_ok hy)
  unfold execOp
  simp only [ho, h1, h2, Sem.run_bind, run_eqGuard_agg (hm := hg), Result.andThen_ok, binOp, Op.equal, Op.maxDepth, equalIn_bytes 9998 n t l m ht hl hm w, Sem.run_pure]
  rfl
/-- A string. -/
abbrev vS (l : List UInt8) : SV := .v (.string ⟨l.toArray⟩)
theorem run_eqS {l m : List UInt8} (ho : o.op = .binOp .eql 9 x y t') (hx : evS E x = some (vS l)) (hy : evS E y = some (vS m)) :
    ∀ (G : Nat → Nat) (a : Act) (w : World), Fr N (denE G E) a → (execOp a.eval o).run Tryd.prog w = .ok (.value ((SV.b (decide (l = m))).den G)) w := fun G a w ha => by
  have h1 : a.eval x = .string ⟨l.toArray⟩ := ha.eval (evS_ok hx)
  have h2 : a.eval y = .string ⟨m.toArray⟩ := ha.eval (evS_ok hy)
  unfold execOp
  simp only [ho, h1, h2]
  by_cases e : l = m <;> go_simp <;> first | rfl | (rw [show (l == m) = false from by simpa using e]; rfl)
theorem run_neqS {l m : List UInt8} (ho : o.op = .binOp .neq 9 x y t') (hx : evS E x = some (vS l)) (hy : evS E y = some (vS m)) :
    ∀ (G : Nat → Nat) (a : Act) (w : World), Fr N (denE G E) a → (execOp a.eval o).run Tryd.prog w = .ok (.value ((SV.b (!decide (l = m))).den G)) w := fun G a w ha => by
  have h1 : a.eval x = .string ⟨l.toArray⟩ := ha.eval (evS_ok hx)
  have h2 : a.eval y = .string ⟨m.toArray⟩ := ha.eval (evS_ok hy)
  unfold execOp
  simp only [ho, h1, h2]
  by_cases e : l = m <;> go_simp <;> first | rfl | (rw [show (l == m) = false from by simpa using e]; rfl)
theorem run_min {p q : Nat} (ho : o.op = .call { callee := .builtin .min, args := #[x, y], argTypes := #[3, 3] }) (hx : evS E x = some (.v (.int .i64 (p : Int)))) (hy : evS E y = some (.v (.int .i64 (q : Int)))) :
    ∀ (G : Nat → Nat) (a : Act) (w : World), Fr N (denE G E) a → (execOp a.eval o).run Tryd.prog w = .ok (.value ((SV.v (.int .i64 ((min p q : Nat) : Int))).den G)) w := fun G a w ha => by
  have h1 : a.eval x = .int .i64 (p : Int) := ha.eval (evS_ok hx)
  have h2 : a.eval y = .int .i64 (q : Int) := ha.eval (evS_ok hy)
  unfold execOp
  simp only [ho]
  generalize a.eval = ρ at *
  show _ = Result.ok (Next.value (.int .i64 ((min p q : Nat) : Int))) w
  go_simp
  split <;> omega
theorem run_sizeOf {P : Program} {e : TypeId} {k : Nat} (he : (P.info? e).map (·.size) = some k) (w : World) : (sizeOf e).run P w = .ok k w := by
  cases hq : P.info? e with
  | none => simp [hq] at he
  | some ie =>
    have hs : ie.size = k := by simpa [hq] using he
    simp [sizeOf, typeInfo, hq, hs]
/-- A cut at the end: s[:j], any elements. -/
theorem run_cutHi {A : Option Addr} {n c j sz : Nat} {e : TypeId} (he : (Tryd.prog.info? e).map (·.size) = some sz) (hj : j ≤ c) (hA : A = none → c = 0) (ho : o.op = .slice t x none (some y) none) (hu : Tryd.prog.underlying t = some (.slice e)) (hx : evS E x = some (.v (.slice A n c))) (hy : evS E y = some (.v (.int .i64 (j : Int)))) :
    ∀ (G : Nat → Nat) (a : Act) (w : World), Fr N (denE G E) a → (execOp a.eval o).run Tryd.prog w = .ok (.value ((SV.v (.slice A j c)).den G)) w := fun G a w ha => by
  have h1 : a.eval x = .slice A n c := ha.eval (evS_ok hx)
  have h2 : a.eval y = .int .i64 (j : Int) := ha.eval (evS_ok hy)
  have h3 : (j : Int) ≤ (c : Int) := by omega
  have h4 : (0 : Int) ≤ (j : Int) := by omega
  have h5 := run_sizeOf he w
  unfold execOp
  simp only [ho]
  generalize a.eval = ρ at *
  simp only [Option.map, h1, h2]
  show _ = Result.ok (Next.value (.slice A j c)) w
  cases A with
  | none =>
    have := hA rfl
    obtain rfl : c = 0 := this
    obtain rfl : j = 0 := by omega
    go_simp
  | some ad => go_simp
end
section
variable {b : Base} {ops : Array Oper} {Q : Exit → Act → World → Prop} {N : Nat} {E : SE} {L : List LV} {R : List Res} {F M : World → Prop} {o : Oper} {rest : List Oper} {k : Nat}
/-- Bytes as a string. -/
theorem l_strB {x : Operand} {A : Option Addr} {c : Nat} (l : List UInt8) (hg : o.guard = none) (hd : o.dst = some k) (hk : Nat.blt k N = true) (ho : o.op = .convert 35 9 x) (hx : evS E x = some (.v (.slice A l.length c)))
    (h : ∀ G S w, View G S L R F M w → Rd 1 eB A c l w) (hn : lS Tryd.prog b ops Q N rest ⟨(k, vS l) :: E, L, R, F, M⟩) : lS Tryd.prog b ops Q N (o :: rest) ⟨E, L, R, F, M⟩ :=
  l_f (vS l) trivial (fun G S w C0 Q' hv h0 hQ => f_strB (.slice A l.length c) l hg hd hk ho (evS_ok hx) (fun w' hw' => by rw [h0 w' hw']; exact (h G S w hv).sb) hQ) (by rw [ho]; rfl) hn
end
end Go.Proofs.YtoecohpcnojokaaDoor
/-
  FROM A CONTRACT TO A LAW'S ROW.
-/
namespace Go.Proofs.YtoecohpcnojokaaDoor
open Go.RowKit Go.IntWalk

theorem spec_law {f : FuncId} {args : List Value} {F : World → Prop} [Pst F] (h : Spec f args [] F (one (.v (.bool true)))) {W : World} (hF : F W) : Calls Tryd.prog f args.toArray W fun e W' => e = .returned (.bool true) ∧ Below W.heap.size W W' :=
  (h W (fun _ => False) (fun _ => False) (fun _ h => h) (fun _ h => h.elim) (Stb.of_pst hF fun _ _ h => h.elim id id)).mono fun _ _ ⟨_, _, h1, _, h2, _⟩ => ⟨h1, h2.up fun _ _ h => h⟩
theorem Rd.of_sl {A : Option Addr} {c : Nat} {l : List UInt8} {W : World} (h : SL W 0 W.heap.size A l c) : Rd 1 eB A c l W := (Rd.of_sb ⟨A, c, rfl, h⟩).2
end Go.Proofs.YtoecohpcnojokaaDoor
/-
  CELLS WITHIN ROWS, over states: a byte of a variable's row, a byte of a row in a slice of one's own; a slice appended to one's own.
-/
namespace Go.Proofs.YtoecohpcnojokaaDoor
open Go.RowKit Go.IntWalk

theorem run_ixArr {P : Program} {t e : TypeId} {n sz : Nat} (ht : P.underlying t = some (.array n e)) (he : (P.info? e).map (·.size) = some sz) (g o : Nat) (K : IntKind) (i : Nat) (hi : i < n) (w : World) :
    (Instr.indexAt t (.pointer (some ⟨g, o, none⟩)) (.int K (i : Int))).run P w = .ok (.pointer (some ⟨g, o + sz * i, none⟩)) w := by
  cases hq : P.info? e with
  | none => simp [hq] at he
  | some ie =>
    have hs : ie.size = sz := by simpa [hq] using he
    have h1 : (i : Int) < (n : Int) := by omega
    have h2 : (0 : Int) ≤ (i : Int) := by omega
    simp [Instr.indexAt, asIntOf, Instr.sureAddr, run_underlying ht, sizeOf, typeInfo, hq, hs, Addr.add_mid, Nat.mul_comm, hi]
section
variable {P : Program} {T : List TyR} {b : Base} {ops : Array Oper} {Q : Exit → Act → World → Prop} {N : Nat} {E : SE} {L : List LV} {R : List Res} {F M : World → Prop} {o : Oper} {rest : List Oper} {k : Nat} {t e : TypeId} {x y z : Operand} {K : IntKind} {j off n sz g : Nat}
/-- The address of a part of a variable's row. -/
theorem runO_ixA (i : Nat) (ho : o.op = .indexAddr t x y) (ht : P.underlying t = some (.array n e)) (he : (P.info? e).map (·.size) = some sz) (hx : evS E x = some (.a j off)) (hy : evS E y = some (.v (.int K (i : Int)))) (hi : i < n) :
    ∀ (G : Nat → Nat) (a : Act) (w : World), Fr N (denE G E) a → (execOp a.eval o).run P w = .ok (.value ((SV.a j (off + sz * i)).den G)) w := fun G a w ha => by
  have e1 := ha.eval (evS_ok hx)
  have e2 := ha.eval (evS_ok hy)
  unfold execOp
  simp only [ho, e1, e2, SV.den, SQ.den, SC.den, Sem.run_bind, run_ixArr ht he _ _ _ _ hi, Result.andThen_ok, Sem.run_pure]
/-- The address of a part of a row behind an address. -/
theorem runO_ixP (i : Nat) (ho : o.op = .indexAddr t x y) (ht : P.underlying t = some (.array n e)) (he : (P.info? e).map (·.size) = some sz) (hx : evS E x = some (.v (.pointer (some ⟨g, off, none⟩)))) (hy : evS E y = some (.v (.int K (i : Int)))) (hi : i < n) :
    ∀ (G : Nat → Nat) (a : Act) (w : World), Fr N (denE G E) a → (execOp a.eval o).run P w = .ok (.value ((SV.v (.pointer (some ⟨g, off + sz * i, none⟩))).den G)) w := fun G a w ha => by
  have e1 := ha.eval (evS_ok hx)
  have e2 := ha.eval (evS_ok hy)
  unfold execOp
  simp only [ho, e1, e2, SV.den, SQ.den, SC.den, Sem.run_bind, run_ixArr ht he _ _ _ _ hi, Result.andThen_ok, Sem.run_pure]
/-- The address of an element of a slice. -/
theorem runO_ixS {c : Nat} (i : Nat) (ho : o.op = .indexAddr t x y) (ht : P.underlying t = some (.slice e)) (he : (P.info? e).map (·.size) = some sz) (hx : evS E x = some (.v (.slice (some ⟨g, off, none⟩) n c))) (hy : evS E y = some (.v (.int K (i : Int)))) (hi : i < n) :
    ∀ (G : Nat → Nat) (a : Act) (w : World), Fr N (denE G E) a → (execOp a.eval o).run P w = .ok (.value ((SV.v (.pointer (some ⟨g, off + sz * i, none⟩))).den G)) w := fun G a w ha => by
  have e1 := ha.eval (evS_ok hx)
  have e2 := ha.eval (evS_ok hy)
  unfold execOp
  simp only [ho, e1, e2, SV.den, SQ.den, SC.den, Sem.run_bind, run_index ht he _ _ _ _ _ _ hi, Result.andThen_ok, Sem.run_pure]
/-- A cell of a variable is read. -/
theorem runO_ldA {d : TypeDesc} {ps : List Pt} (v : Value) (ho : o.op = .load t x) (hx : evS E x = some (.a j off)) (hl : lookL L j = some ps) (hv : (catP ps)[off]? = some v) (hu : P.underlying t = some d) (hr : d.isRow = false) :
    ∀ (G : Nat → Nat) (S : Nat → Prop) (a : Act) (w : World), Fr N (denE G E) a → View G S L R F M w → (execOp a.eval o).run P w = .ok (.value ((SV.v v).den G)) w := fun G S a w ha hvw => by
  obtain ⟨z, hz, rfl, rfl⟩ := lookL_mem hl
  have hb := (hvw.var z hz).1
  have hc : w.cell? ⟨G z.j, off, none⟩ = some v := by rw [hb.cell]; exact hv
  have e1 := ha.eval (evS_ok hx)
  unfold execOp
  simp only [ho, e1, SV.den, SQ.den, SC.den, run_load_cell hu hr hc, Sem.run_bind, Sem.run_pure, Result.andThen_ok]
/-- A cell of a variable is written. -/
theorem l_stA {ps : List Pt} {v : Value} (ps' : List Pt) (hg : o.guard = none) (hd : o.dst = none) (ho : o.op = .store t x z) (hx : evS E x = some (.a j off)) (hz : evS E z = some (.v v)) (hl : lookL L j = some ps) (ht : (P.info? t).map (·.size) = some 1) (h1 : v.cells = #[v]) (h2 : v.oneCell' = true) (hlt : off < (catP ps).size) (hp : OkP ps')
    (hs : (catP ps').toList = (catP ps).toList.set off v) (hn : lS P b ops Q N rest ⟨E, putL L j ps', R, F, M⟩) : lS P b ops Q N (o :: rest) ⟨E, L, R, F, M⟩ := fun a w ⟨G, S, f1, f2, f3⟩ => by
  obtain ⟨u, hu, rfl, rfl⟩ := lookL_mem hl
  have e1 := f1.eval (evS_ok hx)
  have e2 := f1.eval (evS_ok hz)
  have hst := run_store_part (P := P) (t := t) (v := v) (off := off) (f3.at u hu) (by rw [ht, h1]; rfl) (by rw [h1]; exact hlt) (by rw [h1]; intro u hu; simp at hu; subst hu; exact h2)
  have e3 : ((catP u.ps).toList.take off ++ v.cells.toList ++ (catP u.ps).toList.drop (off + v.cells.size)).toArray = catP ps' := by
    apply Array.ext'
    rw [hs, List.set_eq_take_append_cons_drop, if_pos (by simpa using hlt), h1]
    simp
  rw [e3] at hst
  refine wpl_skip (w' := w.setRow (G u.j) (catP ps')) (oneS hg) (by
    unfold execOp
    simp only [ho, e1, e2, SV.den, SQ.den, SC.den, hst, Sem.run_bind, Sem.run_pure, Result.andThen_ok]) ?_
  rw [hd]
  exact hn _ _ ⟨G, S, f1, f2, f3.set (lookL_name hl) hp⟩
end
section
variable {α : Type} {fe : α → SQ} {l : List α} {P : Program} {T : List TyR} {b : Base} {ops : Array Oper} {Q : Exit → Act → World → Prop} {N : Nat} {E : SE} {L : List LV} {R : List Res} {F M : World → Prop} {o : Oper} {rest : List Oper} {k : Nat} {t e : TypeId} {x y z : Operand} {A : Option Addr} {lo c sz bs g m : Nat}
/-- Where a slice of one's own lies. -/
theorem l_where {l' : List Oper} (i : Nat) (hi : R[i]? = some (OwnS lo e sz fe A c l)) (h0 : 0 < l.length) (h : ∀ g, A = some ⟨g, 0, none⟩ → lS P b ops Q N l' ⟨E, L, R, F, M⟩) : lS P b ops Q N l' ⟨E, L, R, F, M⟩ := fun a w ⟨G, S, h1, h2, h3⟩ => by
  obtain ⟨S1, ⟨_, hrow, _⟩, _⟩ := h3.put hi
  rcases hrow.2 with ⟨_, h7⟩ | ⟨g, cap, cur, hv, _⟩
  · omega
  injection hv with v1 _ _
  exact h g v1 a w ⟨G, S, h1, h2, h3⟩
/-- An empty literal. -/
theorem l_list0 (lo : Nat) (fe : α → SQ) (hg : o.guard = none) (hd : o.dst = some k) (hk : Nat.blt k N = true) (ho : o.op = .buildSlice t 0 #[]) (hlo : lo ≤ b.B.heap.size)
    (hr : ∀ w : World, (Instr.buildSlice t 0 #[]).run P w = .ok (.slice (some ⟨w.heap.size, 0, none⟩) 0 0) (w.alloc (.cells #[] e)))
    (hc : ∀ A, lS P b ops Q N rest ⟨(k, .v (.slice A 0 0)) :: E, L, OwnS lo e sz fe A 0 [] :: R, F, M⟩) : lS P b ops Q N (o :: rest) ⟨E, L, R, F, M⟩ := fun a w ⟨G, S, h1, h2, h3⟩ => by
  refine wpl_go (v := .slice (some ⟨w.heap.size, 0, none⟩) 0 0) (w' := w.alloc (.cells #[] e)) (oneS hg) (by
    unfold execOp
    simp only [ho, List.map_toArray, List.map_nil, Sem.run_bind, hr, Result.andThen_ok, Sem.run_pure]) ?_
  rw [hd]
  obtain ⟨S', h4⟩ := h3.gain ((Below.refl w.heap.size w).alloc (Nat.le_refl _) (.cells #[] e)) (OwnS.new (lo := lo) (e := e) (k := sz) (fe := fe) (l := []) w (Nat.le_trans hlo h3.chg.size) (fun _ h => (by cases h)) (Nat.zero_le _)) (fun j hj => Nat.le_of_eq hj.symm)
  exact hc _ _ _ ⟨G, S', h1.put hk _, h2.cons trivial, h4⟩
/-- append(s, x...), s one's own. -/
theorem l_appY {A2 : Option Addr} {n c2 : Nat} (hT : OkT P T) (i : Nat) (m : List α) (hg : o.guard = none) (hd : o.dst = some k) (hk : Nat.blt k N = true) (ho : o.op = .call { callee := .builtin .append, args := #[x, y], argTypes := #[t, t] }) (hs : slS T t = some (e, sz, bs)) (hx : evS E x = some (.v (.slice A n c))) (hy : evS E y = some (.v (.slice A2 m.length c2)))
    (hi : R[i]? = some (OwnS lo e sz fe A c l)) (hn : n = l.length) (hrd : ∀ G S w, View G S L R F M w → Rd sz fe A2 c2 m w) (h0 : 0 < sz) (hb : (l.length + m.length) * bs ≤ 140737488355328) (hm : l.length + m.length ≤ 9223372036854775807 - 64) (hlo : lo ≤ b.B.heap.size)
    (hc : ∀ A' c', lS P b ops Q N rest ⟨(k, .v (.slice A' (l ++ m).length c')) :: E, L, R.set i (OwnS lo e sz fe A' c' (l ++ m)), F, M⟩) : lS P b ops Q N (o :: rest) ⟨E, L, R, F, M⟩ := fun a w ⟨G, S, f1, f2, f3⟩ => by
  have hR := hrd G S w f3.view
  obtain ⟨S1, h5, hput⟩ := f3.put hi
  have e1 := f1.eval (evS_ok hx)
  have e2 := f1.eval (evS_ok hy)
  subst hn
  have key : ∃ A' c' w' S', (Builtin.append_ #[t, t] o.type #[.slice A l.length c, .slice A2 m.length c2]).run P w = .ok (.slice A' (l ++ m).length c') w' ∧ Chg S1 w w' ∧ (OwnS lo e sz fe A' c' (l ++ m)).holds w' S' ∧ ∀ k, S' k → k < w.heap.size → S1 k := by
    cases hA2 : A2 with
    | none =>
      have hc2 := hR.2.2.1 hA2
      have hml : m = [] := List.eq_nil_of_length_eq_zero (by have := hR.1; omega)
      subst hml
      subst hc2
      obtain ⟨ht, ie, zz, hie, hz, hsz, hbs, hzs, _⟩ := slS_ok hT hs
      have hr := run_append_owned_none (P := P) w lo t o.type e ie sz ht hie _ l.length (flatF fe l) h5.2.1
      refine ⟨A, c, w, S1, by rw [List.append_nil]; exact hr, Chg.refl _ _, by rw [List.append_nil]; exact h5, fun _ h _ => h⟩
    | some ad =>
      refine OwnS.grow hT (d := c2) (ad := ad) o.type hs h0 h5 hR.2.2.2.1 (fun j v hj => ?_) hb hm (Nat.le_trans hlo f3.chg.size)
      have hlen := flatF_len hR.2.2.2.1
      have hjl := (List.getElem?_eq_some_iff.1 hj).1
      have hml : 0 < m.length := by
        rcases Nat.eq_zero_or_pos m.length with h | h
        · rw [hlen, h, Nat.zero_mul] at hjl
          omega
        · exact h
      obtain ⟨bb, oo, e, _, hcell⟩ := hR.2.2.2.2 hml
      rw [hA2] at e
      injection e with e
      subst e
      have hq : j / sz < m.length := by
        rw [hlen] at hjl
        exact Nat.div_lt_of_lt_mul (by rwa [Nat.mul_comm] at hjl)
      obtain ⟨B, Z, h9, h10, _⟩ := flatF_split hR.2.2.2.1 (List.getElem?_eq_getElem hq)
      have hmod := Nat.div_add_mod j sz
      have hlt := Nat.mod_lt j h0
      have hcl := (hR.2.2.2.1 _ (List.getElem_mem hq)).2
      have hv : (fe m[j / sz]).cl[j % sz]? = some v := by
        rw [h9, List.getElem?_append_right (by omega), h10, List.getElem?_append_left (by omega)] at hj
        rwa [show j - sz * (j / sz) = j % sz by omega] at hj
      have := hcell (j / sz) _ (List.getElem?_eq_getElem hq) (j % sz) v hv
      rw [Addr.add_mid]
      rwa [Nat.add_assoc, hmod] at this
  obtain ⟨A', c', w', S', hr, hch, ho', hS'⟩ := key
  obtain ⟨S'', h6⟩ := hput _ _ _ hch ho' hS'
  refine wpl_go (v := .slice A' (l ++ m).length c') (w' := w') (oneS hg) (by
    unfold execOp
    simp only [ho, resolve, invoke, builtin, Sem.run_bind, Sem.run_pure, Result.andThen_ok, List.map_toArray, List.map_cons, List.map_nil, e1, e2, SV.den, SQ.den, SC.den, hr]) ?_
  rw [hd]
  exact hc A' c' _ _ ⟨G, S'', f1.put hk _, f2.cons trivial, h6⟩
end
section
variable {α : Type} {P : Program} {T : List TyR} {b : Base} {ops : Array Oper} {Q : Exit → Act → World → Prop} {N : Nat} {E : SE} {L : List LV} {R : List Res} {F M : World → Prop} {T' : List Oper} {G : Nat → Nat} {S : Nat → Prop} {w0 : World} {rest : List (Nat × Oper)} {o : Oper} {i k sz bs : Nat} {t e : TypeId} {z : Operand}
/-- A step whose value hangs on what can be seen, the order drawn. -/
theorem g_opV (hst : StW b G S L R F M w0) (v : SV) (hv : v.Ok) (hg : o.guard = none) (hd : o.dst = some k) (hk : Nat.blt k N = true) (h : ∀ (G : Nat → Nat) (S : Nat → Prop) (a : Act) (w : World), Fr N (denE G E) a → View G S L R F M w → (execOp a.eval o).run P w = .ok (.value (v.den G)) w)
    (hn : gS P b ops Q N T' G w0 rest ((k, v) :: E)) : gS P b ops Q N T' G w0 ((i, o) :: rest) E := fun hE =>
  g_op rfl (fun a ha => b_val (by simp [Region.wanted, hg]) (fun w hw => h G S a w ha (hst.later hw.1).view) (by
    rw [hd]
    exact g_go (o := o) (hn (hE.cons hv)) _ (ha.put hk _)))
end
end Go.Proofs.YtoecohpcnojokaaDoor
/-
  MORE STEPS, over states: remainders by what is known, bytes that are turned.
-/
namespace Go.Proofs.YtoecohpcnojokaaDoor
open Go.RowKit Go.IntWalk

section
variable {α : Type} {fe : α → SQ} {l : List α} {P : Program} {b : Base} {ops : Array Oper} {Q : Exit → Act → World → Prop} {N : Nat} {E : SE} {L : List LV} {R : List Res} {F M : World → Prop} {e : TypeId} {A : Option Addr} {lo c sz : Nat}
/-- What hangs on a step that was left out is left out. -/
theorem l_skipU {o : Oper} {rest : List Oper} {j t k : Nat} {q : Bool} (hgd : o.guard = some (j, q)) (hj : (ops[j]?).bind (·.dst) = some t) (hN : Nat.blt t N = true) (ht : lookS E t = some (.v undef)) (hd : o.dst = some k) (hk : Nat.blt k N = true)
    (hn : lS P b ops Q N rest ⟨(k, .v undef) :: E, L, R, F, M⟩) : lS P b ops Q N (o :: rest) ⟨E, L, R, F, M⟩ := fun a w ⟨G, S, h1, h2, h3⟩ => by
  have hw : Region.wanted o (yielded ops a.tmps) = false := by
    have h4 := h1.get t undef (by rw [look_den, ht]; rfl)
    have htN : t < a.tmps.size := by rw [h1.size]; simpa using hN
    simp only [Act.eval, Array.getD_eq_getD_getElem?] at h4
    have h5 : a.tmps[t]? = some undef := by
      rw [Array.getElem?_eq_getElem htN] at h4 ⊢
      simpa using h4
    unfold Region.wanted
    rw [hgd]
    simp [yielded, hj, h5, undef]
  unfold wpList
  rw [hw, if_neg (by decide), hd]
  exact hn _ w ⟨G, S, h1.put hk undef, h2.cons trivial, h3⟩
/-- What is known of a slice of one's own, whatever the world. -/
theorem s_own {y : Code} (i : Nat) (hi : R[i]? = some (OwnS lo e sz fe A c l)) (h : OkF sz fe l → l.length ≤ c → (A = none → c = 0) → cS P b y Q N ⟨E, L, R, F, M⟩) : cS P b y Q N ⟨E, L, R, F, M⟩ := fun a w ⟨G, S, h1, h2, h3⟩ => by
  obtain ⟨S1, h5, _⟩ := h3.put hi
  have hr := OwnS.rd h5
  exact h hr.2.2.2.1 hr.1 hr.2.2.1 a w ⟨G, S, h1, h2, h3⟩
end
end Go.Proofs.YtoecohpcnojokaaDoor
/-
  OBJECTS, over states: written behind pointers; variables that are handed out as objects; slices cut at their begin.
-/
namespace Go.Proofs.YtoecohpcnojokaaDoor
open Go.RowKit Go.IntWalk

section
variable {P : Program} {T : List TyR} {b : Base} {ops : Array Oper} {Q : Exit → Act → World → Prop} {N : Nat} {E E' : SE} {L : List LV} {R : List Res} {F M : World → Prop} {o : Oper} {rest : List Oper} {k : Nat} {t ty : TypeId} {x z : Operand} {off g : Nat} {ps ps' : List Pt} {q : SQ}
/-- What lies behind a pointer of one's own is written. -/
theorem l_stO (hT : OkT P T) (i : Nat) (hi : R[i]? = some (ObjS g ty ps)) (hg : o.guard = none) (hd : o.dst = none) (ho : o.op = .store t x z) (hx : evS E x = some (.v (.pointer (some ⟨g, off, none⟩)))) (hz : evS E z = some (.q q)) (hs : storeS T ps t off q = some ps')
    (hn : lS P b ops Q N rest ⟨E, L, R.set i (ObjS g ty ps'), F, M⟩) : lS P b ops Q N (o :: rest) ⟨E, L, R, F, M⟩ := fun a w ⟨G, S, f1, f2, f3⟩ => by
  obtain ⟨S1, ⟨⟨hb, hok⟩, hS1⟩, hput⟩ := f3.put hi
  have e1 : a.eval x = .pointer (some ⟨g, off, none⟩) := f1.eval (evS_ok hx)
  have e2 : a.eval z = q.den := f1.eval (evS_ok hz)
  obtain ⟨h3, h4⟩ := storeS_ok hT hok (f2.ev hz) hs
  obtain ⟨S'', h6⟩ := hput (ObjS g ty ps') (w.setRow g (catP ps')) S1 ((Chg.row w g _).mono fun k _ hk => (hS1 k).2 hk) ⟨⟨hb.row _, h3⟩, hS1⟩ (fun k hk _ => hk)
  refine wpl_skip (w' := w.setRow g (catP ps')) (oneS hg) (by
    unfold execOp
    simp only [ho, e1, e2, h4 hb, Sem.run_bind, Sem.run_pure, Result.andThen_ok]) ?_
  rw [hd]
  exact hn _ _ ⟨G, S'', f1, f2, h6⟩
theorem StW.give {G : Nat → Nat} {S : Nat → Prop} {y : LV} {w : World} (h : StW b G S (y :: L) R F M w) : StW b G (fun k => k = G y.j ∨ S k) L (ObjS (G y.j) y.t y.ps :: R) F M w := by
  have hM : ∀ k, Mine (fun k => k = G y.j ∨ S k) G L k → Mine S G (y :: L) k := fun k hk => by
    rcases hk with (rfl | hk) | ⟨j, hj, rfl⟩
    · exact .inr ⟨y.j, List.mem_cons_self, rfl⟩
    · exact .inl hk
    · exact .inr ⟨j, List.mem_cons_of_mem _ hj, rfl⟩
  have hy := h.var y List.mem_cons_self
  have hap := List.pairwise_cons.1 (show (y.j :: namesL L).Pairwise fun i j => G i ≠ G j from h.apart)
  refine ⟨fun x hx => h.var x (List.mem_cons_of_mem _ hx), hap.2, ⟨fun k => k = G y.j, S, ⟨⟨hy.1, hy.2.1⟩, fun _ => Iff.rfl⟩, h.res, fun _ => Iff.rfl, fun k hk hs => h.sep y.j List.mem_cons_self (by rw [← hk]; exact hs)⟩, fun j hj hs => ?_, h.fact.less fun k _ hk => hk.imp id (hM k), h.fresh.less fun k _ hk => hk.imp id (hM k), h.chg, fun k hk => h.mine k (hM k hk), h.old⟩
  rcases hs with hs | hs
  · exact hap.1 j hj hs.symm
  · exact h.sep j (List.mem_cons_of_mem _ hj) hs
/-- The newest variable is an object from here on. -/
theorem k_give {K : Act → World → Prop} {y : LV} (i : Nat) (hx : lookS E i = some (.a y.j 0)) (hs : SubS E' E) (h : ∀ g, kS b K N ⟨(i, .v (.pointer (some ⟨g, 0, none⟩))) :: E', L, ObjS g y.t y.ps :: R, F, M⟩) : kS b K N ⟨E, y :: L, R, F, M⟩ := fun a w ⟨G, S, h1, h2, h3⟩ => by
  refine h (G y.j) a w ⟨G, _, ?_, (hs.ok h2).cons trivial, h3.give⟩
  exact (h1.sub (denE_sub hs)).more (h1.get i _ (by rw [look_den, hx]; rfl))
end
/-- The address behind a cut at the begin. -/
def cutA (A : Option Addr) (c n : Nat) : Option Addr := if c = n then A else A.map (·.add n)
theorem Rd.part {A : Option Addr} {c n : Nat} {l : List UInt8} {w : World} (h : Rd 1 eB A c l w) (hn : n ≤ l.length) : Rd 1 eB (cutA A c n) (c - n) (l.drop n) w := by
  have h1 := h.sl.part (n := l.length - n) hn
  rw [List.take_of_length_le (by rw [List.length_drop]; exact Nat.le_refl _)] at h1
  exact Rd.of_sl h1
section
variable {N : Nat} {E : SE} {o : Oper} {x y : Operand} {t : TypeId}
/-- A cut at the begin: s[j:] of bytes. -/
theorem run_cutLo {A : Option Addr} {n c j : Nat} (hj : j ≤ n) (hc : n ≤ c) (hA : A = none → c = 0) (ho : o.op = .slice 35 x (some y) none none) (hx : evS E x = some (.v (.slice A n c))) (hy : evS E y = some (.v (.int .i64 (j : Int)))) :
    ∀ (G : Nat → Nat) (a : Act) (w : World), Fr N (denE G E) a → (execOp a.eval o).run Tryd.prog w = .ok (.value ((SV.v (.slice (cutA A c j) (n - j) (c - j))).den G)) w := fun G a w ha => by
  have h1 : a.eval x = .slice A n c := ha.eval (evS_ok hx)
  have h2 : a.eval y = .int .i64 (j : Int) := ha.eval (evS_ok hy)
  have h3 : (j : Int) ≤ (n : Int) := by omega
  have h4 : (0 : Int) ≤ (j : Int) := by omega
  have h5 : (n : Int) ≤ (c : Int) := by omega
  unfold execOp
  simp only [ho]
  generalize a.eval = ρ at *
  simp only [Option.map, h1, h2]
  show _ = Result.ok (Next.value (.slice (cutA A c j) (n - j) (c - j))) w
  cases A with
  | none =>
    obtain rfl : c = 0 := hA rfl
    obtain rfl : n = 0 := by omega
    obtain rfl : j = 0 := by omega
    go_simp
    rfl
  | some ad =>
    unfold cutA
    by_cases e : c = j
    · rw [if_pos e]
      go_simp
    · rw [if_neg e]
      go_simp
end
end Go.Proofs.YtoecohpcnojokaaDoor
/-
PLAIN NUMBERS: primes, Fermat's little theorem, Pocklington's criterion; p = 2^255 - 19 is prime. No program is imported.
PLAIN NUMBERS: the numbers modulo a prime as Fin n: no divisors of zero, powers, inverses, roots. No program is imported.
PLAIN NUMBERS: the curve -x² + y² = 1 + d x² y² modulo a prime, where -1 is a square and d is none: its sums are a group. No program is imported.
-/

namespace Nums

/-! Fermat. -/
/-! Powers modulo a number, reckoned. -/
end Nums

namespace Nums
end Nums

namespace Nums

section
variable {n : Nat} [NeZero n]

namespace Ed
variable {d : Fin n}

end Ed
end
end Nums
/-
PLAIN NUMBERS: the sums of the curve's points are a group; multiples. No program is imported.
PLAIN NUMBERS: multiples of the curve's points; the sum in coordinates over one z. No program is imported.
PLAIN NUMBERS: p = 2^255 - 19: which numbers are squares, and their roots; the curve's d. No program is imported.
-/
namespace Nums
namespace Ed
variable {n : Nat} [NeZero n] {d : Fin n}

end Ed
end Nums

namespace Nums
namespace Ed
variable {n : Nat} [NeZero n] {d : Fin n}

end Ed
end Nums

namespace Nums

end Nums
/-
PLAIN NUMBERS: the base point's order divides L. No program is imported.
PLAIN NUMBERS: rows of digits of 16 bits, carries, products digit by digit. No program is imported.
PLAIN NUMBERS: 16 digits of 16 bits as numbers modulo p: carries that come back 38 times, products, the packed row. No program is imported.
PLAIN NUMBERS: the packed row (below p), its bytes, the folded product. No program is imported.
-/
namespace Nums

/-- The order L. -/
def LL : Nat := 7237005577332262213973186563042994240857116359379907606001950938285454250989

end Nums

namespace Nums

end Nums

namespace Nums

end Nums

namespace Nums

/-- Bytes, the least first. -/
def le : List UInt8 → Nat
  | [] => 0
  | b :: bs => b.toNat + 256 * le bs

/-- The bytes of digits, the digits of bytes. -/
def split : List Int → List UInt8
  | [] => []
  | d :: ds => UInt8.ofNat (d % 256).toNat :: UInt8.ofNat (d / 256).toNat :: split ds
theorem le_inj : ∀ {a b : List UInt8}, a.length = b.length → le a = le b → a = b
  | [], [], _, _ => rfl
  | x :: a, y :: b, hl, h => by
    have h1 := x.toNat_lt
    have h2 := y.toNat_lt
    have h3 : x.toNat + 256 * le a = y.toNat + 256 * le b := h
    have h4 : x = y := UInt8.toNat.inj (by omega)
    have h5 := le_inj (a := a) (b := b) (by simpa using hl) (by omega)
    rw [h4, h5]

/-- So many bytes of a number, the least first. -/
def bytes : Nat → Nat → List UInt8
  | 0, _ => []
  | k + 1, v => UInt8.ofNat v :: bytes k (v / 256)
theorem bytes_len : ∀ k v, (bytes k v).length = k
  | 0, _ => rfl
  | k + 1, v => by show (bytes k (v / 256)).length + 1 = k + 1; rw [bytes_len]
theorem le_bytes : ∀ k v, le (bytes k v) = v % 256 ^ k
  | 0, v => by show 0 = v % 1; omega
  | k + 1, v => by
    show (UInt8.ofNat v).toNat + 256 * le (bytes k (v / 256)) = v % 256 ^ (k + 1)
    rw [le_bytes, UInt8.toNat_ofNat', show 256 ^ (k + 1) = 256 * 256 ^ k by rw [Nat.pow_succ, Nat.mul_comm], Nat.mod_mul]

end Nums
/-
  PLAIN NUMBERS: the digests of FIPS 180-4 over words of w bits: turned words, the message's words, rounds, blocks, the message's end. No program is imported.
-/
namespace Nums

/-- A word turned to the right. -/
def rotw (w n x : Nat) : Nat := x / 2 ^ n + x % 2 ^ n * 2 ^ (w - n)
def chw (w e f g : Nat) : Nat := (e &&& f) ^^^ ((2 ^ w - 1 - e) &&& g)
def maw (a b c : Nat) : Nat := (a &&& b) ^^^ (a &&& c) ^^^ (b &&& c)

/-- Which digest: the words' bits, how many rounds, how words are turned, and the rounds' numbers. -/
structure Sha where
  w : Nat
  n : Nat
  big1 : Nat × Nat × Nat
  big0 : Nat × Nat × Nat
  low1 : Nat × Nat × Nat
  low0 : Nat × Nat × Nat
  k : Nat → Nat
  start : List Nat
def bigw (w : Nat) (t : Nat × Nat × Nat) (x : Nat) : Nat := rotw w t.1 x ^^^ rotw w t.2.1 x ^^^ rotw w t.2.2 x
def loww (w : Nat) (t : Nat × Nat × Nat) (x : Nat) : Nat := rotw w t.1 x ^^^ rotw w t.2.1 x ^^^ x / 2 ^ t.2.2

/-- The first 64 bits of the fractions of the first primes' square roots, and cube roots. -/
def sqs : List Nat := [7640891576956012808, 13503953896175478587, 4354685564936845355, 11912009170470909681, 5840696475078001361, 11170449401992604703, 2270897969802886507, 6620516959819538809]
def cbs : List Nat := [4794697086780616226, 8158064640168781261, 13096744586834688815, 16840607885511220156, 4131703408338449720, 6480981068601479193, 10538285296894168987, 12329834152419229976, 15566598209576043074, 1334009975649890238, 2608012711638119052, 6128411473006802146, 8268148722764581231, 9286055187155687089, 11230858885718282805, 13951009754708518548, 16472876342353939154, 17275323862435702243, 1135362057144423861, 2597628984639134821, 3308224258029322869, 5365058923640841347, 6679025012923562964, 8573033837759648693, 10970295158949994411, 12119686244451234320, 12683024718118986047, 13788192230050041572, 14330467153632333762, 15395433587784984357, 489312712824947311, 1452737877330783856, 2861767655752347644, 3322285676063803686, 5560940570517711597, 5996557281743188959, 7280758554555802590, 8532644243296465576, 9350256976987008742, 10552545826968843579, 11727347734174303076, 12113106623233404929, 14000437183269869457, 14369950271660146224, 15101387698204529176, 15463397548674623760, 17586052441742319658, 1182934255886127544, 1847814050463011016, 2177327727835720531, 2830643537854262169, 3796741975233480872, 4115178125766777443, 5681478168544905931, 6601373596472566643, 7507060721942968483, 8399075790359081724, 8693463985226723168, 9568029438360202098, 10144078919501101548, 10430055236837252648, 11840083180663258601, 13761210420658862357, 14299343276471374635, 14566680578165727644, 15097957966210449927, 16922976911328602910, 17689382322260857208, 500013540394364858, 748580250866718886, 1242879168328830382, 1977374033974150939, 2944078676154940804, 3659926193048069267, 4368137639120453308, 4836135668995329356, 5532061633213252278, 6448918945643986474, 6902733635092675308, 7801388544844847127]
def s256 : Sha where
  w := 32
  n := 64
  big1 := (6, 11, 25)
  big0 := (2, 13, 22)
  low1 := (17, 19, 10)
  low0 := (7, 18, 3)
  k := fun t => cbs[t]! / 4294967296
  start := sqs.map (· / 4294967296)

/-- Bytes f 0, f 1 .. as a number, the greatest first. -/
def ben (f : Nat → Nat) : Nat → Nat
  | 0 => 0
  | j + 1 => ben f j * 256 + f j
theorem ben_lt {f : Nat → Nat} (h : ∀ j, f j < 256) : ∀ j, ben f j < 256 ^ j
  | 0 => Nat.one_pos
  | j + 1 => by
    have h1 := ben_lt h j
    have h2 := h j
    show ben f j * 256 + f j < 256 ^ (j + 1)
    rw [Nat.pow_succ]
    omega
/-- A block's word. -/
def bword (s : Sha) (b : List UInt8) (t : Nat) : Nat := ben (fun k => (b[t * (s.w / 8) + k]!).toNat) (s.w / 8)
/-- The message's words. -/
def sx (s : Sha) (b : List UInt8) (t : Nat) : Nat :=
  if _h : t < 16 then bword s b t else (loww s.w s.low1 (sx s b (t - 2)) + sx s b (t - 7) + loww s.w s.low0 (sx s b (t - 15)) + sx s b (t - 16)) % 2 ^ s.w
termination_by t
decreasing_by all_goals omega

/-- Eight words, and a round. -/
structure Oct where
  a : Nat
  b : Nat
  c : Nat
  d : Nat
  e : Nat
  f : Nat
  g : Nat
  h : Nat
def Oct.list (o : Oct) : List Nat := [o.a, o.b, o.c, o.d, o.e, o.f, o.g, o.h]
def t1w (s : Sha) (k x : Nat) (o : Oct) : Nat := o.h + bigw s.w s.big1 o.e + chw s.w o.e o.f o.g + k + x
def t2w (s : Sha) (o : Oct) : Nat := bigw s.w s.big0 o.a + maw o.a o.b o.c
def rnd (s : Sha) (k x : Nat) (o : Oct) : Oct := ⟨(t1w s k x o + t2w s o) % 2 ^ s.w, o.a, o.b, o.c, (o.d + t1w s k x o) % 2 ^ s.w, o.e, o.f, o.g⟩
def rnds (s : Sha) (b : List UInt8) (o : Oct) : Nat → Oct
  | 0 => o
  | t + 1 => rnd s (s.k t) (sx s b t) (rnds s b o t)
def add8 (w : Nat) (o p : Oct) : Oct := ⟨(o.a + p.a) % 2 ^ w, (o.b + p.b) % 2 ^ w, (o.c + p.c) % 2 ^ w, (o.d + p.d) % 2 ^ w, (o.e + p.e) % 2 ^ w, (o.f + p.f) % 2 ^ w, (o.g + p.g) % 2 ^ w, (o.h + p.h) % 2 ^ w⟩
/-- The eight words turned by a block. -/
def turnw (s : Sha) (o : Oct) (b : List UInt8) : Oct := add8 s.w o (rnds s b o s.n)

/-! ### Bounds -/
theorem xor_lt {a b w : Nat} (ha : a < 2 ^ w) (hb : b < 2 ^ w) : a ^^^ b < 2 ^ w := Nat.xor_lt_two_pow ha hb
theorem and_lt {a b w : Nat} (ha : a < 2 ^ w) : a &&& b < 2 ^ w := Nat.lt_of_le_of_lt Nat.and_le_left ha
theorem rotw_lt {w n x : Nat} (hn : n ≤ w) (hx : x < 2 ^ w) : rotw w n x < 2 ^ w := by
  have e : (2 : Nat) ^ w = 2 ^ n * 2 ^ (w - n) := by rw [← Nat.pow_add, Nat.add_sub_cancel' hn]
  have h1 : x / 2 ^ n < 2 ^ (w - n) := Nat.div_lt_of_lt_mul (by rw [← e]; exact hx)
  have h2 : x % 2 ^ n + 1 ≤ 2 ^ n := Nat.mod_lt _ (Nat.two_pow_pos n)
  have h3 := Nat.mul_le_mul_right (2 ^ (w - n)) h2
  rw [← e, Nat.add_mul, Nat.one_mul] at h3
  unfold rotw
  omega
theorem bigw_lt {w x : Nat} {t : Nat × Nat × Nat} (h : t.1 ≤ w ∧ t.2.1 ≤ w ∧ t.2.2 ≤ w) (hx : x < 2 ^ w) : bigw w t x < 2 ^ w :=
  xor_lt (xor_lt (rotw_lt h.1 hx) (rotw_lt h.2.1 hx)) (rotw_lt h.2.2 hx)
theorem loww_lt {w x : Nat} {t : Nat × Nat × Nat} (h : t.1 ≤ w ∧ t.2.1 ≤ w) (hx : x < 2 ^ w) : loww w t x < 2 ^ w :=
  xor_lt (xor_lt (rotw_lt h.1 hx) (rotw_lt h.2 hx)) (Nat.lt_of_le_of_lt (Nat.div_le_self _ _) hx)
theorem chw_lt {w e f g : Nat} (he : e < 2 ^ w) : chw w e f g < 2 ^ w := xor_lt (and_lt he) (and_lt (by have := Nat.two_pow_pos w; omega))
theorem maw_lt {w a b c : Nat} (ha : a < 2 ^ w) (hb : b < 2 ^ w) : maw a b c < 2 ^ w := xor_lt (xor_lt (and_lt ha) (and_lt ha)) (and_lt hb)
theorem sx_lt (s : Sha) (b : List UInt8) (hw : s.w / 8 * 8 = s.w) (t : Nat) : sx s b t < 2 ^ s.w := by
  rw [sx]
  split
  · have h := ben_lt (f := fun k => (b[t * (s.w / 8) + k]!).toNat) (fun j => UInt8.toNat_lt _) (s.w / 8)
    rw [show (256 : Nat) = 2 ^ 8 from rfl, ← Nat.pow_mul, Nat.mul_comm 8, hw] at h
    exact h
  · exact Nat.mod_lt _ (Nat.two_pow_pos _)
/-- All eight are words. -/
structure OB (w : Nat) (o : Oct) : Prop where
  a : o.a < 2 ^ w
  b : o.b < 2 ^ w
  c : o.c < 2 ^ w
  d : o.d < 2 ^ w
  e : o.e < 2 ^ w
  f : o.f < 2 ^ w
  g : o.g < 2 ^ w
  h : o.h < 2 ^ w
theorem OB.rnd {s : Sha} {o : Oct} (h : OB s.w o) (k x : Nat) : OB s.w (rnd s k x o) :=
  ⟨Nat.mod_lt _ (Nat.two_pow_pos _), h.a, h.b, h.c, Nat.mod_lt _ (Nat.two_pow_pos _), h.e, h.f, h.g⟩
theorem OB.rnds {s : Sha} {b : List UInt8} {o : Oct} (h : OB s.w o) : ∀ t, OB s.w (rnds s b o t)
  | 0 => h
  | t + 1 => (OB.rnds h t).rnd _ _
theorem OB.add8 (w : Nat) (o p : Oct) : OB w (add8 w o p) := by
  constructor <;> exact Nat.mod_lt _ (Nat.two_pow_pos _)
theorem OB.turnw (s : Sha) (o : Oct) (b : List UInt8) : OB s.w (turnw s o b) := OB.add8 _ _ _

/-! ### The other spellings -/
theorem ch_or {w e f g : Nat} (he : e < 2 ^ w) : (e &&& f) ||| ((2 ^ w - 1 - e) &&& g) = chw w e f g := by
  unfold chw
  apply Nat.eq_of_testBit_eq
  intro i
  simp only [Nat.testBit_or, Nat.testBit_xor, Nat.testBit_and]
  have h := Nat.testBit_two_pow_sub_succ he i
  rw [show 2 ^ w - 1 - e = 2 ^ w - (e + 1) by omega, h]
  cases e.testBit i <;> cases f.testBit i <;> cases g.testBit i <;> simp
theorem ma_or (a b c : Nat) : (a &&& b) ||| (a &&& c) ||| (b &&& c) = maw a b c := by
  unfold maw
  apply Nat.eq_of_testBit_eq
  intro i
  simp only [Nat.testBit_or, Nat.testBit_xor, Nat.testBit_and]
  cases a.testBit i <;> cases b.testBit i <;> cases c.testBit i <;> rfl

/-! ### The whole message -/
/-- Block behind block. -/
def runw (s : Sha) (B : Nat) (o : Oct) (l : List UInt8) : Oct :=
  if _h : B = 0 ∨ l.length < B then o else runw s B (turnw s o (l.take B)) (l.drop B)
termination_by l.length
decreasing_by
  rw [List.length_drop]
  omega
theorem runw_short {s : Sha} {B : Nat} {o : Oct} {l : List UInt8} (h : l.length < B) : runw s B o l = o := by
  rw [runw, dif_pos (.inr h)]
theorem runw_block {s : Sha} {B : Nat} {o : Oct} {b l : List UInt8} (hB : 0 < B) (h : b.length = B) : runw s B o (b ++ l) = runw s B (turnw s o b) l := by
  rw [runw, dif_neg (by rw [List.length_append]; omega), ← h, List.take_left, List.drop_left]
/-- Whole blocks, then the rest. -/
theorem runw_append {s : Sha} {B : Nat} (hB : 0 < B) : ∀ (n : Nat) {o : Oct} {a l : List UInt8}, a.length = n * B → runw s B o (a ++ l) = runw s B (runw s B o a) l
  | 0, o, a, l, h => by
    have h0 : a = [] := List.eq_nil_of_length_eq_zero (by omega)
    subst h0
    rw [List.nil_append, runw_short (l := []) (by simpa using hB)]
  | n + 1, o, a, l, h => by
    have hl : (a.take B).length = B := by rw [List.length_take, h, Nat.add_mul]; omega
    have hd : (a.drop B).length = n * B := by rw [List.length_drop, h, Nat.add_mul]; omega
    have e : a = a.take B ++ a.drop B := (List.take_append_drop B a).symm
    rw [e, List.append_assoc, runw_block hB hl, runw_block hB hl, runw_append hB n hd]
/-- Eight bytes of a number, the greatest first. -/
def be64 (v : Nat) : List UInt8 := (bytes 8 v).reverse
/-- What stands behind the message: r bytes of its last block are there, it has v bits. -/
def tailw (B r v : Nat) : List UInt8 := 128 :: (List.replicate ((if r + 1 ≤ B - B / 8 then B else 2 * B) - 9 - r) 0 ++ be64 v)
/-- The digest's words. -/
def sumw (s : Sha) (m : List UInt8) : Oct := runw s (2 * s.w) (⟨s.start[0]!, s.start[1]!, s.start[2]!, s.start[3]!, s.start[4]!, s.start[5]!, s.start[6]!, s.start[7]!⟩) (m ++ tailw (2 * s.w) (m.length % (2 * s.w)) (8 * m.length))
/-- A word's bytes, the greatest first. -/
def layw (s : Sha) (x : Nat) : List UInt8 := (bytes (s.w / 8) x).reverse
def digest (s : Sha) (m : List UInt8) : List UInt8 := ((sumw s m).list.map (layw s)).flatten
end Nums
/-
  PLAIN NUMBERS: pairs of keys and values in their order, keys' bits, the root of pairs. No program is imported.
-/
namespace Nums

/-- A key's bit. -/
def bitT (k : List UInt8) (n : Nat) : Nat := (k[n / 8]!).toNat / 2 ^ (7 - n % 8) % 2
/-- Byte by byte. -/
def lessT : List UInt8 → List UInt8 → Bool
  | a :: az, b :: bs => if a = b then lessT az bs else decide (a.toNat < b.toNat)
  | _, _ => false
abbrev PairT := List UInt8 × List UInt8
def putT : List PairT → PairT → List PairT
  | [], p => [p]
  | q :: r, p => if lessT q.1 p.1 then q :: putT r p else if q.1 = p.1 then p :: r else p :: q :: r
def getT (l : List PairT) (k : List UInt8) : Option (List UInt8) := (l.find? fun q => q.1 == k).map (·.2)
def z32T : List UInt8 := List.replicate 32 0
def leafT (p : PairT) : List UInt8 := digest s256 (0 :: (p.1 ++ p.2))
def nodeT (a b : List UInt8) : List UInt8 := digest s256 (1 :: (a ++ b))
/-- The root of pairs whose keys have r bits left. -/
def rootT : Nat → List PairT → List UInt8
  | _, [] => z32T
  | _, [p] => leafT p
  | 0, _ :: _ :: _ => z32T
  | r + 1, p :: q :: l => nodeT (rootT r ((p :: q :: l).filter fun x => bitT x.1 (255 - r) == 0)) (rootT r ((p :: q :: l).filter fun x => bitT x.1 (255 - r) != 0))

/-! ### The order -/
theorem lessT_irrefl : ∀ a : List UInt8, lessT a a = false
  | [] => rfl
  | a :: az => by unfold lessT; rw [if_pos rfl]; exact lessT_irrefl az
theorem lessT_trans : ∀ {a b c : List UInt8}, lessT a b = true → lessT b c = true → lessT a c = true
  | [], _, _, h, _ => by cases ‹List UInt8› <;> cases h
  | _ :: _, [], _, h, _ => by cases h
  | _ :: _, _ :: _, [], _, h => by cases h
  | a :: az, b :: bs, c :: cs, h, k => by
    unfold lessT at h k ⊢
    by_cases e1 : a = b
    · subst e1
      rw [if_pos rfl] at h
      by_cases e2 : a = c
      · rw [if_pos e2] at k ⊢
        exact lessT_trans h k
      · rw [if_neg e2] at k ⊢
        exact k
    · rw [if_neg e1] at h
      have h := of_decide_eq_true h
      by_cases e2 : b = c
      · subst e2
        rw [if_neg e1]
        exact decide_eq_true h
      · rw [if_neg e2] at k
        have k := of_decide_eq_true k
        have e3 : a ≠ c := fun e => by subst e; omega
        rw [if_neg e3]
        exact decide_eq_true (by omega)
theorem lessT_total : ∀ {a b : List UInt8}, a.length = b.length → lessT a b = false → a ≠ b → lessT b a = true
  | [], [], _, _, h => absurd rfl h
  | [], _ :: _, h, _, _ => by cases h
  | _ :: _, [], h, _, _ => by cases h
  | a :: az, b :: bs, hl, h, hn => by
    unfold lessT at h ⊢
    by_cases e : a = b
    · subst e
      rw [if_pos rfl] at h ⊢
      exact lessT_total (by simpa using hl) h fun e => hn (by rw [e])
    · rw [if_neg e] at h
      rw [if_neg fun x => e x.symm]
      have h := of_decide_eq_false h
      have : a.toNat ≠ b.toNat := fun x => e (UInt8.toNat_inj.1 x)
      exact decide_eq_true (by omega)
theorem lessT_asymm {a b : List UInt8} (h : lessT a b = true) : lessT b a = false := by
  cases hb : lessT b a with
  | false => rfl
  | true => have := lessT_trans h hb; rw [lessT_irrefl] at this; cases this

/-! ### Pairs in their order -/
def SortT (l : List PairT) : Prop := l.Pairwise fun p q => lessT p.1 q.1 = true
/-- Keys are whole. -/
def KeysT (l : List PairT) : Prop := ∀ p ∈ l, p.1.length = 32
theorem SortT.cons {p : PairT} {l : List PairT} : SortT (p :: l) ↔ (∀ q ∈ l, lessT p.1 q.1 = true) ∧ SortT l := List.pairwise_cons
theorem SortT.filter {l : List PairT} (h : SortT l) (f : PairT → Bool) : SortT (l.filter f) := List.Pairwise.filter f h
theorem KeysT.filter {l : List PairT} (h : KeysT l) (f : PairT → Bool) : KeysT (l.filter f) := fun p hp => h p (List.mem_filter.1 hp).1
/-- The order tells the list. -/
theorem SortT.ext : ∀ {l m : List PairT}, SortT l → SortT m → (∀ p, p ∈ l ↔ p ∈ m) → l = m
  | [], [], _, _, _ => rfl
  | [], q :: m, _, _, h => absurd ((h q).2 List.mem_cons_self) (by simp)
  | p :: l, [], _, _, h => absurd ((h p).1 List.mem_cons_self) (by simp)
  | p :: l, q :: m, hl, hm, h => by
    obtain ⟨h1, h2⟩ := SortT.cons.1 hl
    obtain ⟨k1, k2⟩ := SortT.cons.1 hm
    have e : p = q := by
      rcases List.mem_cons.1 ((h p).1 List.mem_cons_self) with e | hp
      · exact e
      · rcases List.mem_cons.1 ((h q).2 List.mem_cons_self) with e | hq
        · exact e.symm
        · have a := h1 q hq
          rw [lessT_asymm (k1 p hp)] at a
          cases a
    subst e
    refine congrArg (p :: ·) (SortT.ext h2 k2 fun x => ⟨fun hx => ?_, fun hx => ?_⟩)
    · rcases List.mem_cons.1 ((h x).1 (List.mem_cons_of_mem _ hx)) with e | hx2
      · subst e
        have a := h1 x hx
        rw [lessT_irrefl] at a
        cases a
      · exact hx2
    · rcases List.mem_cons.1 ((h x).2 (List.mem_cons_of_mem _ hx)) with e | hx2
      · subst e
        have a := k1 x hx
        rw [lessT_irrefl] at a
        cases a
      · exact hx2
/-- One key, one pair. -/
theorem SortT.key {l : List PairT} (h : SortT l) {p q : PairT} (hp : p ∈ l) (hq : q ∈ l) (e : p.1 = q.1) : p = q := by
  induction l with
  | nil => cases hp
  | cons x l ih =>
    obtain ⟨h1, h2⟩ := SortT.cons.1 h
    rcases List.mem_cons.1 hp with e1 | hp2 <;> rcases List.mem_cons.1 hq with e2 | hq2
    · rw [e1, e2]
    · have := h1 q hq2
      rw [← e1, ← e, lessT_irrefl] at this
      cases this
    · have := h1 p hp2
      rw [← e2, e, lessT_irrefl] at this
      cases this
    · exact ih h2 hp2 hq2
theorem putT_mem : ∀ {l : List PairT} {p : PairT}, SortT l → KeysT l → p.1.length = 32 → ∀ x, x ∈ putT l p ↔ x = p ∨ (x ∈ l ∧ x.1 ≠ p.1)
  | [], p, _, _, _, x => by simp [putT]
  | q :: l, p, hs, hk, hp, x => by
    obtain ⟨h1, h2⟩ := SortT.cons.1 hs
    have hq : q.1.length = 32 := hk q List.mem_cons_self
    have hkl : KeysT l := fun y hy => hk y (List.mem_cons_of_mem _ hy)
    unfold putT
    by_cases h : lessT q.1 p.1 = true
    · rw [if_pos h, List.mem_cons, putT_mem h2 hkl hp x, List.mem_cons]
      have hne : q.1 ≠ p.1 := fun e => by rw [e, lessT_irrefl] at h; cases h
      constructor
      · rintro (rfl | rfl | ⟨a, b⟩)
        · exact .inr ⟨.inl rfl, hne⟩
        · exact .inl rfl
        · exact .inr ⟨.inr a, b⟩
      · rintro (rfl | ⟨rfl | a, b⟩)
        · exact .inr (.inl rfl)
        · exact .inl rfl
        · exact .inr (.inr ⟨a, b⟩)
    · rw [if_neg h]
      by_cases e : q.1 = p.1
      · rw [if_pos e, List.mem_cons, List.mem_cons]
        constructor
        · rintro (rfl | a)
          · exact .inl rfl
          · exact .inr ⟨.inr a, fun e2 => by have := h1 x a; rw [e, e2, lessT_irrefl] at this; cases this⟩
        · rintro (rfl | ⟨rfl | a, b⟩)
          · exact .inl rfl
          · exact absurd e b
          · exact .inr a
      · rw [if_neg e, List.mem_cons, List.mem_cons]
        have hgt := lessT_total (by rw [hq, hp]) (by simpa using h) e
        constructor
        · rintro (rfl | rfl | a)
          · exact .inl rfl
          · exact .inr ⟨.inl rfl, e⟩
          · exact .inr ⟨.inr a, fun e2 => by have := lessT_trans hgt (h1 x a); rw [e2, lessT_irrefl] at this; cases this⟩
        · rintro (rfl | ⟨rfl | a, b⟩)
          · exact .inl rfl
          · exact .inr (.inl rfl)
          · exact .inr (.inr a)
theorem putT_sort : ∀ {l : List PairT} {p : PairT}, SortT l → KeysT l → p.1.length = 32 → SortT (putT l p)
  | [], p, _, _, _ => by simp [putT, SortT]
  | q :: l, p, hs, hk, hp => by
    obtain ⟨h1, h2⟩ := SortT.cons.1 hs
    have hq : q.1.length = 32 := hk q List.mem_cons_self
    have hkl : KeysT l := fun y hy => hk y (List.mem_cons_of_mem _ hy)
    unfold putT
    by_cases h : lessT q.1 p.1 = true
    · rw [if_pos h]
      refine SortT.cons.2 ⟨fun x hx => ?_, putT_sort h2 hkl hp⟩
      rcases (putT_mem h2 hkl hp x).1 hx with rfl | hx
      · exact h
      · exact h1 x hx.1
    · rw [if_neg h]
      by_cases e : q.1 = p.1
      · rw [if_pos e]
        exact SortT.cons.2 ⟨fun x hx => by rw [← e]; exact h1 x hx, h2⟩
      · rw [if_neg e]
        have hgt := lessT_total (by rw [hq, hp]) (by simpa using h) e
        refine SortT.cons.2 ⟨fun x hx => ?_, hs⟩
        rcases List.mem_cons.1 hx with rfl | hx
        · exact hgt
        · exact lessT_trans hgt (h1 x hx)
theorem getT_some {l : List PairT} {k v : List UInt8} (hs : SortT l) : getT l k = some v ↔ (k, v) ∈ l := by
  unfold getT
  constructor
  · intro h
    cases hf : l.find? (fun q => q.1 == k) with
    | none => rw [hf] at h; cases h
    | some q =>
      rw [hf] at h
      simp only [Option.map_some, Option.some.injEq] at h
      have h1 := List.find?_some hf
      have h2 := List.mem_of_find?_eq_some hf
      have e : q.1 = k := by simpa using h1
      subst e
      subst h
      exact h2
  · intro h
    cases hf : l.find? (fun q => q.1 == k) with
    | none =>
      have := List.find?_eq_none.1 hf (k, v) h
      simp at this
    | some q =>
      have h1 := List.find?_some hf
      have h2 := List.mem_of_find?_eq_some hf
      have e : q.1 = k := by simpa using h1
      have := hs.key h2 h e
      subst this
      rfl
theorem getT_none {l : List PairT} {k : List UInt8} : getT l k = none ↔ ∀ q ∈ l, q.1 ≠ k := by
  unfold getT
  rw [Option.map_eq_none_iff, List.find?_eq_none]
  simp

/-! ### Bits -/
theorem bitT_lt (k : List UInt8) (n : Nat) : bitT k n < 2 := Nat.mod_lt _ (by decide)
/-- Bytes whose bits are one and the same are so. -/
theorem byte_bits (a b : Nat) (ha : a < 256) (hb : b < 256) (h : ∀ j, j < 8 → a / 2 ^ (7 - j) % 2 = b / 2 ^ (7 - j) % 2) : a = b := by
  have h0 := h 0 (by decide)
  have h1 := h 1 (by decide)
  have h2 := h 2 (by decide)
  have h3 := h 3 (by decide)
  have h4 := h 4 (by decide)
  have h5 := h 5 (by decide)
  have h6 := h 6 (by decide)
  have h7 := h 7 (by decide)
  simp only [Nat.reduceSub, Nat.reducePow] at h0 h1 h2 h3 h4 h5 h6 h7
  omega
theorem bitT_byte (k : List UInt8) (i j : Nat) (hj : j < 8) : bitT k (8 * i + j) = (k[i]!).toNat / 2 ^ (7 - j) % 2 := by
  unfold bitT
  rw [show (8 * i + j) / 8 = i by omega, show (8 * i + j) % 8 = j by omega]
/-- The first d bits are the same. -/
def ShareT (d : Nat) (a b : List UInt8) : Prop := ∀ n, n < d → bitT a n = bitT b n
theorem ShareT.all {a b : List UInt8} (ha : a.length = 32) (hb : b.length = 32) (h : ShareT 256 a b) : a = b := by
  apply List.ext_getElem (by rw [ha, hb])
  intro i h1 h2
  have e := byte_bits (a[i]!).toNat (b[i]!).toNat (UInt8.toNat_lt _) (UInt8.toNat_lt _) fun j hj => by
    rw [← bitT_byte a i j hj, ← bitT_byte b i j hj]
    exact h _ (by omega)
  have e := UInt8.toNat_inj.1 e
  rw [getElem!_pos a i h1, getElem!_pos b i h2] at e
  exact e
/-- Keys that share their first d bits. -/
def SharesT (d : Nat) (l : List PairT) : Prop := ∀ p ∈ l, ∀ q ∈ l, ShareT d p.1 q.1
def leftT (d : Nat) (l : List PairT) : List PairT := l.filter fun x => bitT x.1 d == 0
def rightT (d : Nat) (l : List PairT) : List PairT := l.filter fun x => bitT x.1 d != 0
theorem leftT_mem {d : Nat} {l : List PairT} {x : PairT} : x ∈ leftT d l ↔ x ∈ l ∧ bitT x.1 d = 0 := by simp [leftT]
theorem rightT_mem {d : Nat} {l : List PairT} {x : PairT} : x ∈ rightT d l ↔ x ∈ l ∧ bitT x.1 d ≠ 0 := by simp [rightT]
theorem SharesT.left {d : Nat} {l : List PairT} (h : SharesT d l) : SharesT (d + 1) (leftT d l) := fun p hp q hq n hn => by
  obtain ⟨hp, bp⟩ := leftT_mem.1 hp
  obtain ⟨hq, bq⟩ := leftT_mem.1 hq
  by_cases e : n = d
  · subst e; rw [bp, bq]
  · exact h p hp q hq n (by omega)
theorem SharesT.right {d : Nat} {l : List PairT} (h : SharesT d l) : SharesT (d + 1) (rightT d l) := fun p hp q hq n hn => by
  obtain ⟨hp, bp⟩ := rightT_mem.1 hp
  obtain ⟨hq, bq⟩ := rightT_mem.1 hq
  by_cases e : n = d
  · subst e
    have := bitT_lt p.1 n
    have := bitT_lt q.1 n
    omega
  · exact h p hp q hq n (by omega)
/-- At the end one pair is left. -/
theorem SharesT.one {l : List PairT} (hs : SortT l) (hk : KeysT l) (h : SharesT 256 l) : l.length ≤ 1 := by
  match l, hs, hk, h with
  | [], _, _, _ => decide
  | [_], _, _, _ => exact Nat.le_refl _
  | p :: q :: l, hs, hk, h =>
    have e := (h p (by simp) q (by simp)).all (hk p (by simp)) (hk q (by simp))
    have := (SortT.cons.1 hs).1 q (by simp)
    rw [e, lessT_irrefl] at this
    cases this
/-- A pair is put into its side. -/
theorem putT_left {d : Nat} {l : List PairT} {p : PairT} (hs : SortT l) (hk : KeysT l) (hp : p.1.length = 32) : leftT d (putT l p) = if bitT p.1 d = 0 then putT (leftT d l) p else leftT d l := by
  refine SortT.ext ((putT_sort hs hk hp).filter _) (by split; exact putT_sort (hs.filter _) (hk.filter _) hp; exact hs.filter _) fun x => ?_
  rw [leftT_mem, putT_mem hs hk hp]
  split
  · rename_i e
    rw [putT_mem (l := leftT d l) (hs.filter _) (hk.filter _) hp, leftT_mem]
    constructor
    · rintro ⟨rfl | ⟨a, b⟩, c⟩
      · exact .inl rfl
      · exact .inr ⟨⟨a, c⟩, b⟩
    · rintro (rfl | ⟨⟨a, c⟩, b⟩)
      · exact ⟨.inl rfl, e⟩
      · exact ⟨.inr ⟨a, b⟩, c⟩
  · rename_i e
    rw [leftT_mem]
    constructor
    · rintro ⟨rfl | ⟨a, b⟩, c⟩
      · exact absurd c e
      · exact ⟨a, c⟩
    · rintro ⟨a, c⟩
      exact ⟨.inr ⟨a, fun e2 => e (by rw [← e2]; exact c)⟩, c⟩
theorem putT_right {d : Nat} {l : List PairT} {p : PairT} (hs : SortT l) (hk : KeysT l) (hp : p.1.length = 32) : rightT d (putT l p) = if bitT p.1 d = 0 then rightT d l else putT (rightT d l) p := by
  refine SortT.ext ((putT_sort hs hk hp).filter _) (by split; exact hs.filter _; exact putT_sort (hs.filter _) (hk.filter _) hp) fun x => ?_
  rw [rightT_mem, putT_mem hs hk hp]
  split
  · rename_i e
    rw [rightT_mem]
    constructor
    · rintro ⟨rfl | ⟨a, b⟩, c⟩
      · exact absurd e c
      · exact ⟨a, c⟩
    · rintro ⟨a, c⟩
      exact ⟨.inr ⟨a, fun e2 => c (by rw [e2]; exact e)⟩, c⟩
  · rename_i e
    rw [putT_mem (l := rightT d l) (hs.filter _) (hk.filter _) hp, rightT_mem]
    constructor
    · rintro ⟨rfl | ⟨a, b⟩, c⟩
      · exact .inl rfl
      · exact .inr ⟨⟨a, c⟩, b⟩
    · rintro (rfl | ⟨⟨a, c⟩, b⟩)
      · exact ⟨.inl rfl, e⟩
      · exact ⟨.inr ⟨a, b⟩, c⟩
/-- The root of more than one pair. -/
theorem rootT_node {r : Nat} {l : List PairT} (h : 2 ≤ l.length) : rootT (r + 1) l = nodeT (rootT r (leftT (255 - r) l)) (rootT r (rightT (255 - r) l)) := by
  match l, h with
  | p :: q :: l, _ => rfl
theorem rootT_nil (r : Nat) : rootT r [] = z32T := by cases r <;> rfl
theorem rootT_one (r : Nat) (p : PairT) : rootT r [p] = leafT p := by cases r <;> rfl
theorem putT_get {l : List PairT} {p : PairT} (hs : SortT l) (hk : KeysT l) (hp : p.1.length = 32) (k : List UInt8) : getT (putT l p) k = if k = p.1 then some p.2 else getT l k := by
  have hs1 := putT_sort hs hk hp
  split
  · rename_i e
    subst e
    exact (getT_some hs1).2 ((putT_mem hs hk hp _).2 (.inl rfl))
  · rename_i e
    cases h : getT l k with
    | some v =>
      have h := (getT_some hs).1 h
      exact (getT_some hs1).2 ((putT_mem hs hk hp _).2 (.inr ⟨h, e⟩))
    | none =>
      refine getT_none.2 fun q hq e2 => ?_
      rcases (putT_mem hs hk hp q).1 hq with rfl | ⟨a, _⟩
      · exact e e2.symm
      · exact getT_none.1 h q a e2
end Nums
/-
  THE DOCUMENT'S TREE: a key's bit; is a key ahead of another one.
-/
namespace Go.Proofs.YtoecohpcnojokaaDoor
open Go.RowKit Go.IntWalk Nums

theorem own_rbit9 : Own 31 := fun _ _ => by go_simp
theorem own_rless9 : Own 44 := fun _ _ => by go_simp
theorem row_at {n : Nat} {l : List UInt8} {j : Nat} (hj : j < l.length) : (catP [.agg n (By l).toArray])[0 + 1 * j]? = some (.int .u8 ((l[j]!).toNat : Int)) := by
  rw [Nat.zero_add, Nat.one_mul]
  show (By l).toArray[j]? = _
  exact By_get hj
theorem div_pow_succ (v i : Nat) : v / 2 ^ (i + 1) = v / 2 ^ i / 2 := by rw [Nat.pow_succ, Nat.div_div_eq_div_mul]

set_option maxRecDepth 100000 in
set_option maxHeartbeats 1000000 in
theorem rbit_S {k : List UInt8} (hk : k.length = 32) (n : Nat) (hn : n < 256) : Spec 31 [(eY 32 k).den, .int .i64 (n : Int)] [] (fun _ => True) (one (.v (.int .i64 ((bitT k n : Nat) : Int)))) := by
  refine spec_S [eY 32 k, .c (.v (.int .i64 (n : Int)))] 23 Tryd.func31 rfl (by rw [Tryd.ntmps31]; rfl) (two_ok (eY_ok hk).1 trivial) fun b => ?_
  refine s_auto TY_ok rfl ?_
  refine s_regA TY_ok rfl fun K hK => ?_
  refine l_num 8 ((n / 8 : Nat) : Int) rfl (wrapQ n 8 (by omega)) ?_
  refine l_op (.a 2 (0 + 1 * (n / 8))) trivial rfl rfl rfl (runO_ixA (n / 8) rfl Tryd.underlying38 rfl rfl rfl (by omega)) ?_
  refine l_opV (.v (.int .u8 ((k[n / 8]!).toNat : Int))) trivial rfl rfl rfl (runO_ldA _ rfl rfl rfl (row_at (by omega)) Tryd.underlying5 rfl) ?_
  refine l_autoS TY_ok rfl ?_
  have hlt := (k[n / 8]!).toNat_lt
  generalize hv : (k[n / 8]!).toNat = v at *
  refine l_num 5 (v : Int) rfl (wrapI rfl (by omega) (by omega)) ?_
  refine s_end (hK _ ?_)
  have hrem : IntKind.i64.wrap (7 - (n : Int).tmod 8) = ((7 - n % 8 : Nat) : Int) := wrapI (by rw [Int.tmod_eq_emod_of_nonneg (by omega)]; omega) (by omega) (by omega)
  refine s_seq fun Kl hKl => ?_
  refine s_auto TY_ok rfl ?_
  refine s_block ?_
  let F : Nat → Env := fun i => ⟨[(6, .v (.int .i64 (i : Int))), (5, .v (.int .i64 ((v / 2 ^ i : Nat) : Int))), (1, .v (.int .i64 (n : Int)))], [], [], fun _ => True, fun _ => True⟩
  refine c_weak (e' := F 0) ⟨⟨rfl, congrArg some (congrArg SV.v (congrArg (Value.int .i64) (by rw [Nat.pow_zero, Nat.div_one]))), rfl, trivial⟩, trivial, .refl _, fun _ _ _ => trivial, fun _ _ => trivial⟩ (s_loop (fun i => 7 - n % 8 - i) F (fun i => i ≤ 7 - n % 8) ?_ 0 (Nat.zero_le _))
  intro i hi
  refine s_seq fun K1 hK1 => ?_
  refine s_auto TY_ok rfl ?_
  refine s_ifD ((i : Int) < IntKind.i64.wrap (7 - (n : Int).tmod 8)) rfl (fun hlt2 => ?_) (fun hge => ?_)
  · rw [hrem] at hlt2
    have hil : i < 7 - n % 8 := by omega
    refine s_skip (hK1 _ ?_)
    refine s_seq fun K4 hK4 => ?_
    refine s_block ?_
    refine s_autoE TY_ok rfl ?_
    refine hK4 _ ?_
    refine s_autoE TY_ok rfl ?_
    have hb : v / 2 ^ i ≤ v := Nat.div_le_self _ _
    exact k_next (i + 1) hil (by omega) ⟨⟨congrArg some (congrArg SV.v (congrArg (Value.int .i64) (wrapI rfl (by omega) (by omega)))), congrArg some (congrArg SV.v (congrArg (Value.int .i64) (by rw [div_pow_succ]; exact wrapQ (v / 2 ^ i) 2 (by omega)))), rfl, trivial⟩, trivial, .refl _, fun _ _ _ => trivial, fun _ _ => trivial⟩
  · rw [hrem] at hge
    obtain rfl : i = 7 - n % 8 := by omega
    refine s_exit (k_pass (k_pass (k_out ?_)))
    refine hKl _ ?_
    have hb : v / 2 ^ (7 - n % 8) ≤ v := Nat.div_le_self _ _
    refine s_auto TY_ok rfl ?_
    have hbit : bitT k n = v / 2 ^ (7 - n % 8) % 2 := by unfold bitT; rw [hv]
    exact s_ret (k_retD TY_ok () rfl (by decide) rfl (by
      show Value.int .i64 ((bitT k n : Nat) : Int) = Value.int .i64 (((v / 2 ^ (7 - n % 8) : Nat) : Int).tmod 2)
      exact congrArg (Value.int .i64) (by rw [hbit]; generalize v / 2 ^ (7 - n % 8) = z; rw [Int.tmod_eq_emod_of_nonneg (Int.natCast_nonneg z)]; omega)) trivial rfl (fun _ _ _ => trivial) (fun _ _ => trivial))

/-- The first byte that isn't the same. -/
theorem lessT_take : ∀ (i : Nat) {a b : List UInt8}, i < a.length → i < b.length → a.take i = b.take i → a[i]! ≠ b[i]! → lessT a b = decide ((a[i]!).toNat < (b[i]!).toNat)
  | _, [], _, h, _, _, _ => by cases h
  | _, _ :: _, [], _, h, _, _ => by cases h
  | 0, a :: p, b :: q, _, _, _, h => by
    have h : a ≠ b := h
    show (if a = b then _ else _) = _
    rw [if_neg h]
    rfl
  | i + 1, a :: p, b :: q, ha, hb, ht, h => by
    simp only [List.take_succ_cons, List.cons.injEq] at ht
    show (if a = b then _ else _) = _
    rw [if_pos ht.1]
    exact lessT_take i (a := p) (b := q) (by simpa using ha) (by simpa using hb) ht.2 h
theorem take_moreT {i : Nat} {a b : List UInt8} (ha : i < a.length) (hb : i < b.length) (ht : a.take i = b.take i) (h : a[i]! = b[i]!) : a.take (i + 1) = b.take (i + 1) := by
  rw [List.take_succ_eq_append_getElem ha, List.take_succ_eq_append_getElem hb, ht]
  rw [getElem!_pos a i ha, getElem!_pos b i hb] at h
  rw [h]
set_option maxRecDepth 100000 in
set_option maxHeartbeats 1000000 in
theorem rless_S {x y : List UInt8} (hx : x.length = 32) (hy : y.length = 32) : Spec 44 [(eY 32 x).den, (eY 32 y).den] [] (fun _ => True) (one (.q (.c (.b (lessT x y))))) := by
  refine spec_S [eY 32 x, eY 32 y] 24 Tryd.func44 rfl (by rw [Tryd.ntmps44]; rfl) (two_ok (eY_ok hx).1 (eY_ok hy).1) fun b => ?_
  refine s_auto TY_ok rfl ?_
  refine s_seq fun K hK => ?_
  refine s_auto TY_ok rfl ?_
  refine s_block ?_
  let F : Nat → Env := fun i => ⟨[(6, .v (.int .i64 (i : Int))), (2, .a 2 0), (3, .a 3 0)], [⟨3, none, 38, [.agg 32 (By y).toArray]⟩, ⟨2, none, 38, [.agg 32 (By x).toArray]⟩], [], fun _ => True, fun _ => True⟩
  refine c_weak (e' := F 0) ⟨⟨rfl, rfl, rfl, trivial⟩, ⟨rfl, rfl, rfl, rfl, trivial⟩, .refl _, fun _ _ _ => trivial, fun _ _ => trivial⟩ (s_loop (fun i => 32 - i) F (fun i => i ≤ 32 ∧ x.take i = y.take i) ?_ 0 ⟨Nat.zero_le _, rfl⟩)
  rintro i ⟨hi, ht⟩
  refine s_auto TY_ok rfl ?_
  refine s_seq fun K1 hK1 => ?_
  refine s_ifD ((i : Int) < 32) rfl (fun hlt => ?_) (fun hge => ?_)
  · have hil : i < 32 := by omega
    refine s_skip (hK1 _ ?_)
    refine s_seq fun K2 hK2 => ?_
    refine s_block ?_
    refine s_auto TY_ok rfl ?_
    refine s_regD 7 (by decide) (by kernel_rfl) (by kernel_rfl) fun K3 hK3 G S w0 hst => ?_
    refine g_autoS TY_ok hst rfl ?_
    refine g_opS (.a 2 (0 + 1 * i)) trivial rfl rfl rfl (runO_ixA i rfl Tryd.underlying38 rfl rfl rfl hil) ?_
    refine g_opV hst (.v (.int .u8 ((x[i]!).toNat : Int))) trivial rfl rfl rfl (runO_ldA _ rfl rfl rfl (row_at (by omega)) Tryd.underlying5 rfl) ?_
    refine g_autoS TY_ok hst rfl ?_
    refine g_opS (.a 3 (0 + 1 * i)) trivial rfl rfl rfl (runO_ixA i rfl Tryd.underlying38 rfl rfl rfl hil) ?_
    refine g_opV hst (.v (.int .u8 ((y[i]!).toNat : Int))) trivial rfl rfl rfl (runO_ldA _ rfl rfl rfl (row_at (by omega)) Tryd.underlying5 rfl) ?_
    refine g_autoS TY_ok hst rfl ?_
    refine g_endS hst ?_
    refine s_end (hK3 _ ?_)
    refine s_ifD (((x[i]!).toNat : Int) ≠ ((y[i]!).toNat : Int)) rfl (fun hne => ?_) (fun he => ?_)
    · have hne : x[i]! ≠ y[i]! := fun e => hne (by rw [e])
      refine s_regD 7 (by decide) (by kernel_rfl) (by kernel_rfl) fun K4 hK4 G S w0 hst => ?_
      refine g_autoS TY_ok hst rfl ?_
      refine g_opS (.a 2 (0 + 1 * i)) trivial rfl rfl rfl (runO_ixA i rfl Tryd.underlying38 rfl rfl rfl hil) ?_
      refine g_opV hst (.v (.int .u8 ((x[i]!).toNat : Int))) trivial rfl rfl rfl (runO_ldA _ rfl rfl rfl (row_at (by omega)) Tryd.underlying5 rfl) ?_
      refine g_autoS TY_ok hst rfl ?_
      refine g_opS (.a 3 (0 + 1 * i)) trivial rfl rfl rfl (runO_ixA i rfl Tryd.underlying38 rfl rfl rfl hil) ?_
      refine g_opV hst (.v (.int .u8 ((y[i]!).toNat : Int))) trivial rfl rfl rfl (runO_ldA _ rfl rfl rfl (row_at (by omega)) Tryd.underlying5 rfl) ?_
      refine g_autoS TY_ok hst rfl ?_
      refine g_endS hst ?_
      refine l_autoS TY_ok rfl ?_
      refine s_end (hK4 _ ?_)
      exact s_ret (k_retD TY_ok () rfl (by decide) rfl (by
        rw [lessT_take i (by omega) (by omega) ht hne]
        show Value.bool _ = Value.bool _
        congr 1
        exact decide_eq_decide.2 (by omega)) trivial rfl (fun _ _ _ => trivial) (fun _ _ => trivial))
    · have he : x[i]! = y[i]! := UInt8.toNat_inj.1 (by omega)
      refine s_skip (hK2 _ ?_)
      refine s_autoE TY_ok rfl ?_
      exact k_next (i + 1) ⟨hil, take_moreT (by omega) (by omega) ht he⟩ (by omega) ⟨⟨congrArg some (congrArg SV.v (congrArg (Value.int .i64) (wrapI rfl (by omega) (by omega)))), rfl, rfl, trivial⟩, ⟨rfl, rfl, rfl, rfl, trivial⟩, .refl _, fun _ _ _ => trivial, fun _ _ => trivial⟩
  · obtain rfl : i = 32 := by omega
    have e : x = y := by
      rw [List.take_of_length_le (by omega), List.take_of_length_le (by omega)] at ht
      exact ht
    refine s_exit (k_pass (k_pass (k_out ?_)))
    refine hK _ ?_
    refine s_auto TY_ok rfl ?_
    exact s_ret (k_retD TY_ok () rfl (by decide) rfl (by rw [e, lessT_irrefl]; rfl) trivial rfl (fun _ _ _ => trivial) (fun _ _ => trivial))
end Go.Proofs.YtoecohpcnojokaaDoor
/-
  THE DOCUMENT'S TREE: the value of a key; pairs with one more.
-/
namespace Go.Proofs.YtoecohpcnojokaaDoor
open Go.RowKit Go.IntWalk Nums

theorem own_rput9 : Own 25 := fun _ _ => by go_simp
/-- A pair's cells. -/
def eP (p : PairT) : SQ := .p [.agg 32 (By p.1).toArray, .agg 32 (By p.2).toArray]
def OkT2 (p : PairT) : Prop := p.1.length = 32 ∧ p.2.length = 32
theorem eP_ok {p : PairT} (h : OkT2 p) : OkP (eP p).parts1 ∧ (eP p).cl.length = 64 := by
  have h1 : (By p.1).toArray.size = 32 := by rw [List.size_toArray, By_len, h.1]
  have h2 : (By p.2).toArray.size = 32 := by rw [List.size_toArray, By_len, h.2]
  refine ⟨fun q hq => ?_, ?_⟩
  · rcases List.mem_cons.1 hq with rfl | hq
    · exact ⟨h1, By_one p.1⟩
    · rw [List.mem_singleton.1 hq]
      exact ⟨h2, By_one p.2⟩
  · rw [SQ.cl, Array.length_toList]
    show (catP [Pt.agg 32 (By p.1).toArray, .agg 32 (By p.2).toArray]).size = 64
    rw [catP_cons, Array.size_append]
    simp [Pt.cells, catP, By_len, h.1, h.2]
theorem eP_len {p : PairT} (h : OkP (eP p).parts1) : OkT2 p := by
  have h1 := (h (.agg 32 (By p.1).toArray) (by simp [eP, SQ.parts1])).1
  have h2 := (h (.agg 32 (By p.2).toArray) (by simp [eP, SQ.parts1])).1
  rw [List.size_toArray, By_len] at h1 h2
  exact ⟨h1, h2⟩
def retG : Option (List UInt8) → RV
  | some v => .t [eY 32 v, .c (.v (.bool true))]
  | none => .t [eY 32 z32T, .c (.v (.bool false))]
/-- What comes of the pairs that are left. -/
def finT (o : List PairT) (d : Bool) (r : List PairT) (p : PairT) : List PairT := if d then o ++ r else o ++ putT r p
theorem finT_done (o r : List PairT) (q p : PairT) : finT o true (q :: r) p = finT (o ++ [q]) true r p := by simp [finT]
theorem finT_less {o r : List PairT} {q p : PairT} (h : lessT q.1 p.1 = true) : finT o false (q :: r) p = finT (o ++ [q]) false r p := by
  simp [finT, putT, h]
theorem finT_same {o r : List PairT} {q p : PairT} (e : q.1 = p.1) : finT o false (q :: r) p = finT (o ++ [p]) true r p := by
  have h2 : lessT p.1 p.1 = false := lessT_irrefl _
  simp [finT, putT, h2, e]
theorem finT_new {o r : List PairT} {q p : PairT} (h : lessT q.1 p.1 = false) (e : q.1 ≠ p.1) : finT o false (q :: r) p = finT (o ++ [p] ++ [q]) true r p := by
  simp [finT, putT, h, e]
abbrev PX := Option Addr × Nat
set_option maxRecDepth 100000 in
set_option maxHeartbeats 4000000 in
theorem rput_S {A : Option Addr} {c : Nat} (l : List PairT) {p : PairT} (hp : OkT2 p) (hl : l.length ≤ 1000000) : Spec 25 [.slice A l.length c, (eP p).den] [] (Rd 64 eP A c l) { ret := fun x : PX => .v (.slice x.1 (putT l p).length x.2), own := fun _ => [], n := fun x => Rd 64 eP x.1 x.2 (putT l p) } := by
  refine spec_S [.c (.v (.slice A l.length c)), eP p] 46 Tryd.func25 rfl (by rw [Tryd.ntmps25]; rfl) (two_ok trivial (eP_ok hp).1) fun b => ?_
  refine s_pure (∀ x ∈ l, OkT2 x) (fun _ h _ => fun x hx => eP_len (h.2.2.2.1 x hx).1) fun hs => ?_
  refine s_auto TY_ok rfl ?_
  refine s_auto TY_ok rfl ?_
  refine s_auto TY_ok rfl ?_
  refine s_nil0 b.B.heap.size 42 64 eP ?_
  refine s_seq fun K hK => ?_
  refine s_auto TY_ok rfl ?_
  refine s_block ?_
  let F : Nat × List PairT × Bool × Option Addr × Nat → Env := fun ⟨i, o, d, B, e⟩ => ⟨[(11, .v (.int .i64 (i : Int))), (10, .v (.int .i64 (l.length : Int))), (9, .v (.slice A l.length c)), (5, .v (.slice B o.length e)), (6, .v (.bool d)), (3, .a 3 0)], [⟨3, none, 42, [.agg 32 (By p.1).toArray, .agg 32 (By p.2).toArray]⟩], [OwnS b.B.heap.size 42 64 eP B e o], Rd 64 eP A c l, fun _ => True⟩
  refine c_weak (e' := F (0, [], false, none, 0)) ⟨⟨rfl, rfl, rfl, rfl, rfl, rfl, trivial⟩, ⟨rfl, rfl, trivial⟩, .refl _, fun _ h _ => h, fun _ _ => trivial⟩ (s_loop (fun x => l.length - x.1) F (fun x => x.1 ≤ l.length ∧ x.2.1.length ≤ x.1 + x.2.2.1.toNat ∧ finT x.2.1 x.2.2.1 (l.drop x.1) p = putT l p) ?_ (0, [], false, none, 0) ⟨Nat.zero_le _, Nat.zero_le _, rfl⟩)
  rintro ⟨i, o, d, B, e⟩ ⟨hi, ho, hf⟩
  dsimp only at hi ho hf
  have hd0 : d.toNat ≤ 1 := Bool.toNat_le d
  refine s_auto TY_ok rfl ?_
  refine s_seq fun K1 hK1 => ?_
  refine s_ifD ((i : Int) < (l.length : Int)) rfl (fun hlt => ?_) (fun hge => ?_)
  · have hlt : i < l.length := by omega
    obtain ⟨x, hx⟩ : ∃ x, l[i]? = some x := ⟨_, List.getElem?_eq_getElem hlt⟩
    have hx2 := hs x (List.mem_of_getElem? hx)
    have hdr : l.drop i = x :: l.drop (i + 1) := by
      rw [List.drop_eq_getElem_cons hlt]
      rw [List.getElem?_eq_getElem hlt] at hx
      injection hx with hx
      rw [hx]
    rw [hdr] at hf
    refine s_skip (hK1 _ ?_)
    refine s_seq fun K2 hK2 => ?_
    refine s_block ?_
    refine s_regA TY_ok rfl fun K3 hK3 => ?_
    refine l_elem TY_ok rfl rfl rfl i rfl hx rfl rfl (rd_fact fun _ h _ => h) ?_
    refine l_autoS TY_ok rfl ?_
    refine s_end (hK3 _ ?_)
    refine s_seq fun K4 hK4 => ?_
    have hpush : ∀ (o' : List PairT) (d' : Bool) (B' : Option Addr) (e' : Nat), o'.length ≤ i + d'.toNat → finT (o' ++ [x]) d' (l.drop (i + 1)) p = putT l p → ∀ en, Weak en ⟨[(11, .v (.int .i64 (i : Int))), (10, .v (.int .i64 (l.length : Int))), (9, .v (.slice A l.length c)), (5, .v (.slice B' o'.length e')), (6, .v (.bool d')), (3, .a 3 0), (8, .a 8 0)], [⟨8, none, 42, [.agg 32 (By x.1).toArray, .agg 32 (By x.2).toArray]⟩, ⟨3, none, 42, [.agg 32 (By p.1).toArray, .agg 32 (By p.2).toArray]⟩], [OwnS b.B.heap.size 42 64 eP B' e' o'], Rd 64 eP A c l, fun _ => True⟩ → kS b K4 46 en := by
      intro o' d' B' e' ho' hf' en hw
      have hd1 : d'.toNat ≤ 1 := Bool.toNat_le d'
      refine k_weak hw (hK4 _ ?_)
      refine s_lit ?_
      refine l_autoS TY_ok rfl ?_
      refine l_push TY_ok 0 x rfl rfl rfl rfl rfl rfl rfl (eP_ok hx2) (by decide) (by decide) (by show (_ + 1) * 64 ≤ _; omega) (by omega) (Nat.le_refl _) fun B2 e2 => ?_
      refine l_autoS TY_ok rfl ?_
      refine s_end (hK2 _ ?_)
      refine s_autoE TY_ok rfl ?_
      exact k_next (i + 1, o' ++ [x], d', B2, e2) ⟨hlt, by show (o' ++ [x]).length ≤ i + 1 + d'.toNat; rw [List.length_append, List.length_singleton]; omega, hf'⟩ (by show l.length - (i + 1) < l.length - i; omega) ⟨⟨congrArg some (congrArg SV.v (congrArg (Value.int .i64) (wrapI rfl (by omega) (by omega)))), rfl, rfl, rfl, rfl, rfl, trivial⟩, ⟨rfl, rfl, trivial⟩, .refl _, fun _ h _ => h, fun _ _ => trivial⟩
    cases d with
    | true =>
      rw [finT_done] at hf
      refine s_auto TY_ok rfl ?_
      refine s_no rfl ?_
      exact s_skip (hpush o true B e ho hf _ ⟨⟨rfl, rfl, rfl, rfl, rfl, rfl, rfl, trivial⟩, ⟨rfl, rfl, rfl, rfl, trivial⟩, .refl _, fun _ h _ => h, fun _ _ => trivial⟩)
    | false =>
      refine s_regA TY_ok rfl fun K5 hK5 => ?_
      refine l_call0 [.agg (By x.1).toArray, .agg (By p.1).toArray] rfl rfl rfl own_rless9 rfl rfl (fun _ _ => rfl) (rless_S hx2.1 hp.1) (fun _ _ _ => trivial) fun _ => ?_
      cases hls : lessT x.1 p.1 with
      | true =>
        rw [finT_less hls] at hf
        refine l_is 22 true rfl rfl ?_
        refine l_autoS TY_ok rfl ?_
        refine s_end (hK5 _ ?_)
        refine s_no rfl ?_
        exact s_skip (hpush o false B e ho hf _ ⟨⟨rfl, rfl, rfl, rfl, rfl, rfl, rfl, trivial⟩, ⟨rfl, rfl, rfl, rfl, trivial⟩, .refl _, fun _ h _ => h.2, fun _ _ => trivial⟩)
      | false =>
        refine l_is 22 false rfl rfl ?_
        refine l_autoS TY_ok rfl ?_
        refine s_end (hK5 _ ?_)
        refine s_yes rfl ?_
        refine s_seq fun K6 hK6 => ?_
        refine s_lit ?_
        refine l_autoS TY_ok rfl ?_
        refine l_push TY_ok 0 p rfl rfl rfl rfl rfl rfl rfl (eP_ok hp) (by decide) (by decide) (by show (_ + 1) * 64 ≤ _; omega) (by omega) (Nat.le_refl _) fun B2 e2 => ?_
        refine l_autoS TY_ok rfl ?_
        refine s_end (hK6 _ ?_)
        refine s_auto TY_ok rfl ?_
        refine s_regA TY_ok rfl fun K7 hK7 => ?_
        refine l_op (.b (decide (x.1 = p.1))) trivial rfl rfl rfl (run_eqY rfl rfl rfl Tryd.underlying38 (by kernel_rfl) hx2.1 hp.1) ?_
        refine l_autoS TY_ok rfl ?_
        refine s_end (hK7 _ ?_)
        refine s_ifD (x.1 = p.1) rfl (fun he => ?_) (fun hne => ?_)
        · rw [finT_same he] at hf
          refine s_exit (k_pass (k_out ?_))
          refine hK2 _ ?_
          refine s_autoE TY_ok rfl ?_
          exact k_next (i + 1, o ++ [p], true, B2, e2) ⟨hlt, by show (o ++ [p]).length ≤ i + 1 + 1; rw [List.length_append, List.length_singleton]; omega, hf⟩ (by show l.length - (i + 1) < l.length - i; omega) ⟨⟨congrArg some (congrArg SV.v (congrArg (Value.int .i64) (wrapI rfl (by omega) (by omega)))), rfl, rfl, rfl, rfl, rfl, trivial⟩, ⟨rfl, rfl, trivial⟩, .refl _, fun _ h _ => h.2, fun _ _ => trivial⟩
        · rw [finT_new hls hne] at hf
          have ho1 : o.length ≤ i := ho
          exact s_skip (hpush (o ++ [p]) true B2 e2 (by show (o ++ [p]).length ≤ i + 1; rw [List.length_append, List.length_singleton]; omega) hf _ ⟨⟨rfl, rfl, rfl, rfl, rfl, rfl, rfl, trivial⟩, ⟨rfl, rfl, rfl, rfl, trivial⟩, .refl _, fun _ h _ => h.2, fun _ _ => trivial⟩)
  · obtain rfl : i = l.length := by omega
    rw [List.drop_length] at hf
    refine s_exit (k_pass (k_pass (k_out ?_)))
    refine hK _ ?_
    cases d with
    | true =>
      have hf : o = putT l p := by simpa [finT] using hf
      subst hf
      refine s_seq fun Kc hKc => ?_
      refine s_auto TY_ok rfl ?_
      refine s_no rfl ?_
      refine s_skip (hKc _ ?_)
      refine s_auto TY_ok rfl ?_
      exact s_ret (k_freeM 0 rfl (Nat.le_refl _) (k_ret TY_ok (B, e) rfl (by decide) rfl rfl rfl (fun _ _ _ => trivial) (fun _ h => h.1)))
    | false =>
      have hf : o ++ [p] = putT l p := by simpa [finT, putT] using hf
      refine s_seq fun Kc hKc => ?_
      refine s_auto TY_ok rfl ?_
      refine s_yes rfl ?_
      refine s_lit ?_
      refine l_autoS TY_ok rfl ?_
      refine l_push TY_ok 0 p rfl rfl rfl rfl rfl rfl rfl (eP_ok hp) (by decide) (by decide) (by show (_ + 1) * 64 ≤ _; omega) (by omega) (Nat.le_refl _) fun B2 e2 => ?_
      rw [hf]
      refine l_autoS TY_ok rfl ?_
      refine s_end (hKc _ ?_)
      refine s_auto TY_ok rfl ?_
      exact s_ret (k_freeM 0 rfl (Nat.le_refl _) (k_ret TY_ok (B2, e2) rfl (by decide) rfl rfl rfl (fun _ _ _ => trivial) (fun _ h => h.1)))
end Go.Proofs.YtoecohpcnojokaaDoor
