/-
  SEVERAL TEXTS IN ONE: RegI, RegJ, FrW, FrA, RegK, Auto, FrC, Vs, Va, Vb.
-/
import Derived.Test.YtoecohpcnojokaaDoorMb
import Derived.Great.BuildSlice
import Derived.Lib.SlBytesConst
import Derived.Deep.MidRow
import Derived.Laws.Tables
/-
  STEPS THAT MAKE MEMORY, over frames by what is known of them: slices of slices, calls whose answers lie in new memory, new variables; copies into a variable from any bytes.
-/
namespace Go.Proofs.YtoecohpcnojokaaDoor
open Go.RowKit Go.IntWalk

/-! ### Bytes that are read -/
/-- The value v is a slice that reads the bytes l. -/
def SB (w : World) (v : Value) (l : List UInt8) : Prop := ∃ A c, v = .slice A l.length c ∧ SL w 0 w.heap.size A l c
/-- The slice of slices at A reads the lists ls. -/
def PT (w : World) (A : Option Addr) (ls : List (List UInt8)) : Prop := Parts w w.heap.size A ls
theorem SB.later {w w' : World} {v : Value} {l : List UInt8} (h : SB w v l) (hb : Below w.heap.size w w') : SB w' v l := by
  obtain ⟨A, c, e, h1⟩ := h
  exact ⟨A, c, e, (h1.below hb (Nat.le_refl _)).more (Nat.le_refl _) hb.size⟩
/-- A slice of a variable's row of bytes. -/
theorem SB.arr {w : World} {g t off n c : Nat} {z l : List UInt8} (h : Blk w g t (By z).toArray) (hl : (z.drop off).take n = l) (hn : l.length = n) (hc : n ≤ c) (hc2 : c ≤ 9223372036854775807) : SB w (.slice (some ⟨g, off, none⟩) n c) l := by
  refine ⟨some ⟨g, off, none⟩, c, by rw [hn], by rw [hn]; exact hc, hc2, fun h => (by cases h), fun _ => ⟨_, rfl, Nat.zero_le _, h.lt, fun j x hx => ?_⟩⟩
  rw [← hl, List.getElem?_take] at hx
  split at hx
  · rw [List.getElem?_drop] at hx
    rw [Addr.add_mid, h.cell]
    simp [By, hx]
  · cases hx
/-- The whole of a variable's row of bytes. -/
theorem SB.all {w : World} {g t n : Nat} {l : List UInt8} (h : Blk w g t (By l).toArray) (hn : l.length = n) (hc2 : n ≤ 9223372036854775807) : SB w (.slice (some ⟨g, 0, none⟩) n n) l :=
  SB.arr h (by rw [List.drop_zero, List.take_of_length_le (by omega)]) hn (Nat.le_refl _) hc2
/-- A part of such a slice. -/
theorem SL.part {w : World} {lo hi c : Nat} {A : Option Addr} {l : List UInt8} (h : SL w lo hi A l c) {k n : Nat} (hk : k ≤ l.length) : SL w lo hi (if c = k then A else A.map (·.add k)) ((l.drop k).take n) (c - k) := (h.cut hk).take n
/-! ### Steps -/
section
variable {ops : Array Oper} {Rel : World → World → Prop} [hR : RelOk Rel] {C0 : World → Prop} {Q : Facts → Act → Prop} {N : Nat} {E : List (Nat × Value)} {Fa : Told} {o : Oper} {rest : List (Nat × Oper)} {i k : Nat}
/-- A call whose answer is described in the world behind it. -/
theorem g_call {f : FuncId} {xs : Array Operand} {ats : Array TypeId} (args : Array Value) (V : Value → World → Prop) (hg : o.guard = none) (hd : o.dst = some k) (hk : Nat.blt k N = true) (hf : farP i Fa = true) (hp : ∀ v, Pers Rel (V v)) (hown : Own f)
    (hc : ∀ w, C0 w → Uses o Fa w → Calls Tryd.prog f args w (fun e w' => ∃ v, e = .returned v ∧ V v w' ∧ Below w.heap.size w w'))
    (ho : o.op = .call { callee := .value (.func f), args := xs, argTypes := ats }) (hx : xs.toList.map (ev E) = args.toList.map some)
    (hn : ∀ v w, C0 w → V v w → gF Tryd.prog Rel ops C0 Q rest N ((k, v) :: E) ((i, V v) :: Fa)) : gF Tryd.prog Rel ops C0 Q ((i, o) :: rest) N E Fa :=
  g_mem V hg hd hk hf (by rw [ho]; rfl) hp (fun a ha w hw hu => by
    rw [run_call_fn hown ho, map_eval (ha.evals _ _ hx)]
    exact ⟨rfl, (hc w hw hu).mono fun e w' ⟨v, h1, h2, h3⟩ => ⟨v, h1, hR.below _ _ h3, h2⟩⟩) hn
end

theorem cells_slices : (Tryd.prog.info? 35).map (fun i => (i.zero, i.size, i.bytes)) = some (some (.slice none 0 0), 1, 24) := by kernel_rfl
theorem run_slices (vs : List Value) (n : Nat) (parts : Array (Nat × Value)) (hp : parts.toList = (vs.zipIdx 0).map fun x => (x.2, x.1)) (hn : vs.length = n) (h0 : 0 < n) (h24 : n ≤ 16777216) (h1 : ∀ v ∈ vs, v.cells = #[v]) (w : World) :
    (Instr.buildSlice 121 n parts).run Tryd.prog w = .ok (.slice (some ⟨w.heap.size, 0, none⟩) n n) (w.alloc (.cells vs.toArray 35)) := by
  obtain ⟨ie, h2, h3, h4, _⟩ := info_parts cells_slices
  refine run_buildSlice w 121 35 n parts vs.toArray ie _ Tryd.underlying121 h2 h3 (by rw [h4]; omega) (by rw [h4]; omega) ?_
  rw [hp, h4]
  exact Great.fill_flat _ _ h1 (by simp [hn])
/-- Each value reads its bytes. -/
def All2 (w : World) : List Value → List (List UInt8) → Prop
  | [], [] => True
  | v :: vs, l :: ls => SB w v l ∧ All2 w vs ls
  | _, _ => False
theorem All2.len {w : World} : ∀ {vs : List Value} {ls : List (List UInt8)}, All2 w vs ls → vs.length = ls.length
  | [], [], _ => rfl
  | _ :: _, _ :: _, h => by rw [List.length_cons, List.length_cons, All2.len h.2]
  | [], _ :: _, h => h.elim
  | _ :: _, [], h => h.elim
theorem All2.get {w : World} : ∀ {vs : List Value} {ls : List (List UInt8)}, All2 w vs ls → ∀ (i : Nat) l, ls[i]? = some l → ∃ v, vs[i]? = some v ∧ SB w v l
  | [], [], _, i, l, h => by simp at h
  | v :: vs, l0 :: ls, h, 0, l, hi => by
    simp only [List.getElem?_cons_zero, Option.some.injEq] at hi
    subst hi
    exact ⟨v, rfl, h.1⟩
  | v :: vs, l0 :: ls, h, i + 1, l, hi => by
    obtain ⟨u, h1, h2⟩ := All2.get h.2 i l (by simpa using hi)
    exact ⟨u, by simpa using h1, h2⟩
  | [], _ :: _, h, _, _, _ => h.elim
  | _ :: _, [], h, _, _, _ => h.elim
theorem All2.one {w : World} : ∀ {vs : List Value} {ls : List (List UInt8)}, All2 w vs ls → ∀ v ∈ vs, v.cells = #[v] ∧ v.oneCell' = true
  | [], _, _, v, hv => by simp at hv
  | u :: vs, l :: ls, h, v, hv => by
    rcases List.mem_cons.1 hv with rfl | hv
    · obtain ⟨A, c, rfl, _⟩ := h.1
      exact ⟨rfl, rfl⟩
    · exact All2.one h.2 v hv
  | _ :: _, [], h, _, _ => h.elim
theorem All2.later {w w' : World} (hb : Below w.heap.size w w') : ∀ {vs : List Value} {ls : List (List UInt8)}, All2 w vs ls → All2 w' vs ls
  | [], [], _ => trivial
  | _ :: _, _ :: _, h => ⟨h.1.later hb, All2.later hb h.2⟩
  | [], _ :: _, h => h.elim
  | _ :: _, [], h => h.elim
/-- A slice of slices of bytes, new: the values vs, which read the lists ls. -/
structure NewS (base : Nat) (vs : List Value) (ls : List (List UInt8)) (g : Nat) (w : World) : Prop where
  ge : base ≤ g
  blk : Blk w g 35 vs.toArray
  all : All2 w vs ls
theorem NewS.later {base g : Nat} {vs : List Value} {ls : List (List UInt8)} {w w' : World} (h : NewS base vs ls g w) (hb : Below w.heap.size w w') : NewS base vs ls g w' := ⟨h.ge, h.blk.later hb, All2.later hb h.all⟩
theorem pt_of {w : World} {g : Nat} {vs : List Value} {ls : List (List UInt8)} {cs : Array Value} {t : Nat} (hB : Blk w g t cs) (htk : ∀ (j : Nat) (v : Value), vs[j]? = some v → cs[j]? = some v) (h : All2 w vs ls) : PT w (some ⟨g, 0, none⟩) ls := fun _ => by
  refine ⟨_, rfl, hB.lt, fun i l hi => ?_⟩
  obtain ⟨v, h1, A, c, rfl, h3⟩ := h.get i l hi
  refine ⟨A, c, ?_, h3⟩
  rw [Addr.add_mid, hB.cell, Nat.zero_add]
  exact htk i _ h1
theorem NewS.pt {base g : Nat} {vs : List Value} {ls : List (List UInt8)} {w : World} (h : NewS base vs ls g w) : PT w (some ⟨g, 0, none⟩) ls := pt_of h.blk (fun j v hj => by simpa using hj) h.all
section
variable {ops : Array Oper} {C0 : World → Prop} {Q : Facts → Act → Prop} {N : Nat} {E : List (Nat × Value)} {Fa : Told} {o : Oper} {rest : List (Nat × Oper)} {i k : Nat}
theorem g_slices {n : Nat} {parts : Array (Nat × Operand)} (vs : List Value) (ls : List (List UInt8)) (base : Nat) (hg : o.guard = none) (hd : o.dst = some k) (hk : Nat.blt k N = true) (hf : farP i Fa = true) (ho : o.op = .buildSlice 121 n parts)
    (hv : parts.toList.map (fun p => (p.1, ev E p.2)) = (vs.zipIdx 0).map fun x => (x.2, some x.1)) (hn : vs.length = n) (h0 : 0 < n) (h24 : n ≤ 16777216) (hb : ∀ w, C0 w → base ≤ w.heap.size) (h : ∀ w, C0 w → Uses o Fa w → All2 w vs ls)
    (hk2 : ∀ g w, C0 w → NewS base vs ls g w → gF Tryd.prog Bel ops C0 Q rest N ((k, .slice (some ⟨g, 0, none⟩) n n) :: E) ((i, NewS base vs ls g) :: Fa)) : gF Tryd.prog Bel ops C0 Q ((i, o) :: rest) N E Fa :=
  g_mem (fun v w => ∃ g, v = .slice (some ⟨g, 0, none⟩) n n ∧ NewS base vs ls g w) hg hd hk hf (by rw [ho]; rfl) (fun v w w' ⟨g, e, h⟩ hr => ⟨g, e, h.later hr⟩) (fun a ha w hw hu => by
    have hA := h w hw hu
    have hm : ∀ (l : List (Nat × Operand)) (m : List (Value × Nat)), l.map (fun p => (p.1, ev E p.2)) = m.map (fun x => (x.2, some x.1)) → l.map (fun (i, x) => (i, a.eval x)) = m.map fun x => (x.2, x.1) := by
      intro l
      induction l with
      | nil => intro m h; cases m with
        | nil => rfl
        | cons => cases h
      | cons p l ih => intro m h; cases m with
        | nil => cases h
        | cons u m =>
          simp only [List.map_cons, List.cons.injEq, Prod.mk.injEq] at h ⊢
          exact ⟨⟨h.1.1, ha.eval h.1.2⟩, ih m h.2⟩
    have hr := run_slices vs n (parts.map fun (i, x) => (i, a.eval x)) (by rw [Array.toList_map]; exact hm _ _ hv) hn h0 h24 (fun v hv => (hA.one v hv).1) w
    have hal := (Below.refl w.heap.size w).alloc (Nat.le_refl _) (.cells vs.toArray 35)
    unfold execOp
    simp only [ho, Sem.run_bind, hr, Result.andThen_ok, Sem.run_pure]
    exact ⟨hal, w.heap.size, rfl, hb w hw, Blk.new w _ _, All2.later hal hA⟩) (fun v w hw ⟨g, e, h2⟩ => by
    subst e
    intro a F ha hF
    refine hk2 g w hw h2 a F ha fun x hx w hw => ?_
    rcases List.mem_cons.1 hx with rfl | hx
    · obtain ⟨g', e, h⟩ := hF (i, fun w => ∃ g', Value.slice (some ⟨g, 0, none⟩) n n = .slice (some ⟨g', 0, none⟩) n n ∧ NewS base vs ls g' w) List.mem_cons_self w hw
      injection e with e
      injection e with e
      injection e with e
      subst e
      exact h
    · exact hF x (List.mem_cons_of_mem _ hx) w hw)
end

/-! ### Appends of slices -/

/-! ### Copies -/
end Go.Proofs.YtoecohpcnojokaaDoor
/-
  REGIONS WITH A STORE AHEAD OF READS: a variable may go over to a value that is known; slices of arrays, arrays of slices; results in two variables.
-/
namespace Go.Proofs.YtoecohpcnojokaaDoor
open Go.RowKit Go.IntWalk

/-- Nothing but new memory; and the variable g may go over to the cells c. -/
structure KeepG (g : Nat) (t : TypeId) (c : Array Value) (w w' : World) : Prop where
  os : w'.os = w.os
  tape : w'.tape = w.tape
  output : w'.output = w.output
  size : w.heap.size ≤ w'.heap.size
  block : ∀ k, k < w.heap.size → k ≠ g → w'.heap[k]? = w.heap[k]?
  here : g < w.heap.size → w'.heap[g]? = w.heap[g]? ∨ Blk w' g t c
section
variable {g : Nat} {t : TypeId} {c : Array Value} {w w' w'' : World}
theorem KeepG.of (h : Below w.heap.size w w') : KeepG g t c w w' := ⟨h.os, h.tape, h.output, h.size, fun k hk _ => h.block k hk, fun hk => .inl (h.block g hk)⟩
instance : RelOk (KeepG g t c) := ⟨fun _ _ => KeepG.of⟩
end

/-! ### Slices of arrays, arrays of slices -/
end Go.Proofs.YtoecohpcnojokaaDoor
/-
  SLICES OF WORDS OVER FRAMES BY WHAT IS KNOWN OF THEM.
-/
namespace Go.Proofs.YtoecohpcnojokaaDoor
open Go.RowKit Go.IntWalk

section
variable {ops : Array Oper} {C0 : World → Prop} {Q : Act → Prop} {N : Nat} {E : List (Nat × Value)} {o : Oper} {rest : List Oper} {k : Nat}
theorem f_idx {x y : Operand} {t : TypeId} (g off n c i : Nat) (hi : i < n) (ht : t = 135 ∨ t = 133 ∨ t = 35) (hg : o.guard = none) (hd : o.dst = some k) (hk : Nat.blt k N = true) (ho : o.op = .indexAddr t x y)
    (hx : ev E x = some (.slice (some ⟨g, off, none⟩) n c)) (hy : ev E y = some (.int .i64 (i : Int))) (hn : bF Tryd.prog ops C0 Q rest N ((k, .pointer (some ⟨g, off + i, none⟩)) :: E)) : bF Tryd.prog ops C0 Q (o :: rest) N E :=
  f_val _ hg hd hk (fun a ha w _ => by
    have h1 := ha.eval hx
    have h2 := ha.eval hy
    have h3 : (i : Int) < (n : Int) := by omega
    have h4 : (0 : Int) ≤ (i : Int) := by omega
    unfold execOp
    simp only [ho, h1, h2]
    rcases ht with rfl | rfl | rfl <;> go_simp) hn
end
section
variable {ops : Array Oper} {C0 : World → Prop} {Q : Act → Prop} {N : Nat} {E : List (Nat × Value)} {o : Oper} {rest : List Oper} {k : Nat}
theorem f_idx0 {x y : Operand} {t : TypeId} (g n c i : Nat) (hi : i < n) (ht : t = 135 ∨ t = 133 ∨ t = 35) (hg : o.guard = none) (hd : o.dst = some k) (hk : Nat.blt k N = true) (ho : o.op = .indexAddr t x y)
    (hx : ev E x = some (.slice (some ⟨g, 0, none⟩) n c)) (hy : ev E y = some (.int .i64 (i : Int))) (hn : bF Tryd.prog ops C0 Q rest N ((k, .pointer (some ⟨g, i, none⟩)) :: E)) : bF Tryd.prog ops C0 Q (o :: rest) N E :=
  f_idx g 0 n c i hi ht hg hd hk ho hx hy (by rw [Nat.zero_add]; exact hn)
end
theorem run_slice8 (a b c d e f g h : Int) (w : World) :
    (Instr.buildSlice 135 8 #[(0, .int .u64 a), (1, .int .u64 b), (2, .int .u64 c), (3, .int .u64 d), (4, .int .u64 e), (5, .int .u64 f), (6, .int .u64 g), (7, .int .u64 h)]).run Tryd.prog w =
      .ok (.slice (some ⟨w.heap.size, 0, none⟩) 8 8) (w.alloc (.cells #[.int .u64 a, .int .u64 b, .int .u64 c, .int .u64 d, .int .u64 e, .int .u64 f, .int .u64 g, .int .u64 h] 134)) := by
  go_simp
section
variable {ops : Array Oper} {C0 : World → Prop} {Q : Act → Prop} {N : Nat} {E : List (Nat × Value)} {o : Oper} {rest : List Oper} {k : Nat}
/-- A slice's length. -/
theorem f_len {x : Operand} {t : TypeId} (p : Option Addr) (n c : Nat) (ht : t = 135 ∨ t = 35) (hg : o.guard = none) (hd : o.dst = some k) (hk : Nat.blt k N = true) (ho : o.op = .call { callee := .builtin .len, args := #[x], argTypes := #[t] }) (hx : ev E x = some (.slice p n c))
    (hn : bF Tryd.prog ops C0 Q rest N ((k, .int .i64 (n : Int)) :: E)) : bF Tryd.prog ops C0 Q (o :: rest) N E :=
  f_val _ hg hd hk (fun a ha w _ => by
    have h1 := ha.eval hx
    unfold execOp
    simp only [ho, resolve, invoke, builtin, Sem.run_bind, Sem.run_pure, Result.andThen_ok, List.map_toArray, List.map_cons, List.map_nil, h1]
    rcases ht with rfl | rfl <;> go_simp) hn
end
/-- A new slice of eight words. -/
theorem l_slice8 {ops : Array Oper} {Q : Exit → Act → World → Prop} {N : Nat} {E : List (Nat × Value)} {w : World} {o : Oper} {rest : List Oper} {k : Nat} {x0 x1 x2 x3 x4 x5 x6 x7 : Operand} (a b c d e f g h : Nat) (hg : o.guard = none) (hd : o.dst = some k) (hk : Nat.blt k N = true)
    (ho : o.op = .buildSlice 135 8 #[(0, x0), (1, x1), (2, x2), (3, x3), (4, x4), (5, x5), (6, x6), (7, x7)]) (e0 : ev E x0 = some (.int .u64 (a : Int))) (e1 : ev E x1 = some (.int .u64 (b : Int))) (e2 : ev E x2 = some (.int .u64 (c : Int))) (e3 : ev E x3 = some (.int .u64 (d : Int)))
    (e4 : ev E x4 = some (.int .u64 (e : Int))) (e5 : ev E x5 = some (.int .u64 (f : Int))) (e6 : ev E x6 = some (.int .u64 (g : Int))) (e7 : ev E x7 = some (.int .u64 (h : Int)))
    (hn : lF Tryd.prog ops Q rest N ((k, .slice (some ⟨w.heap.size, 0, none⟩) 8 8) :: E) (w.alloc (.cells (Us [a, b, c, d, e, f, g, h]).toArray 134))) : lF Tryd.prog ops Q (o :: rest) N E w :=
  l_val _ hg hd hk (fun ac ha => by
    have h0 := ha.eval e0
    have h1 := ha.eval e1
    have h2 := ha.eval e2
    have h3 := ha.eval e3
    have h4 := ha.eval e4
    have h5 := ha.eval e5
    have h6 := ha.eval e6
    have h7 := ha.eval e7
    have hr := run_slice8 (a : Int) b c d e f g h w
    unfold execOp
    simp only [ho, List.map_toArray, List.map_cons, List.map_nil, h0, h1, h2, h3, h4, h5, h6, h7, Sem.run_bind, hr, Result.andThen_ok, Sem.run_pure]
    rfl) hn
end Go.Proofs.YtoecohpcnojokaaDoor
/-
  SLICES OF WORDS AND BYTES, NEW ONES, OVER FRAMES BY WHAT IS KNOWN OF THEM.
-/
namespace Go.Proofs.YtoecohpcnojokaaDoor
open Go.RowKit Go.IntWalk

theorem run_slice0 (w : World) : (Instr.buildSlice 135 0 #[]).run Tryd.prog w = .ok (.slice (some ⟨w.heap.size, 0, none⟩) 0 0) (w.alloc (.cells #[] 134)) := by
  go_simp
theorem run_slice0B (w : World) : (Instr.buildSlice 35 0 #[]).run Tryd.prog w = .ok (.slice (some ⟨w.heap.size, 0, none⟩) 0 0) (w.alloc (.cells #[] 5)) := by
  go_simp
theorem run_slice1B (x : Int) (w : World) : (Instr.buildSlice 35 1 #[(0, .int .u8 x)]).run Tryd.prog w = .ok (.slice (some ⟨w.heap.size, 0, none⟩) 1 1) (w.alloc (.cells #[.int .u8 x] 5)) := by
  go_simp
section
variable {ops : Array Oper} {Q : Exit → Act → World → Prop} {N : Nat} {E : List (Nat × Value)} {w : World} {o : Oper} {rest : List Oper} {k : Nat}
theorem l_slice0 (hg : o.guard = none) (hd : o.dst = some k) (hk : Nat.blt k N = true) (ho : o.op = .buildSlice 135 0 #[]) (hn : lF Tryd.prog ops Q rest N ((k, .slice (some ⟨w.heap.size, 0, none⟩) 0 0) :: E) (w.alloc (.cells #[] 134))) : lF Tryd.prog ops Q (o :: rest) N E w :=
  l_val _ hg hd hk (fun a _ => by
    have hr := run_slice0 w
    unfold execOp
    simp only [ho, List.map_toArray, List.map_nil, Sem.run_bind, hr, Result.andThen_ok, Sem.run_pure]) hn
theorem l_slice0B (hg : o.guard = none) (hd : o.dst = some k) (hk : Nat.blt k N = true) (ho : o.op = .buildSlice 35 0 #[]) (hn : lF Tryd.prog ops Q rest N ((k, .slice (some ⟨w.heap.size, 0, none⟩) 0 0) :: E) (w.alloc (.cells #[] 5))) : lF Tryd.prog ops Q (o :: rest) N E w :=
  l_val _ hg hd hk (fun a _ => by
    have hr := run_slice0B w
    unfold execOp
    simp only [ho, List.map_toArray, List.map_nil, Sem.run_bind, hr, Result.andThen_ok, Sem.run_pure]) hn
theorem l_slice1B {x : Operand} (v : Int) (hg : o.guard = none) (hd : o.dst = some k) (hk : Nat.blt k N = true) (ho : o.op = .buildSlice 35 1 #[(0, x)]) (hx : ev E x = some (.int .u8 v)) (hn : lF Tryd.prog ops Q rest N ((k, .slice (some ⟨w.heap.size, 0, none⟩) 1 1) :: E) (w.alloc (.cells #[.int .u8 v] 5))) : lF Tryd.prog ops Q (o :: rest) N E w :=
  l_val _ hg hd hk (fun a ha => by
    have h1 := ha.eval hx
    have hr := run_slice1B v w
    unfold execOp
    simp only [ho, List.map_toArray, List.map_cons, List.map_nil, h1, Sem.run_bind, hr, Result.andThen_ok, Sem.run_pure]) hn
end
end Go.Proofs.YtoecohpcnojokaaDoor
/-
  REGIONS WHOSE ORDER IS FORCED, operation by operation; steps: slices of bytes, new ones and parts; lengths; '==' of signatures.
-/
namespace Go.Proofs.YtoecohpcnojokaaDoor
open Go.RowKit Go.IntWalk


/-! ### Regions whose order is forced -/
end Go.Proofs.YtoecohpcnojokaaDoor
/-
  STEPS THAT HANG ON THE FRAME ALONE, ALL AT ONCE: moves, choices, parts of tuples, 'not', guards; reckoned by a function, so one line takes as many as there are.
-/
namespace Go.Proofs.YtoecohpcnojokaaDoor
open Go.RowKit Go.IntWalk

/-- What an operation hands back, where that hangs on the frame alone. -/
def stepV (E : List (Nat × Value)) : Op → Option Value
  | .move x => ev E x
  | .assign x => ev E x
  | .pick c x y => match ev E c with
    | some (.bool true) => ev E x
    | some (.bool false) => ev E y
    | _ => none
  | .extract x i => match ev E x with
    | some (.tuple vs) => vs[i]?
    | _ => none
  | .unOp .not _ x => match ev E x with
    | some (.bool true) => some (.bool false)
    | some (.bool false) => some (.bool true)
    | _ => none
  | .nilCheck x => match ev E x with
    | some (.pointer (some p)) => some (.pointer (some p))
    | _ => none
  | _ => none
/-- Is the operation wanted, as far as the frame tells? -/
def wantG (ops : Array Oper) (N : Nat) (E : List (Nat × Value)) (o : Oper) : Option Bool :=
  match o.guard with
  | none => some true
  | some (j, b) => match (ops[j]?).bind (·.dst) with
    | some t => match Nat.blt t N with
      | true => match look E t with
        | some (.bool true) => some b
        | some (.bool false) => some (!b)
        | _ => none
      | false => none
    | none => none
theorem wantG_ok {ops : Array Oper} {N : Nat} {E : List (Nat × Value)} {a : Act} {o : Oper} {q : Bool} (ha : Fr N E a) (h : wantG ops N E o = some q) : Region.wanted o (yielded ops a.tmps) = q := by
  unfold wantG at h
  split at h
  · rename_i hg
    injection h with h
    subst h
    simp [Region.wanted, hg]
  · rename_i j b hg
    split at h
    · rename_i t hj
      split at h
      · rename_i hN
        have htN : t < a.tmps.size := by rw [ha.size]; simpa using hN
        have key : ∀ c, look E t = some (.bool c) → a.tmps[t]? = some (.bool c) := fun c hc => by
          have h2 := ha.get t _ hc
          simp only [Act.eval, Array.getD_eq_getD_getElem?] at h2
          rw [Array.getElem?_eq_getElem htN] at h2 ⊢
          simpa using h2
        split at h
        · rename_i hc
          injection h with h
          subst h
          unfold Region.wanted
          rw [hg]
          simp [yielded, hj, key _ hc]
        · rename_i hc
          injection h with h
          subst h
          unfold Region.wanted
          rw [hg]
          cases b <;> simp [yielded, hj, key _ hc]
        · cases h
      · cases h
    · cases h
/-- The operation without its guard. -/
def bareO (o : Oper) : Oper := { o with guard := none }
section
variable {P : Program} {ops : Array Oper} {Q : Exit → Act → World → Prop}
theorem wpList_of_Bs {T : List Oper} : ∀ (L : List Oper) (a : Act) (w : World), L.all (fun o => stillG o.op) = true → wpB P ops (· = w) (fun a' => wpList P ops Q T a' w) L a → wpList P ops Q (L ++ T) a w
  | [], _, _, _, h => h
  | o :: L, a, w, hs, h => by
    rw [List.all_cons, Bool.and_eq_true] at hs
    have key : ∀ V : Value → Prop, atB P o a w V → (∀ v, V v → wpList P ops Q (L ++ T) (a.put o.dst v) w) → o.wp P a w (wpList P ops Q (L ++ T)) Q := fun V h3 hk => by
      unfold atB at h3
      unfold Oper.wp
      have hst := fun n w' => still_ok (P := P) (ρ := a.eval) (o := o) (w := w) (w' := w') (n := n) hs.1
      generalize (execOp a.eval o).run P w = r at *
      cases r with
      | ok n w' =>
        cases n <;> simp only [uponB] at h3 <;> simp only [Oper.upon]
        case value u =>
          obtain ⟨e1, e2⟩ := h3
          rw [e1]
          exact hk _ e2
        case skip =>
          obtain ⟨e1, e2⟩ := h3
          rw [e1]
          exact hk _ e2
        case enter f args =>
          rcases hst _ _ rfl with ⟨v, hv⟩ | hv <;> cases hv
      | halt x w' => simp only [uponB] at h3
    rw [List.cons_append]
    unfold wpList
    unfold wpB at h
    split at h
    · rename_i hw
      rw [if_pos hw]
      refine .inl ?_
      rcases h with ⟨v, h3, h4⟩ | ⟨_, V, h3, h4⟩
      · exact key (· = v) (h3 w rfl) (fun u hu => by rw [hu]; exact wpList_of_Bs L _ w hs.2 h4)
      · exact key V (h3 w rfl) (fun u hu => wpList_of_Bs L _ w hs.2 (h4 u hu))
    · rename_i hw
      rw [if_neg hw]
      exact wpList_of_Bs L _ w hs.2 h
variable {N : Nat} {E : List (Nat × Value)} {w : World} {l T : List Oper}
end
end Go.Proofs.YtoecohpcnojokaaDoor
/-
  LOOPS OF A CODE; BEGIN AND END OF A CALL, over frames by what is known of them.
-/
namespace Go.Proofs.YtoecohpcnojokaaDoor
open Go.RowKit Go.IntWalk

/-- The loops of a code, in the order of the text. -/
def loopsOf : Code → List Code
  | .loop c => c :: loopsOf c
  | .seq a b => loopsOf a ++ loopsOf b
  | .block _ c => loopsOf c
  | .scope c => loopsOf c
  | .cond _ a b => loopsOf a ++ loopsOf b
  | _ => []
/-! ### Begin and end of a call -/
def argE : Nat → List Value → List (Nat × Value)
  | _, [] => []
  | j, v :: vs => (j, v) :: argE (j + 1) vs
theorem argE_look : ∀ (vs : List Value) (j k : Nat) (v : Value), look (argE j vs) k = some v → j ≤ k ∧ vs[k - j]? = some v
  | [], _, _, _, h => by cases h
  | u :: vs, j, k, v, h => by
    rw [argE, look_cons] at h
    split at h
    · rename_i e
      subst e
      cases h
      exact ⟨Nat.le_refl _, by simp⟩
    · obtain ⟨h1, h2⟩ := argE_look vs (j + 1) k v h
      refine ⟨by omega, ?_⟩
      obtain ⟨m, rfl⟩ : ∃ m, k = j + 1 + m := ⟨k - (j + 1), by omega⟩
      rw [show j + 1 + m - (j + 1) = m from by omega] at h2
      rw [show j + 1 + m - j = m + 1 from by omega]
      simpa using h2
theorem calls_F {P : Program} {f : FuncId} {fn : Func} {c : Code} {vs : List Value} {w : World} {R : Ending → World → Prop} (N : Nat) (hf : P.funcs[f]? = some fn) (hb : fn.body = some c) (hn : vs.length + (fn.ntmps - vs.length) = N)
    (h : cF P c (bodyPost P fn R) N (argE 0 vs) w) : Calls P f vs.toArray w R := by
  refine calls_of_wp hf hb (h _ (Fr.start (by simpa using hn) _ fun k v hk => ?_))
  have := (argE_look vs 0 k v hk).2
  simpa using this
section
variable {ops : Array Oper} {Q : Exit → Act → World → Prop} {N : Nat} {E : List (Nat × Value)} {w : World} {o : Oper} {rest : List Oper} {k : Nat}
theorem ev_args {a : Act} (ha : Fr N E a) : ∀ (l : List Operand) (m : List Value), l.map (ev E) = m.map some → l.map a.eval = m := by
  intro l
  induction l with
  | nil => intro m h; cases m with
    | nil => rfl
    | cons => cases h
  | cons y l ih => intro m h; cases m with
    | nil => cases h
    | cons u m =>
      simp only [List.map_cons, List.cons.injEq] at h ⊢
      exact ⟨ha.eval h.1, ih m h.2⟩
/-- A call, the order forced: whatever its contract says. -/
theorem l_call {f : FuncId} {xs : Array Operand} {ats : Array TypeId} (args : Array Value) {R : Ending → World → Prop} (hg : o.guard = none) (hd : o.dst = some k) (hk : Nat.blt k N = true)
    (hf : Own f) (hc : Calls Tryd.prog f args w R) (ho : o.op = .call { callee := .value (.func f), args := xs, argTypes := ats }) (hx : xs.toList.map (ev E) = args.toList.map some)
    (hn : ∀ e w', R e w' → ∃ v, e = .returned v ∧ lF Tryd.prog ops Q rest N ((k, v) :: E) w') : lF Tryd.prog ops Q (o :: rest) N E w := fun a ha => by
  have hr := run_call_fn (a := a) hf ho w
  rw [map_eval (ev_args ha _ _ hx)] at hr
  unfold wpList
  rw [if_pos (by simp [Region.wanted, hg])]
  refine .inl ?_
  unfold Oper.wp
  rw [hr]
  simp only [Oper.upon, hd]
  exact hc.mono fun e w' he => by
    obtain ⟨v, rfl, h1⟩ := hn e w' he
    exact h1 _ (ha.put hk v)
end
end Go.Proofs.YtoecohpcnojokaaDoor
/-
  STATES: frames whose slots hold values, addresses of variables, structs by their parts; variables by what lies in them; memory that is owned; facts that stay whatever becomes of what is owned.
-/
namespace Go.Proofs.YtoecohpcnojokaaDoor
open Go.RowKit Go.IntWalk

/-! ### How worlds go on -/
/-- New blocks came; of the elder ones those of D alone may have changed. -/
structure Chg (D : Nat → Prop) (w w' : World) : Prop where
  os : w'.os = w.os
  tape : w'.tape = w.tape
  output : w'.output = w.output
  size : w.heap.size ≤ w'.heap.size
  block : ∀ k, k < w.heap.size → ¬ D k → w'.heap[k]? = w.heap[k]?
section
variable {D D' : Nat → Prop} {w w' w'' : World}
theorem Chg.refl (D : Nat → Prop) (w : World) : Chg D w w := ⟨rfl, rfl, rfl, Nat.le_refl _, fun _ _ _ => rfl⟩
theorem Chg.step (h : Chg D w w') (k : Chg D' w' w'') (hd : ∀ i, i < w.heap.size → D' i → D i) : Chg D w w'' :=
  ⟨k.os.trans h.os, k.tape.trans h.tape, k.output.trans h.output, Nat.le_trans h.size k.size, fun i hi hn => (k.block i (Nat.lt_of_lt_of_le hi h.size) (fun h' => hn (hd i hi h'))).trans (h.block i hi hn)⟩
theorem Chg.mono (h : Chg D w w') (hd : ∀ i, i < w.heap.size → D i → D' i) : Chg D' w w' := ⟨h.os, h.tape, h.output, h.size, fun i hi hn => h.block i hi fun h' => hn (hd i hi h')⟩
theorem Chg.of_up (h : Up w w') : Chg D w w' := ⟨h.os, h.tape, h.output, h.size, fun k hk _ => h.block k hk⟩
theorem Chg.up (h : Chg D w w') (hd : ∀ i, i < w.heap.size → ¬ D i) : Up w w' := ⟨h.os, h.tape, h.output, h.size, fun k hk => h.block k hk (hd k hk)⟩
theorem Chg.of_grown {r : Option Nat} (h : w.grownBy w' r) : Chg (fun k => r = some k) w w' := ⟨h.os, h.tape, h.output, h.size, fun k hk hn => h.block k hk fun e => hn e.symm⟩
theorem Chg.row (w : World) (g : Nat) (cs : Array Value) : Chg (fun k => k = g) w (w.setRow g cs) := ⟨rfl, rfl, rfl, by simp [World.setRow], fun k _ hn => setRow_other w g k cs hn⟩
end
/-- p holds, and goes on to hold whatever becomes of D. -/
def Stb (D : Nat → Prop) (p : World → Prop) (w : World) : Prop := ∀ w', Chg D w w' → p w'
section
variable {D D' : Nat → Prop} {w w' : World} {p q : World → Prop}
theorem Stb.now (h : Stb D p w) : p w := h w (Chg.refl _ _)
theorem Stb.step (h : Stb D p w) (k : Chg D w w') : Stb D p w' := fun w2 h2 => h w2 (k.step h2 fun _ _ h => h)
theorem Stb.less (h : Stb D p w) (hd : ∀ k, k < w.heap.size → D' k → D k) : Stb D' p w := fun w2 h2 => h w2 (h2.mono hd)
theorem Stb.imp (h : Stb D p w) (hpq : ∀ w, p w → q w) : Stb D q w := fun w2 h2 => hpq _ (h w2 h2)
theorem Stb.and (h : Stb D p w) (h' : Stb D q w) : Stb D (fun w => p w ∧ q w) w := fun w2 h2 => ⟨h w2 h2, h' w2 h2⟩
/-- Behind changes of D', of which D has what was there. -/
theorem Stb.past (h : Stb D p w) (k : Chg D w w') (hd : ∀ i, i < w.heap.size → D' i → D i) : Stb D' p w' := fun w2 h2 => h w2 (k.step h2 hd)
end
/-- Facts that new memory alone does not touch. -/
class Pst (p : World → Prop) : Prop where
  later : ∀ w w', p w → Below w.heap.size w w' → p w'
theorem Stb.of_pst {p : World → Prop} [hp : Pst p] {D : Nat → Prop} {w : World} (h : p w) (hd : ∀ k, k < w.heap.size → ¬ D k) : Stb D p w := fun w' hw => hp.later w w' h (hw.up hd)

/-! ### Parts, values -/
/-- A value of one cell: one that is seen, a bool that isn't, one that isn't seen. -/
inductive SC where
  | v (x : Value)
  | b (e : Bool)
  | o (x : Value)
def SC.den : SC → Value
  | .v x => x
  | .b e => .bool e
  | .o x => x
def SC.Ok : SC → Prop
  | .v _ => True
  | .b _ => True
  | .o x => x.oneCell' = true ∧ x.cells = #[x]
/-- A part of a struct: a cell, or n cells. -/
inductive Pt where
  | one (s : SC)
  | agg (n : Nat) (cs : Array Value)
def Pt.cells : Pt → Array Value
  | .one s => #[s.den]
  | .agg _ cs => cs
def Pt.size : Pt → Nat
  | .one _ => 1
  | .agg n _ => n
def Pt.Ok : Pt → Prop
  | .one s => s.Ok ∧ s.den.oneCell' = true ∧ s.den.cells = #[s.den]
  | .agg n cs => cs.size = n ∧ ∀ v ∈ cs.toList, v.oneCell' = true
theorem Pt.Ok.size {p : Pt} (h : p.Ok) : p.cells.size = p.size := by
  cases p with
  | one v => rfl
  | agg n cs => exact h.1
theorem Pt.Ok.one {p : Pt} (h : p.Ok) : ∀ v ∈ p.cells.toList, v.oneCell' = true := by
  cases p with
  | one v => intro u hu; simp [Pt.cells] at hu; subst hu; exact h.2.1
  | agg n cs => exact h.2
def catP : List Pt → Array Value
  | [] => #[]
  | [p] => p.cells
  | p :: q :: r => p.cells ++ catP (q :: r)
def sizeP : List Pt → Nat
  | [] => 0
  | p :: r => p.size + sizeP r
def OkP (ps : List Pt) : Prop := ∀ p ∈ ps, p.Ok
theorem catP_cons (p : Pt) (r : List Pt) : catP (p :: r) = p.cells ++ catP r := by
  cases r with
  | nil => simp [catP]
  | cons q r => rfl
theorem OkP.size : ∀ {ps : List Pt}, OkP ps → (catP ps).size = sizeP ps
  | [], _ => rfl
  | p :: r, h => by rw [catP_cons, Array.size_append, OkP.size (ps := r) (fun q hq => h q (by simp [hq])), (h p (by simp)).size]; rfl
theorem OkP.one : ∀ {ps : List Pt}, OkP ps → ∀ v ∈ (catP ps).toList, v.oneCell' = true
  | [], _, v, hv => by simp [catP] at hv
  | p :: r, h, v, hv => by
    rw [catP_cons, Array.toList_append, List.mem_append] at hv
    rcases hv with hv | hv
    · exact (h p (by simp)).one v hv
    · exact OkP.one (ps := r) (fun q hq => h q (by simp [hq])) v hv
/-- The part that begins at a cell. -/
def atP : List Pt → Nat → Option Pt
  | [], _ => none
  | p :: r, off => match Nat.beq off 0 with
    | true => some p
    | false => match Nat.ble p.size off with
      | true => atP r (off - p.size)
      | false => none
/-- The parts, with another one at a cell. -/
def setP : List Pt → Nat → Pt → Option (List Pt)
  | [], _, _ => none
  | p :: r, off, q => match Nat.beq off 0 with
    | true => match Nat.beq p.size q.size with
      | true => some (q :: r)
      | false => none
    | false => match Nat.ble p.size off with
      | true => (setP r (off - p.size) q).map (p :: ·)
      | false => none
theorem atP_ok : ∀ {ps : List Pt} {off : Nat} {p : Pt}, OkP ps → atP ps off = some p → p.Ok ∧ ∃ A Z, (catP ps).toList = A ++ (p.cells.toList ++ Z) ∧ A.length = off
  | [], _, _, _, h => by cases h
  | q :: r, off, p, hok, h => by
    have hq := hok q (by simp)
    unfold atP at h
    split at h
    · rename_i e
      injection h with h
      subst h
      exact ⟨hq, [], (catP r).toList, by rw [catP_cons]; simp, by simpa using (Nat.eq_of_beq_eq_true e).symm⟩
    · split at h
      · rename_i e
        have e := Nat.le_of_ble_eq_true e
        obtain ⟨h1, A, Z, h2, h3⟩ := atP_ok (fun x hx => hok x (by simp [hx])) h
        exact ⟨h1, q.cells.toList ++ A, Z, by rw [catP_cons, Array.toList_append, h2, List.append_assoc], by rw [List.length_append, h3, Array.length_toList, hq.size]; omega⟩
      · cases h
theorem setP_ok : ∀ {ps ps' : List Pt} {off : Nat} {q : Pt}, OkP ps → q.Ok → setP ps off q = some ps' → OkP ps' ∧ sizeP ps' = sizeP ps ∧ ∃ A B Z, (catP ps).toList = A ++ (B ++ Z) ∧ A.length = off ∧ B.length = q.size ∧ (catP ps').toList = A ++ (q.cells.toList ++ Z)
  | [], _, _, _, _, _, h => by cases h
  | p :: r, ps', off, q, hok, hq, h => by
    have hp := hok p (by simp)
    unfold setP at h
    split at h
    · rename_i e
      split at h
      · rename_i e2
        injection h with h
        subst h
        have e2 := Nat.eq_of_beq_eq_true e2
        refine ⟨fun x hx => ?_, by simp only [sizeP, e2], [], p.cells.toList, (catP r).toList, by rw [catP_cons]; simp, by simpa using (Nat.eq_of_beq_eq_true e).symm, by rw [Array.length_toList, hp.size, e2], by rw [catP_cons]; simp⟩
        rcases List.mem_cons.1 hx with rfl | hx
        · exact hq
        · exact hok x (by simp [hx])
      · cases h
    · split at h
      · rename_i e
        have e := Nat.le_of_ble_eq_true e
        cases hs : setP r (off - p.size) q with
        | none => rw [hs] at h; cases h
        | some r' =>
          rw [hs] at h
          simp only [Option.map_some, Option.some.injEq] at h
          subst h
          obtain ⟨h1, h2, A, B, Z, h3, h4, h5, h6⟩ := setP_ok (fun x hx => hok x (by simp [hx])) hq hs
          refine ⟨fun x hx => ?_, by simp only [sizeP, h2], p.cells.toList ++ A, B, Z, by rw [catP_cons, Array.toList_append, h3, List.append_assoc], by rw [List.length_append, h4, Array.length_toList, hp.size]; omega, h5, by rw [catP_cons, Array.toList_append, h6, List.append_assoc]⟩
          rcases List.mem_cons.1 hx with rfl | hx
          · exact hp
          · exact h1 x hx
      · cases h

/-- A value that hangs on no variable. -/
inductive SQ where
  | c (s : SC)
  | p (ps : List Pt)
def SQ.den : SQ → Value
  | .c s => s.den
  | .p ps => .agg (catP ps)
def SQ.Ok : SQ → Prop
  | .c s => s.Ok
  | .p ps => OkP ps
/-- What a slot holds: a value; a cell's address in variable j; a slice of variable j; a tuple. -/
inductive SV where
  | q (x : SQ)
  | a (j off : Nat)
  | s (j off n c : Nat)
  | t (vs : List SQ)
@[match_pattern] abbrev SV.v (x : Value) : SV := .q (.c (.v x))
@[match_pattern] abbrev SV.b (e : Bool) : SV := .q (.c (.b e))
@[match_pattern] abbrev SV.o (x : Value) : SV := .q (.c (.o x))
@[match_pattern] abbrev SV.p (ps : List Pt) : SV := .q (.p ps)
def SV.den (G : Nat → Nat) : SV → Value
  | .q x => x.den
  | .a j off => .pointer (some ⟨G j, off, none⟩)
  | .s j off n c => .slice (some ⟨G j, off, none⟩) n c
  | .t vs => .tuple (vs.map SQ.den).toArray
def SV.Ok : SV → Prop
  | .q x => x.Ok
  | .a _ _ => True
  | .s _ _ _ _ => True
  | .t vs => ∀ x ∈ vs, x.Ok
/-- It names no variable j. -/
def SV.farB (j : Nat) : SV → Bool
  | .a i _ => !Nat.beq i j
  | .s i _ _ _ => !Nat.beq i j
  | _ => true
abbrev SE := List (Nat × SV)
def lookS : SE → Nat → Option SV
  | [], _ => none
  | (k, v) :: r, j => match Nat.beq k j with
    | true => some v
    | false => lookS r j
def denE (G : Nat → Nat) : SE → List (Nat × Value)
  | [] => []
  | (k, v) :: r => (k, v.den G) :: denE G r
theorem look_den (G : Nat → Nat) : ∀ (E : SE) (j : Nat), look (denE G E) j = (lookS E j).map (SV.den G)
  | [], _ => rfl
  | (k, v) :: r, j => by
    unfold denE look lookS
    cases Nat.beq k j with
    | true => rfl
    | false => exact look_den G r j
def OkE (E : SE) : Prop := ∀ x ∈ E, x.2.Ok
theorem lookS_mem : ∀ {E : SE} {j : Nat} {v : SV}, lookS E j = some v → (j, v) ∈ E
  | [], _, _, h => by cases h
  | (k, u) :: r, j, v, h => by
    unfold lookS at h
    split at h
    · rename_i e
      obtain rfl := Nat.eq_of_beq_eq_true e
      cases h
      exact List.mem_cons_self
    · exact List.mem_cons_of_mem _ (lookS_mem h)
theorem OkE.get {E : SE} (h : OkE E) {j : Nat} {v : SV} (hj : lookS E j = some v) : v.Ok := h _ (lookS_mem hj)
theorem OkE.cons {E : SE} (h : OkE E) {k : Nat} {v : SV} (hv : v.Ok) : OkE ((k, v) :: E) := fun x hx => by
  rcases List.mem_cons.1 hx with rfl | hx
  · exact hv
  · exact h x hx
def evS (E : SE) : Operand → Option SV
  | .tmp t => lookS E t
  | .const v => some (.v v)
  | .global g => some (.v (.pointer (some ⟨g, 0, none⟩)))
  | .func f => some (.v (.func (.func f) #[] #[]))
theorem evS_ok {G : Nat → Nat} {E : SE} {x : Operand} {v : SV} (h : evS E x = some v) : ev (denE G E) x = some (v.den G) := by
  cases x with
  | tmp t =>
    show look (denE G E) t = _
    rw [look_den]
    rw [show lookS E t = some v from h]
    rfl
  | const u => cases h; rfl
  | global g => cases h; rfl
  | func f => cases h; rfl
theorem OkE.ev {E : SE} (h : OkE E) {x : Operand} {v : SV} (hx : evS E x = some v) : v.Ok := by
  cases x with
  | tmp t => exact h.get hx
  | const u => cases hx; trivial
  | global g => cases hx; trivial
  | func f => cases hx; trivial
/-- The values of operands. -/
def evSs (E : SE) : List Operand → Option (List SV)
  | [] => some []
  | x :: r => match evS E x, evSs E r with
    | some v, some vs => some (v :: vs)
    | _, _ => none
theorem evSs_ok {G : Nat → Nat} {E : SE} : ∀ {xs : List Operand} {vs : List SV}, evSs E xs = some vs → xs.map (ev (denE G E)) = (vs.map (SV.den G)).map some
  | [], vs, h => by cases h; rfl
  | x :: r, vs, h => by
    unfold evSs at h
    split at h
    · rename_i v us h1 h2
      injection h with h
      subst h
      rw [List.map_cons, evS_ok h1, evSs_ok h2]
      rfl
    · cases h

/-! ### Variables -/
/-- A variable: its name (a slot's number), where it lies if that is known, its type, its parts. -/
structure LV where
  j : Nat
  g : Option Nat
  t : TypeId
  ps : List Pt
def lookL : List LV → Nat → Option (List Pt)
  | [], _ => none
  | x :: r, j => match Nat.beq x.j j with
    | true => some x.ps
    | false => lookL r j
theorem lookL_mem : ∀ {L : List LV} {j : Nat} {ps : List Pt}, lookL L j = some ps → ∃ x ∈ L, x.j = j ∧ x.ps = ps
  | [], _, _, h => by cases h
  | x :: r, j, ps, h => by
    unfold lookL at h
    split at h
    · rename_i e
      injection h with h
      exact ⟨x, List.mem_cons_self, Nat.eq_of_beq_eq_true e, h⟩
    · obtain ⟨y, h1, h2⟩ := lookL_mem h
      exact ⟨y, List.mem_cons_of_mem _ h1, h2⟩
def putL : List LV → Nat → List Pt → List LV
  | [], _, _ => []
  | x :: r, j, ps => match Nat.beq x.j j with
    | true => { x with ps := ps } :: r
    | false => x :: putL r j ps
/-- The variables' names. -/
def namesL (L : List LV) : List Nat := L.map (·.j)
theorem putL_names : ∀ (L : List LV) (j : Nat) (ps : List Pt), namesL (putL L j ps) = namesL L
  | [], _, _ => rfl
  | x :: r, j, ps => by
    unfold putL
    split
    · rfl
    · exact congrArg (x.j :: ·) (putL_names r j ps)
/-- No variable is called j. -/
def farL (j : Nat) : List LV → Bool
  | [] => true
  | x :: r => !Nat.beq x.j j && farL j r

/-! ### Owned memory -/
/-- Memory that is owned: what is known of it, and which blocks that hangs on. -/
structure Res where
  holds : World → (Nat → Prop) → Prop
  keep : ∀ {w w' : World} {S : Nat → Prop}, holds w S → (∀ k, S k → w'.heap[k]? = w.heap[k]?) → holds w' S
  lt : ∀ {w : World} {S : Nat → Prop}, holds w S → ∀ k, S k → k < w.heap.size
def starL : List Res → World → (Nat → Prop) → Prop
  | [], _, S => ∀ k, ¬ S k
  | r :: R, w, S => ∃ S1 S2, r.holds w S1 ∧ starL R w S2 ∧ (∀ k, S k ↔ S1 k ∨ S2 k) ∧ ∀ k, S1 k → ¬ S2 k
theorem starL.keep : ∀ {R : List Res} {w w' : World} {S : Nat → Prop}, starL R w S → (∀ k, S k → w'.heap[k]? = w.heap[k]?) → starL R w' S
  | [], _, _, _, h, _ => h
  | r :: _, _, _, _, ⟨S1, S2, h1, h2, h3, h4⟩, hk => ⟨S1, S2, r.keep h1 fun k hs => hk k ((h3 k).2 (.inl hs)), h2.keep fun k hs => hk k ((h3 k).2 (.inr hs)), h3, h4⟩
theorem starL.lt : ∀ {R : List Res} {w : World} {S : Nat → Prop}, starL R w S → ∀ k, S k → k < w.heap.size
  | [], _, _, h, k, hs => absurd hs (h k)
  | r :: _, _, _, ⟨_, _, h1, h2, h3, _⟩, k, hs => ((h3 k).1 hs).elim (r.lt h1 k) (h2.lt k)
theorem starL.same {R : List Res} {w : World} {S S' : Nat → Prop} (h : starL R w S) (e : ∀ k, S k ↔ S' k) : starL R w S' := by
  have : S = S' := funext fun k => propext (e k)
  rwa [← this]
theorem starL.app : ∀ {R R' : List Res} {w : World} {S : Nat → Prop}, starL (R ++ R') w S ↔ ∃ S1 S2, starL R w S1 ∧ starL R' w S2 ∧ (∀ k, S k ↔ S1 k ∨ S2 k) ∧ ∀ k, S1 k → ¬ S2 k
  | [], R', w, S => ⟨fun h => ⟨fun _ => False, S, fun _ h => h, h, fun k => ⟨.inr, fun h => h.elim False.elim id⟩, fun _ h => h.elim⟩, fun ⟨S1, S2, h1, h2, h3, _⟩ => by
      show starL R' w S
      exact h2.same fun k => ⟨fun h => (h3 k).2 (.inr h), fun h => ((h3 k).1 h).resolve_left (h1 k)⟩⟩
  | r :: R, R', w, S => by
    constructor
    · rintro ⟨S1, S2, h1, h2, h3, h4⟩
      obtain ⟨S3, S4, h5, h6, h7, h8⟩ := starL.app.1 h2
      refine ⟨fun k => S1 k ∨ S3 k, S4, ⟨S1, S3, h1, h5, fun k => Iff.rfl, fun k hk h => h4 k hk ((h7 k).2 (.inl h))⟩, h6, fun k => ?_, fun k hk h => ?_⟩
      · rw [h3 k, h7 k, or_assoc]
      · rcases hk with hk | hk
        · exact h4 k hk ((h7 k).2 (.inr h))
        · exact h8 k hk h
    · rintro ⟨S0, S4, ⟨S1, S3, h1, h5, h9, h10⟩, h6, h3, h8⟩
      refine ⟨S1, fun k => S3 k ∨ S4 k, h1, starL.app.2 ⟨S3, S4, h5, h6, fun k => Iff.rfl, fun k hk => h8 k ((h9 k).2 (.inr hk))⟩, fun k => by rw [h3 k, h9 k, or_assoc], fun k hk h => ?_⟩
      rcases h with h | h
      · exact h10 k hk h
      · exact h8 k ((h9 k).2 (.inl hk)) h

theorem starL.perm {R R' : List Res} (h : R.Perm R') : ∀ {w : World} {S : Nat → Prop}, starL R w S → starL R' w S := by
  induction h with
  | nil => exact fun h => h
  | cons r _ ih =>
    rintro w S ⟨S1, S2, h1, h2, h3⟩
    exact ⟨S1, S2, h1, ih h2, h3⟩
  | swap r r' R =>
    rintro w S ⟨S1, S2, h1, ⟨S3, S4, h3, h4, h5, h6⟩, h7, h8⟩
    refine ⟨S3, fun k => S1 k ∨ S4 k, h3, ⟨S1, S4, h1, h4, fun _ => Iff.rfl, fun k hk hk' => h8 k hk ((h5 k).2 (.inr hk'))⟩, fun k => ?_, fun k hk hk' => ?_⟩
    · rw [h7 k, h5 k, ← or_assoc, ← or_assoc, or_comm (a := S1 k)]
    · rcases hk' with hk' | hk'
      · exact h8 k hk' ((h5 k).2 (.inl hk))
      · exact h6 k hk hk'
  | trans _ _ ih1 ih2 => exact fun h => ih2 (ih1 h)
/-- One of what is owned, and the others. -/
theorem starL.at : ∀ {R : List Res} {i : Nat} {r : Res} {w : World} {S : Nat → Prop}, starL R w S → R[i]? = some r → ∃ S1 S2, r.holds w S1 ∧ (∀ k, S k ↔ S1 k ∨ S2 k) ∧ (∀ k, S1 k → ¬ S2 k) ∧ starL (R.eraseIdx i) w S2 ∧
    ∀ (r' : Res) (w' : World) (S' : Nat → Prop), r'.holds w' S' → (∀ k, S2 k → w'.heap[k]? = w.heap[k]?) → (∀ k, S' k → ¬ S2 k) → starL (R.set i r') w' fun k => S' k ∨ S2 k
  | [], _, _, _, _, _, h => by simp at h
  | r0 :: R, 0, r, w, S, ⟨S1, S2, h1, h2, h3, h4⟩, h => by
    simp only [List.getElem?_cons_zero, Option.some.injEq] at h
    subst h
    exact ⟨S1, S2, h1, h3, h4, h2, fun r' w' S' hr hk hd => ⟨S', S2, hr, h2.keep hk, fun _ => Iff.rfl, hd⟩⟩
  | r0 :: R, i + 1, r, w, S, ⟨S0, S', h1, h2, h3, h4⟩, h => by
    obtain ⟨S1, S2, h5, h6, h7, h8, h9⟩ := starL.at h2 (by simpa using h)
    refine ⟨S1, fun k => S0 k ∨ S2 k, h5, fun k => ?_, fun k hk hk' => ?_, ⟨S0, S2, h1, h8, fun _ => Iff.rfl, fun k hk hk' => h4 k hk ((h6 k).2 (.inr hk'))⟩, fun r' w' S3 hr hk hd => ?_⟩
    · rw [h3 k, h6 k, ← or_assoc, ← or_assoc, or_comm (a := S0 k)]
    · rcases hk' with hk' | hk'
      · exact h4 k hk' ((h6 k).2 (.inl hk))
      · exact h7 k hk hk'
    · refine ⟨S0, fun k => S3 k ∨ S2 k, r0.keep h1 fun k hs => hk k (.inl hs), h9 r' w' S3 hr (fun k hs => hk k (.inr hs)) (fun k hs hs' => hd k hs (.inr hs')), fun k => ?_, fun k hk0 hs => ?_⟩
      · exact or_left_comm
      · rcases hs with hs | hs
        · exact hd k hs (.inl hk0)
        · exact h4 k hk0 ((h6 k).2 (.inr hs))

/-! ### States -/
/-- What is known: of the slots, of the variables, what is owned; facts that stay; facts of memory that is new in this call. -/
structure Env where
  E : SE
  L : List LV
  R : List Res
  F : World → Prop
  M : World → Prop
/-- One's own blocks. -/
def Mine (S : Nat → Prop) (G : Nat → Nat) (L : List LV) (k : Nat) : Prop := S k ∨ ∃ j ∈ namesL L, G j = k
/-- All that may change: the callers' (X) and one's own. -/
def Dof (X S : Nat → Prop) (G : Nat → Nat) (L : List LV) (k : Nat) : Prop := X k ∨ Mine S G L k
/-- What is fixed in a call: the callers' blocks that may change, the first world, what was handed in to own. -/
structure Base where
  X : Nat → Prop
  B : World
  D : Nat → Prop
/-- All but what is new, and one's own. -/
def Nof (b : Base) (S : Nat → Prop) (G : Nat → Nat) (L : List LV) (k : Nat) : Prop := k < b.B.heap.size ∨ Mine S G L k
structure StW (b : Base) (G : Nat → Nat) (S : Nat → Prop) (L : List LV) (R : List Res) (F M : World → Prop) (w : World) : Prop where
  var : ∀ x ∈ L, Blk w (G x.j) x.t (catP x.ps) ∧ OkP x.ps ∧ ∀ g, x.g = some g → G x.j = g
  apart : (namesL L).Pairwise fun i j => G i ≠ G j
  res : starL R w S
  sep : ∀ j ∈ namesL L, ¬ S (G j)
  fact : Stb (Dof b.X S G L) F w
  fresh : Stb (Nof b S G L) M w
  chg : Chg b.D b.B w
  mine : ∀ k, Mine S G L k → k < b.B.heap.size → b.D k
  old : ∀ k, b.X k → k < b.B.heap.size ∧ ¬ b.D k
structure StA (b : Base) (N : Nat) (e : Env) (G : Nat → Nat) (S : Nat → Prop) (a : Act) (w : World) : Prop where
  fr : Fr N (denE G e.E) a
  ok : OkE e.E
  st : StW b G S e.L e.R e.F e.M w
def St (b : Base) (N : Nat) (e : Env) (a : Act) (w : World) : Prop := ∃ G S, StA b N e G S a w
section
variable {b : Base} {G : Nat → Nat} {S : Nat → Prop} {L : List LV} {R : List Res} {F M : World → Prop} {w w' : World}
theorem Dof.nof (h : ∀ k, b.X k → k < b.B.heap.size ∧ ¬ b.D k) {k : Nat} (hk : Dof b.X S G L k) : Nof b S G L k := hk.imp (fun hx => (h k hx).1) id
theorem StW.lt (h : StW b G S L R F M w) : ∀ k, Mine S G L k → k < w.heap.size := fun k hk => by
  rcases hk with hk | ⟨j, hj, rfl⟩
  · exact h.res.lt k hk
  · obtain ⟨x, hx, rfl⟩ := List.mem_map.1 hj
    exact (h.var x hx).1.lt
/-- New memory comes. -/
theorem StW.later (h : StW b G S L R F M w) (k : Below w.heap.size w w') : StW b G S L R F M w' :=
  ⟨fun x hx => ⟨(h.var x hx).1.later k, (h.var x hx).2⟩, h.apart, h.res.keep fun i hi => k.block i (h.res.lt i hi), h.sep, h.fact.step (Chg.of_up k), h.fresh.step (Chg.of_up k), h.chg.step (D' := fun _ => False) (Chg.of_up k) (fun _ _ h => h.elim), h.mine, h.old⟩
/-- All facts, whatever becomes of what may change. -/
theorem StW.all (h : StW b G S L R F M w) : Stb (Dof b.X S G L) (fun w => F w ∧ M w) w := h.fact.and (h.fresh.less fun _ _ hk => hk.nof h.old)
theorem StW.imp (h : StW b G S L R F M w) {F' M' : World → Prop} (hF : ∀ w, F w → M w → F' w) (hM : ∀ w, M w → M' w) : StW b G S L R F' M' w := { h with fact := h.all.imp fun w hw => hF w hw.1 hw.2, fresh := h.fresh.imp hM }
/-- A fact more. -/
theorem StW.and (h : StW b G S L R F M w) {p : World → Prop} (hp : Stb (Dof b.X S G L) p w) : StW b G S L R (fun w => p w ∧ F w) M w := { h with fact := hp.and h.fact }
/-- A fact of new memory more. -/
theorem StW.andM (h : StW b G S L R F M w) {p : World → Prop} (hp : Stb (Nof b S G L) p w) : StW b G S L R F (fun w => p w ∧ M w) w := { h with fresh := hp.and h.fresh }
end
end Go.Proofs.YtoecohpcnojokaaDoor
/-
  STEPS OVER STATES THAT ARE RECKONED AT ONCE: moves, choices, parts of variables read and written, new variables, structs put together.
-/
namespace Go.Proofs.YtoecohpcnojokaaDoor
open Go.RowKit Go.IntWalk

/-! ### Types, by the parts of their noughts -/
/-- A type: a cell (0), a row of cells (1), a struct (2); the parts of its nought; of what a slice is; which kind of number; is it a pointer? its bytes. -/
structure TyR where
  t : TypeId
  kind : Nat
  zero : List Pt
  el : Option TypeId := none
  ik : Option IntKind := none
  pt : Bool := false
  w : Nat := 8
def kindOf : TypeDesc → Nat
  | .array _ _ => 1
  | .struct _ => 2
  | _ => 0
def elOf : TypeDesc → Option TypeId
  | .slice e => some e
  | _ => none
def ikOf : TypeDesc → Option IntKind
  | .int k => some k
  | _ => none
def ptOf : TypeDesc → Bool
  | .pointer _ => true
  | _ => false
def rowOf (P : Program) (t : TypeId) : Option (Nat × Option (Array Value) × Nat × Option (List (Nat × Nat)) × Option TypeId × Option IntKind × Bool × Nat) :=
  match P.info? t, P.underlying t with
  | some it, some d => some (it.size, it.zero.map (·.cells), kindOf d, (match d with
    | .struct fs => fs.toList.mapM fun f => (P.info? f.type).map fun i => (f.offset, i.size)
    | .array _ e => (P.info? e).map fun _ => []
    | _ => some []), elOf d, ikOf d, ptOf d, it.bytes)
  | _, _ => none
def placesP : Nat → List Pt → List (Nat × Nat)
  | _, [] => []
  | o, p :: r => (o, p.size) :: placesP (o + p.size) r
def TyR.ok (P : Program) (r : TyR) : Prop := rowOf P r.t = some (sizeP r.zero, some (catP r.zero), r.kind, some (match r.kind with | 2 => placesP 0 r.zero | _ => []), r.el, r.ik, r.pt, r.w) ∧ OkP r.zero
def OkT (P : Program) (T : List TyR) : Prop := ∀ r ∈ T, r.ok P
def isOneB : Value → Bool
  | .agg _ => false
  | .tuple _ => false
  | _ => true
theorem isOneB_ok {v : Value} (h : isOneB v = true) : v.oneCell' = true ∧ v.cells = #[v] := by
  cases v <;> first | exact ⟨rfl, rfl⟩ | cases h
def okPB (ps : List Pt) : Bool := ps.all fun p => match p with
  | .one (.v v) => isOneB v
  | .one _ => false
  | .agg n cs => cs.size == n && cs.toList.all fun v => v.oneCell'
theorem okPB_ok {ps : List Pt} (h : okPB ps = true) : OkP ps := fun p hp => by
  have := List.all_eq_true.1 h p hp
  cases p with
  | one s =>
    cases s with
    | v x => exact ⟨trivial, isOneB_ok this⟩
    | b e => cases this
    | o x => cases this
  | agg n cs =>
    simp only [Bool.and_eq_true, beq_iff_eq, List.all_eq_true] at this
    exact this
/-- A table of types is right. -/
theorem okT_of {P : Program} {T : List TyR} (h : T.map (fun r => rowOf P r.t) = T.map fun r => some (sizeP r.zero, some (catP r.zero), r.kind, some (match r.kind with | 2 => placesP 0 r.zero | _ => []), r.el, r.ik, r.pt, r.w))
    (h2 : (T.all fun r => okPB r.zero) = true) : OkT P T := fun r hr => by
  refine ⟨?_, okPB_ok (List.all_eq_true.1 h2 r hr)⟩
  obtain ⟨i, hi, rfl⟩ := List.getElem_of_mem hr
  have h1 := congrArg (·[i]?) h
  simpa [hi] using h1
def findT : List TyR → TypeId → Option TyR
  | [], _ => none
  | r :: T, t => match Nat.beq r.t t with
    | true => some r
    | false => findT T t
theorem findT_ok {P : Program} : ∀ {T : List TyR} {t : TypeId} {r : TyR}, OkT P T → findT T t = some r → r.ok P ∧ r.t = t
  | [], _, _, _, h => by cases h
  | r0 :: T, t, r, hT, h => by
    unfold findT at h
    split at h
    · rename_i e
      injection h with h
      subst h
      exact ⟨hT _ List.mem_cons_self, Nat.eq_of_beq_eq_true e⟩
    · exact findT_ok (fun r hr => hT r (List.mem_cons_of_mem _ hr)) h
section
variable {P : Program} {r : TyR}
theorem TyR.ok.info (h : r.ok P) : ∃ it d, P.info? r.t = some it ∧ P.underlying r.t = some d ∧ it.size = sizeP r.zero ∧ it.zero.map (·.cells) = some (catP r.zero) ∧ kindOf d = r.kind ∧
    (match d with | .struct fs => fs.toList.mapM fun f => (P.info? f.type).map fun i => (f.offset, i.size) | .array _ e => (P.info? e).map fun _ => [] | _ => some []) = some (match r.kind with | 2 => placesP 0 r.zero | _ => []) ∧ elOf d = r.el ∧ ikOf d = r.ik ∧ ptOf d = r.pt ∧ it.bytes = r.w := by
  have h1 := h.1
  unfold rowOf at h1
  split at h1
  · rename_i it d h2 h3
    simp only [Option.some.injEq, Prod.mk.injEq] at h1
    exact ⟨it, d, h2, h3, h1.1, h1.2.1, h1.2.2.1, h1.2.2.2.1, h1.2.2.2.2⟩
  · cases h1
end
theorem kind_row {d : TypeDesc} (h : kindOf d ≠ 0) : d.isRow = true := by
  cases d <;> first | rfl | exact absurd rfl h
theorem kind_not {d : TypeDesc} (h : kindOf d = 0) : d.isRow = false := by
  cases d <;> first | rfl | cases h

/-! ### Loads and stores -/
def loadS (T : List TyR) (ps : List Pt) (t : TypeId) (off : Nat) : Option SQ := match findT T t with
  | none => none
  | some r => match r.kind with
    | 0 => match atP ps off with
      | some (.one v) => some (.c v)
      | _ => none
    | _ + 1 => match Nat.beq off 0, Nat.beq (sizeP ps) (sizeP r.zero) with
      | true, true => some (.p ps)
      | _, _ => match atP ps off with
        | some (.agg n cs) => match Nat.beq n (sizeP r.zero) with
          | true => some (.p [.agg n cs])
          | false => none
        | _ => none
theorem range_of {w : World} {g ty : Nat} {cs : Array Value} {A B Z : List Value} (hb : Blk w g ty cs) (h : cs.toList = A ++ (B ++ Z)) : w.rangeAt g A.length B := fun j v hj => by
  rw [hb.cell]
  have h1 : cs.toList[A.length + j]? = some v := by
    rw [h, List.getElem?_append_right (by omega), Nat.add_sub_cancel_left, List.getElem?_append_left (List.getElem?_eq_some_iff.1 hj).1]
    exact hj
  simpa using h1
theorem run_load_cell {P : Program} {w : World} {t : TypeId} {a : Addr} {v : Value} {d : TypeDesc} (hu : P.underlying t = some d) (hd : d.isRow = false) (hc : w.cell? a = some v) : (Instr.loadAt t (.pointer (some a))).run P w = .ok v w := by
  have h1 : (isAgg t).run P w = .ok false w := by
    unfold isAgg
    simp only [Sem.run_bind, run_underlying hu, Result.andThen_ok]
    cases d <;> first | rfl | cases hd
  simp only [Instr.loadAt, Instr.sureAddr, loadVar, Sem.run_bind, Sem.run_pure, Result.andThen_ok, h1, Bool.false_eq_true, if_false]
  simp [load, Sem.run, hc]
theorem run_load_row {P : Program} {w : World} {t : TypeId} {g off : Nat} {cs : Array Value} {d : TypeDesc} (hu : P.underlying t = some d) (hd : d.isRow = true) (hi : (P.info? t).map (·.size) = some cs.size) (hc : w.rangeAt g off cs.toList) :
    (Instr.loadAt t (.pointer (some ⟨g, off, none⟩))).run P w = .ok (.agg cs) w := by
  have h1 := run_loadVar_mid w g off t cs.toList d hc hu hd (by simpa using hi)
  simp only [Instr.loadAt, Instr.sureAddr, Sem.run_bind, Sem.run_pure, Result.andThen_ok, h1, Array.toArray_toList]
theorem range_in {w : World} {g base : Nat} {cs A B Z : List Value} (hb : w.rangeAt g base cs) (h : cs = A ++ (B ++ Z)) : w.rangeAt g (base + A.length) B := fun j v hj => by
  rw [Nat.add_assoc]
  refine hb (A.length + j) v ?_
  rw [h, List.getElem?_append_right (by omega), Nat.add_sub_cancel_left, List.getElem?_append_left (List.getElem?_eq_some_iff.1 hj).1]
  exact hj
theorem loadS_at {P : Program} {T : List TyR} (hT : OkT P T) {ps : List Pt} {t : TypeId} {off : Nat} {q : SQ} (hok : OkP ps) (h : loadS T ps t off = some q) :
    q.Ok ∧ ∀ {w : World} {g base : Nat}, w.rangeAt g base (catP ps).toList → (Instr.loadAt t (.pointer (some ⟨g, base + off, none⟩))).run P w = .ok q.den w := by
  unfold loadS at h
  split at h
  · cases h
  rename_i r hr
  have hro := findT_ok hT hr
  clear hr
  obtain ⟨hro, rfl⟩ := hro
  obtain ⟨it, d, h1, h2, h3, h4, h5, -⟩ := hro.info
  split at h
  · rename_i hk
    split at h
    · rename_i v hv
      injection h with h
      subst h
      obtain ⟨ho, A, Z, e, hA⟩ := atP_ok hok hv
      refine ⟨ho.1, fun hb => run_load_cell h2 (kind_not (by rw [h5, hk])) ?_⟩
      have := range_in hb e 0 v.den rfl
      rwa [hA, Nat.add_zero] at this
    · cases h
  · rename_i hk
    have hd : d.isRow = true := kind_row (by rw [h5, hk]; omega)
    split at h
    · rename_i e1 e2
      injection h with h
      subst h
      obtain rfl := Nat.eq_of_beq_eq_true e1
      exact ⟨hok, fun hb => run_load_row h2 hd (by rw [h1, Option.map_some, h3, hok.size, Nat.eq_of_beq_eq_true e2]) hb⟩
    · split at h
      · rename_i n cs hv
        split at h
        · rename_i e
          injection h with h
          subst h
          obtain ⟨ho, A, Z, e3, hA⟩ := atP_ok hok hv
          refine ⟨fun p hp => by rw [List.mem_singleton.1 hp]; exact ho, fun hb => run_load_row h2 hd (by rw [h1, Option.map_some, h3]; exact congrArg some ((Nat.eq_of_beq_eq_true e).symm.trans ho.1.symm)) ?_⟩
          have := range_in hb e3
          rwa [hA] at this
        · cases h
      · cases h
theorem loadS_ok {P : Program} {T : List TyR} (hT : OkT P T) {ps : List Pt} {t : TypeId} {off : Nat} {q : SQ} (hok : OkP ps) (h : loadS T ps t off = some q) :
    q.Ok ∧ ∀ {w : World} {g ty : Nat}, Blk w g ty (catP ps) → (Instr.loadAt t (.pointer (some ⟨g, off, none⟩))).run P w = .ok q.den w := by
  obtain ⟨h1, h2⟩ := loadS_at hT hok h
  refine ⟨h1, fun {w g ty} hb => ?_⟩
  have h3 : w.rangeAt g 0 (catP ps).toList := range_of (A := []) (Z := []) hb (by simp)
  have := h2 h3
  rwa [Nat.zero_add] at this
def fitC : SC → Bool
  | .v x => isOneB x
  | _ => true
theorem fitC_ok {s : SC} (hs : s.Ok) (h : fitC s = true) : s.den.oneCell' = true ∧ s.den.cells = #[s.den] := by
  cases s with
  | v x => exact isOneB_ok h
  | b e => exact ⟨rfl, rfl⟩
  | o x => exact hs
def fitP (n : Nat) : SQ → Option Pt
  | .c s => match Nat.beq n 1, fitC s with
    | true, true => some (.one s)
    | _, _ => none
  | .p ps => match Nat.beq (sizeP ps) n with
    | true => match ps with
      | [.agg m cs] => some (.agg m cs)
      | _ => some (.agg n (catP ps))
    | false => none
theorem fitP_ok {n : Nat} {q : SQ} {p : Pt} (hq : q.Ok) (h : fitP n q = some p) : p.Ok ∧ p.size = n ∧ q.den.cells = p.cells := by
  cases q with
  | c s =>
    simp only [fitP] at h
    split at h
    · rename_i e1 e2
      injection h with h
      subst h
      obtain ⟨h1, h2⟩ := fitC_ok hq e2
      exact ⟨⟨hq, h1, h2⟩, (Nat.eq_of_beq_eq_true e1).symm, h2⟩
    · cases h
  | p ps =>
    simp only [fitP] at h
    split at h
    · rename_i e
      have e := Nat.eq_of_beq_eq_true e
      split at h
      · rename_i m cs
        injection h with h
        subst h
        exact ⟨hq _ List.mem_cons_self, e, rfl⟩
      · injection h with h
        subst h
        exact ⟨⟨(OkP.size hq).trans e, OkP.one hq⟩, rfl, rfl⟩
    · cases h
def SQ.parts : SQ → Option (List Pt)
  | .p ps => some ps
  | _ => none
theorem SQ.parts_ok {q : SQ} {ps : List Pt} (h : q.parts = some ps) : q = .p ps := by
  cases q with
  | c x => cases h
  | p qs => cases h; rfl
def storeS (T : List TyR) (ps : List Pt) (t : TypeId) (off : Nat) (q : SQ) : Option (List Pt) := match findT T t with
  | none => none
  | some r => match Nat.beq off 0, Nat.beq (sizeP ps) (sizeP r.zero), q.parts with
    | true, true, some qs => match Nat.beq (sizeP qs) (sizeP r.zero) with
      | true => some qs
      | false => none
    | _, _, _ => match fitP (sizeP r.zero) q with
      | some p => setP ps off p
      | none => none
theorem run_store_part {P : Program} {w : World} {t : TypeId} {g off ty : Nat} {v : Value} {cs : Array Value} (hb : Blk w g ty cs) (hi : (P.info? t).map (·.size) = some v.cells.size) (hfit : off + v.cells.size ≤ cs.size) (h1 : ∀ u ∈ v.cells.toList, u.oneCell' = true) :
    (Instr.storeAt t (.pointer (some ⟨g, off, none⟩)) v).run P w = .ok () (w.setRow g (cs.toList.take off ++ v.cells.toList ++ cs.toList.drop (off + v.cells.size)).toArray) := by
  have hst := run_storeCells_at P g off ty v.cells.toList 0 cs w hb (by simp; omega) h1
  simp only [Nat.add_zero, Array.length_toList] at hst
  cases hq : P.info? t with
  | none => simp [hq] at hi
  | some i =>
    have hs : i.size = v.cells.size := by simpa [hq] using hi
    simp [Instr.storeAt, Instr.sureAddr, storeVar, sizeOf, typeInfo, hq, hs, Sem.run_bind, hst]
theorem storeS_ok {P : Program} {T : List TyR} (hT : OkT P T) {ps ps' : List Pt} {t : TypeId} {off : Nat} {q : SQ} (hok : OkP ps) (hq : q.Ok) (h : storeS T ps t off q = some ps') :
    OkP ps' ∧ ∀ {w : World} {g ty : Nat}, Blk w g ty (catP ps) → (Instr.storeAt t (.pointer (some ⟨g, off, none⟩)) q.den).run P w = .ok () (w.setRow g (catP ps')) := by
  unfold storeS at h
  split at h
  · cases h
  rename_i r hr
  have hro := findT_ok hT hr
  clear hr
  obtain ⟨hro, rfl⟩ := hro
  obtain ⟨it, d, h1, h2, h3, h4, h5, -⟩ := hro.info
  split at h
  · rename_i qs e1 e2 eq
    obtain rfl := SQ.parts_ok eq
    split at h
    · rename_i e3
      injection h with h
      subst h
      obtain rfl := Nat.eq_of_beq_eq_true e1
      have e2 := Nat.eq_of_beq_eq_true e2
      have e3 := Nat.eq_of_beq_eq_true e3
      have hsz : (catP qs).size = (catP ps).size := by rw [OkP.size hq, hok.size, e2, e3]
      refine ⟨hq, fun hb => ?_⟩
      have hr := run_store_part (P := P) (t := r.t) (v := .agg (catP qs)) (off := 0) hb (by rw [h1, Option.map_some, h3]; exact congrArg some ((OkP.size hq).trans e3).symm) (by rw [Nat.zero_add]; exact Nat.le_of_eq hsz) (OkP.one hq)
      simp only [Value.cells, List.take_zero, List.nil_append, Nat.zero_add] at hr
      rw [List.drop_eq_nil_of_le (by rw [Array.length_toList]; omega), List.append_nil, Array.toArray_toList] at hr
      exact hr
    · cases h
  · split at h
    · rename_i p hp
      obtain ⟨hp1, hp2, hp3⟩ := fitP_ok hq hp
      obtain ⟨h6, h7, A, B, Z, h8, h9, h10, h11⟩ := setP_ok hok hp1 h
      refine ⟨h6, fun hb => ?_⟩
      have hsz : q.den.cells.size = B.length := by rw [hp3, hp1.size, h10]
      have hcl : (catP ps).size = A.length + (B.length + Z.length) := by
        rw [← Array.length_toList, h8, List.length_append, List.length_append]
      have hr := run_store_part (P := P) (t := r.t) (v := q.den) (off := off) hb (by rw [h1, Option.map_some, h3, hp3, hp1.size, hp2]) (by omega) (by rw [hp3]; exact hp1.one)
      rw [hr]
      congr 1
      rw [← Array.toArray_toList (xs := catP ps'), h11, h8, hsz, ← h9, hp3]
      congr 2
      rw [List.take_left, List.append_assoc, ← List.append_assoc A B Z, ← List.length_append, List.drop_left]
    · cases h

/-! ### Fields, structs -/
def fieldS (T : List TyR) (t : TypeId) (i : Nat) : Option Nat := match findT T t with
  | none => none
  | some r => match Nat.beq r.kind 2 with
    | true => match (placesP 0 r.zero)[i]? with
      | some (o, n) => match Nat.ble 1 n with
        | true => some o
        | false => none
      | none => none
    | false => none
theorem mapM_get {α β : Type} {f : α → Option β} : ∀ {l : List α} {m : List β}, l.mapM f = some m → ∀ (i : Nat) b, m[i]? = some b → ∃ a, l[i]? = some a ∧ f a = some b
  | [], m, h, i, b, hb => by
    have : m = [] := by simpa using h.symm
    subst this
    simp at hb
  | x :: l, m, h, i, b, hb => by
    rw [List.mapM_cons] at h
    cases hx : f x with
    | none => rw [hx] at h; cases h
    | some y =>
      rw [hx] at h
      cases hm : l.mapM f with
      | none => rw [hm] at h; cases h
      | some ys =>
        rw [hm] at h
        have e : m = y :: ys := (Option.some.inj h).symm
        subst e
        cases i with
        | zero =>
          simp only [List.getElem?_cons_zero, Option.some.injEq] at hb
          exact ⟨x, rfl, by rw [hx, hb]⟩
        | succ i =>
          obtain ⟨a, h1, h2⟩ := mapM_get hm i b (by simpa using hb)
          exact ⟨a, by simpa using h1, h2⟩
theorem fieldS_ok {P : Program} {T : List TyR} (hT : OkT P T) {t : TypeId} {i o : Nat} (h : fieldS T t i = some o) (g off : Nat) (w : World) :
    (Instr.fieldAt t (.pointer (some ⟨g, off, none⟩)) i).run P w = .ok (.pointer (some ⟨g, off + o, none⟩)) w := by
  unfold fieldS at h
  split at h
  · cases h
  rename_i r hr
  have hro := findT_ok hT hr
  clear hr
  obtain ⟨hro, rfl⟩ := hro
  obtain ⟨it, d, h1, h2, h3, h4, h5, h6, -⟩ := hro.info
  split at h
  · rename_i hk
    have hk := Nat.eq_of_beq_eq_true hk
    split at h
    · rename_i o' n hp
      split at h
      · rename_i hn
        injection h with h
        subst h
        have hn := Nat.le_of_ble_eq_true hn
        have hd : kindOf d = 2 := by rw [h5, hk]
        cases d <;> first | (cases hd; done) | skip
        rename_i fs
        rw [hk] at h6
        dsimp only at h6
        obtain ⟨f, h7, h8⟩ := mapM_get h6 i (o', n) hp
        cases hf : P.info? f.type with
        | none => rw [hf] at h8; cases h8
        | some fi =>
          rw [hf] at h8
          simp only [Option.map_some, Option.some.injEq, Prod.mk.injEq] at h8
          have h9 : fs[i]? = some f := by simpa using h7
          have h10 : ¬ fi.size = 0 := by omega
          simp only [Instr.fieldAt, Sem.run_bind, run_underlying h2, Result.andThen_ok, h9, Instr.sureAddr, Sem.run_pure, fieldPlace, sizeOf, typeInfo]
          simp [hf, h10, Addr.add_mid, h8.1]
      · cases h
    · cases h
  · cases h
/-- A part of a struct that is built. -/
theorem fill_cells (place : Nat → Option (Nat × Nat)) (i n : Nat) (A O Z V : List Value) (rest : List (Nat × Value)) (v : Value) (hp : place i = some (A.length, n)) (hV : V.length = n) (hO : O.length = n) (hv : v.cells = V.toArray) :
    Instr.fill place (A ++ (O ++ Z)).toArray ((i, v) :: rest) = Instr.fill place (A ++ (V ++ Z)).toArray rest := by
  have := fill_put place i n A O Z V rest hp hV hO
  rw [← this, Instr.fill, Instr.fill, hv]
  rfl
/-- The parts of a struct, some of them given. -/
def buildS (E : SE) : List Pt → List (Nat × Operand) → Option (List Pt)
  | zs, [] => some zs
  | zs, (i, x) :: r => match zs[i]?, evS E x with
    | some z, some (.q q) => match fitP z.size q with
      | some p => buildS E (zs.set i p) r
      | none => none
    | _, _ => none
theorem catP_set : ∀ {zs : List Pt} {i : Nat} {z p : Pt}, zs[i]? = some z → ∃ A Z : List Value, (catP zs).toList = A ++ (z.cells.toList ++ Z) ∧ (catP (zs.set i p)).toList = A ++ (p.cells.toList ++ Z) ∧ ∀ o, OkP zs → (placesP o zs)[i]? = some (o + A.length, z.size)
  | [], i, z, p, h => by simp at h
  | y :: zs, 0, z, p, h => by
    simp only [List.getElem?_cons_zero, Option.some.injEq] at h
    subst h
    refine ⟨[], (catP zs).toList, by rw [catP_cons]; simp, by rw [List.set_cons_zero, catP_cons]; simp, fun o _ => by simp [placesP]⟩
  | y :: zs, i + 1, z, p, h => by
    obtain ⟨A, Z, h1, h2, h3⟩ := catP_set (zs := zs) (i := i) (p := p) (by simpa using h)
    refine ⟨y.cells.toList ++ A, Z, by rw [catP_cons, Array.toList_append, h1, List.append_assoc], by rw [List.set_cons_succ, catP_cons, Array.toList_append, h2, List.append_assoc], fun o hok => ?_⟩
    have h4 := h3 (o + y.size) fun x hx => hok x (by simp [hx])
    rw [List.length_append, Array.length_toList, (hok y (by simp)).size, ← Nat.add_assoc]
    simpa [placesP] using h4
theorem okP_set {zs : List Pt} {i : Nat} {p : Pt} (h : OkP zs) (hp : p.Ok) : OkP (zs.set i p) := fun x hx => by
  rcases List.mem_or_eq_of_mem_set hx with h1 | rfl
  · exact h x h1
  · exact hp
theorem places_set : ∀ {zs : List Pt} {i : Nat} {z p : Pt} (o : Nat), zs[i]? = some z → p.size = z.size → placesP o (zs.set i p) = placesP o zs
  | [], i, z, p, o, h, _ => by simp at h
  | y :: zs, 0, z, p, o, h, e => by
    simp only [List.getElem?_cons_zero, Option.some.injEq] at h
    subst h
    simp only [List.set_cons_zero, placesP, e]
  | y :: zs, i + 1, z, p, o, h, e => by
    simp only [List.set_cons_succ, placesP]
    rw [places_set (z := z) _ (by simpa using h) e]
theorem fill_ok {G : Nat → Nat} {E : SE} (hE : OkE E) {places : List (Nat × Nat)} : ∀ {parts : List (Nat × Operand)} {zs ps : List Pt}, OkP zs → placesP 0 zs = places → buildS E zs parts = some ps →
    ∀ (f : Operand → Value), (∀ x v, evS E x = some v → f x = v.den G) → OkP ps ∧ Instr.fill (places.toArray[·]?) (catP zs) (parts.map fun (i, x) => (i, f x)) = some (catP ps)
  | [], zs, ps, hz, _, h, f, _ => by
    cases h
    exact ⟨hz, rfl⟩
  | (i, x) :: r, zs, ps, hz, hpl, h, f, hf => by
    unfold buildS at h
    split at h
    · rename_i z q hi hx
      split at h
      · rename_i p hp
        have hq : q.Ok := hE.ev hx
        obtain ⟨h1, h2, h3⟩ := fitP_ok hq hp
        obtain ⟨A, Z, h4, h5, h6⟩ := catP_set (p := p) hi
        have h7 := h6 0 hz
        rw [hpl, Nat.zero_add] at h7
        have hzo := hz z (List.mem_of_getElem? hi)
        obtain ⟨h8, h9⟩ := fill_ok hE (parts := r) (okP_set hz h1) ((places_set 0 hi h2).trans hpl) h f hf
        refine ⟨h8, ?_⟩
        rw [← h9]
        have hv : f x = q.den := hf x _ hx
        rw [List.map_cons, ← Array.toArray_toList (xs := catP zs), h4]
        have := fill_cells (fun k => places.toArray[k]?) i p.size A z.cells.toList Z p.cells.toList (r.map fun (i, x) => (i, f x)) (f x) (by simpa [h2] using h7) (by rw [Array.length_toList, h1.size]) (by rw [Array.length_toList, hzo.size, h2]) (by rw [hv, h3, Array.toArray_toList])
        rw [this, ← h5, Array.toArray_toList]
      · cases h
    · cases h
end Go.Proofs.YtoecohpcnojokaaDoor
/-
  STEPS OVER STATES, reckoned at once.
-/
namespace Go.Proofs.YtoecohpcnojokaaDoor
open Go.RowKit Go.IntWalk

def ikB : IntKind → IntKind → Bool
  | .i8, .i8 => true
  | .i16, .i16 => true
  | .i32, .i32 => true
  | .i64, .i64 => true
  | .u8, .u8 => true
  | .u16, .u16 => true
  | .u32, .u32 => true
  | .u64, .u64 => true
  | _, _ => false
theorem ikB_ok {a b : IntKind} (h : ikB a b = true) : a = b := by
  cases a <;> cases b <;> first | rfl | cases h
/-- A number that is written there and isn't 0. -/
def nzB : Operand → Bool
  | .const (.int _ (.ofNat (_ + 1))) => true
  | _ => false
def binS (op : BinOp) (y : Operand) (K : IntKind) (m n : Int) : Option SV := match op with
  | .add => some (.v (.int K (K.wrap (m + n))))
  | .sub => some (.v (.int K (K.wrap (m - n))))
  | .mul => some (.v (.int K (K.wrap (m * n))))
  | .quo => match nzB y with
    | true => some (.v (.int K (K.wrap (m.tdiv n))))
    | false => none
  | .rem => match nzB y with
    | true => some (.v (.int K (m.tmod n)))
    | false => none
  | .eql => some (.b (decide (m = n)))
  | .neq => some (.b (decide (m ≠ n)))
  | .lss => some (.b (decide (m < n)))
  | .leq => some (.b (decide (m ≤ n)))
  | .gtr => some (.b (decide (m > n)))
  | .geq => some (.b (decide (m ≥ n)))
  | _ => none
theorem nzB_ok {E : SE} {y : Operand} {K : IntKind} {n : Int} (h : nzB y = true) (hy : evS E y = some (.v (.int K n))) : n ≠ 0 := by
  unfold nzB at h
  split at h
  · injection hy with hy
    injection hy with hy
    injection hy with hy
    injection hy with hy
    injection hy with _ hy
    subst hy
    exact fun h => (by cases h)
  · cases h
theorem binS_ok {P : Program} {E : SE} {op : BinOp} {t : TypeId} {y : Operand} {K : IntKind} {m n : Int} {v : SV} (hy : evS E y = some (.v (.int K n))) (h : binS op y K m n = some v) :
    v.Ok ∧ ∀ G w, (binOp op t (.int K m) (.int K n)).run P w = .ok (v.den G) w := by
  cases op <;> simp only [binS] at h
  case quo =>
    split at h
    · rename_i hz
      have := nzB_ok hz hy
      injection h with h
      subst h
      exact ⟨trivial, fun G w => by simp [binOp, Op.intDiv, this, SV.den, SQ.den, SC.den]⟩
    · cases h
  case rem =>
    split at h
    · rename_i hz
      have := nzB_ok hz hy
      injection h with h
      subst h
      exact ⟨trivial, fun G w => by simp [binOp, Op.intDiv, this, SV.den, SQ.den, SC.den]⟩
    · cases h
  all_goals first | (cases h; done) | skip
  all_goals injection h with h
  all_goals subst h
  all_goals refine ⟨trivial, fun G w => ?_⟩
  all_goals first | (simp [binOp, Op.intArith, SV.den, SQ.den, SC.den]; done) | skip
  all_goals simp [binOp, Op.intCmp, SV.den, SQ.den, SC.den]
  all_goals rfl
/-- What an operation hands back, where the state tells it. -/
def stepS (T : List TyR) (E : SE) (L : List LV) : Op → Option SV
  | .move x => evS E x
  | .assign x => evS E x
  | .pick c x y => match evS E c with
    | some (.q (.c (.v (.bool true)))) => evS E x
    | some (.q (.c (.v (.bool false)))) => evS E y
    | _ => none
  | .extract x i => match evS E x with
    | some (.t vs) => match vs[i]? with
      | some q => some (.q q)
      | none => none
    | _ => none
  | .unOp .not _ x => match evS E x with
    | some (.q (.c (.v (.bool true)))) => some (.v (.bool false))
    | some (.q (.c (.v (.bool false)))) => some (.v (.bool true))
    | some (.q (.c (.b e))) => some (.b !e)
    | _ => none
  | .nilCheck x => match evS E x with
    | some (.a j off) => some (.a j off)
    | some (.q (.c (.v (.pointer (some p))))) => some (.v (.pointer (some p)))
    | _ => none
  | .fieldAddr t x i => match evS E x, fieldS T t i with
    | some (.a j off), some o => some (.a j (off + o))
    | some (.q (.c (.v (.pointer (some ⟨g, off, none⟩))))), some o => some (.v (.pointer (some ⟨g, off + o, none⟩)))
    | _, _ => none
  | .load t x => match evS E x with
    | some (.a j off) => match lookL L j with
      | some ps => match loadS T ps t off with
        | some q => some (.q q)
        | none => none
      | none => none
    | _ => none
  | .build t parts => match findT T t with
    | some r => match Nat.beq r.kind 2 with
      | true => match buildS E r.zero parts.toList with
        | some ps => some (.p ps)
        | none => none
      | false => match Nat.beq r.kind 1, parts.toList with
        | true, [] => some (.p r.zero)
        | _, _ => none
    | none => none
  | .binOp op t x y _ => match evS E x, evS E y with
    | some (.q (.c (.v (.int K m)))), some (.q (.c (.v (.int K' n)))) => match ikB K K' with
      | true => binS op y K m n
      | false => none
    | some (.q (.c (.v (.pointer p)))), some (.q (.c (.v (.pointer none)))) => match findT T t with
      | some r => match r.pt, op, p with
        | true, .eql, none => some (.v (.bool true))
        | true, .eql, some _ => some (.v (.bool false))
        | true, .neq, none => some (.v (.bool false))
        | true, .neq, some _ => some (.v (.bool true))
        | _, _, _ => none
      | none => none
    | _, _ => none
  | .convert src dst x => match findT T src, findT T dst, evS E x with
    | some _, some r, some (.q (.c (.v (.int _ n)))) => match r.ik with
      | some K => some (.v (.int K (K.wrap n)))
      | none => none
    | _, _, _ => none
  | .call { callee := .builtin .len, args := ⟨[x]⟩, argTypes := ⟨[t]⟩ } => match findT T t with
    | some r => match r.el, evS E x with
      | some _, some (.q (.c (.v (.slice _ n _)))) => some (.v (.int .i64 (n : Int)))
      | some _, some (.s _ _ n _) => some (.v (.int .i64 (n : Int)))
      | _, _ => none
    | none => none
  | _ => none
def OkL (L : List LV) : Prop := ∀ x ∈ L, OkP x.ps
/-- The variables lie in the world. -/
def LAt (G : Nat → Nat) (L : List LV) (w : World) : Prop := ∀ x ∈ L, Blk w (G x.j) x.t (catP x.ps)
theorem built_eq {P : Program} {t : TypeId} {r : TyR} (hr : r.ok P) (ht : r.t = t) (hk : r.kind = 2) (parts : List (Nat × Value)) : P.built t parts = Instr.fill ((placesP 0 r.zero).toArray[·]?) (catP r.zero) parts := by
  subst ht
  obtain ⟨it, d, h1, h2, h3, h4, h5, h6, -⟩ := hr.info
  rw [hk] at h5 h6
  cases d <;> first | (cases h5; done) | skip
  rename_i fs
  dsimp only at h6
  cases hz : it.zero with
  | none => rw [hz] at h4; cases h4
  | some z =>
    rw [hz] at h4
    simp only [Option.map_some, Option.some.injEq] at h4
    unfold Program.built
    simp only [h1, h2, hz, h6, h4]
theorem built_row1 {P : Program} {t : TypeId} {r : TyR} (hr : r.ok P) (ht : r.t = t) (hk : r.kind = 1) : P.built t [] = some (catP r.zero) := by
  subst ht
  obtain ⟨it, d, h1, h2, h3, h4, h5, h6, -⟩ := hr.info
  rw [hk] at h5 h6
  cases d <;> first | (cases h5; done) | skip
  rename_i n e
  dsimp only at h6
  cases he : P.info? e with
  | none => rw [he] at h6; cases h6
  | some ie =>
    cases hz : it.zero with
    | none => rw [hz] at h4; cases h4
    | some z =>
      rw [hz] at h4
      simp only [Option.map_some, Option.some.injEq] at h4
      unfold Program.built
      simp only [h1, h2, hz, he, h4]
      rfl
theorem run_len {P : Program} {t : TypeId} {e : TypeId} (ht : P.underlying t = some (.slice e)) (ty : TypeId) (A : Option Addr) (n c : Nat) (w : World) : (Builtin.len_ #[t] ty #[.slice A n c]).run P w = .ok (.int .i64 (n : Int)) w := by
  simp [Builtin.len_, run_underlying ht, goInt]
theorem stepS_ok {P : Program} {T : List TyR} (hT : OkT P T) {E : SE} {L : List LV} {N : Nat} {o : Oper} {v : SV} (hE : OkE E) (hL : OkL L) (h : stepS T E L o.op = some v) :
    v.Ok ∧ ∀ {G : Nat → Nat} {a : Act} {w : World}, Fr N (denE G E) a → LAt G L w → (execOp a.eval o).run P w = .ok (.value (v.den G)) w := by
  obtain ⟨dst, op, ty, pos, af, gd⟩ := o
  dsimp only at h
  have hev : ∀ {x : Operand} {u : SV}, evS E x = some u → ∀ {G : Nat → Nat} {a : Act}, Fr N (denE G E) a → a.eval x = u.den G := by
    intro x u hx G a ha
    exact ha.eval (evS_ok hx)
  cases op
  case move x =>
    refine ⟨hE.ev h, fun ha _ => ?_⟩
    have h1 := hev h ha
    unfold execOp
    simp only [h1, Sem.run_pure]
  case assign x =>
    refine ⟨hE.ev h, fun ha _ => ?_⟩
    have h1 := hev h ha
    unfold execOp
    simp only [h1, Sem.run_pure]
  case pick c x y =>
    simp only [stepS] at h
    split at h
    · rename_i hc
      refine ⟨hE.ev h, fun ha _ => ?_⟩
      have h1 := hev hc ha
      have h2 := hev h ha
      unfold execOp
      simp only [h1, h2, SV.den, SQ.den, SC.den, asBool, Sem.run_bind, Sem.run_pure, Result.andThen_ok, if_true]
    · rename_i hc
      refine ⟨hE.ev h, fun ha _ => ?_⟩
      have h1 := hev hc ha
      have h2 := hev h ha
      unfold execOp
      simp only [h1, h2, SV.den, SQ.den, SC.den, asBool, Sem.run_bind, Sem.run_pure, Result.andThen_ok, Bool.false_eq_true, if_false]
    · cases h
  case extract x i =>
    simp only [stepS] at h
    split at h
    · rename_i vs hx
      split at h
      · rename_i q hq
        injection h with h
        subst h
        refine ⟨hE.ev hx q (List.mem_of_getElem? hq), fun ha _ => ?_⟩
        have h1 := hev hx ha
        have h2 : (vs.map SQ.den).toArray[i]? = some q.den := by simp [hq]
        unfold execOp
        simp only [h1, SV.den, Instr.extract, h2, Sem.run_bind, Sem.run_pure, Result.andThen_ok]
      · cases h
    · cases h
  case unOp k t x =>
    cases k
    case not =>
      simp only [stepS] at h
      split at h
      · rename_i hx
        injection h with h
        subst h
        refine ⟨trivial, fun ha _ => ?_⟩
        have h1 := hev hx ha
        unfold execOp
        simp only [h1, SV.den, SQ.den, SC.den, Op.unary, Sem.run_bind, Sem.run_pure, Result.andThen_ok, Bool.not_true]
      · rename_i hx
        injection h with h
        subst h
        refine ⟨trivial, fun ha _ => ?_⟩
        have h1 := hev hx ha
        unfold execOp
        simp only [h1, SV.den, SQ.den, SC.den, Op.unary, Sem.run_bind, Sem.run_pure, Result.andThen_ok, Bool.not_false]
      · rename_i e hx
        injection h with h
        subst h
        refine ⟨trivial, fun ha _ => ?_⟩
        have h1 := hev hx ha
        unfold execOp
        simp only [h1, SV.den, SQ.den, SC.den, Op.unary, Sem.run_bind, Sem.run_pure, Result.andThen_ok]
      · cases h
    all_goals cases h
  case nilCheck x =>
    simp only [stepS] at h
    split at h
    · rename_i j off hx
      injection h with h
      subst h
      refine ⟨trivial, fun ha _ => ?_⟩
      have h1 := hev hx ha
      unfold execOp
      simp only [h1, SV.den, Sem.run_pure]
    · rename_i p hx
      injection h with h
      subst h
      refine ⟨trivial, fun ha _ => ?_⟩
      have h1 := hev hx ha
      unfold execOp
      simp only [h1, SV.den, SQ.den, SC.den, Sem.run_pure]
    · cases h
  case fieldAddr t x i =>
    simp only [stepS] at h
    split at h
    · rename_i j off o hx ho
      injection h with h
      subst h
      refine ⟨trivial, fun ha _ => ?_⟩
      have h1 := hev hx ha
      unfold execOp
      simp only [h1, SV.den, fieldS_ok hT ho, Sem.run_bind, Sem.run_pure, Result.andThen_ok]
    · rename_i g off o hx ho
      injection h with h
      subst h
      refine ⟨trivial, fun ha _ => ?_⟩
      have h1 := hev hx ha
      unfold execOp
      simp only [h1, SV.den, SQ.den, SC.den, fieldS_ok hT ho, Sem.run_bind, Sem.run_pure, Result.andThen_ok]
    · cases h
  case load t x =>
    simp only [stepS] at h
    split at h
    · rename_i j off hx
      split at h
      · rename_i ps hps
        split at h
        · rename_i q hq
          injection h with h
          subst h
          obtain ⟨y, hy, rfl, rfl⟩ := lookL_mem hps
          obtain ⟨h3, h4⟩ := loadS_ok hT (hL y hy) hq
          refine ⟨h3, fun ha hl => ?_⟩
          have h1 := hev hx ha
          unfold execOp
          simp only [h1, SV.den, h4 (hl y hy), Sem.run_bind, Sem.run_pure, Result.andThen_ok]
        · cases h
      · cases h
    · cases h
  case build t parts =>
    simp only [stepS] at h
    split at h
    · rename_i r hr
      split at h
      · rename_i hk
        split at h
        · rename_i ps hps
          injection h with h
          subst h
          obtain ⟨h3, h4⟩ := findT_ok hT hr
          have hf := fun (G : Nat → Nat) => fill_ok (G := G) hE (places := placesP 0 r.zero) h3.2 rfl hps
          refine ⟨(hf (fun _ => 0) (fun x => ((evS E x).map (SV.den fun _ => 0)).getD undef) (fun x u hx => by rw [hx]; rfl)).1, fun {G a w} ha _ => ?_⟩
          have h5 := (hf G a.eval (fun x u hx => hev hx ha)).2
          rw [← built_eq h3 h4 (Nat.eq_of_beq_eq_true hk)] at h5
          have h6 := run_build (P := P) w t (parts.map fun (i, x) => (i, a.eval x)) (catP ps) (by rw [Array.toList_map]; exact h5)
          unfold execOp
          simp only [h6, SV.den, SQ.den, Sem.run_bind, Sem.run_pure, Result.andThen_ok]
        · cases h
      · split at h
        · rename_i hk hpt
          injection h with h
          subst h
          obtain ⟨h3, h4⟩ := findT_ok hT hr
          have hpt' : parts = #[] := by simpa using hpt
          subst hpt'
          refine ⟨h3.2, fun {G a w} _ _ => ?_⟩
          have h6 := run_build (P := P) w t #[] (catP r.zero) (built_row1 h3 h4 (Nat.eq_of_beq_eq_true hk))
          unfold execOp
          simp only [List.map_toArray, List.map_nil, h6, SV.den, SQ.den, Sem.run_bind, Sem.run_pure, Result.andThen_ok]
        · cases h
    · cases h
  case binOp op t x y t2 =>
    simp only [stepS] at h
    split at h
    · rename_i K m K' n hx hy
      split at h
      · rename_i hK
        obtain rfl := ikB_ok hK
        obtain ⟨h1, h2⟩ := binS_ok (P := P) (t := t) hy h
        refine ⟨h1, fun {G a w} ha _ => ?_⟩
        have e1 := hev hx ha
        have e2 := hev hy ha
        have e3 : (eqGuard op t x y (.int K m) (.int K n)).run P w = .ok () w := by
          cases op <;> rfl
        unfold execOp
        simp only [e1, e2, SV.den, SQ.den, SC.den, Sem.run_bind, e3, h2 G w, Sem.run_pure, Result.andThen_ok]
      · cases h
    · rename_i p hx hy
      split at h
      · rename_i r hr
        obtain ⟨h3, rfl⟩ := findT_ok hT hr
        obtain ⟨it, d, h5, h6, -, -, -, -, -, -, h7, -⟩ := h3.info
        have hpt : r.pt = true → ∃ e, P.underlying r.t = some (.pointer e) := fun he => by
          rw [he] at h7
          cases d <;> first | (cases h7; done) | skip
          exact ⟨_, h6⟩
        have key : ∀ {G : Nat → Nat} {a : Act} {w : World}, Fr N (denE G E) a → ∀ b : Bool, (binOp op r.t (.pointer p) (.pointer none)).run P w = .ok (.bool b) w → (execOp a.eval ⟨dst, .binOp op r.t x y t2, ty, pos, af, gd⟩).run P w = .ok (.value (.bool b)) w := fun {G a w} ha b hb => by
          have e1 := hev hx ha
          have e2 := hev hy ha
          have e3 : (eqGuard op r.t x y (.pointer p) (.pointer none)).run P w = .ok () w := by
            cases op <;> rfl
          unfold execOp
          simp only [e1, e2, SV.den, SQ.den, SC.den, Sem.run_bind, e3, hb, Sem.run_pure, Result.andThen_ok]
        have heq : ∀ w, r.pt = true → (Op.equal r.t (.pointer p) (.pointer none)).run P w = .ok p.isNone w := fun w he => by
          obtain ⟨e, hu⟩ := hpt he
          unfold Op.equal Op.maxDepth
          rw [show (10000 : Nat) = 9999 + 1 from rfl, Op.equalIn]
          simp only [Sem.run_bind, run_underlying hu, Result.andThen_ok]
          cases p <;> rfl
        split at h
        all_goals first | (cases h; done) | skip
        all_goals rename_i he
        all_goals injection h with h
        all_goals subst h
        all_goals refine ⟨trivial, fun ha _ => key ha _ ?_⟩
        all_goals simp [binOp, heq _ he]
      · cases h
    · cases h
  case convert src dst' x =>
    simp only [stepS] at h
    split at h
    · rename_i r0 r K0 n h0 hr hx
      split at h
      · rename_i K hK
        injection h with h
        subst h
        have q1 := findT_ok hT h0
        have q2 := findT_ok hT hr
        clear h0 hr
        obtain ⟨q1, rfl⟩ := q1
        obtain ⟨q2, rfl⟩ := q2
        obtain ⟨it0, d0, _, h6, -⟩ := q1.info
        obtain ⟨it, d, _, h7, -, -, -, -, -, h8, -⟩ := q2.info
        rw [hK] at h8
        cases d <;> first | (cases h8; done) | skip
        injection h8 with h8
        subst h8
        refine ⟨trivial, fun ha _ => ?_⟩
        have e1 := hev hx ha
        unfold execOp
        simp only [e1, SV.den, SQ.den, SC.den]
        simp [convert, run_underlying h6, run_underlying h7, Conv.intToInt]
      · cases h
    · cases h
  case call c =>
    obtain ⟨callee, args, ats⟩ := c
    cases callee
    case builtin bi =>
     cases bi
     case len =>
      obtain ⟨args⟩ := args
      obtain ⟨ats⟩ := ats
      rcases args with _ | ⟨x, _ | ⟨y, r⟩⟩
      · cases h
      rcases ats with _ | ⟨t, _ | ⟨y, r⟩⟩
      all_goals first | (cases h; done) | skip
      simp only [stepS] at h
      split at h
      · rename_i r hr
        obtain ⟨h3, rfl⟩ := findT_ok hT hr
        obtain ⟨it, d, h5, h6, -, -, -, -, h7, -⟩ := h3.info
        have hu : ∀ e, r.el = some e → P.underlying r.t = some (.slice e) := fun e he => by
          rw [he] at h7
          cases d <;> first | (cases h7; done) | skip
          injection h7 with h7
          subst h7
          exact h6
        split at h
        · rename_i e A n cc he hx
          injection h with h
          subst h
          refine ⟨trivial, fun ha _ => ?_⟩
          have h1 := hev hx ha
          unfold execOp
          simp only [resolve, invoke, builtin, List.map_toArray, List.map_cons, List.map_nil, h1, SV.den, SQ.den, SC.den, Sem.run_bind, Sem.run_pure, Result.andThen_ok, run_len (hu e he)]
        · rename_i e j off n cc he hx
          injection h with h
          subst h
          refine ⟨trivial, fun ha _ => ?_⟩
          have h1 := hev hx ha
          unfold execOp
          simp only [resolve, invoke, builtin, List.map_toArray, List.map_cons, List.map_nil, h1, SV.den, SQ.den, SC.den, Sem.run_bind, Sem.run_pure, Result.andThen_ok, run_len (hu e he)]
        · cases h
      · cases h
     all_goals cases h
    all_goals cases h
  all_goals cases h
end Go.Proofs.YtoecohpcnojokaaDoor
