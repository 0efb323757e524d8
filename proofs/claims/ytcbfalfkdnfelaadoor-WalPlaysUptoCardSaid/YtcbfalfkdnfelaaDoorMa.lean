/-
  SEVERAL TEXTS IN ONE: Mem, Base, Eql, Quiet, Tail, Regs, Calls, Law, RegG, Pick, Fr.
-/
import Derived.Test.YtcbfalfkdnfelaaDoorRows
import Derived.WalkKit
import Derived.WalkSpells
import Derived.WalkLawsBesides
import Derived.Lib.Hide
import Derived.Laws.CopyOwn
import Derived.Deep.QuietTactic
import Derived.StillTail
import Derived.Deep.MidRow
import Derived.ProofKit
import Derived.OpenShut
import Derived.SizedLaws
/-
PLAIN MATHEMATICS OF LAYER 1 (wire): numbers as eight bytes, and what a reader does to the bytes it has left. No program is imported.
WORDS FOR MEMORY: bytes that a slice value reads, and how they stay.
-/
namespace Go.Proofs.YtcbfalfkdnfelaaDoor

/-- The eight bytes of a number, the greatest first. -/
def be8 (v : Nat) : List UInt8 := [UInt8.ofNat (v / 72057594037927936), UInt8.ofNat (v / 281474976710656), UInt8.ofNat (v / 1099511627776), UInt8.ofNat (v / 4294967296), UInt8.ofNat (v / 16777216), UInt8.ofNat (v / 65536), UInt8.ofNat (v / 256), UInt8.ofNat v]

/-- One step of reading a number. -/
def step (a : Nat) (x : UInt8) : Nat := (a * 256 + x.toNat) % 18446744073709551616

/-- The number that bytes are, modulo two to the 64th. -/
def val (l : List UInt8) : Nat := l.foldl step 0

theorem be8_len (v : Nat) : (be8 v).length = 8 := rfl

theorem val_snoc (l : List UInt8) (x : UInt8) : val (l ++ [x]) = step (val l) x := by simp [val]

theorem step_lt (a : Nat) (x : UInt8) : step a x < 18446744073709551616 := Nat.mod_lt _ (by omega)

theorem val_lt (l : List UInt8) : val l < 18446744073709551616 := by
  rcases List.eq_nil_or_concat l with rfl | ⟨l', x, rfl⟩
  · simp [val]
  · rw [List.concat_eq_append, val_snoc]
    exact step_lt _ _

theorem val_be8 (v : Nat) (h : v < 18446744073709551616) : val (be8 v) = v := by
  simp [val, be8, step]
  omega

/-- What taking k bytes answers, and what is left: bytes left, the failure's number. -/
def tk (l : List UInt8) (f k : Nat) : List UInt8 × List UInt8 × Nat :=
  if f = 0 then (if l.length < k then ([], l, 10) else (l.take k, l.drop k, 0)) else ([], l, f)

theorem tk_fail {l : List UInt8} {f k : Nat} (h : f ≠ 0) : tk l f k = ([], l, f) := by simp [tk, h]
theorem tk_short {l : List UInt8} {k : Nat} (h : l.length < k) : tk l 0 k = ([], l, 10) := by simp [tk, h]
theorem tk_ok {l : List UInt8} {k : Nat} (h : k ≤ l.length) : tk l 0 k = (l.take k, l.drop k, 0) := by
  simp only [tk, if_pos]
  rw [if_neg (by omega)]

end Go.Proofs.YtcbfalfkdnfelaaDoor

namespace Go.Proofs.YtcbfalfkdnfelaaDoor
open Go.RowKit

/-- Bytes as the cells of a row. -/
def By (l : List UInt8) : List Value := l.map fun x => .int .u8 (x.toNat : Int)

theorem By_len (l : List UInt8) : (By l).length = l.length := by simp [By]
theorem By_app (a b : List UInt8) : By (a ++ b) = By a ++ By b := by simp [By]
theorem By_one (l : List UInt8) : ∀ u ∈ By l, u.oneCell' = true := by
  intro u hu
  obtain ⟨x, _, rfl⟩ := List.mem_map.1 hu
  rfl
theorem By_at {l : List UInt8} {j : Nat} {u : Value} (h : (By l)[j]? = some u) : ∃ x, l[j]? = some x ∧ u = .int .u8 (x.toNat : Int) := by
  simp only [By, List.getElem?_map, Option.map_eq_some_iff] at h
  obtain ⟨x, hx, rfl⟩ := h
  exact ⟨x, hx, rfl⟩

/-- The bytes l lie at A, in a block from lo on and below hi. -/
def BV (w : World) (lo hi : Nat) (A : Option Addr) (l : List UInt8) : Prop :=
  0 < l.length → ∃ ad, A = some ad ∧ lo ≤ ad.block ∧ ad.block < hi ∧ ∀ j x, l[j]? = some x → w.cell? (ad.add j) = some (.int .u8 (x.toNat : Int))

section
variable {w w' : World} {lo hi lo' hi' : Nat} {A : Option Addr} {l : List UInt8}

theorem block_add (a : Addr) (n : Nat) : (a.add n).block = a.block := by unfold Addr.add; split <;> rfl
theorem add_add' (a : Addr) (i j : Nat) : (a.add i).add j = a.add (i + j) := by
  unfold Addr.add
  by_cases h1 : i = 0 <;> by_cases h2 : j = 0 <;> simp [h1, h2, Nat.add_assoc]

theorem BV.nil (w : World) (lo hi : Nat) (A : Option Addr) : BV w lo hi A [] := fun h => absurd h (by simp)

theorem BV.keep (h : BV w lo hi A l) (hk : ∀ k, lo ≤ k → k < hi → w'.heap[k]? = w.heap[k]?) : BV w' lo hi A l := fun hl => by
  obtain ⟨ad, e, ha, hb, hc⟩ := h hl
  exact ⟨ad, e, ha, hb, fun j x hx => by
    rw [World.cell?_of_block (w := w) (by rw [block_add]; exact hk _ ha hb)]
    exact hc j x hx⟩

theorem BV.below (h : BV w lo hi A l) {B : Nat} (hb : Below B w w') (hB : hi ≤ B) : BV w' lo hi A l := h.keep fun k _ hk => hb.block k (by omega)
theorem BV.take (h : BV w lo hi A l) (k : Nat) : BV w lo hi A (l.take k) := fun hl => by
  obtain ⟨ad, e, ha, hb, hc⟩ := h (by simp at hl; omega)
  exact ⟨ad, e, ha, hb, fun j x hx => hc j x (by
    rw [List.getElem?_take] at hx
    split at hx
    · exact hx
    · cases hx)⟩

/-- A cut 's[k:]', the address as the model spells it. -/
theorem BV.cut (h : BV w lo hi A l) {k c : Nat} (hk : k ≤ l.length) (hc : l.length ≤ c) : BV w lo hi (if c = k then A else A.map (·.add k)) (l.drop k) := fun hl => by
  simp only [List.length_drop] at hl
  obtain ⟨ad, rfl, ha, hb, hcell⟩ := h (by omega)
  rw [if_neg (by omega)]
  exact ⟨ad.add k, rfl, by rw [block_add]; exact ha, by rw [block_add]; exact hb, fun j x hx => by
    rw [add_add']
    exact hcell (k + j) x (by rw [← hx, List.getElem?_drop])⟩

end

/-- A block that is just these cells, none of them frozen. -/
def Blk (w : World) (g t : Nat) (cs : Array Value) : Prop := w.heap[g]? = some (.cells cs t (0, 0))

section
variable {w w' : World} {g t : Nat} {cs : Array Value}
theorem Blk.lt (h : Blk w g t cs) : g < w.heap.size := (Array.getElem?_eq_some_iff.1 h).1
theorem Blk.cell (h : Blk w g t cs) (i : Nat) : w.cell? ⟨g, i, none⟩ = cs[i]? := cell_of_row w g i cs t (0, 0) h
theorem Blk.free (h : Blk w g t cs) (i : Nat) : w.frozen? ⟨g, i, none⟩ = false := frozen_of_row w g i cs t h
theorem Blk.new (w : World) (t : Nat) (cs : Array Value) : Blk (w.alloc (.cells cs t)) w.heap.size t cs := heap_alloc_new w _
theorem Blk.alloc (h : Blk w g t cs) (o : Obj) : Blk (w.alloc o) g t cs := (Below.heap_alloc w o g h.lt).trans h
theorem Blk.set (h : Blk w g t cs) (i : Nat) (u : Value) : Blk (w.setCell ⟨g, i, none⟩ u) g t (cs.setIfInBounds i u) := by
  unfold Blk at h ⊢
  simp [World.setCell, Array.getElem?_modify, h]
theorem Blk.far (h : Blk w g t cs) {p : Addr} (hp : g ≠ p.block) (u : Value) : Blk (w.setCell p u) g t cs := (heap_setCell_other w p g u hp).trans h
theorem Blk.below {B : Nat} (h : Blk w g t cs) (hb : Below B w w') (hg : g < B) : Blk w' g t cs := (hb.block g hg).trans h
end

/-- The slice value '.slice A l.length c' reads the bytes l. -/
def SL (w : World) (lo hi : Nat) (A : Option Addr) (l : List UInt8) (c : Nat) : Prop :=
  l.length ≤ c ∧ c ≤ 9223372036854775807 ∧ (A = none → c = 0) ∧ BV w lo hi A l

section
variable {w w' : World} {lo hi lo' hi' c : Nat} {A : Option Addr} {l : List UInt8}
theorem SL.below (h : SL w lo hi A l c) {B : Nat} (hb : Below B w w') (hB : hi ≤ B) : SL w' lo hi A l c := ⟨h.1, h.2.1, h.2.2.1, h.2.2.2.below hb hB⟩
theorem SL.nil (w : World) (lo hi : Nat) : SL w lo hi none [] 0 := ⟨by simp, by omega, fun _ => rfl, BV.nil _ _ _ _⟩
theorem SL.take (h : SL w lo hi A l c) (k : Nat) : SL w lo hi A (l.take k) c := ⟨by have := h.1; simp; omega, h.2.1, h.2.2.1, h.2.2.2.take k⟩
theorem SL.cut (h : SL w lo hi A l c) {k : Nat} (hk : k ≤ l.length) : SL w lo hi (if c = k then A else A.map (·.add k)) (l.drop k) (c - k) := by
  refine ⟨by have := h.1; simp; omega, by have := h.2.1; omega, fun hA => ?_, h.2.2.2.cut hk h.1⟩
  split at hA
  · rw [h.2.2.1 hA]; omega
  · cases A with
    | none => rw [h.2.2.1 rfl]; omega
    | some a => cases hA
end

/-- What the laws on append ask of the bytes that are appended. -/
theorem SL.none_ {w : World} {lo hi c : Nat} {A : Option Addr} {l : List UInt8} (h : SL w lo hi A l c) (hA : A = none) : l.length = 0 ∧ c = 0 := by
  have := h.2.2.1 hA
  have := h.1
  omega
theorem SL.cells {w : World} {lo hi c : Nat} {A : Option Addr} {l : List UInt8} (h : SL w lo hi A l c) : ∀ ad, A = some ad → ∀ j u, (By l)[j]? = some u → w.cell? (ad.add j) = some u := by
  intro ad hA j u hu
  obtain ⟨x, hx, rfl⟩ := By_at hu
  have hl : 0 < l.length := by
    have := (List.getElem?_eq_some_iff.1 hx).1
    omega
  obtain ⟨ad', hA', _, _, hc⟩ := h.2.2.2 hl
  rw [hA] at hA'
  injection hA' with hA'
  subst hA'
  exact hc j x hx

/-- The slice of slices at A reads the lists ls. -/
def Parts (w : World) (hi : Nat) (A : Option Addr) (ls : List (List UInt8)) : Prop :=
  0 < ls.length → ∃ ad, A = some ad ∧ ad.block < hi ∧ ∀ (i : Nat) l, ls[i]? = some l → ∃ A' c, w.cell? (ad.add i) = some (.slice A' l.length c) ∧ SL w 0 hi A' l c

theorem Parts.below {w w' : World} {hi B : Nat} {A : Option Addr} {ls : List (List UInt8)} (h : Parts w hi A ls) (hb : Below B w w') (hB : hi ≤ B) : Parts w' hi A ls := fun hl => by
  obtain ⟨ad, rfl, ha, hc⟩ := h hl
  refine ⟨ad, rfl, ha, fun i l hi => ?_⟩
  obtain ⟨A', c, h1, h2⟩ := hc i l hi
  exact ⟨A', c, by rw [hb.cell (by rw [block_add]; omega)]; exact h1, h2.below hb hB⟩

/-- A whole array stored into its variable's block. -/
theorem run_store_row {P : Program} (w : World) (ty : TypeId) (g : Nat) (cs old : Array Value) (t : TypeId) (hg : w.heap[g]? = some (.cells old t (0, 0)))
    (hi : (P.info? ty).map (·.size) = some cs.size) (hos : old.size = cs.size) (h1 : ∀ v ∈ cs.toList, v.oneCell' = true) :
    (Instr.storeAt ty (.pointer (some ⟨g, 0, none⟩)) (.agg cs)).run P w = .ok () (w.setRow g cs) := by
  have hst := run_storeCells_at P g 0 t cs.toList 0 old w hg (by simp; omega) h1
  have hd : old.toList.drop cs.toList.length = [] := List.drop_eq_nil_of_le (by simp; omega)
  simp only [Nat.add_zero, Nat.zero_add, List.take_zero, List.nil_append] at hst
  rw [hd, List.append_nil, Array.toArray_toList] at hst
  cases hq : P.info? ty with
  | none => simp [hq] at hi
  | some i =>
    have hs : i.size = cs.size := by simpa [hq] using hi
    simp [Instr.storeAt, Instr.sureAddr, storeVar, sizeOf, typeInfo, hq, hs, Value.cells, Sem.run_bind, hst]

theorem wpList_store_row {P : Program} {ops : Array Oper} {rest : List Oper} {o : Oper} {a : Act} {w : World} {Q : Exit → Act → World → Prop} (hgd : o.guard = none) (ty : TypeId) (p x : Operand) (ho : o.op = .store ty p x)
    (g : Nat) (hp : a.eval p = .pointer (some ⟨g, 0, none⟩)) (cs : Array Value) (hx : a.eval x = .agg cs) (t : TypeId) (old : Array Value) (hg : w.heap[g]? = some (.cells old t (0, 0)))
    (hi : (P.info? ty).map (·.size) = some cs.size) (hos : old.size = cs.size) (h1 : ∀ v ∈ cs.toList, v.oneCell' = true)
    (h : wpList P ops Q rest (a.put o.dst (.tuple #[])) (w.setRow g cs)) : wpList P ops Q (o :: rest) a w :=
  wpList_plain hgd fun _ hK => by
    unfold Oper.wp execOp
    simp only [ho, hp, hx, Sem.run_bind, Sem.run_pure, Result.andThen_ok, run_store_row w ty g cs old t hg hi hos h1]
    exact hK _ _ h

theorem Blk.row {w : World} {g t : Nat} {cs : Array Value} (h : Blk w g t cs) (cs' : Array Value) : Blk (w.setRow g cs') g t cs' := setRow_heap w g cs cs' t _ h
theorem Blk.rowFar {w : World} {g t : Nat} {cs : Array Value} (h : Blk w g t cs) {g' : Nat} (hne : g ≠ g') (cs' : Array Value) : Blk (w.setRow g' cs') g t cs := by
  unfold Blk at h ⊢
  rw [World.setRow]
  simp only [Array.getElem?_modify]
  rw [if_neg (by omega)]
  exact h

end Go.Proofs.YtcbfalfkdnfelaaDoor
/-
  WORDS FOR MEMORY: rows of bytes and of whole numbers, blocks behind three or four new ones.
-/
namespace Go.Proofs.YtcbfalfkdnfelaaDoor
open Go.RowKit

/-- Whole numbers as the cells of a row. -/
def Is (l : List Int) : List Value := l.map (.int .i64)
theorem By_get {l : List UInt8} {j : Nat} (h : j < l.length) : (By l).toArray[j]? = some (.int .u8 ((l[j]!).toNat : Int)) := by
  simp [By, h]
theorem blk3_0 (w : World) (t : Nat) (cs : Array Value) (o1 o2 : Obj) : Blk (((w.alloc (.cells cs t)).alloc o1).alloc o2) w.heap.size t cs := ((Blk.new w t cs).alloc o1).alloc o2
theorem blk3_1 (w : World) (t : Nat) (cs : Array Value) (o1 o2 : Obj) : Blk (((w.alloc o1).alloc (.cells cs t)).alloc o2) (w.heap.size + 1) t cs := by
  have h := (Blk.new (w.alloc o1) t cs).alloc o2
  rwa [World.size_alloc] at h
theorem blk3_2 (w : World) (t : Nat) (cs : Array Value) (o1 o2 : Obj) : Blk (((w.alloc o1).alloc o2).alloc (.cells cs t)) (w.heap.size + 1 + 1) t cs := by
  have h := Blk.new ((w.alloc o1).alloc o2) t cs
  rwa [World.size_alloc, World.size_alloc] at h
theorem size_hash (cs : Array Value) (h : cs.size = 32) : (Tryd.prog.info? 54).map (·.size) = some cs.size := by
  rw [h]
  kernel_rfl
theorem By_set (l : List UInt8) (k : Nat) (x : UInt8) : (By l).toArray.setIfInBounds k (.int .u8 (x.toNat : Int)) = (By (l.set k x)).toArray := by
  simp [By, List.map_set]

end Go.Proofs.YtcbfalfkdnfelaaDoor
/-
  ARRAYS OF BYTES: '==' of any two of one length.
-/
namespace Go.Proofs.YtcbfalfkdnfelaaDoor
open Go.RowKit

end Go.Proofs.YtcbfalfkdnfelaaDoor
/-
  REGIONS THAT DRAW THEIR ORDER, whose operations read rows and call what leaves a class of worlds: one walk.
-/
namespace Go.Proofs.YtcbfalfkdnfelaaDoor
open Go.RowKit Go.IntWalk


end Go.Proofs.YtcbfalfkdnfelaaDoor
/-
  REGIONS THAT DRAW THEIR ORDER: operations that read, and calls that only write new memory, may be taken first, whatever they hand back; what is left (new variables, stores) is walked as it comes.
-/
namespace Go.Proofs.YtcbfalfkdnfelaaDoor
open Go.RowKit Go.IntWalk

/-- Operations that never enter a function. -/
def plainB : Op → Bool
  | .move _ | .assign _ | .pick .. | .alloc _ | .box .. | .build .. | .load .. | .store .. | .binOp .. | .unOp .. | .convert .. | .fieldAddr .. | .field .. | .indexAddr .. | .index .. | .extract .. | .slice .. | .makeInterface .. => true
  | _ => false
/-- Operations whose answer may be any of a set. -/
def multiB : Op → Bool
  | .call c => match c.callee with | .builtin .len => false | _ => true
  | o => !plainB o
theorem plain_of {o : Op} (h : multiB o = true) : plainB o = false := by
  cases o <;> first | rfl | exact absurd h (by simp [multiB, plainB])

section
variable {P : Program}
theorem run_v {s : Sem Value} {w w' : World} {n : Next} (h : (do pure (Next.value (← s)) : Sem Next).run P w = .ok n w') : ∃ v, n = .value v := by
  rw [Sem.run_bind] at h
  cases hs : s.run P w with
  | ok v w1 =>
    rw [hs] at h
    simp only [Result.andThen_ok, Sem.run_pure] at h
    injection h with h1 h2
    exact ⟨v, h1.symm⟩
  | halt x w1 =>
    rw [hs] at h
    cases h
theorem run_u {s : Sem Unit} {w w' : World} {n : Next} (h : (do s; pure Next.skip : Sem Next).run P w = .ok n w') : n = .skip := by
  rw [Sem.run_bind] at h
  cases hs : s.run P w with
  | ok v w1 =>
    rw [hs] at h
    simp only [Result.andThen_ok, Sem.run_pure] at h
    injection h with h1 h2
    exact h1.symm
  | halt x w1 =>
    rw [hs] at h
    cases h
theorem plain_ok {ρ : Operand → Value} {o : Oper} (hp : plainB o.op = true) {w w' : World} {n : Next} (h : (execOp ρ o).run P w = .ok n w') : (∃ v, n = .value v) ∨ n = .skip := by
  obtain ⟨dst, op, ty, pos, af, gd⟩ := o
  cases op <;> first
    | (cases hp; done)
    | exact .inl (run_v h)
    | exact .inr (run_u h)
    | (refine .inl ?_
       unfold execOp at h
       simp only [Sem.run_pure] at h
       injection h with h1 h2
       exact ⟨_, h1.symm⟩)
    | (refine .inl ?_
       unfold execOp at h
       exact run_v (s := do pure (if ← asBool _ then _ else _)) (by simpa using h))
end

section
variable {P : Program} {ops : Array Oper} {md : Region.Mode} {Q : Exit → Act → World → Prop} {C0 : World → Prop}

/-- A value of a set; a call leaves only new memory. -/
def uponB (P : Program) (w : World) (V : Value → Prop) : Result Next → Prop
  | .ok (.value u) w' => w' = w ∧ V u
  | .ok .skip w' => w' = w ∧ V undef
  | .ok (.enter f args) w' => w' = w ∧ Calls P f args w (fun e w'' => ∃ v, e = .returned v ∧ V v ∧ Below w.heap.size w w'')
  | _ => False
def atB (P : Program) (o : Oper) (a : Act) (w : World) (V : Value → Prop) : Prop := uponB P w V ((execOp a.eval o).run P w)

/-- One operation: one value in every world of the class, or (a call) whatever of a set. -/
def quietB (P : Program) (o : Oper) (a : Act) (C0 : World → Prop) (next : Act → Prop) : Prop :=
  (∃ v, (∀ w, C0 w → atB P o a w (· = v)) ∧ next (a.put o.dst v)) ∨ (multiB o.op = true ∧ ∃ V, (∀ w, C0 w → atB P o a w V) ∧ ∀ v, V v → next (a.put o.dst v))

/-- The walk in the text's order. -/
def wpB (P : Program) (ops : Array Oper) (C0 : World → Prop) (Q : Act → Prop) : List Oper → Act → Prop
  | [], a => Q a
  | o :: rest, a => if Region.wanted o (yielded ops a.tmps) then quietB P o a C0 (wpB P ops C0 Q rest) else wpB P ops C0 Q rest (a.put o.dst undef)

theorem wpB_nil {Q : Act → Prop} {a : Act} (h : Q a) : wpB P ops C0 Q [] a := h
theorem quietB_mono {Q Q' : Act → Prop} (h : ∀ a, Q a → Q' a) {o : Oper} {a : Act} (hh : quietB P o a C0 Q) : quietB P o a C0 Q' := by
  rcases hh with ⟨v, h1, h2⟩ | ⟨hp, V, h1, h2⟩
  · exact .inl ⟨v, h1, h _ h2⟩
  · exact .inr ⟨hp, V, h1, fun v hv => h _ (h2 v hv)⟩
theorem wpB_mono {Q Q' : Act → Prop} (h : ∀ a, Q a → Q' a) : ∀ (l : List Oper) (a : Act), wpB P ops C0 Q l a → wpB P ops C0 Q' l a
  | [], a, hh => h a hh
  | o :: l, a, hh => by
    unfold wpB at hh ⊢
    split
    · rename_i hw
      simp only [hw, if_true] at hh
      exact quietB_mono (wpB_mono h l) hh
    · rename_i hw
      simp only [hw] at hh
      exact wpB_mono h l _ (by simpa using hh)

/-- In state 'a', IN EVERY WORLD OF THE CLASS, operation 'o' leaves one of V in its temporary. -/
def YieldsB (P : Program) (ops : Array Oper) (C0 : World → Prop) (o : Oper) (V : Value → Prop) (a : Act) : Prop :=
  (Region.wanted o (yielded ops a.tmps) = true ∧ ∀ w, C0 w → atB P o a w V) ∨ (Region.wanted o (yielded ops a.tmps) = false ∧ V undef)

theorem YieldsB.of_same {o : Oper} {V : Value → Prop} {a a' : Act} (hy : YieldsB P ops C0 o V a) (he : execOp a'.eval o = execOp a.eval o)
    (hw : Region.wanted o (yielded ops a'.tmps) = Region.wanted o (yielded ops a.tmps)) : YieldsB P ops C0 o V a' := by
  unfold YieldsB atB at *
  rw [he, hw]
  exact hy

theorem YieldsB.any {o : Oper} {V : Value → Prop} {a : Act} (hy : YieldsB P ops C0 o V a) {w : World} (hC : C0 w) : ∃ v, V v := by
  rcases hy with ⟨_, h⟩ | ⟨_, h⟩
  · have h3 := h w hC
    unfold atB at h3
    generalize (execOp a.eval o).run P w = r at *
    cases r with
    | ok n w' =>
      cases n <;> simp only [uponB] at h3
      case value u => exact ⟨u, h3.2⟩
      case skip => exact ⟨_, h3.2⟩
      case enter f args =>
        obtain ⟨e, w1, fr, ⟨v, _, hv, _⟩, _⟩ := h3.2 []
        exact ⟨v, hv⟩
    | halt x w' => simp only [uponB] at h3
  · exact ⟨_, h⟩

theorem YieldsB.wpOp {i : Nat} {o : Oper} {V : Value → Prop} {a : Act} (hi : ops[i]? = some o) (hy : YieldsB P ops C0 o V a)
    {K : Act → World → Prop} {w : World} (hC : C0 w) (h : ∀ v w', V v → Below w.heap.size w w' → K (a.put o.dst v) w') : wpOp P ops Q i K a w := by
  unfold Go.wpOp
  simp only [hi]
  rcases hy with ⟨hw, hv⟩ | ⟨hw, hv⟩
  · simp only [hw, if_true]
    refine .inl ?_
    have h3 := hv w hC
    unfold atB at h3
    unfold Oper.wp
    generalize (execOp a.eval o).run P w = r at *
    cases r with
    | ok n w' =>
      cases n <;> simp only [uponB] at h3 <;> simp only [Oper.upon]
      case value u =>
        obtain ⟨e1, e2⟩ := h3
        rw [e1]
        exact h _ _ e2 (Below.refl _ _)
      case skip =>
        obtain ⟨e1, e2⟩ := h3
        rw [e1]
        exact h _ _ e2 (Below.refl _ _)
      case enter f args =>
        obtain ⟨e1, hc⟩ := h3
        rw [e1]
        exact hc.mono fun e w'' ⟨v, he, hv, hw''⟩ => by subst he; exact h _ _ hv hw''
    | halt x w' => simp only [uponB] at h3
  · simp only [hw, Bool.false_eq_true, if_false]; exact h _ _ hv (Below.refl _ _)

/-- One operation 'oj', apart from 'oi': whether 'oi''s value is already there makes no difference to it, and it makes none to 'oi'. -/
theorem wpOp_putB {j : Nat} {oi oj : Oper} {V : Value → Prop} (hj : ops[j]? = some oj) (hap : oi.apart ops oj = true)
    (hsi : ∀ cs b, oi.op ≠ .select cs b) (hsj : ∀ cs b, oj.op ≠ .select cs b) (hne : ∃ v, V v) (hpl : plainB oj.op = true ∨ ∃ v, ∀ u, V u → u = v)
    (hQ : ∀ c a d v w, Q (.panic c) (a.put d v) w → Q (.panic c) a w) {K : Act → World → Prop} {a : Act} {w : World}
    (hy : YieldsB P ops C0 oi V a) (h : ∀ v, V v → wpOp P ops Q j K (a.put oi.dst v) w) :
    wpOp P ops Q j (fun a' w' => YieldsB P ops C0 oi V a' ∧ ∀ v, V v → K (a'.put oi.dst v) w') a w := by
  obtain ⟨h1, h2, h3⟩ := Oper.apart_spec hap
  have keep : ∀ (a : Act), YieldsB P ops C0 oi V a → ∀ u, YieldsB P ops C0 oi V (a.put oj.dst u) := fun a hy u =>
    hy.of_same (execOp_put oi hsi a oj.dst u h3) (wanted_put oi a oj.dst u h3)
  have keepD : ∀ d, YieldsB P ops C0 oi V { a with defers := d :: a.defers } := fun d => hy.of_same rfl rfl
  obtain ⟨v0, hv0⟩ := hne
  unfold wpOp at *
  simp only [hj] at *
  have hwt : ∀ v, Region.wanted oj (yielded ops (a.put oi.dst v).tmps) = Region.wanted oj (yielded ops a.tmps) := fun v => wanted_put oj a oi.dst v h1
  split
  · rename_i hw
    by_cases hasks : oj.asks P a w ∧ LetsOut Q
    · exact .inr hasks
    have hl : ∀ v, V v → oj.wp P (a.put oi.dst v) w K Q := fun v hv => by
      have h5 := h v hv
      rw [hwt v] at h5
      simp only [hw, if_true] at h5
      rcases h5 with h5 | ⟨h5, h6⟩
      · exact h5
      · refine absurd ⟨?_, h6⟩ hasks
        unfold Oper.asks at *
        rw [execOp_put oj hsj a oi.dst v h1] at h5
        exact h5
    refine .inl ?_
    unfold Oper.wp at *
    have hl2 : ∀ v, V v → oj.upon P (a.put oi.dst v) K Q ((execOp a.eval oj).run P w) := fun v hv => by
      have h5 := hl v hv
      rw [execOp_put oj hsj a oi.dst v h1] at h5
      exact h5
    have hpn := fun n w' => plain_ok (P := P) (ρ := a.eval) (o := oj) (w := w) (w' := w') (n := n)
    generalize (execOp a.eval oj).run P w = r at *
    cases r with
    | ok n w' =>
      cases n
      case value u => exact ⟨keep a hy u, fun v hv => by rw [← Act.put_comm a v u h2]; exact hl2 v hv⟩
      case skip => exact ⟨keep a hy _, fun v hv => by rw [← Act.put_comm a v undef h2]; exact hl2 v hv⟩
      all_goals
        rcases hpl with hpl | ⟨vv, hvv⟩
        · rcases hpn _ _ hpl rfl with ⟨v, hv⟩ | hv <;> cases hv
      case enter.inr f args =>
        have h5 := hl2 v0 hv0
        simp only [Oper.upon] at h5 ⊢
        refine Calls.mono h5 fun e w'' he => ?_
        cases e with
        | returned u => exact ⟨keep a hy u, fun v hv => by rw [hvv v hv, ← hvv v0 hv0, ← Act.put_comm a v0 u h2]; exact he⟩
        | panicked c => exact hQ _ _ _ _ _ he
        | outgrown => exact he
      case row.inr row args =>
        have h5 := hl2 v0 hv0
        simp only [Oper.upon] at h5 ⊢
        exact Rows.mono h5 fun u w'' he => ⟨keep a hy u, fun v hv => by rw [hvv v hv, ← hvv v0 hv0, ← Act.put_comm a v0 u h2]; exact he⟩
      case defer.inr d =>
        refine ⟨keep _ (keepD d) _, fun v hv => ?_⟩
        have h5 := hl2 v hv
        simp only [Oper.upon] at h5
        rw [← Act.put_comm _ v undef h2, ← Act.put_defers]
        exact h5
      all_goals
        have h5 := hl2 v0 hv0
        simp only [Oper.upon] at h5
    | halt x w' =>
      have h5 := hl2 v0 hv0
      cases x <;> simp only [Oper.upon] at h5 ⊢
      case panic u => exact hQ _ _ _ _ _ h5
  · rename_i hw
    refine ⟨keep a hy _, fun v hv => ?_⟩
    have h5 := h v hv
    rw [hwt v] at h5
    simp only [hw] at h5
    rw [← Act.put_comm a v undef h2]
    simpa using h5

/-! ### What waits for what -/
def waitsT (md : Region.Mode) (ops : Array Oper) : Nat → Nat → Nat → Bool
  | 0, _, _ => false
  | f + 1, j, i => match ops[j]? with
    | none => false
    | some oj => oj.after.any fun e => Region.binds md e && (e.on == i || waitsT md ops f e.on i)
def Closed (md : Region.Mode) (ops : Array Oper) (listed : Array Bool) : Prop :=
  ∀ j oj, ops[j]? = some oj → listed.getD j false = true → ∀ e ∈ oj.after, Region.binds md e = true → listed.getD e.on false = true
theorem Closed.waits {listed : Array Bool} (hc : Closed md ops listed) : ∀ (f j i : Nat) (oj : Oper), ops[j]? = some oj → (∀ e ∈ oj.after, Region.binds md e = true → listed.getD e.on false = true) →
    waitsT md ops f j i = true → listed.getD i false = true
  | 0, _, _, _, _, _, h => by cases h
  | f + 1, j, i, oj, hj, hl, h => by
    unfold waitsT at h
    rw [hj] at h
    obtain ⟨e, he, hb⟩ := Array.any_eq_true'.1 h
    simp only [Bool.and_eq_true, Bool.or_eq_true, beq_iff_eq] at hb
    obtain ⟨hb1, hb2⟩ := hb
    have h1 := hl e he hb1
    rcases hb2 with hb2 | hb2
    · rw [← hb2]; exact h1
    · cases ho : ops[e.on]? with
      | none =>
        cases f with
        | zero => cases hb2
        | succ f => unfold waitsT at hb2; rw [ho] at hb2; cases hb2
      | some oe => exact Closed.waits hc f e.on i oe ho (hc e.on oe ho h1) hb2
theorem Closed.set {listed : Array Bool} (hc : Closed md ops listed) {i : Nat} (hi : i ∈ Region.ready md ops listed) : Closed md ops (listed.setIfInBounds i true) := by
  obtain ⟨_, oi, hoi, hall⟩ := mem_ready.1 hi
  intro j oj hj hl e he hb
  by_cases hij : i = j
  · subst hij
    obtain rfl : oj = oi := Option.some.inj (hj.symm.trans hoi)
    exact getD_set_true (hall e he hb)
  · rw [getD_set_ne false hij] at hl
    exact getD_set_true (hc j oj hj hl e he hb)
theorem Closed.none (n : Nat) : Closed md ops (Array.replicate n false) := fun j _ _ hl => by
  rw [getD_replicate_false] at hl
  cases hl

/-- Whatever order is picked from here on, from every world that is the world w0 with new memory. What is left in the end (m operations) waits for all n that stand ahead. -/
def wpAnyU (P : Program) (md : Region.Mode) (ops : Array Oper) (C0 : World → Prop) (Q : Exit → Act → World → Prop) (n m : Nat) : Nat → World → Array Bool → Act → Prop
  | 0, w0, listed, a => (∀ j ∈ Region.ready md ops listed, ∀ i, i < n → waitsT md ops ops.size j i = true) ∧ ∀ w, Below w0.heap.size w0 w → wpAny P md ops Q m listed a w
  | fuel + 1, w0, listed, a =>
    Region.ready md ops listed ≠ [] ∧
    ∀ i ∈ Region.ready md ops listed, ∀ w, Below w0.heap.size w0 w → wpOp P ops Q i (fun a' w' => C0 w' ∧ wpAnyU P md ops C0 Q n m fuel w' (listed.setIfInBounds i true) a') a w

theorem wpAnyU_mono {n m fuel : Nat} {w0 w1 : World} {listed : Array Bool} {a : Act} (hb : Below w0.heap.size w0 w1) (h : wpAnyU P md ops C0 Q n m fuel w0 listed a) : wpAnyU P md ops C0 Q n m fuel w1 listed a := by
  cases fuel with
  | zero => exact ⟨h.1, fun w hw => h.2 w (hb.trans (hw.mono hb.size))⟩
  | succ fuel => exact ⟨h.1, fun i hi w hw => h.2 i hi w (hb.trans (hw.mono hb.size))⟩

theorem wpAny_of_U {n m : Nat} : ∀ (fuel : Nat) (listed : Array Bool) (a : Act) (w : World), wpAnyU P md ops C0 Q n m fuel w listed a → wpAny P md ops Q (m + fuel) listed a w
  | 0, _, _, w, h => h.2 w (Below.refl _ _)
  | fuel + 1, _, _, w, h => ⟨fun h0 => absurd h0 h.1, fun i hi => wpOp_mono (fun a' w' h' => wpAny_of_U fuel _ a' w' h'.2) (h.2 i hi w (Below.refl _ _))⟩

theorem getD_ready {i : Nat} {listed : Array Bool} (hi : i ∈ Region.ready md ops listed) : listed.getD i false = false := getD_both (mem_ready.1 hi).1

theorem wpAnyU_first {n m i F : Nat} {oi : Oper} {V : Value → Prop} (hcl : ∀ w w', C0 w → Below w.heap.size w w' → C0 w') (hin : i < n) (hi : ops[i]? = some oi) (hsel : ∀ (j : Nat) (o : Oper) cs b, ops[j]? = some o → o.op ≠ .select cs b)
    (hQ : ∀ c a d v w, Q (.panic c) (a.put d v) w → Q (.panic c) a w) :
    ∀ (fuel : Nat) (w0 : World) (listed : Array Bool) (a : Act), C0 w0 → Closed md ops listed →
      (∀ j oj, ops[j]? = some oj → j ≠ i → listed.getD j true = false → (∀ e ∈ oj.after, Region.binds md e = true → e.on ≠ i) → oi.apart ops oj = true) →
      ((∃ v, ∀ u, V u → u = v) ∨ ∀ j oj, ops[j]? = some oj → j ≠ i → listed.getD j true = false → plainB oj.op = true ∨ waitsT md ops F j i = true) →
      i ∈ Region.ready md ops listed → YieldsB P ops C0 oi V a →
      (∀ v, V v → wpAnyU P md ops C0 Q n m fuel w0 (listed.setIfInBounds i true) (a.put oi.dst v)) → wpAnyU P md ops C0 Q n m (fuel + 1) w0 listed a := by
  intro fuel
  induction fuel with
  | zero =>
    intro w0 listed a hC hcs _ _ hr hy H
    refine ⟨fun h => (by rw [h] at hr; cases hr), fun j hj w hw => ?_⟩
    by_cases hji : j = i
    · subst hji; exact hy.wpOp hi (hcl w0 w hC hw) fun v w' hv hw' => ⟨hcl w w' (hcl w0 w hC hw) hw', wpAnyU_mono (hw.trans (hw'.mono hw.size)) (H v hv)⟩
    · obtain ⟨v, hv⟩ := hy.any hC
      have h1 := (H v hv).1 j (ready_mono hj hji) i hin
      obtain ⟨_, oj, hoj, hall⟩ := mem_ready.1 hj
      have h6 := hcs.waits _ j i oj hoj hall h1
      rw [getD_ready hr] at h6
      cases h6
  | succ fuel ih =>
    intro w0 listed a hC hcs hfree hpl hr hy H
    refine ⟨fun h => (by rw [h] at hr; cases hr), fun j hj w hw => ?_⟩
    by_cases hji : j = i
    · subst hji; exact hy.wpOp hi (hcl w0 w hC hw) fun v w' hv hw' => ⟨hcl w w' (hcl w0 w hC hw) hw', wpAnyU_mono (hw.trans (hw'.mono hw.size)) (H v hv)⟩
    · obtain ⟨hjun, oj, hoj, hall⟩ := mem_ready.1 hj
      have hnot : ∀ e ∈ oj.after, Region.binds md e = true → e.on ≠ i := fun e he hb heq => by
        have h1 := hall e he hb
        rw [heq, getD_ready hr] at h1
        cases h1
      have hpj : plainB oj.op = true ∨ ∃ v, ∀ u, V u → u = v := by
        rcases hpl with hpl | hpl
        · exact .inr hpl
        · rcases hpl j oj hoj hji hjun with h5 | h5
          · exact .inl h5
          · have h6 := hcs.waits F j i oj hoj hall h5
            rw [getD_ready hr] at h6
            cases h6
      have h2 := wpOp_putB hoj (hfree j oj hoj hji hjun hnot) (fun cs b => hsel i oi cs b hi) (fun cs b => hsel j oj cs b hoj) (hy.any hC) hpj hQ hy
        (fun v hv => (H v hv).2 j (ready_mono hj hji) w hw)
      have hun' : ∀ k, (listed.setIfInBounds j true).getD k true = false → listed.getD k true = false := fun k hun => by
        by_cases hjk : j = k
        · subst hjk; exact hjun
        · rw [getD_set_ne true hjk] at hun; exact hun
      refine wpOp_mono (fun a' w' h3 => ?_) h2
      obtain ⟨hy', h4⟩ := h3
      obtain ⟨v0, hv0⟩ := hy.any hC
      have hC' := (h4 v0 hv0).1
      refine ⟨hC', ih w' (listed.setIfInBounds j true) a' hC' (hcs.set hj) (fun k ok hk hki hun hno => hfree k ok hk hki (hun' k hun) hno) (hpl.imp id fun hpl k ok hk hki hun => hpl k ok hk hki (hun' k hun)) (ready_mono hr (Ne.symm hji)) hy' fun v hv => ?_⟩
      rw [Array.setIfInBounds_comm _ _ hji]
      exact (h4 v hv).2

/-! ### The walk's head, and what is left -/
/-- The marks behind the first n operations from k on. -/
def marks : Nat → Nat → Array Bool → Array Bool
  | 0, _, listed => listed
  | n + 1, k, listed => marks n (k + 1) (listed.setIfInBounds k true)
/-- Has everything that has not come up yet to wait for number k, or is it plain? -/
def setFree (md : Region.Mode) (ops : Array Oper) (listed : Array Bool) (k : Nat) : Bool :=
  match ops[k]? with
  | none => true
  | some ok => plainB ok.op || (List.range ops.size).all fun j => j == k || listed.getD j true || waitsT md ops ops.size j k || match ops[j]? with
    | some oj => plainB oj.op
    | none => true
theorem setFree_spec {listed : Array Bool} {k : Nat} {ok : Oper} (hk : ops[k]? = some ok) (hp : plainB ok.op = false) (h : setFree md ops listed k = true) (j : Nat) (oj : Oper) (hj : ops[j]? = some oj) (hne : j ≠ k)
    (hun : listed.getD j true = false) : plainB oj.op = true ∨ waitsT md ops ops.size j k = true := by
  unfold setFree at h
  simp only [hk, hp, Bool.false_or, List.all_eq_true, List.mem_range] at h
  have h1 := h j (Array.getElem?_eq_some_iff.1 hj).1
  simp only [hj, Bool.or_eq_true, beq_iff_eq, hne, false_or, hun, Bool.false_eq_true] at h1
  exact h1.symm
/-- May each of n operations be taken first, in the text's order? -/
def headB (md : Region.Mode) (ops : Array Oper) : Nat → Nat → Array Bool → Bool
  | 0, _, _ => true
  | fuel + 1, k, listed => (Region.ready md ops listed).contains k && Region.free md ops listed k && setFree md ops listed k && headB md ops fuel (k + 1) (listed.setIfInBounds k true)
/-- Is the order forced from here on? -/
def forcedB (md : Region.Mode) (ops : Array Oper) : Nat → Nat → Array Bool → Bool
  | 0, _, listed => (Region.ready md ops listed).isEmpty
  | fuel + 1, k, listed => decide (Region.ready md ops listed = [k]) && forcedB md ops fuel (k + 1) (listed.setIfInBounds k true)
/-- Does what may come up wait for all n that stand ahead? -/
def sinksB (md : Region.Mode) (ops : Array Oper) (n : Nat) (listed : Array Bool) : Bool :=
  (Region.ready md ops listed).all fun j => (List.range n).all fun i => waitsT md ops ops.size j i

theorem wpAnyU_head {n m : Nat} (hcl : ∀ w w', C0 w → Below w.heap.size w w' → C0 w') (hs : Region.noSelect ops = true) (hQ : ∀ c a d v w, Q (.panic c) (a.put d v) w → Q (.panic c) a w) (fuel : Nat) (w0 : World) (hC : C0 w0) :
    ∀ (l : List Oper) (k : Nat) (listed : Array Bool) (a : Act), Closed md ops listed → k + l.length ≤ n → (∀ j, j < l.length → l[j]? = ops[k + j]?) → headB md ops l.length k listed = true →
    wpB P ops C0 (fun a' => wpAnyU P md ops C0 Q n m fuel w0 (marks l.length k listed) a') l a → wpAnyU P md ops C0 Q n m (fuel + l.length) w0 listed a
  | [], _, _, _, _, _, _, _, h => h
  | o :: l, k, listed, a, hcs, hn, hl, hB, h => by
    have h0 : ops[k]? = some o := by simpa using (hl 0 (by simp)).symm
    simp only [List.length_cons] at hn
    simp only [List.length_cons, headB, Bool.and_eq_true] at hB
    obtain ⟨⟨⟨hr, hf⟩, hsf⟩, hB'⟩ := hB
    have hr' : k ∈ Region.ready md ops listed := by simpa using hr
    have hy : ∃ V, YieldsB P ops C0 o V a ∧ ((∃ v, ∀ u, V u → u = v) ∨ plainB o.op = false) ∧ ∀ v, V v → wpB P ops C0 (fun a' => wpAnyU P md ops C0 Q n m fuel w0 (marks (l.length + 1) k listed) a') l (a.put o.dst v) := by
      by_cases hw : Region.wanted o (yielded ops a.tmps) = true
      · simp only [wpB, hw, if_true, List.length_cons] at h
        rcases h with ⟨v, h1, h2⟩ | ⟨hp, V, h1, h2⟩
        · exact ⟨(· = v), .inl ⟨hw, h1⟩, .inl ⟨v, fun _ hu => hu⟩, fun u hu => by rw [hu]; exact h2⟩
        · exact ⟨V, .inl ⟨hw, h1⟩, .inr (plain_of hp), h2⟩
      · simp only [wpB, hw, List.length_cons] at h
        exact ⟨(· = undef), .inr ⟨by simpa using hw, rfl⟩, .inl ⟨undef, fun _ hu => hu⟩, fun u hu => by rw [hu]; simpa using h⟩
    obtain ⟨V, hy, hV, hK⟩ := hy
    rw [List.length_cons, ← Nat.add_assoc]
    exact wpAnyU_first hcl (by omega) h0 (Region.noSelect_spec hs) hQ (fuel + l.length) w0 listed a hC hcs (Region.free_spec h0 hf) (hV.imp id fun hp => setFree_spec h0 hp hsf) hr' hy fun v hv =>
      wpAnyU_head hcl hs hQ fuel w0 hC l (k + 1) _ _ (hcs.set hr') (by omega) (fun j hj => by have := hl (j + 1) (by simpa using hj); simpa [Nat.add_assoc, Nat.add_comm 1 j] using this) hB' (hK v hv)

theorem wpAny_forced : ∀ (l : List Oper) (k : Nat) (listed : Array Bool) (a : Act) (w : World), (∀ j, j < l.length → l[j]? = ops[k + j]?) → forcedB md ops l.length k listed = true →
    wpList P ops Q l a w → wpAny P md ops Q l.length listed a w
  | [], _, _, _, _, _, hB, h => ⟨by simpa [forcedB] using hB, h⟩
  | o :: l, k, listed, a, w, hl, hB, h => by
    have h0 : ops[k]? = some o := by simpa using (hl 0 (by simp)).symm
    simp only [List.length_cons, forcedB, Bool.and_eq_true, decide_eq_true_eq] at hB
    obtain ⟨hr, hB'⟩ := hB
    refine ⟨fun e => (by rw [hr] at e; cases e), fun i hi => ?_⟩
    rw [hr, List.mem_singleton] at hi
    subst hi
    have hl' : ∀ j, j < l.length → l[j]? = ops[i + 1 + j]? := fun j hj => by have := hl (j + 1) (by simpa using hj); simpa [Nat.add_assoc, Nat.add_comm 1 j] using this
    unfold wpOp
    simp only [h0]
    unfold wpList at h
    split
    · rename_i hw
      simp only [hw, if_true] at h
      exact h.imp (Oper.wp_mono fun a' w' h' => wpAny_forced l (i + 1) _ a' w' hl' hB' h') id
    · rename_i hw
      simp only [hw] at h
      exact wpAny_forced l (i + 1) _ _ _ hl' hB' (by simpa using h)

/-- The check of a region: n operations that may be taken first, k new variables in whatever order, the rest forced behind all of them. -/
def tailB (ops : Array Oper) (n : Nat) (k : Nat) (m : Nat) : Bool :=
  Region.noSelect ops && headB .any ops n 0 (Array.replicate ops.size false) && decide (ops.size = m + k + n) &&
    sinksB .any ops (k + n) (marks k n (marks n 0 (Array.replicate ops.size false))) && forcedB .any ops m (k + n) (marks k n (marks n 0 (Array.replicate ops.size false)))

/-- A new variable comes. -/
theorem wpAnyU_new {n m ia base fuel ty : Nat} {zs : Array Value} {w0 : World} {listed : Array Bool} {a : Act} {oa : Oper} (ho : ops[ia]? = some oa) (hg : oa.guard = none)
    (hrun : ∀ (a : Act) w, (execOp a.eval oa).run P w = .ok (.value (.pointer (some ⟨w.heap.size, 0, none⟩))) (w.alloc (.cells zs ty)))
    (hcl : ∀ w w', C0 w → Below w.heap.size w w' → C0 w') (hb : ∀ w, C0 w → base ≤ w.heap.size) (hC : C0 w0)
    (h : ∀ w, Below w0.heap.size w0 w → C0 w → base ≤ w.heap.size → wpAnyU P md ops C0 Q n m fuel (w.alloc (.cells zs ty)) (listed.setIfInBounds ia true) (a.put oa.dst (.pointer (some ⟨w.heap.size, 0, none⟩)))) :
    ∀ w, Below w0.heap.size w0 w → wpOp P ops Q ia (fun a' w' => C0 w' ∧ wpAnyU P md ops C0 Q n m fuel w' (listed.setIfInBounds ia true) a') a w := by
  intro w hw
  unfold wpOp
  simp only [ho]
  rw [if_pos (by simp [Region.wanted, hg])]
  refine .inl ?_
  unfold Oper.wp
  rw [hrun]
  have hC1 := hcl w0 w hC hw
  exact ⟨hcl w _ hC1 ((Below.refl w.heap.size w).alloc (Nat.le_refl _) (.cells zs ty)), h w hw hC1 (hb w hC1)⟩

theorem Blk.later {w w' : World} {g t : Nat} {cs : Array Value} (h : Blk w g t cs) (hb : Below w.heap.size w w') : Blk w' g t cs := h.below hb h.lt

end

/-! ### The steps of a walk -/
section
variable {P : Program} {ops : Array Oper} {C0 : World → Prop} {Q : Act → Prop} {a : Act} {o : Oper} {rest : List Oper}
theorem wpB_step (h : ∀ K : Act → Prop, (∀ a, wpB P ops C0 Q rest a → K a) → if Region.wanted o (yielded ops a.tmps) then ∃ v, (∀ w, C0 w → uponB P w (· = v) ((execOp a.eval o).run P w)) ∧ K (a.put o.dst v) else K (a.put o.dst undef)) : wpB P ops C0 Q (o :: rest) a := by
  have h1 := h _ (fun _ h => h)
  unfold wpB
  split
  · rename_i hw
    rw [if_pos hw] at h1
    exact .inl h1
  · rename_i hw
    rw [if_neg hw] at h1
    exact h1
theorem b_want (hg : Region.wanted o (yielded ops a.tmps) = true) {v : Value} (h : ∀ w, C0 w → atB P o a w (· = v)) (hk : wpB P ops C0 Q rest (a.put o.dst v)) : wpB P ops C0 Q (o :: rest) a :=
  wpB_step fun K hK => by
    rw [if_pos hg]
    exact ⟨v, h, hK _ hk⟩
theorem b_val {v : Value} (hg : Region.wanted o (yielded ops a.tmps) = true) (h : ∀ w, C0 w → (execOp a.eval o).run P w = .ok (.value v) w) (hk : wpB P ops C0 Q rest (a.put o.dst v)) : wpB P ops C0 Q (o :: rest) a :=
  b_want hg (fun w hw => by
    unfold atB
    rw [h w hw]
    exact ⟨rfl, rfl⟩) hk
/-- A call, whatever it hands back of a set. -/
theorem b_call {f : FuncId} {args : Array Value} (V : Value → Prop) (hg : Region.wanted o (yielded ops a.tmps) = true) (hp : multiB o.op = true)
    (hc : ∀ w, C0 w → Calls P f args w (fun e w' => ∃ v, e = .returned v ∧ V v ∧ Below w.heap.size w w')) (he : ∀ w, (execOp a.eval o).run P w = .ok (.enter f args) w) (hk : ∀ v, V v → wpB P ops C0 Q rest (a.put o.dst v)) : wpB P ops C0 Q (o :: rest) a := by
  unfold wpB
  rw [if_pos hg]
  refine .inr ⟨hp, V, fun w hw => ?_, hk⟩
  unfold atB
  rw [he]
  exact ⟨rfl, hc w hw⟩
end

/-! ### The same over a list that is written out -/
end Go.Proofs.YtcbfalfkdnfelaaDoor
/-
  REGIONS, WHOLE: 'x := f(..)', 'x = f(..)', 'return f(..)' over any world: the class is what is the world at hand with new memory.
-/
namespace Go.Proofs.YtcbfalfkdnfelaaDoor
open Go.RowKit Go.IntWalk

section
variable {P : Program} {Q : Exit → Act → World → Prop} {id : Nat} {a : Act} {w : World} {l : List Oper}

/-- What is the world w with new memory. -/
def Up (w w' : World) : Prop := Below w.heap.size w w'
theorem Up.refl (w : World) : Up w w := Below.refl _ _
theorem Up.drew (w : World) : Up w w.drew := (Below.refl _ _).drew
theorem Up.step {w w1 w2 : World} (h : Up w w1) (k : Below w1.heap.size w1 w2) : Up w w2 := Below.trans h (k.mono h.size)
theorem wp_at {P : Program} {c : Code} {Q : Exit → Act → World → Prop} {a : Act} {w0 : World} (F : World → Prop) (h0 : F w0) (h : ∀ W, F W → c.wp P Q a W) : c.wp P Q a w0 := h w0 h0

theorem up_row {w w1 : World} {g : Nat} (h : Up w w1) (hg : w.heap.size ≤ g) (cs : Array Value) : Up w (w1.setRow g cs) := below_setRow h hg _

end

/-! ### Structs and arrays put together -/
theorem foldl_put {α : Type} (V A O Z : List α) (m k : Nat) (hm : m + k = A.length) (hl : O.length = V.length) :
    (V.zipIdx k).foldl (fun (cs : Array α) (p : α × Nat) => cs.setIfInBounds (m + p.2) p.1) (A ++ (O ++ Z)).toArray = (A ++ (V ++ Z)).toArray := by
  induction V generalizing A O k with
  | nil =>
    obtain rfl : O = [] := List.eq_nil_of_length_eq_zero hl
    rfl
  | cons c V ih =>
    obtain ⟨o, O, rfl⟩ : ∃ o O', O = o :: O' := by
      cases O with
      | nil => simp at hl
      | cons o O => exact ⟨o, O, rfl⟩
    rw [List.zipIdx_cons, List.foldl_cons]
    have e : ((A ++ (o :: O ++ Z)).toArray.setIfInBounds (m + k) c) = (A ++ [c] ++ (O ++ Z)).toArray := by
      rw [hm]
      simp
    rw [e, ih (A ++ [c]) O (k + 1) (by simp; omega) (by simpa using hl)]
    simp

/-- A part of a struct that is built. -/
theorem fill_put (place : Nat → Option (Nat × Nat)) (i n : Nat) (A O Z V : List Value) (rest : List (Nat × Value)) (hp : place i = some (A.length, n)) (hV : V.length = n) (hO : O.length = n) :
    Instr.fill place (A ++ (O ++ Z)).toArray ((i, .agg V.toArray) :: rest) = Instr.fill place (A ++ (V ++ Z)).toArray rest := by
  rw [Instr.fill]
  simp only [hp]
  rw [if_neg (by simp [Value.cells, hV, hO])]
  congr 1
  have h := foldl_put V A O Z A.length 0 rfl (by rw [hV, hO])
  rw [← h]
  simp [Value.cells, Array.zipIdx, List.mapIdx_eq_zipIdx_map]


/-! ### New variables in a plain region -/
theorem run_box_agg {P : Program} (ty : TypeId) (cs : Array Value) (w : World) : (Instr.box ty (.agg cs)).run P w = .ok (.pointer (some ⟨w.heap.size, 0, none⟩)) (w.alloc (.cells cs ty)) := by
  simp [Instr.box, newVar, newRow, Value.cells]
theorem run_alloc0 {P : Program} {ty : TypeId} {zs : Array Value} (h : (P.info? ty).bind (fun i => i.zero.map (·.cells)) = some zs) (old : Value) (w : World) :
    (Instr.alloc ty true old).run P w = .ok (.pointer (some ⟨w.heap.size, 0, none⟩)) (w.alloc (.cells zs ty)) := by
  cases hi : P.info? ty with
  | none => simp [hi] at h
  | some i =>
    cases hz : i.zero with
    | none => simp [hi, hz] at h
    | some z =>
      simp only [hi, Option.bind_some, hz, Option.map_some] at h
      injection h with h
      subst h
      simp [Instr.alloc, zeroValue, typeInfo, hi, hz, newVar, newRow]
theorem exec_alloc {P : Program} {o : Oper} {ty : TypeId} {zs : Array Value} (ho : o.op = .alloc ty) (h : (P.info? ty).bind (fun i => i.zero.map (·.cells)) = some zs) (a : Act) (w : World) :
    (execOp a.eval o).run P w = .ok (.value (.pointer (some ⟨w.heap.size, 0, none⟩))) (w.alloc (.cells zs ty)) := by
  obtain ⟨dst, op, t, pos, af, gd⟩ := o
  simp only at ho
  subst ho
  unfold execOp
  simp only [Sem.run_bind, run_alloc0 h, Result.andThen_ok, Sem.run_pure]
section
variable {P : Program} {ops : Array Oper} {rest : List Oper} {o : Oper} {a : Act} {w : World} {Q : Exit → Act → World → Prop}
theorem wpl_alloc {ty : TypeId} {zs : Array Value} (hg : o.guard = none) (ho : o.op = .alloc ty) (hz : (P.info? ty).bind (fun i => i.zero.map (·.cells)) = some zs)
    (h : wpList P ops Q rest (a.put o.dst (.pointer (some ⟨w.heap.size, 0, none⟩))) (w.alloc (.cells zs ty))) : wpList P ops Q (o :: rest) a w :=
  wpList_plain hg fun _ hK => by
    unfold Oper.wp
    rw [exec_alloc ho hz]
    exact hK _ _ h
theorem wpl_box {ty : TypeId} {x : Operand} (cs : Array Value) (hg : o.guard = none) (ho : o.op = .box ty x) (hx : a.eval x = .agg cs)
    (h : wpList P ops Q rest (a.put o.dst (.pointer (some ⟨w.heap.size, 0, none⟩))) (w.alloc (.cells cs ty))) : wpList P ops Q (o :: rest) a w :=
  wpList_plain hg fun _ hK => by
    unfold Oper.wp execOp
    simp only [ho, hx, Sem.run_bind, run_box_agg, Result.andThen_ok, Sem.run_pure]
    exact hK _ _ h
/-! The same, guarded. -/
theorem wpl_nil (h : Q .normal a w) : wpList P ops Q [] a w := h
end
end Go.Proofs.YtcbfalfkdnfelaaDoor
/-
REGIONS THAT DRAW THEIR ORDER: the check of a region, quicker: each call waits for the call ahead of it, so for all of them.
REGIONS, WHOLE: calls of the program's own functions.
REGIONS, WHOLE: 'not', '!=', results of a cell and a temp.
-/
namespace Go.Proofs.YtcbfalfkdnfelaaDoor
open Go.RowKit Go.IntWalk

section
variable {md : Region.Mode} {ops : Array Oper}

/-- Has the operation an edge to number i? -/
def edgeTo (md : Region.Mode) (o : Oper) (i : Nat) : Bool := o.after.any fun e => Region.binds md e && e.on == i

/-! ### The head -/
/-- Marked are just those below k. -/
def Inv (ops : Array Oper) (k : Nat) (listed : Array Bool) : Prop := ∀ j, j < ops.size → listed[j]? = some (decide (j < k))
theorem Inv.set {k : Nat} {listed : Array Bool} (h : Inv ops k listed) : Inv ops (k + 1) (listed.setIfInBounds k true) := by
  intro j hj
  rw [Array.getElem?_setIfInBounds]
  by_cases hjk : k = j
  · subst hjk
    have h1 := h k hj
    have hlt := (Array.getElem?_eq_some_iff.1 h1).1
    rw [if_pos rfl, if_pos hlt]
    simp
  · rw [if_neg hjk, h j hj]
    congr 1
    simp only [decide_eq_decide]
    omega
theorem Inv.start : Inv ops 0 (Array.replicate ops.size false) := by
  intro j hj
  simp [hj]
theorem Inv.marks {listed : Array Bool} : ∀ (n : Nat) {k : Nat} {listed : Array Bool}, Inv ops k listed → Inv ops (k + n) (marks n k listed)
  | 0, _, _, h => h
  | n + 1, k, _, h => by
    have := Inv.marks (listed := listed) n h.set
    rwa [show k + 1 + n = k + (n + 1) by omega] at this
theorem Inv.in_ {k : Nat} {listed : Array Bool} (h : Inv ops k listed) {j : Nat} (hj : j < ops.size) (hk : j < k) (d : Bool) : listed.getD j d = true := by
  have h1 := h j hj
  rw [Array.getD_eq_getD_getElem?, h1]
  simp [hk]
theorem Inv.out {k : Nat} {listed : Array Bool} (h : Inv ops k listed) {j : Nat} (hj : j < ops.size) (hk : k ≤ j) (d : Bool) : listed.getD j d = false := by
  have h1 := h j hj
  rw [Array.getD_eq_getD_getElem?, h1]
  simp
  omega

end
end Go.Proofs.YtcbfalfkdnfelaaDoor

namespace Go.Proofs.YtcbfalfkdnfelaaDoor
open Go.RowKit Go.IntWalk

/-- The function is the program's own. -/
def Own (f : FuncId) : Prop := ∀ (args : Array Value) (w : World), (callFunc f args).run Tryd.prog w = .ok (.enter f args) w
theorem run_call_fn {a : Act} {o : Oper} {f : FuncId} {xs : Array Operand} {ats : Array TypeId} (hf : Own f) (ho : o.op = .call { callee := .value (.func f), args := xs, argTypes := ats }) (w : World) :
    (execOp a.eval o).run Tryd.prog w = .ok (.enter f (xs.map a.eval)) w := by
  obtain ⟨dst, op, ty, pos, af, gd⟩ := o
  simp only at ho
  subst ho
  have h := hf (xs.map a.eval) w
  go_simp
theorem map_eval {a : Act} {xs : Array Operand} {args : Array Value} (h : xs.toList.map a.eval = args.toList) : xs.map a.eval = args := by
  apply Array.toList_inj.1
  rw [Array.toList_map, h]

end Go.Proofs.YtcbfalfkdnfelaaDoor

namespace Go.Proofs.YtcbfalfkdnfelaaDoor
open Go.RowKit Go.IntWalk


end Go.Proofs.YtcbfalfkdnfelaaDoor
/-
  FROM A WALK TO A LAW'S ROW: the arguments read behind the call as they read before; arrays of 32 bytes, opened.
-/
namespace Go.Proofs.YtcbfalfkdnfelaaDoor
open Go.ChangeShapes Go.WideShapes Go.ChangeAt Go.RowKit

theorem own : ownKnob Tryd.prog.godebug = none := by kernel_rfl
theorem laidOut : laidOutB Tryd.prog = true := by kernel_rfl

section
variable {H : Type} {enc : TypeId × Value → H} {W W' : World}

/-- All arguments at once. -/
theorem trodAll_below : ∀ {ts : List TypeId} {vs : List Value} {ds : List (DataW H)} {p : List MemPlace}, (∀ t ∈ ts, Tryd.prog.readableRec t = true ∧ t < Tryd.prog.types.size) →
    DataW.TrodAll enc Tryd.prog W 0 (fun _ => true) true ts vs ds p → Below W.heap.size W W' → (∀ x ∈ p, x.block < W.heap.size) → DataW.TrodAll enc Tryd.prog W' 0 (fun b => decide (b < W.heap.size)) true ts vs ds p
  | [], _, _, _, _, h, _, _ => by
    obtain ⟨rfl, rfl, rfl⟩ := trodAll_nil h
    exact trodAll_mk0
  | t :: ts, _, _, _, hts, h, hb, hlt => by
    obtain ⟨v, vs', d, ds', p, q, rfl, rfl, rfl, h0, h1⟩ := trodAll_cons h
    obtain ⟨hr, hz⟩ := hts t (by simp)
    exact trodAll_cons_mk (Below.trod laidOut hr hz h0 hb (fun x hx => hlt x (by simp [hx]))) (trodAll_below (fun u hu => hts u (by simp [hu])) h1 hb (fun x hx => hlt x (by simp [hx])))

theorem law_post {f : Func} {s : ChangeSpec} {args : Array Value} {ds gs : List (DataW H)} {before : List MemPlace} (hf : f.resultTypes = #[4]) (hvars : s.vars = [])
    (hts : ∀ t ∈ f.params.toList, Tryd.prog.readableRec t = true ∧ t < Tryd.prog.types.size)
    (hW : DataW.Whole enc Tryd.prog f.params.toList s.vars false W args.toList ds gs before) (hs : s.fn H (ds ++ gs) = { results := [.lit (.bool true)], args := ds }) (hb : Below W.heap.size W W') :
    s.post enc Tryd.prog f false true false false W args (.bool true) W' := by
  have hW' := hW
  obtain ⟨p, q, hA, hV, rfl, _, _⟩ := hW
  rw [hvars] at hV
  obtain ⟨rfl, rfl⟩ := trodVars_none hV
  have hlt : ∀ x ∈ p, x.block < W.heap.size := fun x hx => hW'.lt x (by simp [hx])
  refine ⟨ds, [], p ++ [], [], p, [], hW', ?_, ?_, ?_, hb.frame _, fun h => by cases h⟩
  · rw [hs, hf]
    exact trodAll_mk1 (shut_bool Tryd.underlying4 true)
  · rw [hs]
    exact trodAll_below hts hA hb hlt
  · rw [hs, hvars]
    rfl
end

theorem cells8 : Tryd.prog.cellsOf 5 = 1 := by kernel_rfl
theorem one_of {l : List Value} {i : Nat} {v : Value} (h : (l.drop (i * 1)).take 1 = [v]) : l[i]? = some v := by
  rw [Nat.mul_one] at h
  have h1 : ((l.drop i).take 1)[0]? = some v := by rw [h]; rfl
  rw [List.getElem?_take, if_pos (by omega), List.getElem?_drop] at h1
  simpa using h1

/-! ### Arrays of 32 bytes -/
end Go.Proofs.YtcbfalfkdnfelaaDoor
/-
  REGIONS THAT DRAW THEIR ORDER, AND MAKE MEMORY: each operation may leave new memory and a fact about it that later worlds keep; who has an edge to it may use the fact. The walk goes in the text's order; whatever order is drawn, it holds.
-/
namespace Go.Proofs.YtcbfalfkdnfelaaDoor
open Go.RowKit Go.IntWalk

/-- Operations that never run code. -/
def stillG : Op → Bool
  | .buildSlice .. | .makeSlice .. | .sliceToArrayPointer .. | .makeFunc .. | .nilCheck _ => true
  | .call c => match c.callee with | .builtin .len => true | .builtin .min => true | .builtin .max => true | _ => false
  | o => plainB o
/-- Operations of which each world may have its own answer. -/
def multiG : Op → Bool
  | .alloc _ | .box .. => true
  | o => multiB o

section
variable {P : Program}
theorem run_pureV {y : Value} {w w' : World} {n : Next} (h : (pure (Next.value y) : Sem Next).run P w = .ok n w') : ∃ v, n = .value v := by
  rw [Sem.run_pure] at h
  injection h with h1 h2
  exact ⟨_, h1.symm⟩
theorem run_panic_no {w w' : World} {n : Next} (h : (runtimePanic .nilDeref : Sem Next).run P w = .ok n w') : False := by
  simp [runtimePanic, goPanic] at h
theorem bind_ok {α β : Type} {s : Sem α} {f : α → Sem β} {n : β} {w w' : World} (h : (s >>= f).run P w = .ok n w') : ∃ a w1, (f a).run P w1 = .ok n w' := by
  rw [Sem.run_bind] at h
  cases hs : s.run P w with
  | ok v w1 =>
    rw [hs] at h
    exact ⟨v, w1, h⟩
  | halt x w1 =>
    rw [hs] at h
    cases h
theorem nil_ok {ρ : Operand → Value} {o : Oper} {x : Operand} (ho : o.op = .nilCheck x) {w w' : World} {n : Next} (h : (execOp ρ o).run P w = .ok n w') : ∃ v, n = .value v := by
  unfold execOp at h
  rw [ho] at h
  dsimp only at h
  split at h
  · exact (run_panic_no h).elim
  · exact (run_panic_no h).elim
  · exact (run_panic_no h).elim
  · split at h
    · exact (run_panic_no h).elim
    · obtain ⟨_, _, h⟩ := bind_ok h
      obtain ⟨_, _, h⟩ := bind_ok h
      split at h
      · obtain ⟨_, _, h⟩ := bind_ok h
        exact run_pureV h
      · exact run_pureV h
    · exact run_pureV h
  · exact run_pureV h
theorem still_ok {ρ : Operand → Value} {o : Oper} (hp : stillG o.op = true) {w w' : World} {n : Next} (h : (execOp ρ o).run P w = .ok n w') : (∃ v, n = .value v) ∨ n = .skip := by
  by_cases hb : plainB o.op = true
  · exact plain_ok hb h
  obtain ⟨dst, op, ty, pos, af, gd⟩ := o
  cases op <;> first
    | (exfalso; exact hb hp)
    | exact .inl (run_v h)
    | exact .inl (nil_ok rfl h)
    | skip
  next c =>
    obtain ⟨callee, args, ats⟩ := c
    cases callee with
    | builtin b =>
      cases b <;> first
        | (cases hp; done)
        | skip
      all_goals
        unfold execOp at h
        simp only [resolve, invoke, builtin, Sem.run_bind, Sem.run_pure, Result.andThen_ok] at h
        refine .inl ?_
        revert h
        generalize Sem.run P _ w = r
        intro h
        cases r with
        | ok v w1 =>
          simp only [Result.andThen_ok] at h
          injection h with h1 h2
          exact ⟨v, h1.symm⟩
        | halt x w1 => simp [Result.andThen] at h
    | _ => cases hp
end

/-- How worlds go on: at least new memory may come. -/
class RelOk (Rel : World → World → Prop) : Prop where
  below : ∀ w w', Below w.heap.size w w' → Rel w w'
/-- Nothing but new memory. -/
def Bel (w w' : World) : Prop := Below w.heap.size w w'
instance : RelOk Bel := ⟨fun _ _ h => h⟩
def uponG (P : Program) (Rel : World → World → Prop) (w : World) (V : Value → World → Prop) : Result Next → Prop
  | .ok (.value u) w' => Rel w w' ∧ V u w'
  | .ok .skip w' => Rel w w' ∧ V undef w'
  | .ok (.enter f args) w' => w' = w ∧ Calls P f args w (fun e w'' => ∃ v, e = .returned v ∧ Rel w w'' ∧ V v w'')
  | _ => False
/-- Later worlds keep it. -/
def Pers (Rel : World → World → Prop) (p : World → Prop) : Prop := ∀ w w', p w → Rel w w' → p w'
abbrev Facts := Nat → World → Prop
def upF (F : Facts) (k : Nat) (p : World → Prop) : Facts := fun j => if j = k then p else F j
theorem upF_same (F : Facts) (k : Nat) (p : World → Prop) : upF F k p k = p := if_pos rfl
theorem upF_ne {F : Facts} {k j : Nat} {p : World → Prop} (h : j ≠ k) : upF F k p j = F j := if_neg h

def stepG (P : Program) (Rel : World → World → Prop) (C0 : World → Prop) (F : Facts) (o : Oper) (a : Act) (next : (World → Prop) → Act → Prop) : Prop :=
  ∃ V : Value → World → Prop, (∀ v, Pers Rel (V v)) ∧ ((∃ v, ∀ u w, V u w → u = v) ∨ multiG o.op = true) ∧
    (∀ w, C0 w → (∀ e ∈ o.after, Region.binds .any e = true → F e.on w) → uponG P Rel w V ((execOp a.eval o).run P w)) ∧
    ∀ v w, C0 w → (∀ k, F k w) → V v w → next (V v) (a.put o.dst v)
/-- The walk, in the text's order. -/
def wpG (P : Program) (Rel : World → World → Prop) (ops : Array Oper) (C0 : World → Prop) (Q : Facts → Act → Prop) : List (Nat × Oper) → Facts → Act → Prop
  | [], F, a => Q F a
  | x :: l, F, a => if Region.wanted x.2 (yielded ops a.tmps) then stepG P Rel C0 F x.2 a (fun p a' => wpG P Rel ops C0 Q l (upF F x.1 p) a') else wpG P Rel ops C0 Q l (upF F x.1 fun _ => True) (a.put x.2.dst undef)

section
variable {P : Program} {Rel : World → World → Prop} {ops : Array Oper} {C0 : World → Prop} {Q : Facts → Act → Prop}
theorem wpG_mono (hQ : ∀ F F' a, (∀ k w, F' k w → F k w) → Q F a → Q F' a) : ∀ (l : List (Nat × Oper)) (F F' : Facts) (a : Act), (∀ k w, F' k w → F k w) → wpG P Rel ops C0 Q l F a → wpG P Rel ops C0 Q l F' a
  | [], F, F', a, h, hh => hQ F F' a h hh
  | x :: l, F, F', a, h, hh => by
    have hup : ∀ p, ∀ k w, upF F' x.1 p k w → upF F x.1 p k w := fun p k w h' => by
      by_cases e : k = x.1
      · subst e
        rwa [upF_same] at h' ⊢
      · rw [upF_ne e] at h' ⊢
        exact h k w h'
    unfold wpG at hh ⊢
    split
    · rename_i hw
      rw [if_pos hw] at hh
      obtain ⟨V, h1, h2, h3, h4⟩ := hh
      exact ⟨V, h1, h2, fun w hw he => h3 w hw fun e hm hb => h _ _ (he e hm hb), fun v w hw hF hV => wpG_mono hQ l _ _ _ (hup _) (h4 v w hw (fun k => h k w (hF k)) hV)⟩
    · rename_i hw
      rw [if_neg hw] at hh
      exact wpG_mono hQ l _ _ _ (hup _) hh

/-- What a good walk has behind it. -/
structure GoodF (Rel : World → World → Prop) (C0 : World → Prop) (F : Facts) (w : World) : Prop where
  pers : ∀ k, Pers Rel (F k)
  cls : C0 w
  all : ∀ k, F k w
theorem GoodF.up {F : Facts} {w w' : World} {k : Nat} {p : World → Prop} (h : GoodF Rel C0 F w) (hp : Pers Rel p) (hC : C0 w') (hF : ∀ k, F k w') (hpw : p w') : GoodF Rel C0 (upF F k p) w' := by
  refine ⟨fun j => ?_, hC, fun j => ?_⟩
  · by_cases e : j = k
    · subst e
      rw [upF_same]
      exact hp
    · rw [upF_ne e]
      exact h.pers j
  · by_cases e : j = k
    · subst e
      rw [upF_same]
      exact hpw
    · rw [upF_ne e]
      exact hF j
def Unl (l : List (Nat × Oper)) (F : Facts) : Prop := ∀ x ∈ l, ∀ w, F x.1 w
theorem Unl.up {l : List (Nat × Oper)} {F : Facts} {k : Nat} {p : World → Prop} (h : Unl l F) (hk : k ∉ l.map (·.1)) : Unl l (upF F k p) := fun x hx w => by
  have e : x.1 ≠ k := fun e => hk (List.mem_map.2 ⟨x, hx, e⟩)
  rw [upF_ne e]
  exact h x hx w

/-- Something comes of the operation. -/
theorem uponG.any {w : World} {V : Value → World → Prop} {r : Result Next} (h : uponG P Rel w V r) : ∃ v w', Rel w w' ∧ V v w' := by
  cases r with
  | ok n w' =>
    cases n <;> simp only [uponG] at h
    case value u => exact ⟨u, w', h⟩
    case skip => exact ⟨_, w', h⟩
    case enter f args =>
      obtain ⟨e, w1, fr, ⟨v, _, h1, h2⟩, _⟩ := h.2 []
      exact ⟨v, w1, h1, h2⟩
  | halt x w' => simp only [uponG] at h

theorem wpG_cons {x : Nat × Oper} {l l' : List (Nat × Oper)} {F : Facts} {a : Act} {w0 : World} (hG : GoodF Rel C0 F w0) (hU : Unl l F) (hx : x.1 ∉ l.map (·.1))
    (h : ∀ F a w, GoodF Rel C0 F w → Unl l F → wpG P Rel ops C0 Q l F a → wpG P Rel ops C0 Q l' F a) (hh : wpG P Rel ops C0 Q (x :: l) F a) : wpG P Rel ops C0 Q (x :: l') F a := by
  unfold wpG at hh ⊢
  split
  · rename_i hw
    rw [if_pos hw] at hh
    obtain ⟨V, h1, h2, h3, h4⟩ := hh
    exact ⟨V, h1, h2, h3, fun v w hw hF hV => h _ _ w (hG.up (h1 v) hw hF hV) (hU.up hx) (h4 v w hw hF hV)⟩
  · rename_i hw
    rw [if_neg hw] at hh
    exact h _ _ w0 (hG.up (fun _ _ _ _ => trivial) hG.cls hG.all trivial) (hU.up hx) hh

/-- Two operations next to each other: the second one may come first. -/
structure PairG (ops : Array Oper) (x y : Nat × Oper) : Prop where
  ne : x.1 ≠ y.1
  apart : x.2.apart ops y.2 = true
  noY : ∀ e ∈ y.2.after, Region.binds .any e = true → e.on ≠ x.1
  noX : ∀ e ∈ x.2.after, Region.binds .any e = true → e.on ≠ y.1
  kind : stillG y.2.op = true ∨ multiG x.2.op = false
  selX : ∀ cs b, x.2.op ≠ .select cs b
  selY : ∀ cs b, y.2.op ≠ .select cs b

theorem swapG (hcl : ∀ w w', C0 w → Rel w w' → C0 w') (hQ : ∀ F F' a, (∀ k w, F' k w → F k w) → Q F a → Q F' a) {x y : Nat × Oper} {l : List (Nat × Oper)} {F : Facts} {a : Act} {w0 : World} (hp : PairG ops x y) (hG : GoodF Rel C0 F w0) (hj : ∀ w, F y.1 w)
    (h : wpG P Rel ops C0 Q (x :: y :: l) F a) : wpG P Rel ops C0 Q (y :: x :: l) F a := by
  obtain ⟨i, oi⟩ := x
  obtain ⟨j, oj⟩ := y
  obtain ⟨hne, hap, hed, hed2, hkd, hsi, hsj⟩ := hp
  obtain ⟨h1, h2, h3⟩ := Oper.apart_spec hap
  dsimp only at *
  have hwj : ∀ v, Region.wanted oj (yielded ops (a.put oi.dst v).tmps) = Region.wanted oj (yielded ops a.tmps) := fun v => wanted_put oj a oi.dst v h1
  have hwi : ∀ v, Region.wanted oi (yielded ops (a.put oj.dst v).tmps) = Region.wanted oi (yielded ops a.tmps) := fun v => wanted_put oi a oj.dst v h3
  have hcomm : ∀ v u, (a.put oi.dst v).put oj.dst u = (a.put oj.dst u).put oi.dst v := fun v u => Act.put_comm a v u h2
  have hupc : ∀ (p q : World → Prop), upF (upF F i p) j q = upF (upF F j q) i p := fun p q => by
    funext k
    by_cases e : k = i
    · subst e
      rw [upF_same, upF_ne hne, upF_same]
    · by_cases e2 : k = j
      · subst e2
        rw [upF_same, upF_ne e, upF_same]
      · rw [upF_ne e2, upF_ne e, upF_ne e, upF_ne e2]
  by_cases wi : Region.wanted oi (yielded ops a.tmps) = true
  · unfold wpG at h
    rw [if_pos wi] at h
    obtain ⟨Vx, pX, kX, yX, nX⟩ := h
    by_cases wj : Region.wanted oj (yielded ops a.tmps) = true
    · obtain ⟨v0, w1, hb1, hV1⟩ := (yX w0 hG.cls (fun e _ _ => hG.all e.on)).any
      have hC1 := hcl _ _ hG.cls hb1
      have hF1 : ∀ k, F k w1 := fun k => hG.pers k _ _ (hG.all k) hb1
      have key : ∀ v, (∃ w, C0 w ∧ (∀ k, F k w) ∧ Vx v w) → stepG P Rel C0 (upF F i (Vx v)) oj (a.put oi.dst v) (fun p a' => wpG P Rel ops C0 Q l (upF (upF F i (Vx v)) j p) a') := by
        rintro v ⟨w, hw, hF, hV⟩
        have h5 := nX v w hw hF hV
        unfold wpG at h5
        rwa [hwj, if_pos wj] at h5
      have key' : ∀ v, ∃ V : Value → World → Prop, (∃ w, C0 w ∧ (∀ k, F k w) ∧ Vx v w) → (∀ v, Pers Rel (V v)) ∧ ((∃ v, ∀ u w, V u w → u = v) ∨ multiG oj.op = true) ∧
          (∀ w, C0 w → (∀ e ∈ oj.after, Region.binds .any e = true → upF F i (Vx v) e.on w) → uponG P Rel w V ((execOp (a.put oi.dst v).eval oj).run P w)) ∧
          ∀ u w, C0 w → (∀ k, upF F i (Vx v) k w) → V u w → wpG P Rel ops C0 Q l (upF (upF F i (Vx v)) j (V u)) ((a.put oi.dst v).put oj.dst u) := fun v => by
        by_cases hv : ∃ w, C0 w ∧ (∀ k, F k w) ∧ Vx v w
        · obtain ⟨V, hV⟩ := key v hv
          exact ⟨V, fun _ => hV⟩
        · exact ⟨fun _ _ => True, fun h => absurd h hv⟩
      clear key
      obtain ⟨Vy, hy⟩ := Classical.axiomOfChoice key'
      clear key'
      have hv0 : ∃ w, C0 w ∧ (∀ k, F k w) ∧ Vx v0 w := ⟨w1, hC1, hF1, hV1⟩
      unfold wpG
      rw [if_pos wj]
      refine ⟨fun u w => ∀ v, (∃ w, C0 w ∧ (∀ k, F k w) ∧ Vx v w) → Vy v u w, fun u w w' h hb v hv => (hy v hv).1 u w w' (h v hv) hb, ?_, ?_, ?_⟩
      · rcases (hy v0 hv0).2.1 with ⟨u0, hu⟩ | hm
        · exact .inl ⟨u0, fun u w h => hu u w (h v0 hv0)⟩
        · exact .inr hm
      · intro w hw hpre
        have hr : ∀ v, (∃ w, C0 w ∧ (∀ k, F k w) ∧ Vx v w) → uponG P Rel w (Vy v) ((execOp a.eval oj).run P w) := fun v hv => by
          have h5 := (hy v hv).2.2.1 w hw (fun e he hb => by rw [upF_ne (hed e he hb)]; exact hpre e he hb)
          rwa [execOp_put oj hsj a oi.dst v h1] at h5
        have hst := fun n w' => still_ok (P := P) (ρ := a.eval) (o := oj) (w := w) (w' := w') (n := n)
        generalize (execOp a.eval oj).run P w = r at *
        cases r with
        | ok n w' =>
          cases n
          case value u => exact ⟨(hr v0 hv0).1, fun v hv => (hr v hv).2⟩
          case skip => exact ⟨(hr v0 hv0).1, fun v hv => (hr v hv).2⟩
          case enter f args =>
            rcases hkd with hkd | hkd
            · rcases hst _ _ hkd rfl with ⟨v, hv⟩ | hv <;> cases hv
            · rcases kX with ⟨vv, hvv⟩ | hm
              · obtain ⟨e1, hc⟩ := hr v0 hv0
                refine ⟨e1, hc.mono fun e w'' ⟨u, he, hb, hV⟩ => ⟨u, he, hb, fun v hv => ?_⟩⟩
                obtain ⟨w3, _, _, hv3⟩ := hv
                have e2 : v = v0 := (hvv _ _ hv3).trans (hvv _ _ hV1).symm
                rw [e2]
                exact hV
              · rw [hkd] at hm
                cases hm
          all_goals exact absurd (hr v0 hv0) (by simp [uponG])
        | halt x w' => exact absurd (hr v0 hv0) (by simp [uponG])
      · intro u w hw hF hVu
        unfold wpG
        rw [hwi, if_pos wi]
        refine ⟨Vx, pX, kX, ?_, ?_⟩
        · intro w2 hw2 hpre
          rw [execOp_put oi hsi a oj.dst u h3]
          exact yX w2 hw2 (fun e he hb => by have h5 := hpre e he hb; rwa [upF_ne (hed2 e he hb)] at h5)
        · intro v w2 hw2 hF2 hV2
          have hFw2 : ∀ k, F k w2 := fun k => by
            by_cases e : k = j
            · subst e
              exact hj w2
            · have h5 := hF2 k
              rwa [upF_ne e] at h5
          have hv : ∃ w, C0 w ∧ (∀ k, F k w) ∧ Vx v w := ⟨w2, hw2, hFw2, hV2⟩
          have hVy : Vy v u w2 := by
            have h5 := hF2 j
            rw [upF_same] at h5
            exact h5 v hv
          have h6 := (hy v hv).2.2.2 u w2 hw2 (fun k => by
            by_cases e : k = i
            · subst e
              rw [upF_same]
              exact hV2
            · rw [upF_ne e]
              exact hFw2 k) hVy
          rw [hcomm, hupc] at h6
          refine wpG_mono hQ l _ _ _ (fun k w h7 => ?_) h6
          by_cases e : k = i
          · subst e
            rwa [upF_same] at h7 ⊢
          · rw [upF_ne e] at h7 ⊢
            by_cases e2 : k = j
            · subst e2
              rw [upF_same] at h7 ⊢
              exact h7 v hv
            · rwa [upF_ne e2] at h7 ⊢
    · unfold wpG
      rw [if_neg wj]
      unfold wpG
      rw [hwi, if_pos wi]
      refine ⟨Vx, pX, kX, ?_, ?_⟩
      · intro w2 hw2 hpre
        rw [execOp_put oi hsi a oj.dst undef h3]
        exact yX w2 hw2 (fun e he hb => by have h5 := hpre e he hb; rwa [upF_ne (hed2 e he hb)] at h5)
      · intro v w2 hw2 hF2 hV2
        have h5 := nX v w2 hw2 (fun k => by
          by_cases e : k = j
          · subst e
            exact hj w2
          · have h5 := hF2 k
            rwa [upF_ne e] at h5) hV2
        unfold wpG at h5
        rw [hwj, if_neg wj, hcomm, hupc] at h5
        exact h5
  · unfold wpG at h
    rw [if_neg wi] at h
    unfold wpG at h
    by_cases wj : Region.wanted oj (yielded ops a.tmps) = true
    · rw [hwj, if_pos wj] at h
      obtain ⟨Vy, pY, kY, yY, nY⟩ := h
      unfold wpG
      rw [if_pos wj]
      refine ⟨Vy, pY, kY, ?_, ?_⟩
      · intro w hw hpre
        have h5 := yY w hw (fun e he hb => by rw [upF_ne (hed e he hb)]; exact hpre e he hb)
        rwa [execOp_put oj hsj a oi.dst undef h1] at h5
      · intro u w hw hF hV
        have h5 := nY u w hw (fun k => by
          by_cases e : k = i
          · subst e
            rw [upF_same]
            trivial
          · rw [upF_ne e]
            exact hF k) hV
        unfold wpG
        rw [hwi, if_neg wi]
        rw [hcomm, hupc] at h5
        exact h5
    · rw [hwj, if_neg wj] at h
      unfold wpG
      rw [if_neg wj]
      unfold wpG
      rw [hwi, if_neg wi]
      rw [hcomm, hupc] at h
      exact h

/-- An operation may come ahead of all that stand before it. -/
theorem frontG (hcl : ∀ w w', C0 w → Rel w w' → C0 w') (hQ : ∀ F F' a, (∀ k w, F' k w → F k w) → Q F a → Q F' a) (y : Nat × Oper) (l2 : List (Nat × Oper)) : ∀ (l1 : List (Nat × Oper)) (F : Facts) (a : Act) (w0 : World), (∀ x ∈ l1, PairG ops x y) → ((l1 ++ y :: l2).map (·.1)).Nodup →
    GoodF Rel C0 F w0 → Unl (l1 ++ y :: l2) F → wpG P Rel ops C0 Q (l1 ++ y :: l2) F a → wpG P Rel ops C0 Q (y :: (l1 ++ l2)) F a
  | [], F, a, w0, _, _, _, _, h => h
  | x :: l1, F, a, w0, hp, hnd, hG, hU, h => by
    have hnd2 : x.1 ∉ (l1 ++ y :: l2).map (·.1) ∧ ((l1 ++ y :: l2).map (·.1)).Nodup := by
      simpa [List.nodup_cons] using hnd
    have h' : wpG P Rel ops C0 Q (x :: (y :: (l1 ++ l2))) F a :=
      wpG_cons (l := l1 ++ y :: l2) hG (fun z hz => hU z (List.mem_cons_of_mem _ hz)) hnd2.1
        (fun F a w hG hU h => frontG hcl hQ y l2 l1 F a w (fun z hz => hp z (List.mem_cons_of_mem _ hz)) hnd2.2 hG hU h) h
    exact swapG hcl hQ (hp x (by simp)) hG (hU y (by simp)) h'
end
end Go.Proofs.YtcbfalfkdnfelaaDoor
/-
  STEPS OF WALKS: bools, choices, rows of bytes, calls over a class of worlds; two new variables, the order forced.
-/
namespace Go.Proofs.YtcbfalfkdnfelaaDoor
open Go.RowKit Go.IntWalk



/-! ### Two new variables, the order forced -/
section
variable {ops : Array Oper} {C0 : World → Prop} {Q : Act → Prop} {a : Act} {o : Oper} {rest : List Oper}
/-- A call that hands back one of a set. -/
theorem b_callV {f : FuncId} {xs : Array Operand} {ats : Array TypeId} {args : Array Value} (V : Value → Prop) (hg : Region.wanted o (yielded ops a.tmps) = true)
    (hf : Own f) (hc : ∀ w, C0 w → Calls Tryd.prog f args w (fun e w' => ∃ v, e = .returned v ∧ V v ∧ Below w.heap.size w w'))
    (ho : o.op = .call { callee := .value (.func f), args := xs, argTypes := ats }) (hx : xs.toList.map a.eval = args.toList) (hk : ∀ v, V v → wpB Tryd.prog ops C0 Q rest (a.put o.dst v)) : wpB Tryd.prog ops C0 Q (o :: rest) a :=
  b_call (f := f) (args := args) V hg (by rw [ho]; rfl) hc (fun w => by rw [run_call_fn hf ho, map_eval hx]) hk
end

end Go.Proofs.YtcbfalfkdnfelaaDoor
/-
  FRAMES BY WHAT IS KNOWN OF THEM: the values of some slots are told, the others are not: great functions are walked over such frames.
-/
namespace Go.Proofs.YtcbfalfkdnfelaaDoor
open Go.RowKit Go.IntWalk

/-- What is told of slot j. -/
def look : List (Nat × Value) → Nat → Option Value
  | [], _ => none
  | (k, v) :: r, j => match Nat.beq k j with
    | true => some v
    | false => look r j
theorem look_cons (k j : Nat) (v : Value) (r : List (Nat × Value)) : look ((k, v) :: r) j = if k = j then some v else look r j := by
  show (match Nat.beq k j with | true => some v | false => look r j) = _
  by_cases h : k = j
  · subst h
    rw [if_pos rfl, Nat.beq_refl]
  · rw [if_neg h]
    cases e : Nat.beq k j with
    | true => exact absurd (Nat.eq_of_beq_eq_true e) h
    | false => rfl
/-- An operand's value, where it is told. -/
def ev (E : List (Nat × Value)) : Operand → Option Value
  | .tmp t => look E t
  | .const v => some v
  | .global g => some (.pointer (some ⟨g, 0, none⟩))
  | .func f => some (.func (.func f) #[] #[])
/-- Each slot that E' tells, E tells so. -/
def Sub : List (Nat × Value) → List (Nat × Value) → Prop
  | [], _ => True
  | p :: r, E => look E p.1 = some p.2 ∧ Sub r E
/-- A frame of N slots, of which E is told. -/
structure Fr (N : Nat) (E : List (Nat × Value)) (a : Act) : Prop where
  size : a.tmps.size = N
  defers : a.defers = []
  get : ∀ k v, look E k = some v → a.eval (.tmp k) = v

section
variable {N : Nat} {E E' : List (Nat × Value)} {a : Act}
theorem Fr.eval (h : Fr N E a) {x : Operand} {v : Value} (hx : ev E x = some v) : a.eval x = v := by
  cases x with
  | tmp t => exact h.get t v hx
  | const u => exact Option.some.inj hx
  | global g => exact Option.some.inj hx
  | func f => exact Option.some.inj hx
theorem Fr.put (h : Fr N E a) {k : Nat} (hk : Nat.blt k N = true) (v : Value) : Fr N ((k, v) :: E) (a.put (some k) v) := by
  have hk : k < N := by simpa using hk
  refine ⟨by simp [Act.put, h.size], h.defers, fun j u hj => ?_⟩
  rw [look_cons] at hj
  have hs : k < a.tmps.size := by rw [h.size]; exact hk
  by_cases e : k = j
  · subst e
    rw [if_pos rfl] at hj
    cases hj
    simp [Act.put, Act.eval, hs]
  · rw [if_neg e] at hj
    have h1 := h.get j u hj
    simp only [Act.put, Act.eval, Array.getD_eq_getD_getElem?] at h1 ⊢
    rw [Array.getElem?_setIfInBounds_ne (by omega)]
    exact h1
theorem Fr.sub (h : Fr N E a) (hs : Sub E' E) : Fr N E' a := by
  refine ⟨h.size, h.defers, ?_⟩
  induction E' with
  | nil => intro k v hk; cases hk
  | cons p r ih =>
    intro k v hk
    obtain ⟨j, u⟩ := p
    rw [look_cons] at hk
    by_cases e : j = k
    · subst e
      rw [if_pos rfl] at hk
      cases hk
      exact h.get _ _ hs.1
    · rw [if_neg e] at hk
      exact ih hs.2 k v hk
/-- The first frame of a call. -/
theorem Fr.start {args : Array Value} {n : Nat} (h : args.size + n = N) (E : List (Nat × Value)) (hE : ∀ k v, look E k = some v → args[k]? = some v) :
    Fr N E { tmps := args ++ Array.replicate n undef, defers := [] } := by
  refine ⟨by simp [h], rfl, fun k v hk => ?_⟩
  have h1 := hE k v hk
  have h2 := (Array.getElem?_eq_some_iff.1 h1).1
  simp only [Act.eval, Array.getD_eq_getD_getElem?]
  rw [Array.getElem?_append_left h2, h1]
  rfl
end

/-! ### Code over such frames -/
/-- Over whatever frame of which E is told. -/
def cF (P : Program) (c : Code) (Q : Exit → Act → World → Prop) (N : Nat) (E : List (Nat × Value)) (w : World) : Prop := ∀ a, Fr N E a → c.wp P Q a w
def bF (P : Program) (ops : Array Oper) (C0 : World → Prop) (Q : Act → Prop) (l : List Oper) (N : Nat) (E : List (Nat × Value)) : Prop := ∀ a, Fr N E a → wpB P ops C0 Q l a
def lF (P : Program) (ops : Array Oper) (Q : Exit → Act → World → Prop) (l : List Oper) (N : Nat) (E : List (Nat × Value)) (w : World) : Prop := ∀ a, Fr N E a → wpList P ops Q l a w
section
variable {P : Program} {Q : Exit → Act → World → Prop} {N : Nat} {E E' : List (Nat × Value)} {w : World}
theorem least {σ : Type} (m : σ → Nat) (p : σ → Prop) : (∃ s, p s) → ∃ s, p s ∧ ∀ s', p s' → m s ≤ m s' := by
  rintro ⟨s, hs⟩
  have key : ∀ n s, m s ≤ n → p s → ∃ s, p s ∧ ∀ s', p s' → m s ≤ m s' := by
    intro n
    induction n with
    | zero => exact fun s hn hs => ⟨s, hs, fun s' _ => by omega⟩
    | succ n ih =>
      intro s hn hs
      by_cases h : ∃ s', p s' ∧ m s' < m s
      · obtain ⟨s', h1, h2⟩ := h
        exact ih s' (by omega) h1
      · exact ⟨s, hs, fun s' h1 => by
          by_cases h2 : m s' < m s
          · exact absurd ⟨s', h1, h2⟩ h
          · omega⟩
  exact key (m s) s (Nat.le_refl _) hs
open Classical in
/-- **A loop**: its states s, what is told of the frame and of the world at each, and what gets less. -/
theorem c_loop {σ : Type} {c : Code} (m : σ → Nat) (F : σ → List (Nat × Value)) (R : σ → World → Prop)
    (round : ∀ s w, R s w → cF P c (Exit.then (fun a' w' => ∃ s', R s' w' ∧ Fr N (F s') a' ∧ m s' < m s) Q) N (F s) w) (s0 : σ) (h0 : R s0 w) : cF P (.loop c) Q N (F s0) w := fun a ha => by
  let T : Act → World → σ → Prop := fun a w s => R s w ∧ Fr N (F s) a
  let μ : Act → World → Nat := fun a w => if h : ∃ s, T a w s then m (Classical.choose (least m (T a w) h)) else 0
  have hμ : ∀ a w (h : ∃ s, T a w s), ∃ s, T a w s ∧ (∀ s', T a w s' → m s ≤ m s') ∧ μ a w = m s := fun a w h => by
    refine ⟨Classical.choose (least m (T a w) h), (Classical.choose_spec (least m (T a w) h)).1, (Classical.choose_spec (least m (T a w) h)).2, ?_⟩
    show (if h : ∃ s, T a w s then m (Classical.choose (least m (T a w) h)) else 0) = _
    rw [dif_pos h]
  refine wp_loop (fun a w => ∃ s, T a w s) μ ⟨s0, h0, ha⟩ fun a w hI => ?_
  obtain ⟨s, hs, _, e⟩ := hμ a w hI
  refine wp_mono (round s w hs.1 a hs.2) fun x a' w' hx => ?_
  cases x with
  | normal =>
    obtain ⟨s', h1, h2, h3⟩ := hx
    have hI' : ∃ s, T a' w' s := ⟨s', h1, h2⟩
    obtain ⟨s2, hs2, hm2, e2⟩ := hμ a' w' hI'
    refine ⟨hI', ?_⟩
    rw [e, e2]
    exact Nat.lt_of_le_of_lt (hm2 s' ⟨h1, h2⟩) h3
  | exit _ => exact hx
  | goto _ => exact hx
  | ret => exact hx
  | panic _ => exact hx
  | outgrown => exact hx
end

/-! ### Regions -/

/-! ### Steps -/
section
variable {P : Program} {ops : Array Oper} {C0 : World → Prop} {Q : Act → Prop} {N : Nat} {E : List (Nat × Value)} {o : Oper} {rest : List Oper} {k : Nat}
theorem f_val (v : Value) (hg : o.guard = none) (hd : o.dst = some k) (hk : Nat.blt k N = true) (h : ∀ a, Fr N E a → ∀ w, C0 w → (execOp a.eval o).run P w = .ok (.value v) w) (hn : bF P ops C0 Q rest N ((k, v) :: E)) :
    bF P ops C0 Q (o :: rest) N E := fun a ha => b_val (by simp [Region.wanted, hg]) (h a ha) (by rw [hd]; exact hn _ (ha.put hk v))
end
section
variable {ops : Array Oper} {C0 : World → Prop} {Q : Act → Prop} {N : Nat} {E : List (Nat × Value)} {o : Oper} {rest : List Oper} {k : Nat}
/-! Numbers -/
end
end Go.Proofs.YtcbfalfkdnfelaaDoor
