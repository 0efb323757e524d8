/-
  SEVERAL TEXTS IN ONE: Mem, Base, Eql, Quiet, Tail, Regs, Calls.
-/
import Derived.Test.YthkbejheedffjaaRows
import Derived.WalkKit
import Derived.WalkSpells
import Derived.WalkLawsBesides
import Derived.Lib.Hide
import Derived.Laws.CopyOwn
import Derived.Deep.QuietTactic
import Derived.StillTail
import Derived.Deep.MidRow
/-
PLAIN MATHEMATICS OF LAYER 1 (wire): numbers as eight bytes, and what a reader does to the bytes it has left. No program is imported.
WORDS FOR MEMORY: bytes that a slice value reads, and how they stay.
-/
namespace Go.Proofs.Ythkbejheedffjaa

/-- The eight bytes of a number, the greatest first. -/
def be8 (v : Nat) : List UInt8 := [UInt8.ofNat (v / 72057594037927936), UInt8.ofNat (v / 281474976710656), UInt8.ofNat (v / 1099511627776), UInt8.ofNat (v / 4294967296), UInt8.ofNat (v / 16777216), UInt8.ofNat (v / 65536), UInt8.ofNat (v / 256), UInt8.ofNat v]

/-- One step of reading a number. -/
def step (a : Nat) (x : UInt8) : Nat := (a * 256 + x.toNat) % 18446744073709551616

/-- The number that bytes are, modulo two to the 64th. -/
def val (l : List UInt8) : Nat := l.foldl step 0

theorem be8_len (v : Nat) : (be8 v).length = 8 := rfl

theorem val_snoc (l : List UInt8) (x : UInt8) : val (l ++ [x]) = step (val l) x := by simp [val]

theorem step_lt (a : Nat) (x : UInt8) : step a x < 18446744073709551616 := Nat.mod_lt _ (by omega)

theorem val_lt (l : List UInt8) : val l < 18446744073709551616 := by
  rcases List.eq_nil_or_concat l with rfl | ⟨l', x, rfl⟩
  · simp [val]
  · rw [List.concat_eq_append, val_snoc]
    exact step_lt _ _

theorem val_be8 (v : Nat) (h : v < 18446744073709551616) : val (be8 v) = v := by
  simp [val, be8, step]
  omega

theorem be8_inj {a b : Nat} (ha : a < 18446744073709551616) (hb : b < 18446744073709551616) (h : be8 a = be8 b) : a = b := by
  rw [← val_be8 a ha, ← val_be8 b hb, h]

/-- What taking k bytes answers, and what is left: bytes left, the failure's number. -/
def tk (l : List UInt8) (f k : Nat) : List UInt8 × List UInt8 × Nat :=
  if f = 0 then (if l.length < k then ([], l, 10) else (l.take k, l.drop k, 0)) else ([], l, f)

theorem tk_fail {l : List UInt8} {f k : Nat} (h : f ≠ 0) : tk l f k = ([], l, f) := by simp [tk, h]
theorem tk_short {l : List UInt8} {k : Nat} (h : l.length < k) : tk l 0 k = ([], l, 10) := by simp [tk, h]
theorem tk_ok {l : List UInt8} {k : Nat} (h : k ≤ l.length) : tk l 0 k = (l.take k, l.drop k, 0) := by
  simp only [tk, if_pos]
  rw [if_neg (by omega)]

def num (l : List UInt8) (f : Nat) : Nat × List UInt8 × Nat := (val (tk l f 8).1, (tk l f 8).2)

def most (l : List UInt8) (f lim : Nat) : Nat × List UInt8 × Nat := if lim < (num l f).1 then (0, (num l f).2.1, 12) else num l f

def byts (l : List UInt8) (f : Nat) : List UInt8 × List UInt8 × Nat := tk (most l f 1048576).2.1 (most l f 1048576).2.2 (most l f 1048576).1

def don (l : List UInt8) (f : Nat) : Nat := if f = 0 then (if l.length = 0 then 0 else 11) else f

theorem num_lt (l : List UInt8) (f : Nat) : (num l f).1 < 18446744073709551616 := val_lt _

theorem most_le (l : List UInt8) (f lim : Nat) : (most l f lim).1 ≤ lim := by
  unfold most
  split
  · exact Nat.zero_le _
  · omega

/-- What is left is never more than what was there. -/
theorem tk_len (l : List UInt8) (f k : Nat) : (tk l f k).2.1.length ≤ l.length ∧ (tk l f k).1.length ≤ l.length ∧ (tk l f k).1.length ≤ k := by
  unfold tk
  repeat' split
  all_goals simp
  all_goals omega

/-- A string's bytes as a list. -/
theorem loop_eq (bs : ByteArray) : ∀ (n i : Nat) (r : List UInt8), bs.size - i = n → ByteArray.toList.loop bs i r = r.reverse ++ bs.data.toList.drop i
  | 0, i, r, h => by
    rw [ByteArray.toList.loop]
    have hs : bs.data.toList.length = bs.size := by simp
    rw [if_neg (by omega), List.drop_eq_nil_of_le (by omega), List.append_nil]
  | n + 1, i, r, h => by
    rw [ByteArray.toList.loop]
    have hs : bs.data.toList.length = bs.size := by simp
    rw [if_pos (by omega), loop_eq bs n (i + 1) _ (by omega)]
    have hi : i < bs.data.toList.length := by omega
    rw [List.drop_eq_getElem_cons hi, List.reverse_cons, List.append_assoc]
    have hg : bs.get! i = bs.data.toList[i] := by
      have : bs.get! i = bs.data[i]! := rfl
      rw [this]
      simp at hi
      simp [hi]
    rw [hg]
    rfl
theorem bytes_toList (bs : ByteArray) : bs.toList = bs.data.toList := by
  unfold ByteArray.toList
  rw [loop_eq bs _ 0 [] rfl]
  rfl

end Go.Proofs.Ythkbejheedffjaa

namespace Go.Proofs.Ythkbejheedffjaa
open Go.RowKit

/-- Bytes as the cells of a row. -/
def By (l : List UInt8) : List Value := l.map fun x => .int .u8 (x.toNat : Int)

theorem By_len (l : List UInt8) : (By l).length = l.length := by simp [By]
theorem By_app (a b : List UInt8) : By (a ++ b) = By a ++ By b := by simp [By]
theorem By_one (l : List UInt8) : ∀ u ∈ By l, u.oneCell' = true := by
  intro u hu
  obtain ⟨x, _, rfl⟩ := List.mem_map.1 hu
  rfl
theorem By_at {l : List UInt8} {j : Nat} {u : Value} (h : (By l)[j]? = some u) : ∃ x, l[j]? = some x ∧ u = .int .u8 (x.toNat : Int) := by
  simp only [By, List.getElem?_map, Option.map_eq_some_iff] at h
  obtain ⟨x, hx, rfl⟩ := h
  exact ⟨x, hx, rfl⟩

/-- The bytes l lie at A, in a block from lo on and below hi. -/
def BV (w : World) (lo hi : Nat) (A : Option Addr) (l : List UInt8) : Prop :=
  0 < l.length → ∃ ad, A = some ad ∧ lo ≤ ad.block ∧ ad.block < hi ∧ ∀ j x, l[j]? = some x → w.cell? (ad.add j) = some (.int .u8 (x.toNat : Int))

section
variable {w w' : World} {lo hi lo' hi' : Nat} {A : Option Addr} {l : List UInt8}

theorem block_add (a : Addr) (n : Nat) : (a.add n).block = a.block := by unfold Addr.add; split <;> rfl
theorem add_add' (a : Addr) (i j : Nat) : (a.add i).add j = a.add (i + j) := by
  unfold Addr.add
  by_cases h1 : i = 0 <;> by_cases h2 : j = 0 <;> simp [h1, h2, Nat.add_assoc]

theorem BV.nil (w : World) (lo hi : Nat) (A : Option Addr) : BV w lo hi A [] := fun h => absurd h (by simp)

theorem BV.more (h : BV w lo hi A l) (h1 : lo' ≤ lo) (h2 : hi ≤ hi') : BV w lo' hi' A l := fun hl => by
  obtain ⟨ad, e, ha, hb, hc⟩ := h hl
  exact ⟨ad, e, by omega, by omega, hc⟩

theorem BV.keep (h : BV w lo hi A l) (hk : ∀ k, lo ≤ k → k < hi → w'.heap[k]? = w.heap[k]?) : BV w' lo hi A l := fun hl => by
  obtain ⟨ad, e, ha, hb, hc⟩ := h hl
  exact ⟨ad, e, ha, hb, fun j x hx => by
    rw [World.cell?_of_block (w := w) (by rw [block_add]; exact hk _ ha hb)]
    exact hc j x hx⟩

theorem BV.below (h : BV w lo hi A l) {B : Nat} (hb : Below B w w') (hB : hi ≤ B) : BV w' lo hi A l := h.keep fun k _ hk => hb.block k (by omega)
theorem BV.grown (h : BV w lo hi A l) {r : Nat} (hg : w.grownBy w' (some r)) (hB : hi ≤ w.heap.size) (hr : r < lo ∨ hi ≤ r) : BV w' lo hi A l :=
  h.keep fun k h1 h2 => hg.block k (by omega) (fun e => by injection e with e; omega)
theorem BV.alloc (h : BV w lo hi A l) (o : Obj) (hB : hi ≤ w.heap.size) : BV (w.alloc o) lo hi A l := h.keep fun k _ h2 => Below.heap_alloc w o k (by omega)
theorem BV.setCell (h : BV w lo hi A l) {p : Addr} (hp : p.block < lo ∨ hi ≤ p.block) (u : Value) : BV (w.setCell p u) lo hi A l := h.keep fun k h1 h2 => heap_setCell_other w p k u (by omega)

theorem BV.take (h : BV w lo hi A l) (k : Nat) : BV w lo hi A (l.take k) := fun hl => by
  obtain ⟨ad, e, ha, hb, hc⟩ := h (by simp at hl; omega)
  exact ⟨ad, e, ha, hb, fun j x hx => hc j x (by
    rw [List.getElem?_take] at hx
    split at hx
    · exact hx
    · cases hx)⟩

/-- A cut 's[k:]', the address as the model spells it. -/
theorem BV.cut (h : BV w lo hi A l) {k c : Nat} (hk : k ≤ l.length) (hc : l.length ≤ c) : BV w lo hi (if c = k then A else A.map (·.add k)) (l.drop k) := fun hl => by
  simp only [List.length_drop] at hl
  obtain ⟨ad, rfl, ha, hb, hcell⟩ := h (by omega)
  rw [if_neg (by omega)]
  exact ⟨ad.add k, rfl, by rw [block_add]; exact ha, by rw [block_add]; exact hb, fun j x hx => by
    rw [add_add']
    exact hcell (k + j) x (by rw [← hx, List.getElem?_drop])⟩

/-- What a row of the call's own holds. -/
theorem BV.own {base c : Nat} (h : w.ownsRow base 5 1 (.slice A l.length c) l.length (By l)) : BV w base w.heap.size A l := fun hl => by
  rcases h.2 with ⟨_, h0⟩ | ⟨g, cap, cur, hv, hg, hh, _⟩
  · omega
  · injection hv with hA hn hcc
    subst hA
    refine ⟨_, rfl, hg, (Array.getElem?_eq_some_iff.1 hh).1, fun j x hx => ?_⟩
    exact h.cells (g := g) rfl j _ (by simp [By, hx])
end

/-- A block that is just these cells, none of them frozen. -/
def Blk (w : World) (g t : Nat) (cs : Array Value) : Prop := w.heap[g]? = some (.cells cs t (0, 0))

section
variable {w w' : World} {g t : Nat} {cs : Array Value}
theorem Blk.lt (h : Blk w g t cs) : g < w.heap.size := (Array.getElem?_eq_some_iff.1 h).1
theorem Blk.cell (h : Blk w g t cs) (i : Nat) : w.cell? ⟨g, i, none⟩ = cs[i]? := cell_of_row w g i cs t (0, 0) h
theorem Blk.free (h : Blk w g t cs) (i : Nat) : w.frozen? ⟨g, i, none⟩ = false := frozen_of_row w g i cs t h
theorem Blk.new (w : World) (t : Nat) (cs : Array Value) : Blk (w.alloc (.cells cs t)) w.heap.size t cs := heap_alloc_new w _
theorem Blk.alloc (h : Blk w g t cs) (o : Obj) : Blk (w.alloc o) g t cs := (Below.heap_alloc w o g h.lt).trans h
theorem Blk.set (h : Blk w g t cs) (i : Nat) (u : Value) : Blk (w.setCell ⟨g, i, none⟩ u) g t (cs.setIfInBounds i u) := by
  unfold Blk at h ⊢
  simp [World.setCell, Array.getElem?_modify, h]
theorem Blk.far (h : Blk w g t cs) {p : Addr} (hp : g ≠ p.block) (u : Value) : Blk (w.setCell p u) g t cs := (heap_setCell_other w p g u hp).trans h
theorem Blk.below {B : Nat} (h : Blk w g t cs) (hb : Below B w w') (hg : g < B) : Blk w' g t cs := (hb.block g hg).trans h
theorem Blk.grown {row : Option Nat} (h : Blk w g t cs) (hb : w.grownBy w' row) (hg : some g ≠ row) : Blk w' g t cs := (hb.block g h.lt hg).trans h
end

/-- Only block r has turned (and new blocks have come). -/
theorem only_refl (w : World) (r : Nat) : w.grownBy w (some r) := World.grownBy.refl w _
theorem only_trans {a b c : World} {r : Nat} (h : a.grownBy b (some r)) (k : b.grownBy c (some r)) : a.grownBy c (some r) :=
  ⟨k.os.trans h.os, k.tape.trans h.tape, k.output.trans h.output, Nat.le_trans h.size k.size, fun i hi hn => (k.block i (Nat.lt_of_lt_of_le hi h.size) hn).trans (h.block i hi hn)⟩
theorem only_below {a b c : World} {r : Nat} (h : a.grownBy b (some r)) (k : Below b.heap.size b c) : a.grownBy c (some r) :=
  ⟨k.os.trans h.os, k.tape.trans h.tape, k.output.trans h.output, Nat.le_trans h.size k.size, fun i hi hn => (k.block i (Nat.lt_of_lt_of_le hi h.size)).trans (h.block i hi hn)⟩
theorem only_set {a b : World} {r : Nat} (h : a.grownBy b (some r)) (i : Nat) (u : Value) : a.grownBy (b.setCell ⟨r, i, none⟩ u) (some r) :=
  ⟨h.os, h.tape, h.output, by simpa [World.setCell] using h.size, fun k hk hn => (heap_setCell_other b ⟨r, i, none⟩ k u (fun e => hn (by rw [e]))).trans (h.block k hk hn)⟩
theorem below_only {B : Nat} {a b c : World} {r : Nat} (h : Below B a b) (k : b.grownBy c (some r)) (hB : B ≤ b.heap.size) (hr : B ≤ r) : Below B a c :=
  h.grown k hB (fun x hx => by injection hx with hx; omega)

/-- The slice value '.slice A l.length c' reads the bytes l. -/
def SL (w : World) (lo hi : Nat) (A : Option Addr) (l : List UInt8) (c : Nat) : Prop :=
  l.length ≤ c ∧ c ≤ 9223372036854775807 ∧ (A = none → c = 0) ∧ BV w lo hi A l

section
variable {w w' : World} {lo hi lo' hi' c : Nat} {A : Option Addr} {l : List UInt8}
theorem SL.more (h : SL w lo hi A l c) (h1 : lo' ≤ lo) (h2 : hi ≤ hi') : SL w lo' hi' A l c := ⟨h.1, h.2.1, h.2.2.1, h.2.2.2.more h1 h2⟩
theorem SL.below (h : SL w lo hi A l c) {B : Nat} (hb : Below B w w') (hB : hi ≤ B) : SL w' lo hi A l c := ⟨h.1, h.2.1, h.2.2.1, h.2.2.2.below hb hB⟩
theorem SL.grown (h : SL w lo hi A l c) {r : Nat} (hg : w.grownBy w' (some r)) (hB : hi ≤ w.heap.size) (hr : r < lo ∨ hi ≤ r) : SL w' lo hi A l c := ⟨h.1, h.2.1, h.2.2.1, h.2.2.2.grown hg hB hr⟩
theorem SL.alloc (h : SL w lo hi A l c) (o : Obj) (hB : hi ≤ w.heap.size) : SL (w.alloc o) lo hi A l c := ⟨h.1, h.2.1, h.2.2.1, h.2.2.2.alloc o hB⟩
theorem SL.setCell (h : SL w lo hi A l c) {p : Addr} (hp : p.block < lo ∨ hi ≤ p.block) (u : Value) : SL (w.setCell p u) lo hi A l c := ⟨h.1, h.2.1, h.2.2.1, h.2.2.2.setCell hp u⟩
theorem SL.nil (w : World) (lo hi : Nat) : SL w lo hi none [] 0 := ⟨by simp, by omega, fun _ => rfl, BV.nil _ _ _ _⟩
theorem SL.take (h : SL w lo hi A l c) (k : Nat) : SL w lo hi A (l.take k) c := ⟨by have := h.1; simp; omega, h.2.1, h.2.2.1, h.2.2.2.take k⟩
theorem SL.cut (h : SL w lo hi A l c) {k : Nat} (hk : k ≤ l.length) : SL w lo hi (if c = k then A else A.map (·.add k)) (l.drop k) (c - k) := by
  refine ⟨by have := h.1; simp; omega, by have := h.2.1; omega, fun hA => ?_, h.2.2.2.cut hk h.1⟩
  split at hA
  · rw [h.2.2.1 hA]; omega
  · cases A with
    | none => rw [h.2.2.1 rfl]; omega
    | some a => cases hA
end

/-- What the laws on append ask of the bytes that are appended. -/
theorem SL.none_ {w : World} {lo hi c : Nat} {A : Option Addr} {l : List UInt8} (h : SL w lo hi A l c) (hA : A = none) : l.length = 0 ∧ c = 0 := by
  have := h.2.2.1 hA
  have := h.1
  omega
theorem SL.cells {w : World} {lo hi c : Nat} {A : Option Addr} {l : List UInt8} (h : SL w lo hi A l c) : ∀ ad, A = some ad → ∀ j u, (By l)[j]? = some u → w.cell? (ad.add j) = some u := by
  intro ad hA j u hu
  obtain ⟨x, hx, rfl⟩ := By_at hu
  have hl : 0 < l.length := by
    have := (List.getElem?_eq_some_iff.1 hx).1
    omega
  obtain ⟨ad', hA', _, _, hc⟩ := h.2.2.2 hl
  rw [hA] at hA'
  injection hA' with hA'
  subst hA'
  exact hc j x hx

/-- The slice of slices at A reads the lists ls. -/
def Parts (w : World) (hi : Nat) (A : Option Addr) (ls : List (List UInt8)) : Prop :=
  0 < ls.length → ∃ ad, A = some ad ∧ ad.block < hi ∧ ∀ (i : Nat) l, ls[i]? = some l → ∃ A' c, w.cell? (ad.add i) = some (.slice A' l.length c) ∧ SL w 0 hi A' l c

theorem Parts.below {w w' : World} {hi B : Nat} {A : Option Addr} {ls : List (List UInt8)} (h : Parts w hi A ls) (hb : Below B w w') (hB : hi ≤ B) : Parts w' hi A ls := fun hl => by
  obtain ⟨ad, rfl, ha, hc⟩ := h hl
  refine ⟨ad, rfl, ha, fun i l hi => ?_⟩
  obtain ⟨A', c, h1, h2⟩ := hc i l hi
  exact ⟨A', c, by rw [hb.cell (by rw [block_add]; omega)]; exact h1, h2.below hb hB⟩

/-- The reader in block r: the bytes that it has left (below its own block, at lo or above), the failure's number. -/
def Rdr (w : World) (lo r : Nat) (l : List UInt8) (f : Nat) : Prop :=
  ∃ A c, Blk w r 60 #[.slice A l.length c, .int .i64 (f : Int)] ∧ SL w lo r A l c

theorem Rdr.lt {w : World} {lo r f : Nat} {l : List UInt8} (h : Rdr w lo r l f) : r < w.heap.size := by
  obtain ⟨A, c, hb, _⟩ := h
  exact hb.lt
theorem Rdr.below {w w' : World} {lo r f B : Nat} {l : List UInt8} (h : Rdr w lo r l f) (hb : Below B w w') (hB : r < B) : Rdr w' lo r l f := by
  obtain ⟨A, c, hk, h1⟩ := h
  exact ⟨A, c, hk.below hb hB, h1.below hb (by omega)⟩
theorem Rdr.grown {w w' : World} {lo r f r' : Nat} {l : List UInt8} (h : Rdr w lo r l f) (hb : w.grownBy w' (some r')) (hB : r < r' ∨ r' < lo) (hlo : lo ≤ r) : Rdr w' lo r l f := by
  have hlt := h.lt
  obtain ⟨A, c, hk, h1⟩ := h
  exact ⟨A, c, hk.grown hb (fun e => by injection e with e; omega), h1.grown hb (by omega) (by omega)⟩

theorem Blk.drewN {w : World} {g t : Nat} {cs : Array Value} (h : Blk w g t cs) (n : Nat) : Blk (w.drewN n) g t cs := h
theorem SL.drewN {w : World} {lo hi c : Nat} {A : Option Addr} {l : List UInt8} (h : SL w lo hi A l c) (n : Nat) : SL (w.drewN n) lo hi A l c := h

/-- A whole array stored into its variable's block. -/
theorem run_store_row {P : Program} (w : World) (ty : TypeId) (g : Nat) (cs old : Array Value) (t : TypeId) (hg : w.heap[g]? = some (.cells old t (0, 0)))
    (hi : (P.info? ty).map (·.size) = some cs.size) (hos : old.size = cs.size) (h1 : ∀ v ∈ cs.toList, v.oneCell' = true) :
    (Instr.storeAt ty (.pointer (some ⟨g, 0, none⟩)) (.agg cs)).run P w = .ok () (w.setRow g cs) := by
  have hst := run_storeCells_at P g 0 t cs.toList 0 old w hg (by simp; omega) h1
  have hd : old.toList.drop cs.toList.length = [] := List.drop_eq_nil_of_le (by simp; omega)
  simp only [Nat.add_zero, Nat.zero_add, List.take_zero, List.nil_append] at hst
  rw [hd, List.append_nil, Array.toArray_toList] at hst
  cases hq : P.info? ty with
  | none => simp [hq] at hi
  | some i =>
    have hs : i.size = cs.size := by simpa [hq] using hi
    simp [Instr.storeAt, Instr.sureAddr, storeVar, sizeOf, typeInfo, hq, hs, Value.cells, Sem.run_bind, hst]

theorem wpList_store_row {P : Program} {ops : Array Oper} {rest : List Oper} {o : Oper} {a : Act} {w : World} {Q : Exit → Act → World → Prop} (hgd : o.guard = none) (ty : TypeId) (p x : Operand) (ho : o.op = .store ty p x)
    (g : Nat) (hp : a.eval p = .pointer (some ⟨g, 0, none⟩)) (cs : Array Value) (hx : a.eval x = .agg cs) (t : TypeId) (old : Array Value) (hg : w.heap[g]? = some (.cells old t (0, 0)))
    (hi : (P.info? ty).map (·.size) = some cs.size) (hos : old.size = cs.size) (h1 : ∀ v ∈ cs.toList, v.oneCell' = true)
    (h : wpList P ops Q rest (a.put o.dst (.tuple #[])) (w.setRow g cs)) : wpList P ops Q (o :: rest) a w :=
  wpList_plain hgd fun _ hK => by
    unfold Oper.wp execOp
    simp only [ho, hp, hx, Sem.run_bind, Sem.run_pure, Result.andThen_ok, run_store_row w ty g cs old t hg hi hos h1]
    exact hK _ _ h

theorem Blk.row {w : World} {g t : Nat} {cs : Array Value} (h : Blk w g t cs) (cs' : Array Value) : Blk (w.setRow g cs') g t cs' := setRow_heap w g cs cs' t _ h
theorem Blk.rowFar {w : World} {g t : Nat} {cs : Array Value} (h : Blk w g t cs) {g' : Nat} (hne : g ≠ g') (cs' : Array Value) : Blk (w.setRow g' cs') g t cs := by
  unfold Blk at h ⊢
  rw [World.setRow]
  simp only [Array.getElem?_modify]
  rw [if_neg (by omega)]
  exact h

end Go.Proofs.Ythkbejheedffjaa
/-
  WORDS FOR MEMORY: rows of bytes and of whole numbers, blocks behind three or four new ones.
-/
namespace Go.Proofs.Ythkbejheedffjaa
open Go.RowKit

/-- Whole numbers as the cells of a row. -/
def Is (l : List Int) : List Value := l.map (.int .i64)
theorem Is_len (l : List Int) : (Is l).length = l.length := by simp [Is]
theorem Is_one (l : List Int) : ∀ u ∈ Is l, u.oneCell' = true := by
  intro u hu
  obtain ⟨x, _, rfl⟩ := List.mem_map.1 hu
  rfl
theorem Is_at {l : List Int} {j : Nat} (h : j < l.length) : (Is l).toArray[j]? = some (.int .i64 l[j]!) := by
  simp [Is, h]
theorem Is_set (l : List Int) (k : Nat) (x : Int) : (Is l).toArray.setIfInBounds k (.int .i64 x) = (Is (l.set k x)).toArray := by
  simp [Is, List.map_set]
theorem By_get {l : List UInt8} {j : Nat} (h : j < l.length) : (By l).toArray[j]? = some (.int .u8 ((l[j]!).toNat : Int)) := by
  simp [By, h]
theorem Blk.drew {w : World} {g t : Nat} {cs : Array Value} (h : Blk w g t cs) : Blk w.drew g t cs := h
theorem blk3_0 (w : World) (t : Nat) (cs : Array Value) (o1 o2 : Obj) : Blk (((w.alloc (.cells cs t)).alloc o1).alloc o2) w.heap.size t cs := ((Blk.new w t cs).alloc o1).alloc o2
theorem blk3_1 (w : World) (t : Nat) (cs : Array Value) (o1 o2 : Obj) : Blk (((w.alloc o1).alloc (.cells cs t)).alloc o2) (w.heap.size + 1) t cs := by
  have h := (Blk.new (w.alloc o1) t cs).alloc o2
  rwa [World.size_alloc] at h
theorem blk3_2 (w : World) (t : Nat) (cs : Array Value) (o1 o2 : Obj) : Blk (((w.alloc o1).alloc o2).alloc (.cells cs t)) (w.heap.size + 1 + 1) t cs := by
  have h := Blk.new ((w.alloc o1).alloc o2) t cs
  rwa [World.size_alloc, World.size_alloc] at h
theorem blk4_0 (w : World) (t : Nat) (cs : Array Value) (o1 o2 o3 : Obj) : Blk ((((w.alloc (.cells cs t)).alloc o1).alloc o2).alloc o3) w.heap.size t cs := (((Blk.new w t cs).alloc o1).alloc o2).alloc o3
theorem blk4_1 (w : World) (t : Nat) (cs : Array Value) (o1 o2 o3 : Obj) : Blk ((((w.alloc o1).alloc (.cells cs t)).alloc o2).alloc o3) (w.heap.size + 1) t cs := by
  have h := ((Blk.new (w.alloc o1) t cs).alloc o2).alloc o3
  rwa [World.size_alloc] at h
theorem blk4_2 (w : World) (t : Nat) (cs : Array Value) (o1 o2 o3 : Obj) : Blk ((((w.alloc o1).alloc o2).alloc (.cells cs t)).alloc o3) (w.heap.size + 1 + 1) t cs := by
  have h := (Blk.new ((w.alloc o1).alloc o2) t cs).alloc o3
  rwa [World.size_alloc, World.size_alloc] at h
theorem blk4_3 (w : World) (t : Nat) (cs : Array Value) (o1 o2 o3 : Obj) : Blk ((((w.alloc o1).alloc o2).alloc o3).alloc (.cells cs t)) (w.heap.size + 1 + 1 + 1) t cs := by
  have h := Blk.new (((w.alloc o1).alloc o2).alloc o3) t cs
  rwa [World.size_alloc, World.size_alloc, World.size_alloc] at h
theorem below4 (w : World) (o1 o2 o3 o4 : Obj) : Below w.heap.size w ((((w.alloc o1).alloc o2).alloc o3).alloc o4) :=
  ((((Below.refl _ _).alloc (Nat.le_refl _) _).alloc (by simp) _).alloc (by simp; omega) _).alloc (by simp; omega) _

def z32 : Array Value := (By (List.replicate 32 0)).toArray

theorem By_set (l : List UInt8) (k : Nat) (x : UInt8) : (By l).toArray.setIfInBounds k (.int .u8 (x.toNat : Int)) = (By (l.set k x)).toArray := by
  simp [By, List.map_set]

theorem len_by {l : List UInt8} (h : l.length = 32) : (By l).toArray.size = 32 := by rw [List.size_toArray, By_len, h]

theorem len_is {l : List Int} (h : l.length = 16) : (Is l).toArray.size = 16 := by rw [List.size_toArray, Is_len, h]

end Go.Proofs.Ythkbejheedffjaa
/-
  ARRAYS OF BYTES: '==' of any two of one length.
-/
namespace Go.Proofs.Ythkbejheedffjaa
open Go.RowKit

theorem info8 : (Try.prog.info? 5).map (fun i => (i.zero, i.size, i.bytes)) = some (some (.int .u8 0), 1, 1) := by kernel_rfl

theorem part_at (w : World) (l : List UInt8) (i : Nat) (hi : i < l.length) : (part 5 (By l).toArray (i * 1)).run Try.prog w = .ok (.int .u8 (l[i].toNat : Int)) w := by
  have hagg : (isAgg 5).run Try.prog w = .ok false w := by
    unfold isAgg
    rw [Sem.run_bind, run_underlying Try.underlying5 w]
    rfl
  have hc : (By l)[i]? = some (.int .u8 (l[i].toNat : Int)) := by simp [By, List.getElem?_eq_getElem hi]
  unfold part
  simp [Sem.run_bind, hagg, hc, Sem.run_pure]

theorem one_eq (d : Nat) (x y : UInt8) (w : World) : (Op.equalIn (d + 1) 5 (.int .u8 (x.toNat : Int)) (.int .u8 (y.toNat : Int))).run Try.prog w = .ok (decide (x = y)) w := by
  simp [Op.equalIn, run_underlying Try.underlying5]
  by_cases h : x = y
  · simp [h]
  · have h2 : ¬ x.toNat = y.toNat := fun e => h (UInt8.toNat.inj e)
    simp [h]
    intro e
    exact h2 (by omega)

set_option maxRecDepth 20000 in
theorem equalIn_bytes (d n t : Nat) (l m : List UInt8) (ht : Try.prog.underlying t = some (.array n 5)) (hl : l.length = n) (hm : m.length = n) (w : World) :
    (Op.equalIn (d + 2) t (.agg (By l).toArray) (.agg (By m).toArray)).run Try.prog w = .ok (decide (l = m)) w := by
  obtain ⟨i0, hi0, hz0, hz1, hz2⟩ := info_parts info8
  have hI : ∀ (I : List Nat), (∀ i ∈ I, i < n) → (forIn I ((none : Option Bool), ()) fun i _ => do
      let a ← part 5 (By l).toArray (i * 1)
      let b ← part 5 (By m).toArray (i * 1)
      let r ← Op.equalIn (d + 1) 5 a b
      if (!r) = true then pure (ForInStep.done (some false, ())) else pure (ForInStep.yield (none, ()))).run Try.prog w = .ok (if ∀ i ∈ I, l[i]! = m[i]! then (none, ()) else (some false, ())) w := by
    intro I
    induction I with
    | nil => intro _; simp [Sem.run_pure]
    | cons i I ih =>
      intro h
      have hi : i < l.length := by have := h i (by simp); omega
      have hj : i < m.length := by have := h i (by simp); omega
      have hp := part_at w l i hi
      have hq := part_at w m i hj
      have he := one_eq d l[i] m[i] w
      have e1 : l[i]! = l[i] := getElem!_pos l i hi
      have e2 : m[i]! = m[i] := getElem!_pos m i hj
      by_cases hx : l[i] = m[i]
      · rw [show decide (l[i] = m[i]) = true by simp [hx]] at he
        simp only [List.forIn_cons, Sem.run_bind, hp, hq, Result.andThen_ok, he, Bool.not_true, Bool.false_eq_true, if_false, Sem.run_pure]
        rw [ih (fun j hj => h j (by simp [hj]))]
        congr 1
        by_cases ha : ∀ i ∈ I, l[i]! = m[i]!
        · have hb : ∀ j ∈ i :: I, l[j]! = m[j]! := by
            intro j hj
            rcases List.mem_cons.mp hj with rfl | hj
            · rw [e1, e2, hx]
            · exact ha j hj
          rw [if_pos ha, if_pos hb]
        · rw [if_neg ha, if_neg (fun hb => ha fun j hj => hb j (List.mem_cons_of_mem _ hj))]
      · rw [show decide (l[i] = m[i]) = false by simp [hx]] at he
        simp only [List.forIn_cons, Sem.run_bind, hp, hq, Result.andThen_ok, he, Bool.not_false, if_true, Sem.run_pure]
        rw [if_neg (fun hb => hx (by have := hb i (List.mem_cons_self ..); rw [e1, e2] at this; exact this))]
  rw [Op.equalIn]
  simp only [Sem.run_bind, run_underlying ht, Result.andThen_ok, sizeOf, typeInfo, run_program, hi0, hz1, Sem.run_pure, Std.Legacy.Range.forIn_eq_forIn_range']
  rw [hI _ (fun i hi => by
    have := List.mem_range'_1.1 hi
    simp [Std.Legacy.Range.size] at this
    omega)]
  by_cases hlm : l = m
  · subst hlm
    simp [Sem.run_pure]
  · have hne : ¬ ∀ i ∈ List.range' 0 n 1, l[i]! = m[i]! := fun ha => hlm (by
      apply List.ext_getElem (by rw [hl, hm])
      intro i h1 h2
      have := ha i (List.mem_range'_1.2 (by omega))
      rwa [getElem!_pos l i h1, getElem!_pos m i h2] at this)
    have hs : Std.Legacy.Range.size [:n] = n := by simp [Std.Legacy.Range.size]
    rw [hs, if_neg hne, show decide (l = m) = false by simp [hlm]]
    rfl

theorem eql_bytes (n t : Nat) (l m : List UInt8) (ht : Try.prog.underlying t = some (.array n 5)) (hl : l.length = n) (hm : m.length = n) (w : World) :
    (binOp .eql t (.agg (By l).toArray) (.agg (By m).toArray)).run Try.prog w = .ok (.bool (decide (l = m))) w := by
  simp only [binOp]
  have h := equalIn_bytes 9998 n t l m ht hl hm w
  simp [Op.equal, Op.maxDepth, h]

end Go.Proofs.Ythkbejheedffjaa
/-
  REGIONS THAT DRAW THEIR ORDER, whose operations read rows and call what leaves a class of worlds: one walk.
-/
namespace Go.Proofs.Ythkbejheedffjaa
open Go.RowKit Go.IntWalk

section
variable {P : Program} {ops : Array Oper} {C : World → Prop} {Q : Act → Prop} {a : Act} {o : Oper} {rest : List Oper}

theorem q_go (hg : o.guard = none) {v : Value} (h : ∀ w, C w → o.quietAt P a C w v) (hk : wpQuiet P ops C Q rest (a.put o.dst v)) : wpQuiet P ops C Q (o :: rest) a :=
  wpQuiet_step fun K hK => by
    rw [if_pos (by simp [Region.wanted, hg])]
    exact ⟨v, h, hK _ hk⟩

theorem q_want (hg : Region.wanted o (yielded ops a.tmps) = true) {v : Value} (h : ∀ w, C w → o.quietAt P a C w v) (hk : wpQuiet P ops C Q rest (a.put o.dst v)) : wpQuiet P ops C Q (o :: rest) a :=
  wpQuiet_step fun K hK => by
    rw [if_pos hg]
    exact ⟨v, h, hK _ hk⟩

theorem q_skip (hg : Region.wanted o (yielded ops a.tmps) = false) (hk : wpQuiet P ops C Q rest (a.put o.dst undef)) : wpQuiet P ops C Q (o :: rest) a :=
  wpQuiet_step fun K hK => by
    rw [if_neg (by rw [hg]; exact Bool.false_ne_true)]
    exact hK _ hk

theorem q_want_row (hg : Region.wanted o (yielded ops a.tmps) = true) (ty : TypeId) (x : Operand) (ho : o.op = .load ty x) (g : Nat) (hx : a.eval x = .pointer (some ⟨g, 0, none⟩)) (t : TypeId) (cs : Array Value) (fr : Nat × Nat) (d : TypeDesc)
    (hb : ∀ w, C w → w.heap[g]? = some (.cells cs t fr)) (hu : P.underlying ty = some d) (hd : (match d with | .struct _ | .array _ _ => true | _ => false) = true) (hi : (P.info? ty).map (·.size) = some cs.size)
    (hk : wpQuiet P ops C Q rest (a.put o.dst (.agg cs))) : wpQuiet P ops C Q (o :: rest) a :=
  q_want hg (fun w hw => by
    unfold Oper.quietAt execOp
    simp only [ho, hx, Instr.loadAt, Instr.sureAddr, Sem.run_bind, Sem.run_pure, Result.andThen_ok, run_loadVar_row w g t ty cs fr d (hb w hw) hu hd hi]
    exact ⟨rfl, rfl⟩) hk

theorem q_load_row (hg : o.guard = none) (ty : TypeId) (x : Operand) (ho : o.op = .load ty x) (g : Nat) (hx : a.eval x = .pointer (some ⟨g, 0, none⟩)) (t : TypeId) (cs : Array Value) (fr : Nat × Nat) (d : TypeDesc)
    (hb : ∀ w, C w → w.heap[g]? = some (.cells cs t fr)) (hu : P.underlying ty = some d) (hd : (match d with | .struct _ | .array _ _ => true | _ => false) = true) (hi : (P.info? ty).map (·.size) = some cs.size)
    (hk : wpQuiet P ops C Q rest (a.put o.dst (.agg cs))) : wpQuiet P ops C Q (o :: rest) a :=
  q_go hg (fun w hw => by
    unfold Oper.quietAt execOp
    simp only [ho, hx, Instr.loadAt, Instr.sureAddr, Sem.run_bind, Sem.run_pure, Result.andThen_ok, run_loadVar_row w g t ty cs fr d (hb w hw) hu hd hi]
    exact ⟨rfl, rfl⟩) hk

theorem wp_region_quiet_C {id : Nat} {Q : Exit → Act → World → Prop} {w : World} {l : List Oper} (C : World → Prop) (hm : P.follows .mixedOrders = true) (hB : Region.lexB .any l.toArray = true) (hC : C w.drew)
    (h : wpQuiet P l.toArray C (fun a' => ∀ w', C w' → Q .normal a' w') l a) : (Code.region id l.toArray true).wp P Q a w :=
  wp_region_quiet hm hB hC (by simpa using h)

theorem q_assign (hg : o.guard = none) (x : Operand) (ho : o.op = .assign x) (hk : wpQuiet P ops C Q rest (a.put o.dst (a.eval x))) : wpQuiet P ops C Q (o :: rest) a :=
  q_go hg (fun w hw => by
    unfold Oper.quietAt execOp
    simp [ho, go_sem, Oper.quietUpon]) hk
end

end Go.Proofs.Ythkbejheedffjaa
/-
  REGIONS THAT DRAW THEIR ORDER: operations that read, and calls that only write new memory, may be taken first, whatever they hand back; what is left (new variables, stores) is walked as it comes.
-/
namespace Go.Proofs.Ythkbejheedffjaa
open Go.RowKit Go.IntWalk

/-- Operations that never enter a function. -/
def plainB : Op → Bool
  | .move _ | .assign _ | .pick .. | .alloc _ | .box .. | .build .. | .load .. | .store .. | .binOp .. | .unOp .. | .convert .. | .fieldAddr .. | .field .. | .indexAddr .. | .index .. | .extract .. | .slice .. | .makeInterface .. => true
  | _ => false
/-- Operations whose answer may be any of a set. -/
def multiB : Op → Bool
  | .call c => match c.callee with | .builtin .len => false | _ => true
  | o => !plainB o
theorem plain_of {o : Op} (h : multiB o = true) : plainB o = false := by
  cases o <;> first | rfl | exact absurd h (by simp [multiB, plainB])

section
variable {P : Program}
theorem run_v {s : Sem Value} {w w' : World} {n : Next} (h : (do pure (Next.value (← s)) : Sem Next).run P w = .ok n w') : ∃ v, n = .value v := by
  rw [Sem.run_bind] at h
  cases hs : s.run P w with
  | ok v w1 =>
    rw [hs] at h
    simp only [Result.andThen_ok, Sem.run_pure] at h
    injection h with h1 h2
    exact ⟨v, h1.symm⟩
  | halt x w1 =>
    rw [hs] at h
    cases h
theorem run_u {s : Sem Unit} {w w' : World} {n : Next} (h : (do s; pure Next.skip : Sem Next).run P w = .ok n w') : n = .skip := by
  rw [Sem.run_bind] at h
  cases hs : s.run P w with
  | ok v w1 =>
    rw [hs] at h
    simp only [Result.andThen_ok, Sem.run_pure] at h
    injection h with h1 h2
    exact h1.symm
  | halt x w1 =>
    rw [hs] at h
    cases h
theorem plain_ok {ρ : Operand → Value} {o : Oper} (hp : plainB o.op = true) {w w' : World} {n : Next} (h : (execOp ρ o).run P w = .ok n w') : (∃ v, n = .value v) ∨ n = .skip := by
  obtain ⟨dst, op, ty, pos, af, gd⟩ := o
  cases op <;> first
    | (cases hp; done)
    | exact .inl (run_v h)
    | exact .inr (run_u h)
    | (refine .inl ?_
       unfold execOp at h
       simp only [Sem.run_pure] at h
       injection h with h1 h2
       exact ⟨_, h1.symm⟩)
    | (refine .inl ?_
       unfold execOp at h
       exact run_v (s := do pure (if ← asBool _ then _ else _)) (by simpa using h))
end

section
variable {P : Program} {ops : Array Oper} {md : Region.Mode} {Q : Exit → Act → World → Prop} {C0 : World → Prop}

/-- A value of a set; a call leaves only new memory. -/
def uponB (P : Program) (w : World) (V : Value → Prop) : Result Next → Prop
  | .ok (.value u) w' => w' = w ∧ V u
  | .ok .skip w' => w' = w ∧ V undef
  | .ok (.enter f args) w' => w' = w ∧ Calls P f args w (fun e w'' => ∃ v, e = .returned v ∧ V v ∧ Below w.heap.size w w'')
  | _ => False
def atB (P : Program) (o : Oper) (a : Act) (w : World) (V : Value → Prop) : Prop := uponB P w V ((execOp a.eval o).run P w)

/-- One operation: one value in every world of the class, or (a call) whatever of a set. -/
def quietB (P : Program) (o : Oper) (a : Act) (C0 : World → Prop) (next : Act → Prop) : Prop :=
  (∃ v, (∀ w, C0 w → atB P o a w (· = v)) ∧ next (a.put o.dst v)) ∨ (multiB o.op = true ∧ ∃ V, (∀ w, C0 w → atB P o a w V) ∧ ∀ v, V v → next (a.put o.dst v))

/-- The walk in the text's order. -/
def wpB (P : Program) (ops : Array Oper) (C0 : World → Prop) (Q : Act → Prop) : List Oper → Act → Prop
  | [], a => Q a
  | o :: rest, a => if Region.wanted o (yielded ops a.tmps) then quietB P o a C0 (wpB P ops C0 Q rest) else wpB P ops C0 Q rest (a.put o.dst undef)

theorem wpB_nil {Q : Act → Prop} {a : Act} (h : Q a) : wpB P ops C0 Q [] a := h
theorem quietB_mono {Q Q' : Act → Prop} (h : ∀ a, Q a → Q' a) {o : Oper} {a : Act} (hh : quietB P o a C0 Q) : quietB P o a C0 Q' := by
  rcases hh with ⟨v, h1, h2⟩ | ⟨hp, V, h1, h2⟩
  · exact .inl ⟨v, h1, h _ h2⟩
  · exact .inr ⟨hp, V, h1, fun v hv => h _ (h2 v hv)⟩
theorem wpB_mono {Q Q' : Act → Prop} (h : ∀ a, Q a → Q' a) : ∀ (l : List Oper) (a : Act), wpB P ops C0 Q l a → wpB P ops C0 Q' l a
  | [], a, hh => h a hh
  | o :: l, a, hh => by
    unfold wpB at hh ⊢
    split
    · rename_i hw
      simp only [hw, if_true] at hh
      exact quietB_mono (wpB_mono h l) hh
    · rename_i hw
      simp only [hw] at hh
      exact wpB_mono h l _ (by simpa using hh)

/-- In state 'a', IN EVERY WORLD OF THE CLASS, operation 'o' leaves one of V in its temporary. -/
def YieldsB (P : Program) (ops : Array Oper) (C0 : World → Prop) (o : Oper) (V : Value → Prop) (a : Act) : Prop :=
  (Region.wanted o (yielded ops a.tmps) = true ∧ ∀ w, C0 w → atB P o a w V) ∨ (Region.wanted o (yielded ops a.tmps) = false ∧ V undef)

theorem YieldsB.of_same {o : Oper} {V : Value → Prop} {a a' : Act} (hy : YieldsB P ops C0 o V a) (he : execOp a'.eval o = execOp a.eval o)
    (hw : Region.wanted o (yielded ops a'.tmps) = Region.wanted o (yielded ops a.tmps)) : YieldsB P ops C0 o V a' := by
  unfold YieldsB atB at *
  rw [he, hw]
  exact hy

theorem YieldsB.any {o : Oper} {V : Value → Prop} {a : Act} (hy : YieldsB P ops C0 o V a) {w : World} (hC : C0 w) : ∃ v, V v := by
  rcases hy with ⟨_, h⟩ | ⟨_, h⟩
  · have h3 := h w hC
    unfold atB at h3
    generalize (execOp a.eval o).run P w = r at *
    cases r with
    | ok n w' =>
      cases n <;> simp only [uponB] at h3
      case value u => exact ⟨u, h3.2⟩
      case skip => exact ⟨_, h3.2⟩
      case enter f args =>
        obtain ⟨e, w1, fr, ⟨v, _, hv, _⟩, _⟩ := h3.2 []
        exact ⟨v, hv⟩
    | halt x w' => simp only [uponB] at h3
  · exact ⟨_, h⟩

theorem YieldsB.wpOp {i : Nat} {o : Oper} {V : Value → Prop} {a : Act} (hi : ops[i]? = some o) (hy : YieldsB P ops C0 o V a)
    {K : Act → World → Prop} {w : World} (hC : C0 w) (h : ∀ v w', V v → Below w.heap.size w w' → K (a.put o.dst v) w') : wpOp P ops Q i K a w := by
  unfold Go.wpOp
  simp only [hi]
  rcases hy with ⟨hw, hv⟩ | ⟨hw, hv⟩
  · simp only [hw, if_true]
    refine .inl ?_
    have h3 := hv w hC
    unfold atB at h3
    unfold Oper.wp
    generalize (execOp a.eval o).run P w = r at *
    cases r with
    | ok n w' =>
      cases n <;> simp only [uponB] at h3 <;> simp only [Oper.upon]
      case value u =>
        obtain ⟨e1, e2⟩ := h3
        rw [e1]
        exact h _ _ e2 (Below.refl _ _)
      case skip =>
        obtain ⟨e1, e2⟩ := h3
        rw [e1]
        exact h _ _ e2 (Below.refl _ _)
      case enter f args =>
        obtain ⟨e1, hc⟩ := h3
        rw [e1]
        exact hc.mono fun e w'' ⟨v, he, hv, hw''⟩ => by subst he; exact h _ _ hv hw''
    | halt x w' => simp only [uponB] at h3
  · simp only [hw, Bool.false_eq_true, if_false]; exact h _ _ hv (Below.refl _ _)

/-- One operation 'oj', apart from 'oi': whether 'oi''s value is already there makes no difference to it, and it makes none to 'oi'. -/
theorem wpOp_putB {j : Nat} {oi oj : Oper} {V : Value → Prop} (hj : ops[j]? = some oj) (hap : oi.apart ops oj = true)
    (hsi : ∀ cs b, oi.op ≠ .select cs b) (hsj : ∀ cs b, oj.op ≠ .select cs b) (hne : ∃ v, V v) (hpl : plainB oj.op = true ∨ ∃ v, ∀ u, V u → u = v)
    (hQ : ∀ c a d v w, Q (.panic c) (a.put d v) w → Q (.panic c) a w) {K : Act → World → Prop} {a : Act} {w : World}
    (hy : YieldsB P ops C0 oi V a) (h : ∀ v, V v → wpOp P ops Q j K (a.put oi.dst v) w) :
    wpOp P ops Q j (fun a' w' => YieldsB P ops C0 oi V a' ∧ ∀ v, V v → K (a'.put oi.dst v) w') a w := by
  obtain ⟨h1, h2, h3⟩ := Oper.apart_spec hap
  have keep : ∀ (a : Act), YieldsB P ops C0 oi V a → ∀ u, YieldsB P ops C0 oi V (a.put oj.dst u) := fun a hy u =>
    hy.of_same (execOp_put oi hsi a oj.dst u h3) (wanted_put oi a oj.dst u h3)
  have keepD : ∀ d, YieldsB P ops C0 oi V { a with defers := d :: a.defers } := fun d => hy.of_same rfl rfl
  obtain ⟨v0, hv0⟩ := hne
  unfold wpOp at *
  simp only [hj] at *
  have hwt : ∀ v, Region.wanted oj (yielded ops (a.put oi.dst v).tmps) = Region.wanted oj (yielded ops a.tmps) := fun v => wanted_put oj a oi.dst v h1
  split
  · rename_i hw
    by_cases hasks : oj.asks P a w ∧ LetsOut Q
    · exact .inr hasks
    have hl : ∀ v, V v → oj.wp P (a.put oi.dst v) w K Q := fun v hv => by
      have h5 := h v hv
      rw [hwt v] at h5
      simp only [hw, if_true] at h5
      rcases h5 with h5 | ⟨h5, h6⟩
      · exact h5
      · refine absurd ⟨?_, h6⟩ hasks
        unfold Oper.asks at *
        rw [execOp_put oj hsj a oi.dst v h1] at h5
        exact h5
    refine .inl ?_
    unfold Oper.wp at *
    have hl2 : ∀ v, V v → oj.upon P (a.put oi.dst v) K Q ((execOp a.eval oj).run P w) := fun v hv => by
      have h5 := hl v hv
      rw [execOp_put oj hsj a oi.dst v h1] at h5
      exact h5
    have hpn := fun n w' => plain_ok (P := P) (ρ := a.eval) (o := oj) (w := w) (w' := w') (n := n)
    generalize (execOp a.eval oj).run P w = r at *
    cases r with
    | ok n w' =>
      cases n
      case value u => exact ⟨keep a hy u, fun v hv => by rw [← Act.put_comm a v u h2]; exact hl2 v hv⟩
      case skip => exact ⟨keep a hy _, fun v hv => by rw [← Act.put_comm a v undef h2]; exact hl2 v hv⟩
      all_goals
        rcases hpl with hpl | ⟨vv, hvv⟩
        · rcases hpn _ _ hpl rfl with ⟨v, hv⟩ | hv <;> cases hv
      case enter.inr f args =>
        have h5 := hl2 v0 hv0
        simp only [Oper.upon] at h5 ⊢
        refine Calls.mono h5 fun e w'' he => ?_
        cases e with
        | returned u => exact ⟨keep a hy u, fun v hv => by rw [hvv v hv, ← hvv v0 hv0, ← Act.put_comm a v0 u h2]; exact he⟩
        | panicked c => exact hQ _ _ _ _ _ he
        | outgrown => exact he
      case row.inr row args =>
        have h5 := hl2 v0 hv0
        simp only [Oper.upon] at h5 ⊢
        exact Rows.mono h5 fun u w'' he => ⟨keep a hy u, fun v hv => by rw [hvv v hv, ← hvv v0 hv0, ← Act.put_comm a v0 u h2]; exact he⟩
      case defer.inr d =>
        refine ⟨keep _ (keepD d) _, fun v hv => ?_⟩
        have h5 := hl2 v hv
        simp only [Oper.upon] at h5
        rw [← Act.put_comm _ v undef h2, ← Act.put_defers]
        exact h5
      all_goals
        have h5 := hl2 v0 hv0
        simp only [Oper.upon] at h5
    | halt x w' =>
      have h5 := hl2 v0 hv0
      cases x <;> simp only [Oper.upon] at h5 ⊢
      case panic u => exact hQ _ _ _ _ _ h5
  · rename_i hw
    refine ⟨keep a hy _, fun v hv => ?_⟩
    have h5 := h v hv
    rw [hwt v] at h5
    simp only [hw] at h5
    rw [← Act.put_comm a v undef h2]
    simpa using h5

/-! ### What waits for what -/
def waitsT (md : Region.Mode) (ops : Array Oper) : Nat → Nat → Nat → Bool
  | 0, _, _ => false
  | f + 1, j, i => match ops[j]? with
    | none => false
    | some oj => oj.after.any fun e => Region.binds md e && (e.on == i || waitsT md ops f e.on i)
def Closed (md : Region.Mode) (ops : Array Oper) (listed : Array Bool) : Prop :=
  ∀ j oj, ops[j]? = some oj → listed.getD j false = true → ∀ e ∈ oj.after, Region.binds md e = true → listed.getD e.on false = true
theorem Closed.waits {listed : Array Bool} (hc : Closed md ops listed) : ∀ (f j i : Nat) (oj : Oper), ops[j]? = some oj → (∀ e ∈ oj.after, Region.binds md e = true → listed.getD e.on false = true) →
    waitsT md ops f j i = true → listed.getD i false = true
  | 0, _, _, _, _, _, h => by cases h
  | f + 1, j, i, oj, hj, hl, h => by
    unfold waitsT at h
    rw [hj] at h
    obtain ⟨e, he, hb⟩ := Array.any_eq_true'.1 h
    simp only [Bool.and_eq_true, Bool.or_eq_true, beq_iff_eq] at hb
    obtain ⟨hb1, hb2⟩ := hb
    have h1 := hl e he hb1
    rcases hb2 with hb2 | hb2
    · rw [← hb2]; exact h1
    · cases ho : ops[e.on]? with
      | none =>
        cases f with
        | zero => cases hb2
        | succ f => unfold waitsT at hb2; rw [ho] at hb2; cases hb2
      | some oe => exact Closed.waits hc f e.on i oe ho (hc e.on oe ho h1) hb2
theorem Closed.set {listed : Array Bool} (hc : Closed md ops listed) {i : Nat} (hi : i ∈ Region.ready md ops listed) : Closed md ops (listed.setIfInBounds i true) := by
  obtain ⟨_, oi, hoi, hall⟩ := mem_ready.1 hi
  intro j oj hj hl e he hb
  by_cases hij : i = j
  · subst hij
    obtain rfl : oj = oi := Option.some.inj (hj.symm.trans hoi)
    exact getD_set_true (hall e he hb)
  · rw [getD_set_ne false hij] at hl
    exact getD_set_true (hc j oj hj hl e he hb)
theorem Closed.none (n : Nat) : Closed md ops (Array.replicate n false) := fun j _ _ hl => by
  rw [getD_replicate_false] at hl
  cases hl

/-- Whatever order is picked from here on, from every world that is the world w0 with new memory. What is left in the end (m operations) waits for all n that stand ahead. -/
def wpAnyU (P : Program) (md : Region.Mode) (ops : Array Oper) (C0 : World → Prop) (Q : Exit → Act → World → Prop) (n m : Nat) : Nat → World → Array Bool → Act → Prop
  | 0, w0, listed, a => (∀ j ∈ Region.ready md ops listed, ∀ i, i < n → waitsT md ops ops.size j i = true) ∧ ∀ w, Below w0.heap.size w0 w → wpAny P md ops Q m listed a w
  | fuel + 1, w0, listed, a =>
    Region.ready md ops listed ≠ [] ∧
    ∀ i ∈ Region.ready md ops listed, ∀ w, Below w0.heap.size w0 w → wpOp P ops Q i (fun a' w' => C0 w' ∧ wpAnyU P md ops C0 Q n m fuel w' (listed.setIfInBounds i true) a') a w

theorem wpAnyU_mono {n m fuel : Nat} {w0 w1 : World} {listed : Array Bool} {a : Act} (hb : Below w0.heap.size w0 w1) (h : wpAnyU P md ops C0 Q n m fuel w0 listed a) : wpAnyU P md ops C0 Q n m fuel w1 listed a := by
  cases fuel with
  | zero => exact ⟨h.1, fun w hw => h.2 w (hb.trans (hw.mono hb.size))⟩
  | succ fuel => exact ⟨h.1, fun i hi w hw => h.2 i hi w (hb.trans (hw.mono hb.size))⟩

theorem wpAny_of_U {n m : Nat} : ∀ (fuel : Nat) (listed : Array Bool) (a : Act) (w : World), wpAnyU P md ops C0 Q n m fuel w listed a → wpAny P md ops Q (m + fuel) listed a w
  | 0, _, _, w, h => h.2 w (Below.refl _ _)
  | fuel + 1, _, _, w, h => ⟨fun h0 => absurd h0 h.1, fun i hi => wpOp_mono (fun a' w' h' => wpAny_of_U fuel _ a' w' h'.2) (h.2 i hi w (Below.refl _ _))⟩

theorem getD_ready {i : Nat} {listed : Array Bool} (hi : i ∈ Region.ready md ops listed) : listed.getD i false = false := getD_both (mem_ready.1 hi).1

theorem wpAnyU_first {n m i F : Nat} {oi : Oper} {V : Value → Prop} (hcl : ∀ w w', C0 w → Below w.heap.size w w' → C0 w') (hin : i < n) (hi : ops[i]? = some oi) (hsel : ∀ (j : Nat) (o : Oper) cs b, ops[j]? = some o → o.op ≠ .select cs b)
    (hQ : ∀ c a d v w, Q (.panic c) (a.put d v) w → Q (.panic c) a w) :
    ∀ (fuel : Nat) (w0 : World) (listed : Array Bool) (a : Act), C0 w0 → Closed md ops listed →
      (∀ j oj, ops[j]? = some oj → j ≠ i → listed.getD j true = false → (∀ e ∈ oj.after, Region.binds md e = true → e.on ≠ i) → oi.apart ops oj = true) →
      ((∃ v, ∀ u, V u → u = v) ∨ ∀ j oj, ops[j]? = some oj → j ≠ i → listed.getD j true = false → plainB oj.op = true ∨ waitsT md ops F j i = true) →
      i ∈ Region.ready md ops listed → YieldsB P ops C0 oi V a →
      (∀ v, V v → wpAnyU P md ops C0 Q n m fuel w0 (listed.setIfInBounds i true) (a.put oi.dst v)) → wpAnyU P md ops C0 Q n m (fuel + 1) w0 listed a := by
  intro fuel
  induction fuel with
  | zero =>
    intro w0 listed a hC hcs _ _ hr hy H
    refine ⟨fun h => (by rw [h] at hr; cases hr), fun j hj w hw => ?_⟩
    by_cases hji : j = i
    · subst hji; exact hy.wpOp hi (hcl w0 w hC hw) fun v w' hv hw' => ⟨hcl w w' (hcl w0 w hC hw) hw', wpAnyU_mono (hw.trans (hw'.mono hw.size)) (H v hv)⟩
    · obtain ⟨v, hv⟩ := hy.any hC
      have h1 := (H v hv).1 j (ready_mono hj hji) i hin
      obtain ⟨_, oj, hoj, hall⟩ := mem_ready.1 hj
      have h6 := hcs.waits _ j i oj hoj hall h1
      rw [getD_ready hr] at h6
      cases h6
  | succ fuel ih =>
    intro w0 listed a hC hcs hfree hpl hr hy H
    refine ⟨fun h => (by rw [h] at hr; cases hr), fun j hj w hw => ?_⟩
    by_cases hji : j = i
    · subst hji; exact hy.wpOp hi (hcl w0 w hC hw) fun v w' hv hw' => ⟨hcl w w' (hcl w0 w hC hw) hw', wpAnyU_mono (hw.trans (hw'.mono hw.size)) (H v hv)⟩
    · obtain ⟨hjun, oj, hoj, hall⟩ := mem_ready.1 hj
      have hnot : ∀ e ∈ oj.after, Region.binds md e = true → e.on ≠ i := fun e he hb heq => by
        have h1 := hall e he hb
        rw [heq, getD_ready hr] at h1
        cases h1
      have hpj : plainB oj.op = true ∨ ∃ v, ∀ u, V u → u = v := by
        rcases hpl with hpl | hpl
        · exact .inr hpl
        · rcases hpl j oj hoj hji hjun with h5 | h5
          · exact .inl h5
          · have h6 := hcs.waits F j i oj hoj hall h5
            rw [getD_ready hr] at h6
            cases h6
      have h2 := wpOp_putB hoj (hfree j oj hoj hji hjun hnot) (fun cs b => hsel i oi cs b hi) (fun cs b => hsel j oj cs b hoj) (hy.any hC) hpj hQ hy
        (fun v hv => (H v hv).2 j (ready_mono hj hji) w hw)
      have hun' : ∀ k, (listed.setIfInBounds j true).getD k true = false → listed.getD k true = false := fun k hun => by
        by_cases hjk : j = k
        · subst hjk; exact hjun
        · rw [getD_set_ne true hjk] at hun; exact hun
      refine wpOp_mono (fun a' w' h3 => ?_) h2
      obtain ⟨hy', h4⟩ := h3
      obtain ⟨v0, hv0⟩ := hy.any hC
      have hC' := (h4 v0 hv0).1
      refine ⟨hC', ih w' (listed.setIfInBounds j true) a' hC' (hcs.set hj) (fun k ok hk hki hun hno => hfree k ok hk hki (hun' k hun) hno) (hpl.imp id fun hpl k ok hk hki hun => hpl k ok hk hki (hun' k hun)) (ready_mono hr (Ne.symm hji)) hy' fun v hv => ?_⟩
      rw [Array.setIfInBounds_comm _ _ hji]
      exact (h4 v hv).2

/-! ### The walk's head, and what is left -/
/-- The marks behind the first n operations from k on. -/
def marks : Nat → Nat → Array Bool → Array Bool
  | 0, _, listed => listed
  | n + 1, k, listed => marks n (k + 1) (listed.setIfInBounds k true)
/-- Has everything that has not come up yet to wait for number k, or is it plain? -/
def setFree (md : Region.Mode) (ops : Array Oper) (listed : Array Bool) (k : Nat) : Bool :=
  match ops[k]? with
  | none => true
  | some ok => plainB ok.op || (List.range ops.size).all fun j => j == k || listed.getD j true || waitsT md ops ops.size j k || match ops[j]? with
    | some oj => plainB oj.op
    | none => true
theorem setFree_spec {listed : Array Bool} {k : Nat} {ok : Oper} (hk : ops[k]? = some ok) (hp : plainB ok.op = false) (h : setFree md ops listed k = true) (j : Nat) (oj : Oper) (hj : ops[j]? = some oj) (hne : j ≠ k)
    (hun : listed.getD j true = false) : plainB oj.op = true ∨ waitsT md ops ops.size j k = true := by
  unfold setFree at h
  simp only [hk, hp, Bool.false_or, List.all_eq_true, List.mem_range] at h
  have h1 := h j (Array.getElem?_eq_some_iff.1 hj).1
  simp only [hj, Bool.or_eq_true, beq_iff_eq, hne, false_or, hun, Bool.false_eq_true] at h1
  exact h1.symm
/-- May each of n operations be taken first, in the text's order? -/
def headB (md : Region.Mode) (ops : Array Oper) : Nat → Nat → Array Bool → Bool
  | 0, _, _ => true
  | fuel + 1, k, listed => (Region.ready md ops listed).contains k && Region.free md ops listed k && setFree md ops listed k && headB md ops fuel (k + 1) (listed.setIfInBounds k true)
/-- Is the order forced from here on? -/
def forcedB (md : Region.Mode) (ops : Array Oper) : Nat → Nat → Array Bool → Bool
  | 0, _, listed => (Region.ready md ops listed).isEmpty
  | fuel + 1, k, listed => decide (Region.ready md ops listed = [k]) && forcedB md ops fuel (k + 1) (listed.setIfInBounds k true)
/-- Does what may come up wait for all n that stand ahead? -/
def sinksB (md : Region.Mode) (ops : Array Oper) (n : Nat) (listed : Array Bool) : Bool :=
  (Region.ready md ops listed).all fun j => (List.range n).all fun i => waitsT md ops ops.size j i

theorem wpAnyU_head {n m : Nat} (hcl : ∀ w w', C0 w → Below w.heap.size w w' → C0 w') (hs : Region.noSelect ops = true) (hQ : ∀ c a d v w, Q (.panic c) (a.put d v) w → Q (.panic c) a w) (fuel : Nat) (w0 : World) (hC : C0 w0) :
    ∀ (l : List Oper) (k : Nat) (listed : Array Bool) (a : Act), Closed md ops listed → k + l.length ≤ n → (∀ j, j < l.length → l[j]? = ops[k + j]?) → headB md ops l.length k listed = true →
    wpB P ops C0 (fun a' => wpAnyU P md ops C0 Q n m fuel w0 (marks l.length k listed) a') l a → wpAnyU P md ops C0 Q n m (fuel + l.length) w0 listed a
  | [], _, _, _, _, _, _, _, h => h
  | o :: l, k, listed, a, hcs, hn, hl, hB, h => by
    have h0 : ops[k]? = some o := by simpa using (hl 0 (by simp)).symm
    simp only [List.length_cons] at hn
    simp only [List.length_cons, headB, Bool.and_eq_true] at hB
    obtain ⟨⟨⟨hr, hf⟩, hsf⟩, hB'⟩ := hB
    have hr' : k ∈ Region.ready md ops listed := by simpa using hr
    have hy : ∃ V, YieldsB P ops C0 o V a ∧ ((∃ v, ∀ u, V u → u = v) ∨ plainB o.op = false) ∧ ∀ v, V v → wpB P ops C0 (fun a' => wpAnyU P md ops C0 Q n m fuel w0 (marks (l.length + 1) k listed) a') l (a.put o.dst v) := by
      by_cases hw : Region.wanted o (yielded ops a.tmps) = true
      · simp only [wpB, hw, if_true, List.length_cons] at h
        rcases h with ⟨v, h1, h2⟩ | ⟨hp, V, h1, h2⟩
        · exact ⟨(· = v), .inl ⟨hw, h1⟩, .inl ⟨v, fun _ hu => hu⟩, fun u hu => by rw [hu]; exact h2⟩
        · exact ⟨V, .inl ⟨hw, h1⟩, .inr (plain_of hp), h2⟩
      · simp only [wpB, hw, List.length_cons] at h
        exact ⟨(· = undef), .inr ⟨by simpa using hw, rfl⟩, .inl ⟨undef, fun _ hu => hu⟩, fun u hu => by rw [hu]; simpa using h⟩
    obtain ⟨V, hy, hV, hK⟩ := hy
    rw [List.length_cons, ← Nat.add_assoc]
    exact wpAnyU_first hcl (by omega) h0 (Region.noSelect_spec hs) hQ (fuel + l.length) w0 listed a hC hcs (Region.free_spec h0 hf) (hV.imp id fun hp => setFree_spec h0 hp hsf) hr' hy fun v hv =>
      wpAnyU_head hcl hs hQ fuel w0 hC l (k + 1) _ _ (hcs.set hr') (by omega) (fun j hj => by have := hl (j + 1) (by simpa using hj); simpa [Nat.add_assoc, Nat.add_comm 1 j] using this) hB' (hK v hv)

theorem wpAny_forced : ∀ (l : List Oper) (k : Nat) (listed : Array Bool) (a : Act) (w : World), (∀ j, j < l.length → l[j]? = ops[k + j]?) → forcedB md ops l.length k listed = true →
    wpList P ops Q l a w → wpAny P md ops Q l.length listed a w
  | [], _, _, _, _, _, hB, h => ⟨by simpa [forcedB] using hB, h⟩
  | o :: l, k, listed, a, w, hl, hB, h => by
    have h0 : ops[k]? = some o := by simpa using (hl 0 (by simp)).symm
    simp only [List.length_cons, forcedB, Bool.and_eq_true, decide_eq_true_eq] at hB
    obtain ⟨hr, hB'⟩ := hB
    refine ⟨fun e => (by rw [hr] at e; cases e), fun i hi => ?_⟩
    rw [hr, List.mem_singleton] at hi
    subst hi
    have hl' : ∀ j, j < l.length → l[j]? = ops[i + 1 + j]? := fun j hj => by have := hl (j + 1) (by simpa using hj); simpa [Nat.add_assoc, Nat.add_comm 1 j] using this
    unfold wpOp
    simp only [h0]
    unfold wpList at h
    split
    · rename_i hw
      simp only [hw, if_true] at h
      exact h.imp (Oper.wp_mono fun a' w' h' => wpAny_forced l (i + 1) _ a' w' hl' hB' h') id
    · rename_i hw
      simp only [hw] at h
      exact wpAny_forced l (i + 1) _ _ _ hl' hB' (by simpa using h)

/-- The check of a region: n operations that may be taken first, k new variables in whatever order, the rest forced behind all of them. -/
def tailB (ops : Array Oper) (n : Nat) (k : Nat) (m : Nat) : Bool :=
  Region.noSelect ops && headB .any ops n 0 (Array.replicate ops.size false) && decide (ops.size = m + k + n) &&
    sinksB .any ops (k + n) (marks k n (marks n 0 (Array.replicate ops.size false))) && forcedB .any ops m (k + n) (marks k n (marks n 0 (Array.replicate ops.size false)))

/-- **No new variable**: the operations L may be taken first; then T, in its order. -/
theorem wp_region_B {id : Nat} {a : Act} {w : World} {L T : List Oper} (C0 : World → Prop) (hm : P.follows .mixedOrders = true) (hB : tailB (L ++ T).toArray L.length 0 T.length = true)
    (hcl : ∀ w w', C0 w → Below w.heap.size w w' → C0 w') (hC : C0 w.drew) (hQ : ∀ c a d v w, Q (.panic c) (a.put d v) w → Q (.panic c) a w)
    (h : wpB P (L ++ T).toArray C0 (fun a' => ∀ w', C0 w' → wpList P (L ++ T).toArray Q T a' w') L a) : (Code.region id (L ++ T).toArray true).wp P Q a w := by
  simp only [tailB, Bool.and_eq_true, decide_eq_true_eq, Nat.zero_add, Nat.add_zero, marks] at hB
  obtain ⟨⟨⟨⟨hs, hh⟩, hz⟩, hsk⟩, hf⟩ := hB
  refine wp_region_any hm ?_
  have hG : wpAnyU P .any (L ++ T).toArray C0 Q L.length T.length (0 + L.length) w.drew (Array.replicate (L ++ T).toArray.size false) a := by
    refine wpAnyU_head hcl hs hQ 0 w.drew hC L 0 _ a (Closed.none _) (by omega) (fun j hj => by simp [List.getElem?_append_left hj]) hh ?_
    refine wpB_mono (fun a' h' => ⟨fun j hj i hi => ?_, fun w' hw' => ?_⟩) L a h
    · have h1 := List.all_eq_true.1 hsk j hj
      exact List.all_eq_true.1 h1 i (List.mem_range.2 hi)
    · exact wpAny_forced T L.length _ a' w' (fun j _ => by simp [List.getElem?_append_right]) hf (h' w' (hcl _ _ hC hw'))
  have h2 := wpAny_of_U (0 + L.length) _ a w.drew hG
  rw [Nat.zero_add, ← hz] at h2
  exact h2

/-- A new variable comes. -/
theorem wpAnyU_new {n m ia base fuel ty : Nat} {zs : Array Value} {w0 : World} {listed : Array Bool} {a : Act} {oa : Oper} (ho : ops[ia]? = some oa) (hg : oa.guard = none)
    (hrun : ∀ (a : Act) w, (execOp a.eval oa).run P w = .ok (.value (.pointer (some ⟨w.heap.size, 0, none⟩))) (w.alloc (.cells zs ty)))
    (hcl : ∀ w w', C0 w → Below w.heap.size w w' → C0 w') (hb : ∀ w, C0 w → base ≤ w.heap.size) (hC : C0 w0)
    (h : ∀ w, Below w0.heap.size w0 w → C0 w → base ≤ w.heap.size → wpAnyU P md ops C0 Q n m fuel (w.alloc (.cells zs ty)) (listed.setIfInBounds ia true) (a.put oa.dst (.pointer (some ⟨w.heap.size, 0, none⟩)))) :
    ∀ w, Below w0.heap.size w0 w → wpOp P ops Q ia (fun a' w' => C0 w' ∧ wpAnyU P md ops C0 Q n m fuel w' (listed.setIfInBounds ia true) a') a w := by
  intro w hw
  unfold wpOp
  simp only [ho]
  rw [if_pos (by simp [Region.wanted, hg])]
  refine .inl ?_
  unfold Oper.wp
  rw [hrun]
  have hC1 := hcl w0 w hC hw
  exact ⟨hcl w _ hC1 ((Below.refl w.heap.size w).alloc (Nat.le_refl _) (.cells zs ty)), h w hw hC1 (hb w hC1)⟩

theorem Blk.later {w w' : World} {g t : Nat} {cs : Array Value} (h : Blk w g t cs) (hb : Below w.heap.size w w') : Blk w' g t cs := h.below hb h.lt

/-- **One new variable**: L may be taken first, the variable comes when it comes; then T, in its order. -/
theorem wp_region_new {id : Nat} {a : Act} {w : World} {L T : List Oper} {oa : Oper} (C0 : World → Prop) (base ty : Nat) (zs : Array Value) (hm : P.follows .mixedOrders = true)
    (hB : tailB (L ++ oa :: T).toArray L.length 1 T.length = true) (hr : Region.ready .any (L ++ oa :: T).toArray (marks L.length 0 (Array.replicate (L ++ oa :: T).toArray.size false)) = [L.length])
    (hcl : ∀ w w', C0 w → Below w.heap.size w w' → C0 w') (hb : ∀ w, C0 w → base ≤ w.heap.size) (hC : C0 w.drew) (hQ : ∀ c a d v w, Q (.panic c) (a.put d v) w → Q (.panic c) a w)
    (hg : oa.guard = none) (hrun : ∀ (a : Act) w, (execOp a.eval oa).run P w = .ok (.value (.pointer (some ⟨w.heap.size, 0, none⟩))) (w.alloc (.cells zs ty)))
    (h : wpB P (L ++ oa :: T).toArray C0 (fun a' => ∀ p w', C0 w' → base ≤ p → Blk w' p ty zs → wpList P (L ++ oa :: T).toArray Q T (a'.put oa.dst (.pointer (some ⟨p, 0, none⟩))) w') L a) :
    (Code.region id (L ++ oa :: T).toArray true).wp P Q a w := by
  simp only [tailB, Bool.and_eq_true, decide_eq_true_eq] at hB
  obtain ⟨⟨⟨⟨hs, hh⟩, hz⟩, hsk⟩, hf⟩ := hB
  refine wp_region_any hm ?_
  have hG : wpAnyU P .any (L ++ oa :: T).toArray C0 Q (1 + L.length) T.length (1 + L.length) w.drew (Array.replicate (L ++ oa :: T).toArray.size false) a := by
    refine wpAnyU_head hcl hs hQ 1 w.drew hC L 0 _ a (Closed.none _) (by omega) (fun j hj => by simp [List.getElem?_append_left hj]) hh ?_
    refine wpB_mono (fun a' h' => ⟨by rw [hr]; exact List.cons_ne_nil _ _, fun i hi => ?_⟩) L a h
    rw [hr, List.mem_singleton] at hi
    subst hi
    refine wpAnyU_new (base := base) (by simp) hg hrun hcl hb hC fun w1 hw1 hC1 hp => ⟨fun j hj i hi => ?_, fun w' hw' => ?_⟩
    · have h1 := List.all_eq_true.1 hsk j hj
      exact List.all_eq_true.1 h1 i (List.mem_range.2 hi)
    · have hal := (Below.refl w1.heap.size w1).alloc (Nat.le_refl _) (.cells zs ty)
      exact wpAny_forced T (1 + L.length) _ _ w' (fun j _ => by simp [List.getElem?_append_right, Nat.add_comm 1, Nat.add_assoc]) hf (h' _ w' (hcl _ _ (hcl _ _ hC1 hal) hw') hp ((Blk.new w1 _ _).later hw'))
  have h2 := wpAny_of_U (1 + L.length) _ a w.drew hG
  rw [← Nat.add_assoc, ← hz] at h2
  exact h2

/-- **Two new variables.** -/
theorem wp_region_new2 {id : Nat} {a : Act} {w : World} {L T : List Oper} {oa ob : Oper} (C0 : World → Prop) (base ty ty2 : Nat) (zs zs2 : Array Value) (hm : P.follows .mixedOrders = true)
    (hB : tailB (L ++ oa :: ob :: T).toArray L.length 2 T.length = true)
    (hr : Region.ready .any (L ++ oa :: ob :: T).toArray (marks L.length 0 (Array.replicate (L ++ oa :: ob :: T).toArray.size false)) = [L.length, L.length + 1])
    (hr1 : Region.ready .any (L ++ oa :: ob :: T).toArray ((marks L.length 0 (Array.replicate (L ++ oa :: ob :: T).toArray.size false)).setIfInBounds L.length true) = [L.length + 1])
    (hr2 : Region.ready .any (L ++ oa :: ob :: T).toArray ((marks L.length 0 (Array.replicate (L ++ oa :: ob :: T).toArray.size false)).setIfInBounds (L.length + 1) true) = [L.length])
    (hcl : ∀ w w', C0 w → Below w.heap.size w w' → C0 w') (hb : ∀ w, C0 w → base ≤ w.heap.size) (hC : C0 w.drew) (hQ : ∀ c a d v w, Q (.panic c) (a.put d v) w → Q (.panic c) a w)
    (hg : oa.guard = none) (hrun : ∀ (a : Act) w, (execOp a.eval oa).run P w = .ok (.value (.pointer (some ⟨w.heap.size, 0, none⟩))) (w.alloc (.cells zs ty)))
    (hg2 : ob.guard = none) (hrun2 : ∀ (a : Act) w, (execOp a.eval ob).run P w = .ok (.value (.pointer (some ⟨w.heap.size, 0, none⟩))) (w.alloc (.cells zs2 ty2)))
    (hd : ∀ d, oa.dst = some d → ob.dst ≠ some d)
    (h : wpB P (L ++ oa :: ob :: T).toArray C0 (fun a' => ∀ p q w', C0 w' → base ≤ p → base ≤ q → p ≠ q → Blk w' p ty zs → Blk w' q ty2 zs2 →
      wpList P (L ++ oa :: ob :: T).toArray Q T ((a'.put oa.dst (.pointer (some ⟨p, 0, none⟩))).put ob.dst (.pointer (some ⟨q, 0, none⟩))) w') L a) :
    (Code.region id (L ++ oa :: ob :: T).toArray true).wp P Q a w := by
  simp only [tailB, Bool.and_eq_true, decide_eq_true_eq] at hB
  obtain ⟨⟨⟨⟨hs, hh⟩, hz⟩, hsk⟩, hf⟩ := hB
  refine wp_region_any hm ?_
  have hoa : (L ++ oa :: ob :: T).toArray[L.length]? = some oa := by simp
  have hob : (L ++ oa :: ob :: T).toArray[L.length + 1]? = some ob := by simp
  have hT : ∀ j, j < T.length → T[j]? = (L ++ oa :: ob :: T).toArray[2 + L.length + j]? := fun j _ => by
    have e : 2 + L.length + j = L.length + (j + 2) := by omega
    rw [e]
    simp [List.getElem?_append_right]
  have hal := fun (w : World) t (zs : Array Value) => (Below.refl w.heap.size w).alloc (Nat.le_refl _) (.cells zs t)
  have hG : wpAnyU P .any (L ++ oa :: ob :: T).toArray C0 Q (2 + L.length) T.length (2 + L.length) w.drew (Array.replicate (L ++ oa :: ob :: T).toArray.size false) a := by
    refine wpAnyU_head hcl hs hQ 2 w.drew hC L 0 _ a (Closed.none _) (by omega) (fun j hj => by simp [List.getElem?_append_left hj]) hh ?_
    refine wpB_mono (fun a' h' => ⟨by rw [hr]; exact List.cons_ne_nil _ _, fun i hi => ?_⟩) L a h
    have hfin : ∀ p q w0 a2, C0 w0 → base ≤ p → base ≤ q → p ≠ q → Blk w0 p ty zs → Blk w0 q ty2 zs2 → a2 = (a'.put oa.dst (.pointer (some ⟨p, 0, none⟩))).put ob.dst (.pointer (some ⟨q, 0, none⟩)) →
        wpAnyU P .any (L ++ oa :: ob :: T).toArray C0 Q (2 + L.length) T.length 0 w0 (((marks L.length 0 (Array.replicate (L ++ oa :: ob :: T).toArray.size false)).setIfInBounds L.length true).setIfInBounds (L.length + 1) true) a2 := by
      rintro p q w0 a2 hC0 hp hq hpq h1 h2 rfl
      refine ⟨fun j hj i hi => ?_, fun w' hw' => ?_⟩
      · have h1 := List.all_eq_true.1 hsk j hj
        exact List.all_eq_true.1 h1 i (List.mem_range.2 hi)
      · exact wpAny_forced T (2 + L.length) _ _ w' hT hf (h' p q w' (hcl _ _ hC0 hw') hp hq hpq (h1.later hw') (h2.later hw'))
    rw [hr] at hi
    rcases List.mem_cons.1 hi with rfl | hi
    · refine wpAnyU_new (base := base) hoa hg hrun hcl hb hC fun w1 hw1 hC1 hp => ⟨by rw [hr1]; exact List.cons_ne_nil _ _, fun i hi => ?_⟩
      rw [hr1, List.mem_singleton] at hi
      subst hi
      have hb1 : Blk (w1.alloc (.cells zs ty)) w1.heap.size ty zs := Blk.new w1 _ _
      refine wpAnyU_new (base := base) hob hg2 hrun2 hcl hb (hcl _ _ hC1 (hal _ _ _)) fun w2 hw2 hC2 hq => ?_
      have hb2 := hb1.later hw2
      exact hfin w1.heap.size w2.heap.size _ _ (hcl _ _ hC2 (hal _ _ _)) hp hq (Nat.ne_of_lt hb2.lt) (hb2.later (hal _ _ _)) (Blk.new w2 _ _) rfl
    · rw [List.mem_singleton] at hi
      subst hi
      refine wpAnyU_new (base := base) hob hg2 hrun2 hcl hb hC fun w1 hw1 hC1 hq => ⟨by rw [hr2]; exact List.cons_ne_nil _ _, fun i hi => ?_⟩
      rw [hr2, List.mem_singleton] at hi
      subst hi
      have hb1 : Blk (w1.alloc (.cells zs2 ty2)) w1.heap.size ty2 zs2 := Blk.new w1 _ _
      refine wpAnyU_new (base := base) hoa hg hrun hcl hb (hcl _ _ hC1 (hal _ _ _)) fun w2 hw2 hC2 hp => ?_
      have hb2 := hb1.later hw2
      rw [Array.setIfInBounds_comm _ _ (by omega)]
      exact hfin w2.heap.size w1.heap.size _ _ (hcl _ _ hC2 (hal _ _ _)) hp hq (Nat.ne_of_gt hb2.lt) (Blk.new w2 _ _) (hb2.later (hal _ _ _)) (Act.put_comm a' _ _ hd).symm
  have h2 := wpAny_of_U (2 + L.length) _ a w.drew hG
  rw [← Nat.add_assoc, ← hz] at h2
  exact h2
end

/-! ### The steps of a walk -/
section
variable {P : Program} {ops : Array Oper} {C0 : World → Prop} {Q : Act → Prop} {a : Act} {o : Oper} {rest : List Oper}
theorem wpB_step (h : ∀ K : Act → Prop, (∀ a, wpB P ops C0 Q rest a → K a) → if Region.wanted o (yielded ops a.tmps) then ∃ v, (∀ w, C0 w → uponB P w (· = v) ((execOp a.eval o).run P w)) ∧ K (a.put o.dst v) else K (a.put o.dst undef)) : wpB P ops C0 Q (o :: rest) a := by
  have h1 := h _ (fun _ h => h)
  unfold wpB
  split
  · rename_i hw
    rw [if_pos hw] at h1
    exact .inl h1
  · rename_i hw
    rw [if_neg hw] at h1
    exact h1
theorem b_go (hg : o.guard = none) {v : Value} (h : ∀ w, C0 w → atB P o a w (· = v)) (hk : wpB P ops C0 Q rest (a.put o.dst v)) : wpB P ops C0 Q (o :: rest) a :=
  wpB_step fun K hK => by
    rw [if_pos (by simp [Region.wanted, hg])]
    exact ⟨v, h, hK _ hk⟩
theorem b_want (hg : Region.wanted o (yielded ops a.tmps) = true) {v : Value} (h : ∀ w, C0 w → atB P o a w (· = v)) (hk : wpB P ops C0 Q rest (a.put o.dst v)) : wpB P ops C0 Q (o :: rest) a :=
  wpB_step fun K hK => by
    rw [if_pos hg]
    exact ⟨v, h, hK _ hk⟩
theorem b_skip (hg : Region.wanted o (yielded ops a.tmps) = false) (hk : wpB P ops C0 Q rest (a.put o.dst undef)) : wpB P ops C0 Q (o :: rest) a :=
  wpB_step fun K hK => by
    rw [if_neg (by rw [hg]; exact Bool.false_ne_true)]
    exact hK _ hk
theorem b_val {v : Value} (hg : Region.wanted o (yielded ops a.tmps) = true) (h : ∀ w, C0 w → (execOp a.eval o).run P w = .ok (.value v) w) (hk : wpB P ops C0 Q rest (a.put o.dst v)) : wpB P ops C0 Q (o :: rest) a :=
  b_want hg (fun w hw => by
    unfold atB
    rw [h w hw]
    exact ⟨rfl, rfl⟩) hk
/-- Two rows, by '=='. -/
theorem b_eq {t t' : TypeId} {x y : Operand} {q : Bool} (xs ys : Array Value) (hg : Region.wanted o (yielded ops a.tmps) = true) (ho : o.op = .binOp .eql t x y t') (hx : a.eval x = .agg xs) (hy : a.eval y = .agg ys)
    (hd : P.eqGuardType P.depth t = false) (he : ∀ w, (Op.equalIn 10000 t (.agg xs) (.agg ys)).run P w = .ok q w) (hk : wpB P ops C0 Q rest (a.put o.dst (.bool q))) : wpB P ops C0 Q (o :: rest) a :=
  b_val hg (fun w _ => by
    unfold execOp
    simp only [ho, hx, hy, Sem.run_bind, run_eqGuard_agg (hm := hd), Result.andThen_ok, binOp, Op.equal, Op.maxDepth, he, Sem.run_pure]) hk
/-- A call, whatever it hands back of a set. -/
theorem b_call {f : FuncId} {args : Array Value} (V : Value → Prop) (hg : Region.wanted o (yielded ops a.tmps) = true) (hp : multiB o.op = true)
    (hc : ∀ w, C0 w → Calls P f args w (fun e w' => ∃ v, e = .returned v ∧ V v ∧ Below w.heap.size w w')) (he : ∀ w, (execOp a.eval o).run P w = .ok (.enter f args) w) (hk : ∀ v, V v → wpB P ops C0 Q rest (a.put o.dst v)) : wpB P ops C0 Q (o :: rest) a := by
  unfold wpB
  rw [if_pos hg]
  refine .inr ⟨hp, V, fun w hw => ?_, hk⟩
  unfold atB
  rw [he]
  exact ⟨rfl, hc w hw⟩
/-- A call that hands back one value. -/
theorem b_call1 {f : FuncId} {args : Array Value} {v : Value} (hg : Region.wanted o (yielded ops a.tmps) = true)
    (hc : ∀ w, C0 w → Calls P f args w (fun e w' => e = .returned v ∧ Below w.heap.size w w')) (he : ∀ w, (execOp a.eval o).run P w = .ok (.enter f args) w) (hk : wpB P ops C0 Q rest (a.put o.dst v)) : wpB P ops C0 Q (o :: rest) a :=
  b_want hg (fun w hw => by
    unfold atB
    rw [he]
    exact ⟨rfl, (hc w hw).mono fun e w' ⟨h1, h2⟩ => ⟨v, h1, rfl, h2⟩⟩) hk
/-- A row (or a struct) is read, from the middle of a block as well. -/
theorem b_mid (hg : Region.wanted o (yielded ops a.tmps) = true) (ty : TypeId) (x : Operand) (ho : o.op = .load ty x) (b off : Nat) (hx : a.eval x = .pointer (some ⟨b, off, none⟩)) (cs : List Value) (d : TypeDesc)
    (hc : ∀ w, C0 w → w.rangeAt b off cs) (hu : P.underlying ty = some d) (hd : d.isRow = true) (hi : (P.info? ty).map (·.size) = some cs.length)
    (hk : wpB P ops C0 Q rest (a.put o.dst (.agg cs.toArray))) : wpB P ops C0 Q (o :: rest) a :=
  b_want hg (fun w hw => by
    unfold atB execOp
    simp only [ho, hx, Instr.loadAt, Instr.sureAddr, Sem.run_bind, Sem.run_pure, Result.andThen_ok, run_loadVar_mid w b off ty cs d (hc w hw) hu hd hi]
    exact ⟨rfl, rfl⟩) hk
end

/-- A whole block as a range. -/
theorem Blk.range {w : World} {g t : Nat} {l : List Value} (h : Blk w g t l.toArray) : w.rangeAt g 0 l := fun j v hv => by
  rw [Nat.zero_add, h.cell j]
  simpa using hv
/-- A part of a block as a range. -/
theorem Blk.part {w : World} {g t : Nat} {l : List Value} (h : Blk w g t l.toArray) (o n : Nat) : w.rangeAt g o ((l.drop o).take n) := fun j v hv => by
  rw [h.cell (o + j)]
  rw [List.getElem?_take] at hv
  split at hv
  · rw [List.getElem?_drop] at hv
    simpa using hv
  · cases hv

/-! ### The same over a list that is written out -/
section
variable {P : Program} {Q : Exit → Act → World → Prop} {id : Nat} {a : Act} {w : World} {l : List Oper}
theorem cut_at {oa : Oper} {n : Nat} (h : l[n]? = some oa) : l = l.take n ++ oa :: l.drop (n + 1) ∧ (l.take n).length = n := by
  obtain ⟨hn, rfl⟩ := List.getElem?_eq_some_iff.1 h
  refine ⟨?_, by rw [List.length_take]; omega⟩
  rw [← List.drop_eq_getElem_cons hn, List.take_append_drop]

theorem region_B (n : Nat) (C0 : World → Prop) (hn : n ≤ l.length) (hm : P.follows .mixedOrders = true) (hB : tailB l.toArray n 0 (l.drop n).length = true)
    (hcl : ∀ w w', C0 w → Below w.heap.size w w' → C0 w') (hC : C0 w.drew) (hQ : ∀ c a d v w, Q (.panic c) (a.put d v) w → Q (.panic c) a w)
    (h : wpB P l.toArray C0 (fun a' => ∀ w', C0 w' → wpList P l.toArray Q (l.drop n) a' w') (l.take n) a) : (Code.region id l.toArray true).wp P Q a w := by
  have e : l = l.take n ++ l.drop n := (List.take_append_drop n l).symm
  have hL : (l.take n).length = n := by rw [List.length_take]; omega
  generalize l.take n = L at *
  generalize l.drop n = T at *
  subst e
  exact wp_region_B C0 hm (by rw [hL]; exact hB) hcl hC hQ h

theorem region_new {oa : Oper} (n : Nat) (C0 : World → Prop) (base ty : Nat) (zs : Array Value) (hoa : l[n]? = some oa) (hm : P.follows .mixedOrders = true)
    (hB : tailB l.toArray n 1 (l.drop (n + 1)).length = true) (hr : Region.ready .any l.toArray (marks n 0 (Array.replicate l.toArray.size false)) = [n])
    (hcl : ∀ w w', C0 w → Below w.heap.size w w' → C0 w') (hb : ∀ w, C0 w → base ≤ w.heap.size) (hC : C0 w.drew) (hQ : ∀ c a d v w, Q (.panic c) (a.put d v) w → Q (.panic c) a w)
    (hg : oa.guard = none) (hrun : ∀ (a : Act) w, (execOp a.eval oa).run P w = .ok (.value (.pointer (some ⟨w.heap.size, 0, none⟩))) (w.alloc (.cells zs ty)))
    (h : wpB P l.toArray C0 (fun a' => ∀ p w', C0 w' → base ≤ p → Blk w' p ty zs → wpList P l.toArray Q (l.drop (n + 1)) (a'.put oa.dst (.pointer (some ⟨p, 0, none⟩))) w') (l.take n) a) :
    (Code.region id l.toArray true).wp P Q a w := by
  obtain ⟨e, hL⟩ := cut_at hoa
  clear hoa
  generalize l.take n = L at *
  generalize l.drop (n + 1) = T at *
  subst e
  subst hL
  exact wp_region_new C0 base ty zs hm hB hr hcl hb hC hQ hg hrun h

theorem region_new2 {oa ob : Oper} (n : Nat) (C0 : World → Prop) (base ty ty2 : Nat) (zs zs2 : Array Value) (hoa : l[n]? = some oa) (hob : l[n + 1]? = some ob) (hm : P.follows .mixedOrders = true)
    (hB : tailB l.toArray n 2 (l.drop (n + 1 + 1)).length = true)
    (hr : Region.ready .any l.toArray (marks n 0 (Array.replicate l.toArray.size false)) = [n, n + 1])
    (hr1 : Region.ready .any l.toArray ((marks n 0 (Array.replicate l.toArray.size false)).setIfInBounds n true) = [n + 1])
    (hr2 : Region.ready .any l.toArray ((marks n 0 (Array.replicate l.toArray.size false)).setIfInBounds (n + 1) true) = [n])
    (hcl : ∀ w w', C0 w → Below w.heap.size w w' → C0 w') (hb : ∀ w, C0 w → base ≤ w.heap.size) (hC : C0 w.drew) (hQ : ∀ c a d v w, Q (.panic c) (a.put d v) w → Q (.panic c) a w)
    (hg : oa.guard = none) (hrun : ∀ (a : Act) w, (execOp a.eval oa).run P w = .ok (.value (.pointer (some ⟨w.heap.size, 0, none⟩))) (w.alloc (.cells zs ty)))
    (hg2 : ob.guard = none) (hrun2 : ∀ (a : Act) w, (execOp a.eval ob).run P w = .ok (.value (.pointer (some ⟨w.heap.size, 0, none⟩))) (w.alloc (.cells zs2 ty2)))
    (hd : ∀ d, oa.dst = some d → ob.dst ≠ some d)
    (h : wpB P l.toArray C0 (fun a' => ∀ p q w', C0 w' → base ≤ p → base ≤ q → p ≠ q → Blk w' p ty zs → Blk w' q ty2 zs2 →
      wpList P l.toArray Q (l.drop (n + 1 + 1)) ((a'.put oa.dst (.pointer (some ⟨p, 0, none⟩))).put ob.dst (.pointer (some ⟨q, 0, none⟩))) w') (l.take n) a) :
    (Code.region id l.toArray true).wp P Q a w := by
  obtain ⟨e, hL⟩ := cut_at hoa
  have e2 : l.drop (n + 1) = ob :: l.drop (n + 1 + 1) := by
    obtain ⟨hn, rfl⟩ := List.getElem?_eq_some_iff.1 hob
    exact List.drop_eq_getElem_cons hn
  rw [e2] at e
  clear hoa hob e2
  generalize l.take n = L at *
  generalize l.drop (n + 1 + 1) = T at *
  subst e
  subst hL
  exact wp_region_new2 C0 base ty ty2 zs zs2 hm hB hr hr1 hr2 hcl hb hC hQ hg hrun hg2 hrun2 hd h
end
end Go.Proofs.Ythkbejheedffjaa
/-
  REGIONS, WHOLE: 'x := f(..)', 'x = f(..)', 'return f(..)' over any world: the class is what is the world at hand with new memory.
-/
namespace Go.Proofs.Ythkbejheedffjaa
open Go.RowKit Go.IntWalk

section
variable {P : Program} {Q : Exit → Act → World → Prop} {id : Nat} {a : Act} {w : World} {l : List Oper}

/-- What is the world w with new memory. -/
def Up (w w' : World) : Prop := Below w.heap.size w w'
theorem Up.refl (w : World) : Up w w := Below.refl _ _
theorem Up.drew (w : World) : Up w w.drew := (Below.refl _ _).drew
theorem Up.step {w w1 w2 : World} (h : Up w w1) (k : Below w1.heap.size w1 w2) : Up w w2 := Below.trans h (k.mono h.size)
theorem Up.of {w w1 : World} (h : Up w w1) : Below w.heap.size w w1 := h
theorem Up.blk {w w1 : World} {g t : Nat} {cs : Array Value} (h : Up w w1) (k : Blk w g t cs) : Blk w1 g t cs := k.later h
theorem Up.alloc {w w1 : World} (h : Up w w1) (o : Obj) : Up w (w1.alloc o) := h.step ((Below.refl _ _).alloc (Nat.le_refl _) _)

theorem below_up {w W W' : World} (h : Below w.heap.size w W) (k : Up W W') : Below w.heap.size w W' := Below.trans h (Below.mono k h.size)
theorem wp_at {P : Program} {c : Code} {Q : Exit → Act → World → Prop} {a : Act} {w0 : World} (F : World → Prop) (h0 : F w0) (h : ∀ W, F W → c.wp P Q a W) : c.wp P Q a w0 := h w0 h0

/-- In the text's order the same walk serves. -/
theorem wpList_of_B {ops : Array Oper} {T : List Oper} : ∀ (L : List Oper) (a : Act) (w w0 : World), Up w0 w → wpB P ops (Up w0) (fun a' => ∀ w', Up w0 w' → wpList P ops Q T a' w') L a → wpList P ops Q (L ++ T) a w
  | [], a, w, w0, hw, h => h w hw
  | o :: L, a, w, w0, hw, h => by
    have key : ∀ V : Value → Prop, atB P o a w V → (∀ v w', V v → Below w.heap.size w w' → wpList P ops Q (L ++ T) (a.put o.dst v) w') → o.wp P a w (wpList P ops Q (L ++ T)) Q := fun V h3 hk => by
      unfold atB at h3
      unfold Oper.wp
      generalize (execOp a.eval o).run P w = r at *
      cases r with
      | ok n w' =>
        cases n <;> simp only [uponB] at h3 <;> simp only [Oper.upon]
        case value u =>
          obtain ⟨e1, e2⟩ := h3
          rw [e1]
          exact hk _ _ e2 (Below.refl _ _)
        case skip =>
          obtain ⟨e1, e2⟩ := h3
          rw [e1]
          exact hk _ _ e2 (Below.refl _ _)
        case enter f args =>
          obtain ⟨e1, hc⟩ := h3
          rw [e1]
          exact hc.mono fun e w'' ⟨v, he, hv, hw''⟩ => by subst he; exact hk _ _ hv hw''
      | halt x w' => simp only [uponB] at h3
    show wpList P ops Q (o :: (L ++ T)) a w
    unfold wpB at h
    unfold wpList
    split
    · rename_i hwt
      rw [if_pos hwt] at h
      refine .inl ?_
      rcases h with ⟨v, h1, h2⟩ | ⟨_, V, h1, h2⟩
      · exact key (· = v) (h1 w hw) fun u w' hu hw' => by rw [hu]; exact wpList_of_B L _ w' w0 (hw.step hw') h2
      · exact key V (h1 w hw) fun u w' hu hw' => wpList_of_B L _ w' w0 (hw.step hw') (h2 u hu)
    · rename_i hwt
      rw [if_neg hwt] at h
      exact wpList_of_B L _ w w0 hw h

/-- Nothing but reads and calls. -/
theorem reg_q (hm : P.follows .mixedOrders = true) (hB : tailB l.toArray l.length 0 0 = true) (hQ : ∀ c a d v w, Q (.panic c) (a.put d v) w → Q (.panic c) a w)
    (h : wpB P l.toArray (Up w) (fun a' => ∀ w', Up w w' → Q .normal a' w') l a) : (Code.region id l.toArray true).wp P Q a w :=
  region_B (l := l) l.length (Up w) (Nat.le_refl _) hm (by rw [List.drop_length]; exact hB) (fun _ _ h k => h.step k) (Up.drew w) hQ (by rw [List.drop_length, List.take_length]; exact h)
theorem reg_qF (h : wpB P l.toArray (Up w) (fun a' => ∀ w', Up w w' → Q .normal a' w') l a) : (Code.region id l.toArray false).wp P Q a w := by
  refine wp_region_lit ?_
  have h1 := wpList_of_B (Q := Q) (T := []) l a w w (Up.refl w) h
  rwa [List.append_nil] at h1

/-- Reads and calls, then the rest of the region in its order. -/
theorem reg_tailF (n : Nat) (h : wpB P l.toArray (Up w) (fun a' => ∀ w', Up w w' → wpList P l.toArray Q (l.drop n) a' w') (l.take n) a) : (Code.region id l.toArray false).wp P Q a w := by
  refine wp_region_lit ?_
  have h1 := wpList_of_B (Q := Q) (T := l.drop n) (l.take n) a w w (Up.refl w) h
  rwa [List.take_append_drop] at h1

/-- What is asked behind the reads and calls of 'x := ..'. -/
def varEnd (P : Program) (Q : Exit → Act → World → Prop) (w : World) (t : Tmp) (ty : TypeId) (x : Operand) (n : Nat) (a' : Act) : Prop :=
  ∃ cells : Array Value, (∀ v, (a'.put (some t) v).eval (.tmp t) = v) ∧ (∀ v, (a'.put (some t) v).eval x = .agg cells) ∧ n = cells.size ∧ (P.info? ty).map (·.size) = some cells.size ∧ (∀ v ∈ cells.toList, v.oneCell' = true) ∧
    ∀ g w', w.heap.size ≤ g → Up w w' → Blk w' g ty cells → Q .normal (a'.put (some t) (.pointer (some ⟨g, 0, none⟩))) w'

theorem up_row {w w1 : World} {g : Nat} (h : Up w w1) (hg : w.heap.size ≤ g) (cs : Array Value) : Up w (w1.setRow g cs) := below_setRow h hg _

theorem var_end {ops : Array Oper} {w w1 : World} {a' : Act} {t : Tmp} {ty : TypeId} {x : Operand} {os : Oper} {zs : Array Value} (hop : os.op = .store ty (.tmp t) x) (hsg : os.guard = none) (hsd : os.dst = none)
    {g : Nat} (hg : w.heap.size ≤ g) (hw : Up w w1) (hb : Blk w1 g ty zs) (h : varEnd P Q w t ty x zs.size a') : wpList P ops Q [os] (a'.put (some t) (.pointer (some ⟨g, 0, none⟩))) w1 := by
  obtain ⟨cells, h1, h2, hz, hi, ho, hk⟩ := h
  refine wpList_store_row hsg ty (.tmp t) x hop g (h1 _) cells (h2 _) ty zs hb hi hz ho ?_
  rw [hsd]
  exact hk g _ hg (up_row hw hg _) (hb.row _)

/-- **'x := ..'**, where the order is drawn. -/
theorem reg_var {oa os : Oper} (n : Nat) (t : Tmp) (ty : TypeId) (x : Operand) (zs : Array Value) (hoa : l[n]? = some oa) (hos : l.drop (n + 1) = [os]) (hop : os.op = .store ty (.tmp t) x) (hsg : os.guard = none) (hsd : os.dst = none)
    (hag : oa.guard = none) (had : oa.dst = some t) (hm : P.follows .mixedOrders = true)
    (hB : tailB l.toArray n 1 1 = true) (hr : Region.ready .any l.toArray (marks n 0 (Array.replicate l.toArray.size false)) = [n])
    (hQ : ∀ c a d v w, Q (.panic c) (a.put d v) w → Q (.panic c) a w)
    (hrun : ∀ (a : Act) w, (execOp a.eval oa).run P w = .ok (.value (.pointer (some ⟨w.heap.size, 0, none⟩))) (w.alloc (.cells zs ty)))
    (h : wpB P l.toArray (Up w) (varEnd P Q w t ty x zs.size) (l.take n) a) : (Code.region id l.toArray true).wp P Q a w := by
  refine region_new n (Up w) w.heap.size ty zs hoa hm (by rw [hos]; exact hB) hr (fun _ _ h k => h.step k) (fun _ h => h.size) (Up.drew w) hQ hag hrun ?_
  rw [hos, had]
  exact wpB_mono (fun a' h' g w' hw' hg hb => var_end hop hsg hsd hg hw' hb h') _ _ h
theorem reg_varF {oa os : Oper} (n : Nat) (t : Tmp) (ty : TypeId) (x : Operand) (zs : Array Value) (hoa : l[n]? = some oa) (hos : l.drop (n + 1) = [os]) (hop : os.op = .store ty (.tmp t) x) (hsg : os.guard = none) (hsd : os.dst = none)
    (hag : oa.guard = none) (had : oa.dst = some t)
    (hrun : ∀ (a : Act) w, (execOp a.eval oa).run P w = .ok (.value (.pointer (some ⟨w.heap.size, 0, none⟩))) (w.alloc (.cells zs ty)))
    (h : wpB P l.toArray (Up w) (varEnd P Q w t ty x zs.size) (l.take n) a) : (Code.region id l.toArray false).wp P Q a w := by
  refine wp_region_lit ?_
  obtain ⟨e, _⟩ := cut_at hoa
  have h1 : wpList P l.toArray Q (l.take n ++ oa :: l.drop (n + 1)) a w := by
    refine wpList_of_B (l.take n) a w w (Up.refl w) (wpB_mono (fun a' h' w' hw' => ?_) _ _ h)
    rw [hos]
    unfold wpList
    rw [if_pos (by simp [Region.wanted, hag])]
    refine .inl ?_
    unfold Oper.wp
    rw [hrun]
    simp only [Oper.upon]
    rw [had]
    exact var_end hop hsg hsd hw'.size (hw'.alloc _) (Blk.new w' _ _) h'
  rwa [← e] at h1

/-- What is asked behind the reads and calls of 'x, y := .., ..'. -/
def varEnd2 (P : Program) (Q : Exit → Act → World → Prop) (w : World) (t t2 : Tmp) (ty ty2 : TypeId) (x x2 : Operand) (n n2 : Nat) (a' : Act) : Prop :=
  ∃ cells cells2 : Array Value, (∀ v u, ((a'.put (some t) v).put (some t2) u).eval (.tmp t) = v) ∧ (∀ v u, ((a'.put (some t) v).put (some t2) u).eval (.tmp t2) = u) ∧
    (∀ v u, ((a'.put (some t) v).put (some t2) u).eval x = .agg cells) ∧ (∀ v u, ((a'.put (some t) v).put (some t2) u).eval x2 = .agg cells2) ∧ n = cells.size ∧ n2 = cells2.size ∧
    (P.info? ty).map (·.size) = some cells.size ∧ (P.info? ty2).map (·.size) = some cells2.size ∧ (∀ v ∈ cells.toList, v.oneCell' = true) ∧ (∀ v ∈ cells2.toList, v.oneCell' = true) ∧
    ∀ g g2 w', w.heap.size ≤ g → w.heap.size ≤ g2 → Up w w' → Blk w' g ty cells → Blk w' g2 ty2 cells2 → Q .normal ((a'.put (some t) (.pointer (some ⟨g, 0, none⟩))).put (some t2) (.pointer (some ⟨g2, 0, none⟩))) w'
/-- **'x, y := .., ..'**, where the order is drawn. -/
theorem reg_var2 {oa ob os os2 : Oper} (n : Nat) (t t2 : Tmp) (ty ty2 : TypeId) (x x2 : Operand) (zs zs2 : Array Value) (hoa : l[n]? = some oa) (hob : l[n + 1]? = some ob) (hos : l.drop (n + 1 + 1) = [os, os2])
    (hop : os.op = .store ty (.tmp t) x) (hop2 : os2.op = .store ty2 (.tmp t2) x2) (hsg : os.guard = none) (hsg2 : os2.guard = none) (hsd : os.dst = none) (hsd2 : os2.dst = none)
    (hag : oa.guard = none) (hbg : ob.guard = none) (had : oa.dst = some t) (hbd : ob.dst = some t2) (htt : t ≠ t2) (hm : P.follows .mixedOrders = true)
    (hB : tailB l.toArray n 2 2 = true) (hr : Region.ready .any l.toArray (marks n 0 (Array.replicate l.toArray.size false)) = [n, n + 1])
    (hr1 : Region.ready .any l.toArray ((marks n 0 (Array.replicate l.toArray.size false)).setIfInBounds n true) = [n + 1])
    (hr2 : Region.ready .any l.toArray ((marks n 0 (Array.replicate l.toArray.size false)).setIfInBounds (n + 1) true) = [n])
    (hQ : ∀ c a d v w, Q (.panic c) (a.put d v) w → Q (.panic c) a w)
    (hrun : ∀ (a : Act) w, (execOp a.eval oa).run P w = .ok (.value (.pointer (some ⟨w.heap.size, 0, none⟩))) (w.alloc (.cells zs ty)))
    (hrun2 : ∀ (a : Act) w, (execOp a.eval ob).run P w = .ok (.value (.pointer (some ⟨w.heap.size, 0, none⟩))) (w.alloc (.cells zs2 ty2)))
    (h : wpB P l.toArray (Up w) (varEnd2 P Q w t t2 ty ty2 x x2 zs.size zs2.size) (l.take n) a) : (Code.region id l.toArray true).wp P Q a w := by
  refine region_new2 n (Up w) w.heap.size ty ty2 zs zs2 hoa hob hm (by rw [hos]; exact hB) hr hr1 hr2 (fun _ _ h k => h.step k) (fun _ h => h.size) (Up.drew w) hQ hag hrun hbg hrun2
    (fun d h1 h2 => htt (Option.some.inj (had.symm.trans (h1.trans (h2.symm.trans hbd))))) ?_
  rw [hos, had, hbd]
  refine wpB_mono (fun a' h' g g2 w' hw' hg hg2 hne hb hb2 => ?_) _ _ h
  obtain ⟨cells, cells2, h1, h2, h3, h4, z1, z2, i1, i2, o1, o2, hk⟩ := h'
  refine wpList_store_row hsg ty (.tmp t) x hop g (h1 _ _) cells (h3 _ _) ty zs hb i1 z1 o1 ?_
  rw [hsd]
  refine wpList_store_row hsg2 ty2 (.tmp t2) x2 hop2 g2 (h2 _ _) cells2 (h4 _ _) ty2 zs2 (hb2.rowFar (Ne.symm hne) _) i2 z2 o2 ?_
  rw [hsd2]
  exact hk g g2 _ hg hg2 (up_row (up_row hw' hg _) hg2 _) ((hb.row _).rowFar hne _) ((hb2.rowFar (Ne.symm hne) _).row _)

/-- What is asked behind the reads and calls of 'x = ..': the whole of a variable that is there. -/
def setEnd (P : Program) (Q : Exit → Act → World → Prop) (w : World) (p : Operand) (ty : TypeId) (x : Operand) (a' : Act) : Prop :=
  ∃ (g : Nat) (old cells : Array Value), a'.eval p = .pointer (some ⟨g, 0, none⟩) ∧ a'.eval x = .agg cells ∧ Blk w g ty old ∧ old.size = cells.size ∧ (P.info? ty).map (·.size) = some cells.size ∧ (∀ v ∈ cells.toList, v.oneCell' = true) ∧
    ∀ w', Up w w' → Q .normal a' (w'.setRow g cells)
theorem set_end {ops : Array Oper} {w w1 : World} {a' : Act} {p : Operand} {ty : TypeId} {x : Operand} {os : Oper} (hop : os.op = .store ty p x) (hsg : os.guard = none) (hsd : os.dst = none)
    (hw : Up w w1) (h : setEnd P Q w p ty x a') : wpList P ops Q [os] a' w1 := by
  obtain ⟨g, old, cells, h1, h2, hb, hz, hi, ho, hk⟩ := h
  refine wpList_store_row hsg ty p x hop g h1 cells h2 ty old (hw.blk hb) hi hz ho ?_
  rw [hsd]
  exact hk _ hw
/-- **'x = ..'** (and 'return ..'), where the order is drawn. -/
theorem reg_set {os : Oper} (n : Nat) (p : Operand) (ty : TypeId) (x : Operand) (hos : l.drop n = [os]) (hop : os.op = .store ty p x) (hsg : os.guard = none) (hsd : os.dst = none) (hm : P.follows .mixedOrders = true)
    (hB : tailB l.toArray n 0 1 = true) (hQ : ∀ c a d v w, Q (.panic c) (a.put d v) w → Q (.panic c) a w)
    (h : wpB P l.toArray (Up w) (setEnd P Q w p ty x) (l.take n) a) : (Code.region id l.toArray true).wp P Q a w := by
  have hn : n ≤ l.length := by
    have h1 := congrArg List.length hos
    simp only [List.length_drop, List.length_cons, List.length_nil] at h1
    omega
  refine region_B n (Up w) hn hm (by rw [hos]; exact hB) (fun _ _ h k => h.step k) (Up.drew w) hQ ?_
  rw [hos]
  exact wpB_mono (fun a' h' w' hw' => set_end hop hsg hsd hw' h') _ _ h
theorem reg_setF {os : Oper} (n : Nat) (p : Operand) (ty : TypeId) (x : Operand) (hos : l.drop n = [os]) (hop : os.op = .store ty p x) (hsg : os.guard = none) (hsd : os.dst = none)
    (h : wpB P l.toArray (Up w) (setEnd P Q w p ty x) (l.take n) a) : (Code.region id l.toArray false).wp P Q a w := by
  refine wp_region_lit ?_
  have h1 : wpList P l.toArray Q (l.take n ++ [os]) a w := wpList_of_B (l.take n) a w w (Up.refl w) (wpB_mono (fun a' h' w' hw' => set_end hop hsg hsd hw' h') _ _ h)
  rwa [← hos, List.take_append_drop] at h1
end

/-! ### Structs and arrays put together -/
theorem foldl_put {α : Type} (V A O Z : List α) (m k : Nat) (hm : m + k = A.length) (hl : O.length = V.length) :
    (V.zipIdx k).foldl (fun (cs : Array α) (p : α × Nat) => cs.setIfInBounds (m + p.2) p.1) (A ++ (O ++ Z)).toArray = (A ++ (V ++ Z)).toArray := by
  induction V generalizing A O k with
  | nil =>
    obtain rfl : O = [] := List.eq_nil_of_length_eq_zero hl
    rfl
  | cons c V ih =>
    obtain ⟨o, O, rfl⟩ : ∃ o O', O = o :: O' := by
      cases O with
      | nil => simp at hl
      | cons o O => exact ⟨o, O, rfl⟩
    rw [List.zipIdx_cons, List.foldl_cons]
    have e : ((A ++ (o :: O ++ Z)).toArray.setIfInBounds (m + k) c) = (A ++ [c] ++ (O ++ Z)).toArray := by
      rw [hm]
      simp
    rw [e, ih (A ++ [c]) O (k + 1) (by simp; omega) (by simpa using hl)]
    simp

/-- A part of a struct that is built. -/
theorem fill_put (place : Nat → Option (Nat × Nat)) (i n : Nat) (A O Z V : List Value) (rest : List (Nat × Value)) (hp : place i = some (A.length, n)) (hV : V.length = n) (hO : O.length = n) :
    Instr.fill place (A ++ (O ++ Z)).toArray ((i, .agg V.toArray) :: rest) = Instr.fill place (A ++ (V ++ Z)).toArray rest := by
  rw [Instr.fill]
  simp only [hp]
  rw [if_neg (by simp [Value.cells, hV, hO])]
  congr 1
  have h := foldl_put V A O Z A.length 0 rfl (by rw [hV, hO])
  rw [← h]
  simp [Value.cells, Array.zipIdx, List.mapIdx_eq_zipIdx_map]

theorem built_of {P : Program} {t : TypeId} {z : Array Value} {pl : List (Nat × Nat)} {parts : List (Nat × Value)}
    (h : (match P.info? t, P.underlying t with
      | some it, some (.struct fields) => (match it.zero, fields.toList.mapM (fun f => (P.info? f.type).map fun i => (f.offset, i.size)) with
        | some z, some places => some (z.cells, places)
        | _, _ => none)
      | _, _ => none) = some (z, pl)) : P.built t parts = Instr.fill (pl.toArray[·]?) z parts := by
  unfold Program.built
  cases hi : P.info? t with
  | none => simp [hi] at h
  | some it =>
    cases hu : P.underlying t with
    | none => simp [hi, hu] at h
    | some d =>
      cases d <;> simp only [hi, hu] at h <;> try (cases h; done)
      case struct fields =>
        simp only []
        cases hz : it.zero with
        | none => simp [hz] at h
        | some z' =>
          cases hp : fields.toList.mapM (fun f => (P.info? f.type).map fun i => (f.offset, i.size)) with
          | none => simp [hz, hp] at h
          | some places =>
            simp only [hz, hp] at h
            injection h with h
            injection h with h1 h2
            rw [← h1, ← h2]

section
variable {P : Program} {ops : Array Oper} {C0 : World → Prop} {Q : Act → Prop} {a : Act} {o : Oper} {rest : List Oper}
theorem b_build {t : TypeId} {parts : Array (Nat × Operand)} (vs : List (Nat × Value)) (cells : Array Value) (hg : Region.wanted o (yielded ops a.tmps) = true) (ho : o.op = .build t parts)
    (hv : (parts.toList.map fun (i, x) => (i, a.eval x)) = vs) (hb : P.built t vs = some cells) (hk : wpB P ops C0 Q rest (a.put o.dst (.agg cells))) : wpB P ops C0 Q (o :: rest) a :=
  b_val hg (fun w _ => by
    unfold execOp
    simp only [ho, Sem.run_bind, run_build w t _ cells (by rw [Array.toList_map, hv]; exact hb), Result.andThen_ok, Sem.run_pure]) hk
theorem b_extract {x : Operand} {i : Nat} {vs : Array Value} (v : Value) (hg : Region.wanted o (yielded ops a.tmps) = true) (ho : o.op = .extract x i) (hx : a.eval x = .tuple vs) (hv : vs[i]? = some v)
    (hk : wpB P ops C0 Q rest (a.put o.dst v)) : wpB P ops C0 Q (o :: rest) a :=
  b_val hg (fun w _ => by
    unfold execOp
    simp only [ho, hx]
    go_simp) hk
theorem b_move {x : Operand} (hg : Region.wanted o (yielded ops a.tmps) = true) (ho : o.op = .move x) (hk : wpB P ops C0 Q rest (a.put o.dst (a.eval x))) : wpB P ops C0 Q (o :: rest) a :=
  b_val hg (fun w _ => by
    unfold execOp
    simp only [ho, Sem.run_pure]) hk
/-- The address of a field. -/
theorem b_field {s : TypeId} {x : Operand} {f : Nat} (b off off' : Nat) (hg : Region.wanted o (yielded ops a.tmps) = true) (ho : o.op = .fieldAddr s x f) (hx : a.eval x = .pointer (some ⟨b, off, none⟩))
    (hr : ∀ w, (Instr.fieldAt s (.pointer (some ⟨b, off, none⟩)) f).run P w = .ok (.pointer (some ⟨b, off', none⟩)) w) (hk : wpB P ops C0 Q rest (a.put o.dst (.pointer (some ⟨b, off', none⟩)))) : wpB P ops C0 Q (o :: rest) a :=
  b_val hg (fun w _ => by
    unfold execOp
    simp only [ho, hx, Sem.run_bind, hr, Result.andThen_ok, Sem.run_pure]) hk
end

/-! ### New variables in a plain region -/
theorem run_box_agg {P : Program} (ty : TypeId) (cs : Array Value) (w : World) : (Instr.box ty (.agg cs)).run P w = .ok (.pointer (some ⟨w.heap.size, 0, none⟩)) (w.alloc (.cells cs ty)) := by
  simp [Instr.box, newVar, newRow, Value.cells]
theorem run_alloc0 {P : Program} {ty : TypeId} {zs : Array Value} (h : (P.info? ty).bind (fun i => i.zero.map (·.cells)) = some zs) (old : Value) (w : World) :
    (Instr.alloc ty true old).run P w = .ok (.pointer (some ⟨w.heap.size, 0, none⟩)) (w.alloc (.cells zs ty)) := by
  cases hi : P.info? ty with
  | none => simp [hi] at h
  | some i =>
    cases hz : i.zero with
    | none => simp [hi, hz] at h
    | some z =>
      simp only [hi, Option.bind_some, hz, Option.map_some] at h
      injection h with h
      subst h
      simp [Instr.alloc, zeroValue, typeInfo, hi, hz, newVar, newRow]
theorem exec_alloc {P : Program} {o : Oper} {ty : TypeId} {zs : Array Value} (ho : o.op = .alloc ty) (h : (P.info? ty).bind (fun i => i.zero.map (·.cells)) = some zs) (a : Act) (w : World) :
    (execOp a.eval o).run P w = .ok (.value (.pointer (some ⟨w.heap.size, 0, none⟩))) (w.alloc (.cells zs ty)) := by
  obtain ⟨dst, op, t, pos, af, gd⟩ := o
  simp only at ho
  subst ho
  unfold execOp
  simp only [Sem.run_bind, run_alloc0 h, Result.andThen_ok, Sem.run_pure]
section
variable {P : Program} {ops : Array Oper} {rest : List Oper} {o : Oper} {a : Act} {w : World} {Q : Exit → Act → World → Prop}
theorem wpl_alloc {ty : TypeId} {zs : Array Value} (hg : o.guard = none) (ho : o.op = .alloc ty) (hz : (P.info? ty).bind (fun i => i.zero.map (·.cells)) = some zs)
    (h : wpList P ops Q rest (a.put o.dst (.pointer (some ⟨w.heap.size, 0, none⟩))) (w.alloc (.cells zs ty))) : wpList P ops Q (o :: rest) a w :=
  wpList_plain hg fun _ hK => by
    unfold Oper.wp
    rw [exec_alloc ho hz]
    exact hK _ _ h
theorem wpl_box {ty : TypeId} {x : Operand} (cs : Array Value) (hg : o.guard = none) (ho : o.op = .box ty x) (hx : a.eval x = .agg cs)
    (h : wpList P ops Q rest (a.put o.dst (.pointer (some ⟨w.heap.size, 0, none⟩))) (w.alloc (.cells cs ty))) : wpList P ops Q (o :: rest) a w :=
  wpList_plain hg fun _ hK => by
    unfold Oper.wp execOp
    simp only [ho, hx, Sem.run_bind, run_box_agg, Result.andThen_ok, Sem.run_pure]
    exact hK _ _ h
theorem wpl_assign {x : Operand} (hg : o.guard = none) (ho : o.op = .assign x) (h : wpList P ops Q rest (a.put o.dst (a.eval x)) w) : wpList P ops Q (o :: rest) a w :=
  wpList_plain hg fun _ hK => by
    unfold Oper.wp execOp
    simp only [ho, Sem.run_pure]
    exact hK _ _ h
theorem wpl_val {v : Value} (hg : o.guard = none) (h : (execOp a.eval o).run P w = .ok (.value v) w) (hk : wpList P ops Q rest (a.put o.dst v) w) : wpList P ops Q (o :: rest) a w :=
  wpList_plain hg fun _ hK => by
    unfold Oper.wp
    rw [h]
    exact hK _ _ hk
theorem wpl_eq {t t' : TypeId} {x y : Operand} {q : Bool} (xs ys : Array Value) (hg : o.guard = none) (ho : o.op = .binOp .eql t x y t') (hx : a.eval x = .agg xs) (hy : a.eval y = .agg ys)
    (hd : P.eqGuardType P.depth t = false) (he : (Op.equalIn 10000 t (.agg xs) (.agg ys)).run P w = .ok q w) (hk : wpList P ops Q rest (a.put o.dst (.bool q)) w) : wpList P ops Q (o :: rest) a w :=
  wpl_val hg (by
    unfold execOp
    simp only [ho, hx, hy, Sem.run_bind, run_eqGuard_agg (hm := hd), Result.andThen_ok, binOp, Op.equal, Op.maxDepth, he, Sem.run_pure]) hk
theorem wpl_build {t : TypeId} {parts : Array (Nat × Operand)} (vs : List (Nat × Value)) (cells : Array Value) (hg : o.guard = none) (ho : o.op = .build t parts)
    (hv : (parts.toList.map fun (i, x) => (i, a.eval x)) = vs) (hb : P.built t vs = some cells) (hk : wpList P ops Q rest (a.put o.dst (.agg cells)) w) : wpList P ops Q (o :: rest) a w :=
  wpl_val hg (by
    unfold execOp
    simp only [ho, Sem.run_bind, run_build w t _ cells (by rw [Array.toList_map, hv]; exact hb), Result.andThen_ok, Sem.run_pure]) hk
/-! The same, guarded. -/
theorem wpl_valG {v : Value} (hg : Region.wanted o (yielded ops a.tmps) = true) (h : (execOp a.eval o).run P w = .ok (.value v) w) (hk : wpList P ops Q rest (a.put o.dst v) w) : wpList P ops Q (o :: rest) a w := by
  unfold wpList
  rw [if_pos hg]
  refine .inl ?_
  unfold Oper.wp
  rw [h]
  exact hk
theorem wpl_buildG {t : TypeId} {parts : Array (Nat × Operand)} (vs : List (Nat × Value)) (cells : Array Value) (hg : Region.wanted o (yielded ops a.tmps) = true) (ho : o.op = .build t parts)
    (hv : (parts.toList.map fun (i, x) => (i, a.eval x)) = vs) (hb : P.built t vs = some cells) (hk : wpList P ops Q rest (a.put o.dst (.agg cells)) w) : wpList P ops Q (o :: rest) a w :=
  wpl_valG hg (by
    unfold execOp
    simp only [ho, Sem.run_bind, run_build w t _ cells (by rw [Array.toList_map, hv]; exact hb), Result.andThen_ok, Sem.run_pure]) hk
theorem wpl_eqG {t t' : TypeId} {x y : Operand} {q : Bool} (xs ys : Array Value) (hg : Region.wanted o (yielded ops a.tmps) = true) (ho : o.op = .binOp .eql t x y t') (hx : a.eval x = .agg xs) (hy : a.eval y = .agg ys)
    (hd : P.eqGuardType P.depth t = false) (he : (Op.equalIn 10000 t (.agg xs) (.agg ys)).run P w = .ok q w) (hk : wpList P ops Q rest (a.put o.dst (.bool q)) w) : wpList P ops Q (o :: rest) a w :=
  wpl_valG hg (by
    unfold execOp
    simp only [ho, hx, hy, Sem.run_bind, run_eqGuard_agg (hm := hd), Result.andThen_ok, binOp, Op.equal, Op.maxDepth, he, Sem.run_pure]) hk
theorem wpl_rowG (hg : Region.wanted o (yielded ops a.tmps) = true) (ty : TypeId) (x : Operand) (ho : o.op = .load ty x) (g : Nat) (hx : a.eval x = .pointer (some ⟨g, 0, none⟩)) (t : TypeId) (cs : Array Value) (fr : Nat × Nat) (d : TypeDesc)
    (hb : w.heap[g]? = some (.cells cs t fr)) (hu : P.underlying ty = some d) (hd : (match d with | .struct _ | .array _ _ => true | _ => false) = true) (hi : (P.info? ty).map (·.size) = some cs.size)
    (hk : wpList P ops Q rest (a.put o.dst (.agg cs)) w) : wpList P ops Q (o :: rest) a w :=
  wpl_valG hg (by
    unfold execOp
    simp only [ho, hx, Instr.loadAt, Instr.sureAddr, Sem.run_bind, Sem.run_pure, Result.andThen_ok, run_loadVar_row w g t ty cs fr d hb hu hd hi]) hk
theorem wpl_nil (h : Q .normal a w) : wpList P ops Q [] a w := h
end
end Go.Proofs.Ythkbejheedffjaa
/-
REGIONS THAT DRAW THEIR ORDER: the check of a region, quicker: each call waits for the call ahead of it, so for all of them.
REGIONS, WHOLE: calls of the program's own functions.
REGIONS, WHOLE: 'not', '!=', results of a cell and a temp.
-/
namespace Go.Proofs.Ythkbejheedffjaa
open Go.RowKit Go.IntWalk

section
variable {md : Region.Mode} {ops : Array Oper}

/-- Has the operation an edge to number i? -/
def edgeTo (md : Region.Mode) (o : Oper) (i : Nat) : Bool := o.after.any fun e => Region.binds md e && e.on == i

theorem waitsT_edge {f j i : Nat} {o : Oper} (hj : ops[j]? = some o) (h : edgeTo md o i = true) : waitsT md ops (f + 1) j i = true := by
  unfold waitsT
  rw [hj]
  unfold edgeTo at h
  obtain ⟨e, he, hb⟩ := Array.any_eq_true'.1 h
  simp only [Bool.and_eq_true, beq_iff_eq] at hb
  exact Array.any_eq_true'.2 ⟨e, he, by simp [hb.1, hb.2]⟩
theorem waitsT_via {f j m i : Nat} {o : Oper} (hj : ops[j]? = some o) (h : edgeTo md o m = true) (hm : waitsT md ops f m i = true) : waitsT md ops (f + 1) j i = true := by
  unfold waitsT
  rw [hj]
  unfold edgeTo at h
  obtain ⟨e, he, hb⟩ := Array.any_eq_true'.1 h
  simp only [Bool.and_eq_true, beq_iff_eq] at hb
  exact Array.any_eq_true'.2 ⟨e, he, by simp [hb.1, hb.2, hm]⟩
theorem waitsT_mono : ∀ {f g j i : Nat}, f ≤ g → waitsT md ops f j i = true → waitsT md ops g j i = true
  | 0, _, _, _, _, h => by cases h
  | f + 1, 0, _, _, hle, _ => absurd hle (by omega)
  | f + 1, g + 1, j, i, hle, h => by
    unfold waitsT at h ⊢
    cases ho : ops[j]? with
    | none => rw [ho] at h; cases h
    | some o =>
      rw [ho] at h
      obtain ⟨e, he, hb⟩ := Array.any_eq_true'.1 h
      refine Array.any_eq_true'.2 ⟨e, he, ?_⟩
      simp only [Bool.and_eq_true, Bool.or_eq_true, beq_iff_eq] at hb ⊢
      exact ⟨hb.1, hb.2.imp id (waitsT_mono (by omega))⟩

/-- Has the operation an edge of the calls' order to number i? -/
def linkTo (md : Region.Mode) (o : Oper) (i : Nat) : Bool := o.after.any fun e => (match e.ground with
  | .chain => true
  | _ => false) && (Region.binds md e && e.on == i)
theorem edge_of_link {o : Oper} {i : Nat} (h : linkTo md o i = true) : edgeTo md o i = true := by
  unfold linkTo at h
  obtain ⟨e, he, hb⟩ := Array.any_eq_true'.1 h
  simp only [Bool.and_eq_true] at hb
  exact Array.any_eq_true'.2 ⟨e, he, by simp only [Bool.and_eq_true]; exact hb.2⟩

/-- Each call has an edge to what ends the row of calls ahead of it. -/
def chainB (md : Region.Mode) : List Oper → Nat → Option Nat → Bool
  | [], _, _ => true
  | o :: l, k, prev => if plainB o.op then chainB md l (k + 1) (match prev with
      | none => none
      | some i => if linkTo md o i then some k else some i)
    else (match prev with
    | none => true
    | some i => edgeTo md o i) && chainB md l (k + 1) (some k)

/-- A call. -/
def CallAt (ops : Array Oper) (i : Nat) : Prop := ∃ o, ops[i]? = some o ∧ plainB o.op = false
/-- Number p waits for all calls below it. -/
def WaitsAll (md : Region.Mode) (ops : Array Oper) (p : Nat) : Prop := ∀ i, i < p → CallAt ops i → waitsT md ops (p - i) p i = true

theorem waitsAll_edge {p k : Nat} {o : Oper} (hk : ops[k]? = some o) (he : edgeTo md o p = true) (hp : p < k) (hW : WaitsAll md ops p) (hall : ∀ i, i < k → CallAt ops i → i ≤ p) : WaitsAll md ops k := by
  intro i hi hc
  by_cases hip : i = p
  · subst hip
    exact waitsT_mono (f := 1) (by omega) (waitsT_edge hk he)
  · have h1 := hall i hi hc
    exact waitsT_mono (by omega) (waitsT_via hk he (hW i (by omega) hc))

theorem chain_all : ∀ (l : List Oper) (k : Nat) (prev : Option Nat), (∀ j, j < l.length → l[j]? = ops[k + j]?) → chainB md l k prev = true →
    (∀ p, prev = some p → p < k ∧ WaitsAll md ops p) → (∀ i, i < k → CallAt ops i → ∃ p, prev = some p ∧ i ≤ p) →
    ∀ j, k ≤ j → j < k + l.length → CallAt ops j → WaitsAll md ops j
  | [], k, _, _, _, _, _, j, h1, h2, _ => absurd h2 (by simp; omega)
  | x :: l, k, prev, hl, hB, hp, hq, j, h1, h2, hj => by
    have h0 : ops[k]? = some x := by simpa using (hl 0 (by simp)).symm
    have hl' : ∀ j, j < l.length → l[j]? = ops[k + 1 + j]? := fun j hj => by have := hl (j + 1) (by simpa using hj); simpa [Nat.add_assoc, Nat.add_comm 1 j] using this
    simp only [List.length_cons] at h2
    unfold chainB at hB
    by_cases hx : plainB x.op = true
    · rw [if_pos hx] at hB
      have hno : ¬ CallAt ops k := by
        rintro ⟨o', ho', hpo⟩
        rw [h0] at ho'
        cases ho'
        rw [hx] at hpo
        cases hpo
      have hjk : j ≠ k := by
        rintro rfl
        exact hno hj
      have hbel : ∀ i, i < k + 1 → CallAt ops i → i < k := fun i hi hc => by
        by_cases hik : i = k
        · subst hik
          exact absurd hc hno
        · omega
      cases prev with
      | none => exact chain_all l (k + 1) none hl' hB (fun p h => by cases h) (fun i hi hc => hq i (hbel i hi hc) hc) j (by omega) (by omega) hj
      | some p =>
        simp only at hB
        obtain ⟨hpk, hWp⟩ := hp p rfl
        have hall : ∀ i, i < k → CallAt ops i → i ≤ p := fun i hi hc => by
          obtain ⟨p', e, h⟩ := hq i hi hc
          cases e
          exact h
        by_cases hlk : linkTo md x p = true
        · rw [if_pos hlk] at hB
          refine chain_all l (k + 1) (some k) hl' hB (fun p' h => ?_) (fun i hi _ => ⟨k, rfl, by omega⟩) j (by omega) (by omega) hj
          cases h
          exact ⟨by omega, waitsAll_edge h0 (edge_of_link hlk) hpk hWp hall⟩
        · rw [if_neg hlk] at hB
          refine chain_all l (k + 1) (some p) hl' hB (fun p' h => ?_) (fun i hi hc => ⟨p, rfl, hall i (hbel i hi hc) hc⟩) j (by omega) (by omega) hj
          cases h
          exact ⟨by omega, hWp⟩
    · rw [if_neg hx] at hB
      simp only [Bool.and_eq_true] at hB
      have hWk : WaitsAll md ops k := by
        cases prev with
        | none =>
          intro i hi hc
          obtain ⟨p, e, _⟩ := hq i hi hc
          cases e
        | some p =>
          obtain ⟨hpk, hWp⟩ := hp p rfl
          refine waitsAll_edge h0 hB.1 hpk hWp (fun i hi hc => ?_)
          obtain ⟨p', e, h⟩ := hq i hi hc
          cases e
          exact h
      by_cases hjk : j = k
      · subst hjk
        exact hWk
      · refine chain_all l (k + 1) (some k) hl' hB.2 (fun p' h => ?_) (fun i hi _ => ⟨k, rfl, by omega⟩) j (by omega) (by omega) hj
        cases h
        exact ⟨by omega, hWk⟩

theorem chain_waits (hB : chainB md ops.toList 0 none = true) (j : Nat) (o : Oper) (hj : ops[j]? = some o) (hpl : plainB o.op = false) (i : Nat) (hij : i < j) (hi : CallAt ops i) : waitsT md ops (j - i) j i = true :=
  chain_all ops.toList 0 none (fun j _ => by simp) hB (fun p h => by cases h) (fun i hi => absurd hi (by omega)) j (by omega) (by simpa using (Array.getElem?_eq_some_iff.1 hj).1) ⟨o, hj, hpl⟩ i hij hi

/-! ### The head -/
def othersB (md : Region.Mode) (ops : Array Oper) (o : Oper) (k : Nat) : List Oper → Bool
  | [] => true
  | x :: l => (edgeTo md x k || o.apart ops x) && othersB md ops o k l
def headC (md : Region.Mode) (ops : Array Oper) : Nat → List Oper → Nat → Bool
  | 0, _, _ => true
  | _ + 1, [], _ => false
  | n + 1, o :: l, k => o.after.all (fun e => !Region.binds md e || decide (e.on < k)) && othersB md ops o k l && headC md ops n l (k + 1)

/-- Marked are just those below k. -/
def Inv (ops : Array Oper) (k : Nat) (listed : Array Bool) : Prop := ∀ j, j < ops.size → listed[j]? = some (decide (j < k))
theorem Inv.set {k : Nat} {listed : Array Bool} (h : Inv ops k listed) : Inv ops (k + 1) (listed.setIfInBounds k true) := by
  intro j hj
  rw [Array.getElem?_setIfInBounds]
  by_cases hjk : k = j
  · subst hjk
    have h1 := h k hj
    have hlt := (Array.getElem?_eq_some_iff.1 h1).1
    rw [if_pos rfl, if_pos hlt]
    simp
  · rw [if_neg hjk, h j hj]
    congr 1
    simp only [decide_eq_decide]
    omega
theorem Inv.start : Inv ops 0 (Array.replicate ops.size false) := by
  intro j hj
  simp [hj]
theorem Inv.marks {listed : Array Bool} : ∀ (n : Nat) {k : Nat} {listed : Array Bool}, Inv ops k listed → Inv ops (k + n) (marks n k listed)
  | 0, _, _, h => h
  | n + 1, k, _, h => by
    have := Inv.marks (listed := listed) n h.set
    rwa [show k + 1 + n = k + (n + 1) by omega] at this
theorem Inv.in_ {k : Nat} {listed : Array Bool} (h : Inv ops k listed) {j : Nat} (hj : j < ops.size) (hk : j < k) (d : Bool) : listed.getD j d = true := by
  have h1 := h j hj
  rw [Array.getD_eq_getD_getElem?, h1]
  simp [hk]
theorem Inv.out {k : Nat} {listed : Array Bool} (h : Inv ops k listed) {j : Nat} (hj : j < ops.size) (hk : k ≤ j) (d : Bool) : listed.getD j d = false := by
  have h1 := h j hj
  rw [Array.getD_eq_getD_getElem?, h1]
  simp
  omega

theorem others_spec {o : Oper} {k : Nat} : ∀ {l : List Oper}, othersB md ops o k l = true → ∀ x ∈ l, edgeTo md x k = true ∨ o.apart ops x = true
  | [], _, _, hx => absurd hx (by simp)
  | y :: l, h, x, hx => by
    simp only [othersB, Bool.and_eq_true, Bool.or_eq_true] at h
    rcases List.mem_cons.1 hx with rfl | hx
    · exact h.1
    · exact others_spec h.2 x hx

theorem headB_of (hch : chainB md ops.toList 0 none = true) : ∀ (n : Nat) (l : List Oper) (k : Nat) (listed : Array Bool), Inv ops k listed → l = ops.toList.drop k → headC md ops n l k = true → headB md ops n k listed = true
  | 0, _, _, _, _, _, _ => rfl
  | n + 1, [], _, _, _, _, h => by cases h
  | n + 1, o :: l, k, listed, hI, hl, h => by
    simp only [headC, Bool.and_eq_true] at h
    obtain ⟨⟨hr, ho⟩, hn⟩ := h
    have hk : k < ops.size := by
      have h1 := congrArg List.length hl
      simp only [List.length_cons, List.length_drop, Array.length_toList] at h1
      omega
    have h2 : ops.toList.drop k = ops.toList[k]'(by simpa using hk) :: ops.toList.drop (k + 1) := List.drop_eq_getElem_cons (by simpa using hk)
    rw [← hl] at h2
    injection h2 with h3 h4
    have hko : ops[k]? = some o := by
      rw [Array.getElem?_eq_getElem hk, h3]
      simp
    unfold headB
    simp only [Bool.and_eq_true]
    refine ⟨⟨⟨?_, ?_⟩, ?_⟩, headB_of hch n l (k + 1) _ hI.set h4 hn⟩
    · rw [List.contains_iff_mem]
      refine mem_ready.2 ⟨by rw [Array.getD_eq_getD_getElem?, hI k hk]; simp, o, hko, fun e he hb => ?_⟩
      have h5 := Array.all_eq_true'.1 hr e he
      simp only [hb, Bool.not_true, Bool.false_or, decide_eq_true_eq] at h5
      exact hI.in_ (by omega) h5 false
    · unfold Region.free
      simp only [hko]
      rw [List.all_eq_true]
      intro j hj
      have hj' : j < ops.size := by simpa using hj
      simp only [Bool.or_eq_true, beq_iff_eq]
      by_cases hjk : j = k
      · exact .inl (.inl hjk)
      · by_cases hlt : j < k
        · exact .inl (.inr (hI.in_ hj' hlt true))
        · right
          have hx : ops[j]? = some ops[j] := Array.getElem?_eq_getElem hj'
          rw [hx]
          have hm : ops[j] ∈ l := by
            rw [h4]
            rw [List.mem_iff_getElem?]
            exact ⟨j - (k + 1), by rw [List.getElem?_drop, show k + 1 + (j - (k + 1)) = j by omega]; simp [hj']⟩
          rcases others_spec ho _ hm with h6 | h6
          · simp only [Bool.or_eq_true]
            exact .inl h6
          · simp only [Bool.or_eq_true]
            exact .inr h6
    · unfold setFree
      simp only [hko, Bool.or_eq_true]
      by_cases hp : plainB o.op = true
      · exact .inl hp
      · right
        rw [List.all_eq_true]
        intro j hj
        have hj' : j < ops.size := by simpa using hj
        simp only [Bool.or_eq_true, beq_iff_eq]
        by_cases hjk : j = k
        · exact .inl (.inl (.inl hjk))
        · by_cases hlt : j < k
          · exact .inl (.inl (.inr (hI.in_ hj' hlt true)))
          · have hx : ops[j]? = some ops[j] := Array.getElem?_eq_getElem hj'
            by_cases hpj : plainB ops[j].op = true
            · right
              rw [hx]
              exact hpj
            · left
              right
              exact waitsT_mono (by omega) (chain_waits hch j _ hx (by simpa using hpj) k (by omega) ⟨o, hko, by simpa using hp⟩)

/-- Has the first of what is left to wait, within few steps, for all that stand ahead? -/
def sinksC (md : Region.Mode) (ops : Array Oper) (N : Nat) : Bool := match ops[N]? with
  | none => true
  | some o => (List.range N).all fun i => edgeTo md o i || waitsT md ops (min 4 ops.size) N i

/-- The quicker check. -/
def tailC (ops : Array Oper) (n k m : Nat) : Bool :=
  Region.noSelect ops && headC .any ops n ops.toList 0 && chainB .any ops.toList 0 none && decide (ops.size = m + k + n) && sinksC .any ops (k + n) &&
    forcedB .any ops m (k + n) (marks k n (marks n 0 (Array.replicate ops.size false)))

theorem tail_ok {n k m : Nat} (h : tailC ops n k m = true) : tailB ops n k m = true := by
  simp only [tailC, Bool.and_eq_true, decide_eq_true_eq] at h
  obtain ⟨⟨⟨⟨⟨h1, h2⟩, h3⟩, h4⟩, h5⟩, h6⟩ := h
  have hI1 : Inv ops n (marks n 0 (Array.replicate ops.size false)) := by
    have := Inv.marks (listed := #[]) n (Inv.start (ops := ops))
    rwa [Nat.zero_add] at this
  have hI2 : Inv ops (k + n) (marks k n (marks n 0 (Array.replicate ops.size false))) := by
    have := Inv.marks (listed := #[]) k hI1
    rwa [Nat.add_comm n k] at this
  have hr : ∀ j ∈ Region.ready .any ops (marks k n (marks n 0 (Array.replicate ops.size false))), j = k + n := by
    intro j hj
    cases m with
    | zero =>
      simp only [forcedB, List.isEmpty_iff] at h6
      rw [h6] at hj
      cases hj
    | succ m =>
      simp only [forcedB, Bool.and_eq_true, decide_eq_true_eq] at h6
      rw [h6.1] at hj
      simpa using hj
  simp only [tailB, Bool.and_eq_true, decide_eq_true_eq]
  refine ⟨⟨⟨⟨h1, headB_of h3 n ops.toList 0 _ Inv.start rfl h2⟩, h4⟩, ?_⟩, h6⟩
  unfold sinksB
  rw [List.all_eq_true]
  intro j hj
  have hjk := hr j hj
  subst hjk
  obtain ⟨_, o, ho, _⟩ := mem_ready.1 hj
  unfold sinksC at h5
  rw [ho] at h5
  simp only [List.all_eq_true, List.mem_range] at h5 ⊢
  intro i hi
  have hz : 0 < ops.size := Nat.lt_of_le_of_lt (Nat.zero_le _) (Array.getElem?_eq_some_iff.1 ho).1
  obtain ⟨f, hf⟩ : ∃ f, ops.size = f + 1 := ⟨ops.size - 1, by omega⟩
  have h7 := h5 i hi
  simp only [Bool.or_eq_true] at h7
  rcases h7 with h7 | h7
  · rw [hf]
    exact waitsT_edge ho h7
  · exact waitsT_mono (Nat.min_le_right _ _) h7
end
end Go.Proofs.Ythkbejheedffjaa

namespace Go.Proofs.Ythkbejheedffjaa
open Go.RowKit Go.IntWalk

/-- The function is the program's own. -/
def Own (f : FuncId) : Prop := ∀ (args : Array Value) (w : World), (callFunc f args).run Try.prog w = .ok (.enter f args) w
theorem run_call_fn {a : Act} {o : Oper} {f : FuncId} {xs : Array Operand} {ats : Array TypeId} (hf : Own f) (ho : o.op = .call { callee := .value (.func f), args := xs, argTypes := ats }) (w : World) :
    (execOp a.eval o).run Try.prog w = .ok (.enter f (xs.map a.eval)) w := by
  obtain ⟨dst, op, ty, pos, af, gd⟩ := o
  simp only at ho
  subst ho
  have h := hf (xs.map a.eval) w
  go_simp
theorem map_eval {a : Act} {xs : Array Operand} {args : Array Value} (h : xs.toList.map a.eval = args.toList) : xs.map a.eval = args := by
  apply Array.toList_inj.1
  rw [Array.toList_map, h]

section
variable {ops : Array Oper} {C0 : World → Prop} {Q : Act → Prop} {a : Act} {o : Oper} {rest : List Oper}
/-- A call that hands back one value. -/
theorem b_one {f : FuncId} {xs : Array Operand} {ats : Array TypeId} {args : Array Value} {v : Value} (hg : Region.wanted o (yielded ops a.tmps) = true)
    (hf : Own f) (hc : ∀ w, Calls Try.prog f args w (fun e w' => e = .returned v ∧ Below w.heap.size w w'))
    (ho : o.op = .call { callee := .value (.func f), args := xs, argTypes := ats }) (hx : xs.toList.map a.eval = args.toList) (hk : wpB Try.prog ops C0 Q rest (a.put o.dst v)) : wpB Try.prog ops C0 Q (o :: rest) a :=
  b_call1 (f := f) (args := args) hg (fun w _ => hc w) (fun w => by rw [run_call_fn hf ho, map_eval hx]) hk
end
end Go.Proofs.Ythkbejheedffjaa

namespace Go.Proofs.Ythkbejheedffjaa
open Go.RowKit Go.IntWalk

theorem results_cell_tmp {P : Program} {fn : Func} {p q : Tmp} {ty : TypeId} (h : fn.results = #[.cell p ty, .tmp q]) (tmps : Array Value) (w : World) (g : Nat) (t : TypeId) (cs : Array Value) (fr : Nat × Nat) (d : TypeDesc) (v : Value)
    (hp : tmps.getD p undef = .pointer (some ⟨g, 0, none⟩)) (hq : tmps.getD q undef = v) (hg : w.heap[g]? = some (.cells cs t fr))
    (hu : P.underlying ty = some d) (hd : (match d with | .struct _ | .array _ _ => true | _ => false) = true) (hi : (P.info? ty).map (·.size) = some cs.size) :
    (results fn tmps).run P w = .ok (.tuple #[.agg cs, v]) w := by
  have hp' : tmps[p]?.getD undef = .pointer (some ⟨g, 0, none⟩) := by simpa using hp
  have hq' : tmps[q]?.getD undef = v := by simpa using hq
  simp [results, h, hp', hq', asAddr, run_loadVar_row w g t ty cs fr d hg hu hd hi]

section
variable {ops : Array Oper} {C0 : World → Prop} {Q : Act → Prop} {a : Act} {o : Oper} {rest : List Oper}
theorem b_not {t : TypeId} {x : Operand} (q : Bool) (hg : Region.wanted o (yielded ops a.tmps) = true) (ho : o.op = .unOp .not t x) (hx : a.eval x = .bool q)
    (hk : wpB Try.prog ops C0 Q rest (a.put o.dst (.bool (!q)))) : wpB Try.prog ops C0 Q (o :: rest) a :=
  b_val hg (fun w _ => by
    unfold execOp
    simp only [ho, hx]
    go_simp) hk
/-- Two rows, by '!='. -/
theorem b_neq {t t' : TypeId} {x y : Operand} {q : Bool} (xs ys : Array Value) (hg : Region.wanted o (yielded ops a.tmps) = true) (ho : o.op = .binOp .neq t x y t') (hx : a.eval x = .agg xs) (hy : a.eval y = .agg ys)
    (hd : Try.prog.eqGuardType Try.prog.depth t = false) (he : ∀ w, (Op.equalIn 10000 t (.agg xs) (.agg ys)).run Try.prog w = .ok q w) (hk : wpB Try.prog ops C0 Q rest (a.put o.dst (.bool (!q)))) : wpB Try.prog ops C0 Q (o :: rest) a :=
  b_val hg (fun w _ => by
    unfold execOp
    simp only [ho, hx, hy, Sem.run_bind, run_eqGuard_agg (hm := hd), Result.andThen_ok, binOp, Op.equal, Op.maxDepth, he, Sem.run_pure]) hk
end

theorem b_assign {P : Program} {ops : Array Oper} {C0 : World → Prop} {Q : Act → Prop} {a : Act} {o : Oper} {rest : List Oper} {x : Operand} (hg : Region.wanted o (yielded ops a.tmps) = true) (ho : o.op = .assign x) (hk : wpB P ops C0 Q rest (a.put o.dst (a.eval x))) : wpB P ops C0 Q (o :: rest) a :=
  b_val hg (fun w _ => by
    unfold execOp
    simp only [ho, Sem.run_pure]) hk

end Go.Proofs.Ythkbejheedffjaa
