/-
PLAIN MATHEMATICS OF LAYER 1 (wire): numbers as eight bytes, and what a reader does to the bytes it has left. No program is imported.
WORDS FOR MEMORY: bytes that a slice value reads, and how they stay.
-/
import Derived.Test.YthejahhhmkkhoaaRows
import Derived.WalkKit
import Derived.WalkSpells
import Derived.WalkLawsBesides
import Derived.Lib.Hide
namespace Go.Proofs.Ythejahhhmkkhoaa

/-- The eight bytes of a number, the greatest first. -/
def be8 (v : Nat) : List UInt8 := [UInt8.ofNat (v / 72057594037927936), UInt8.ofNat (v / 281474976710656), UInt8.ofNat (v / 1099511627776), UInt8.ofNat (v / 4294967296), UInt8.ofNat (v / 16777216), UInt8.ofNat (v / 65536), UInt8.ofNat (v / 256), UInt8.ofNat v]

/-- One step of reading a number. -/
def step (a : Nat) (x : UInt8) : Nat := (a * 256 + x.toNat) % 18446744073709551616

/-- The number that bytes are, modulo two to the 64th. -/
def val (l : List UInt8) : Nat := l.foldl step 0

theorem be8_len (v : Nat) : (be8 v).length = 8 := rfl

theorem val_snoc (l : List UInt8) (x : UInt8) : val (l ++ [x]) = step (val l) x := by simp [val]

theorem step_lt (a : Nat) (x : UInt8) : step a x < 18446744073709551616 := Nat.mod_lt _ (by omega)

theorem val_lt (l : List UInt8) : val l < 18446744073709551616 := by
  rcases List.eq_nil_or_concat l with rfl | ⟨l', x, rfl⟩
  · simp [val]
  · rw [List.concat_eq_append, val_snoc]
    exact step_lt _ _

theorem val_be8 (v : Nat) (h : v < 18446744073709551616) : val (be8 v) = v := by
  simp [val, be8, step]
  omega

theorem be8_inj {a b : Nat} (ha : a < 18446744073709551616) (hb : b < 18446744073709551616) (h : be8 a = be8 b) : a = b := by
  rw [← val_be8 a ha, ← val_be8 b hb, h]

/-- What taking k bytes answers, and what is left: bytes left, the failure's number. -/
def tk (l : List UInt8) (f k : Nat) : List UInt8 × List UInt8 × Nat :=
  if f = 0 then (if l.length < k then ([], l, 10) else (l.take k, l.drop k, 0)) else ([], l, f)

theorem tk_fail {l : List UInt8} {f k : Nat} (h : f ≠ 0) : tk l f k = ([], l, f) := by simp [tk, h]
theorem tk_short {l : List UInt8} {k : Nat} (h : l.length < k) : tk l 0 k = ([], l, 10) := by simp [tk, h]
theorem tk_ok {l : List UInt8} {k : Nat} (h : k ≤ l.length) : tk l 0 k = (l.take k, l.drop k, 0) := by
  simp only [tk, if_pos]
  rw [if_neg (by omega)]

def num (l : List UInt8) (f : Nat) : Nat × List UInt8 × Nat := (val (tk l f 8).1, (tk l f 8).2)

def most (l : List UInt8) (f lim : Nat) : Nat × List UInt8 × Nat := if lim < (num l f).1 then (0, (num l f).2.1, 12) else num l f

def byts (l : List UInt8) (f : Nat) : List UInt8 × List UInt8 × Nat := tk (most l f 1048576).2.1 (most l f 1048576).2.2 (most l f 1048576).1

def don (l : List UInt8) (f : Nat) : Nat := if f = 0 then (if l.length = 0 then 0 else 11) else f

theorem num_lt (l : List UInt8) (f : Nat) : (num l f).1 < 18446744073709551616 := val_lt _

theorem most_le (l : List UInt8) (f lim : Nat) : (most l f lim).1 ≤ lim := by
  unfold most
  split
  · exact Nat.zero_le _
  · omega

/-- What is left is never more than what was there. -/
theorem tk_len (l : List UInt8) (f k : Nat) : (tk l f k).2.1.length ≤ l.length ∧ (tk l f k).1.length ≤ l.length ∧ (tk l f k).1.length ≤ k := by
  unfold tk
  repeat' split
  all_goals simp
  all_goals omega

/-- A string's bytes as a list. -/
theorem loop_eq (bs : ByteArray) : ∀ (n i : Nat) (r : List UInt8), bs.size - i = n → ByteArray.toList.loop bs i r = r.reverse ++ bs.data.toList.drop i
  | 0, i, r, h => by
    rw [ByteArray.toList.loop]
    have hs : bs.data.toList.length = bs.size := by simp
    rw [if_neg (by omega), List.drop_eq_nil_of_le (by omega), List.append_nil]
  | n + 1, i, r, h => by
    rw [ByteArray.toList.loop]
    have hs : bs.data.toList.length = bs.size := by simp
    rw [if_pos (by omega), loop_eq bs n (i + 1) _ (by omega)]
    have hi : i < bs.data.toList.length := by omega
    rw [List.drop_eq_getElem_cons hi, List.reverse_cons, List.append_assoc]
    have hg : bs.get! i = bs.data.toList[i] := by
      have : bs.get! i = bs.data[i]! := rfl
      rw [this]
      simp at hi
      simp [hi]
    rw [hg]
    rfl
theorem bytes_toList (bs : ByteArray) : bs.toList = bs.data.toList := by
  unfold ByteArray.toList
  rw [loop_eq bs _ 0 [] rfl]
  rfl

end Go.Proofs.Ythejahhhmkkhoaa

namespace Go.Proofs.Ythejahhhmkkhoaa
open Go.RowKit

/-- Bytes as the cells of a row. -/
def By (l : List UInt8) : List Value := l.map fun x => .int .u8 (x.toNat : Int)

theorem By_len (l : List UInt8) : (By l).length = l.length := by simp [By]
theorem By_app (a b : List UInt8) : By (a ++ b) = By a ++ By b := by simp [By]
theorem By_one (l : List UInt8) : ∀ u ∈ By l, u.oneCell' = true := by
  intro u hu
  obtain ⟨x, _, rfl⟩ := List.mem_map.1 hu
  rfl
theorem By_at {l : List UInt8} {j : Nat} {u : Value} (h : (By l)[j]? = some u) : ∃ x, l[j]? = some x ∧ u = .int .u8 (x.toNat : Int) := by
  simp only [By, List.getElem?_map, Option.map_eq_some_iff] at h
  obtain ⟨x, hx, rfl⟩ := h
  exact ⟨x, hx, rfl⟩

/-- The bytes l lie at A, in a block from lo on and below hi. -/
def BV (w : World) (lo hi : Nat) (A : Option Addr) (l : List UInt8) : Prop :=
  0 < l.length → ∃ ad, A = some ad ∧ lo ≤ ad.block ∧ ad.block < hi ∧ ∀ j x, l[j]? = some x → w.cell? (ad.add j) = some (.int .u8 (x.toNat : Int))

section
variable {w w' : World} {lo hi lo' hi' : Nat} {A : Option Addr} {l : List UInt8}

theorem block_add (a : Addr) (n : Nat) : (a.add n).block = a.block := by unfold Addr.add; split <;> rfl
theorem add_add' (a : Addr) (i j : Nat) : (a.add i).add j = a.add (i + j) := by
  unfold Addr.add
  by_cases h1 : i = 0 <;> by_cases h2 : j = 0 <;> simp [h1, h2, Nat.add_assoc]

theorem BV.nil (w : World) (lo hi : Nat) (A : Option Addr) : BV w lo hi A [] := fun h => absurd h (by simp)

theorem BV.more (h : BV w lo hi A l) (h1 : lo' ≤ lo) (h2 : hi ≤ hi') : BV w lo' hi' A l := fun hl => by
  obtain ⟨ad, e, ha, hb, hc⟩ := h hl
  exact ⟨ad, e, by omega, by omega, hc⟩

theorem BV.keep (h : BV w lo hi A l) (hk : ∀ k, lo ≤ k → k < hi → w'.heap[k]? = w.heap[k]?) : BV w' lo hi A l := fun hl => by
  obtain ⟨ad, e, ha, hb, hc⟩ := h hl
  exact ⟨ad, e, ha, hb, fun j x hx => by
    rw [World.cell?_of_block (w := w) (by rw [block_add]; exact hk _ ha hb)]
    exact hc j x hx⟩

theorem BV.below (h : BV w lo hi A l) {B : Nat} (hb : Below B w w') (hB : hi ≤ B) : BV w' lo hi A l := h.keep fun k _ hk => hb.block k (by omega)
theorem BV.grown (h : BV w lo hi A l) {r : Nat} (hg : w.grownBy w' (some r)) (hB : hi ≤ w.heap.size) (hr : r < lo ∨ hi ≤ r) : BV w' lo hi A l :=
  h.keep fun k h1 h2 => hg.block k (by omega) (fun e => by injection e with e; omega)
theorem BV.alloc (h : BV w lo hi A l) (o : Obj) (hB : hi ≤ w.heap.size) : BV (w.alloc o) lo hi A l := h.keep fun k _ h2 => Below.heap_alloc w o k (by omega)
theorem BV.setCell (h : BV w lo hi A l) {p : Addr} (hp : p.block < lo ∨ hi ≤ p.block) (u : Value) : BV (w.setCell p u) lo hi A l := h.keep fun k h1 h2 => heap_setCell_other w p k u (by omega)

theorem BV.take (h : BV w lo hi A l) (k : Nat) : BV w lo hi A (l.take k) := fun hl => by
  obtain ⟨ad, e, ha, hb, hc⟩ := h (by simp at hl; omega)
  exact ⟨ad, e, ha, hb, fun j x hx => hc j x (by
    rw [List.getElem?_take] at hx
    split at hx
    · exact hx
    · cases hx)⟩

/-- A cut 's[k:]', the address as the model spells it. -/
theorem BV.cut (h : BV w lo hi A l) {k c : Nat} (hk : k ≤ l.length) (hc : l.length ≤ c) : BV w lo hi (if c = k then A else A.map (·.add k)) (l.drop k) := fun hl => by
  simp only [List.length_drop] at hl
  obtain ⟨ad, rfl, ha, hb, hcell⟩ := h (by omega)
  rw [if_neg (by omega)]
  exact ⟨ad.add k, rfl, by rw [block_add]; exact ha, by rw [block_add]; exact hb, fun j x hx => by
    rw [add_add']
    exact hcell (k + j) x (by rw [← hx, List.getElem?_drop])⟩

/-- What a row of the call's own holds. -/
theorem BV.own {base c : Nat} (h : w.ownsRow base 5 1 (.slice A l.length c) l.length (By l)) : BV w base w.heap.size A l := fun hl => by
  rcases h.2 with ⟨_, h0⟩ | ⟨g, cap, cur, hv, hg, hh, _⟩
  · omega
  · injection hv with hA hn hcc
    subst hA
    refine ⟨_, rfl, hg, (Array.getElem?_eq_some_iff.1 hh).1, fun j x hx => ?_⟩
    exact h.cells (g := g) rfl j _ (by simp [By, hx])
end

/-- A block that is just these cells, none of them frozen. -/
def Blk (w : World) (g t : Nat) (cs : Array Value) : Prop := w.heap[g]? = some (.cells cs t (0, 0))

section
variable {w w' : World} {g t : Nat} {cs : Array Value}
theorem Blk.lt (h : Blk w g t cs) : g < w.heap.size := (Array.getElem?_eq_some_iff.1 h).1
theorem Blk.cell (h : Blk w g t cs) (i : Nat) : w.cell? ⟨g, i, none⟩ = cs[i]? := cell_of_row w g i cs t (0, 0) h
theorem Blk.free (h : Blk w g t cs) (i : Nat) : w.frozen? ⟨g, i, none⟩ = false := frozen_of_row w g i cs t h
theorem Blk.new (w : World) (t : Nat) (cs : Array Value) : Blk (w.alloc (.cells cs t)) w.heap.size t cs := heap_alloc_new w _
theorem Blk.alloc (h : Blk w g t cs) (o : Obj) : Blk (w.alloc o) g t cs := (Below.heap_alloc w o g h.lt).trans h
theorem Blk.set (h : Blk w g t cs) (i : Nat) (u : Value) : Blk (w.setCell ⟨g, i, none⟩ u) g t (cs.setIfInBounds i u) := by
  unfold Blk at h ⊢
  simp [World.setCell, Array.getElem?_modify, h]
theorem Blk.far (h : Blk w g t cs) {p : Addr} (hp : g ≠ p.block) (u : Value) : Blk (w.setCell p u) g t cs := (heap_setCell_other w p g u hp).trans h
theorem Blk.below {B : Nat} (h : Blk w g t cs) (hb : Below B w w') (hg : g < B) : Blk w' g t cs := (hb.block g hg).trans h
theorem Blk.grown {row : Option Nat} (h : Blk w g t cs) (hb : w.grownBy w' row) (hg : some g ≠ row) : Blk w' g t cs := (hb.block g h.lt hg).trans h
end

/-- Only block r has turned (and new blocks have come). -/
theorem only_refl (w : World) (r : Nat) : w.grownBy w (some r) := World.grownBy.refl w _
theorem only_trans {a b c : World} {r : Nat} (h : a.grownBy b (some r)) (k : b.grownBy c (some r)) : a.grownBy c (some r) :=
  ⟨k.os.trans h.os, k.tape.trans h.tape, k.output.trans h.output, Nat.le_trans h.size k.size, fun i hi hn => (k.block i (Nat.lt_of_lt_of_le hi h.size) hn).trans (h.block i hi hn)⟩
theorem only_below {a b c : World} {r : Nat} (h : a.grownBy b (some r)) (k : Below b.heap.size b c) : a.grownBy c (some r) :=
  ⟨k.os.trans h.os, k.tape.trans h.tape, k.output.trans h.output, Nat.le_trans h.size k.size, fun i hi hn => (k.block i (Nat.lt_of_lt_of_le hi h.size)).trans (h.block i hi hn)⟩
theorem only_set {a b : World} {r : Nat} (h : a.grownBy b (some r)) (i : Nat) (u : Value) : a.grownBy (b.setCell ⟨r, i, none⟩ u) (some r) :=
  ⟨h.os, h.tape, h.output, by simpa [World.setCell] using h.size, fun k hk hn => (heap_setCell_other b ⟨r, i, none⟩ k u (fun e => hn (by rw [e]))).trans (h.block k hk hn)⟩
theorem below_only {B : Nat} {a b c : World} {r : Nat} (h : Below B a b) (k : b.grownBy c (some r)) (hB : B ≤ b.heap.size) (hr : B ≤ r) : Below B a c :=
  h.grown k hB (fun x hx => by injection hx with hx; omega)

/-- The slice value '.slice A l.length c' reads the bytes l. -/
def SL (w : World) (lo hi : Nat) (A : Option Addr) (l : List UInt8) (c : Nat) : Prop :=
  l.length ≤ c ∧ c ≤ 9223372036854775807 ∧ (A = none → c = 0) ∧ BV w lo hi A l

section
variable {w w' : World} {lo hi lo' hi' c : Nat} {A : Option Addr} {l : List UInt8}
theorem SL.more (h : SL w lo hi A l c) (h1 : lo' ≤ lo) (h2 : hi ≤ hi') : SL w lo' hi' A l c := ⟨h.1, h.2.1, h.2.2.1, h.2.2.2.more h1 h2⟩
theorem SL.below (h : SL w lo hi A l c) {B : Nat} (hb : Below B w w') (hB : hi ≤ B) : SL w' lo hi A l c := ⟨h.1, h.2.1, h.2.2.1, h.2.2.2.below hb hB⟩
theorem SL.grown (h : SL w lo hi A l c) {r : Nat} (hg : w.grownBy w' (some r)) (hB : hi ≤ w.heap.size) (hr : r < lo ∨ hi ≤ r) : SL w' lo hi A l c := ⟨h.1, h.2.1, h.2.2.1, h.2.2.2.grown hg hB hr⟩
theorem SL.alloc (h : SL w lo hi A l c) (o : Obj) (hB : hi ≤ w.heap.size) : SL (w.alloc o) lo hi A l c := ⟨h.1, h.2.1, h.2.2.1, h.2.2.2.alloc o hB⟩
theorem SL.setCell (h : SL w lo hi A l c) {p : Addr} (hp : p.block < lo ∨ hi ≤ p.block) (u : Value) : SL (w.setCell p u) lo hi A l c := ⟨h.1, h.2.1, h.2.2.1, h.2.2.2.setCell hp u⟩
theorem SL.nil (w : World) (lo hi : Nat) : SL w lo hi none [] 0 := ⟨by simp, by omega, fun _ => rfl, BV.nil _ _ _ _⟩
theorem SL.take (h : SL w lo hi A l c) (k : Nat) : SL w lo hi A (l.take k) c := ⟨by have := h.1; simp; omega, h.2.1, h.2.2.1, h.2.2.2.take k⟩
theorem SL.cut (h : SL w lo hi A l c) {k : Nat} (hk : k ≤ l.length) : SL w lo hi (if c = k then A else A.map (·.add k)) (l.drop k) (c - k) := by
  refine ⟨by have := h.1; simp; omega, by have := h.2.1; omega, fun hA => ?_, h.2.2.2.cut hk h.1⟩
  split at hA
  · rw [h.2.2.1 hA]; omega
  · cases A with
    | none => rw [h.2.2.1 rfl]; omega
    | some a => cases hA
end

/-- What the laws on append ask of the bytes that are appended. -/
theorem SL.none_ {w : World} {lo hi c : Nat} {A : Option Addr} {l : List UInt8} (h : SL w lo hi A l c) (hA : A = none) : l.length = 0 ∧ c = 0 := by
  have := h.2.2.1 hA
  have := h.1
  omega
theorem SL.cells {w : World} {lo hi c : Nat} {A : Option Addr} {l : List UInt8} (h : SL w lo hi A l c) : ∀ ad, A = some ad → ∀ j u, (By l)[j]? = some u → w.cell? (ad.add j) = some u := by
  intro ad hA j u hu
  obtain ⟨x, hx, rfl⟩ := By_at hu
  have hl : 0 < l.length := by
    have := (List.getElem?_eq_some_iff.1 hx).1
    omega
  obtain ⟨ad', hA', _, _, hc⟩ := h.2.2.2 hl
  rw [hA] at hA'
  injection hA' with hA'
  subst hA'
  exact hc j x hx

/-- The slice of slices at A reads the lists ls. -/
def Parts (w : World) (hi : Nat) (A : Option Addr) (ls : List (List UInt8)) : Prop :=
  0 < ls.length → ∃ ad, A = some ad ∧ ad.block < hi ∧ ∀ (i : Nat) l, ls[i]? = some l → ∃ A' c, w.cell? (ad.add i) = some (.slice A' l.length c) ∧ SL w 0 hi A' l c

theorem Parts.below {w w' : World} {hi B : Nat} {A : Option Addr} {ls : List (List UInt8)} (h : Parts w hi A ls) (hb : Below B w w') (hB : hi ≤ B) : Parts w' hi A ls := fun hl => by
  obtain ⟨ad, rfl, ha, hc⟩ := h hl
  refine ⟨ad, rfl, ha, fun i l hi => ?_⟩
  obtain ⟨A', c, h1, h2⟩ := hc i l hi
  exact ⟨A', c, by rw [hb.cell (by rw [block_add]; omega)]; exact h1, h2.below hb hB⟩

/-- The reader in block r: the bytes that it has left (below its own block, at lo or above), the failure's number. -/
def Rdr (w : World) (lo r : Nat) (l : List UInt8) (f : Nat) : Prop :=
  ∃ A c, Blk w r 60 #[.slice A l.length c, .int .i64 (f : Int)] ∧ SL w lo r A l c

theorem Rdr.lt {w : World} {lo r f : Nat} {l : List UInt8} (h : Rdr w lo r l f) : r < w.heap.size := by
  obtain ⟨A, c, hb, _⟩ := h
  exact hb.lt
theorem Rdr.below {w w' : World} {lo r f B : Nat} {l : List UInt8} (h : Rdr w lo r l f) (hb : Below B w w') (hB : r < B) : Rdr w' lo r l f := by
  obtain ⟨A, c, hk, h1⟩ := h
  exact ⟨A, c, hk.below hb hB, h1.below hb (by omega)⟩
theorem Rdr.grown {w w' : World} {lo r f r' : Nat} {l : List UInt8} (h : Rdr w lo r l f) (hb : w.grownBy w' (some r')) (hB : r < r' ∨ r' < lo) (hlo : lo ≤ r) : Rdr w' lo r l f := by
  have hlt := h.lt
  obtain ⟨A, c, hk, h1⟩ := h
  exact ⟨A, c, hk.grown hb (fun e => by injection e with e; omega), h1.grown hb (by omega) (by omega)⟩

theorem Blk.drewN {w : World} {g t : Nat} {cs : Array Value} (h : Blk w g t cs) (n : Nat) : Blk (w.drewN n) g t cs := h
theorem SL.drewN {w : World} {lo hi c : Nat} {A : Option Addr} {l : List UInt8} (h : SL w lo hi A l c) (n : Nat) : SL (w.drewN n) lo hi A l c := h

/-- A whole array stored into its variable's block. -/
theorem run_store_row {P : Program} (w : World) (ty : TypeId) (g : Nat) (cs old : Array Value) (t : TypeId) (hg : w.heap[g]? = some (.cells old t (0, 0)))
    (hi : (P.info? ty).map (·.size) = some cs.size) (hos : old.size = cs.size) (h1 : ∀ v ∈ cs.toList, v.oneCell' = true) :
    (Instr.storeAt ty (.pointer (some ⟨g, 0, none⟩)) (.agg cs)).run P w = .ok () (w.setRow g cs) := by
  have hst := run_storeCells_at P g 0 t cs.toList 0 old w hg (by simp; omega) h1
  have hd : old.toList.drop cs.toList.length = [] := List.drop_eq_nil_of_le (by simp; omega)
  simp only [Nat.add_zero, Nat.zero_add, List.take_zero, List.nil_append] at hst
  rw [hd, List.append_nil, Array.toArray_toList] at hst
  cases hq : P.info? ty with
  | none => simp [hq] at hi
  | some i =>
    have hs : i.size = cs.size := by simpa [hq] using hi
    simp [Instr.storeAt, Instr.sureAddr, storeVar, sizeOf, typeInfo, hq, hs, Value.cells, Sem.run_bind, hst]

theorem wpList_store_row {P : Program} {ops : Array Oper} {rest : List Oper} {o : Oper} {a : Act} {w : World} {Q : Exit → Act → World → Prop} (hgd : o.guard = none) (ty : TypeId) (p x : Operand) (ho : o.op = .store ty p x)
    (g : Nat) (hp : a.eval p = .pointer (some ⟨g, 0, none⟩)) (cs : Array Value) (hx : a.eval x = .agg cs) (t : TypeId) (old : Array Value) (hg : w.heap[g]? = some (.cells old t (0, 0)))
    (hi : (P.info? ty).map (·.size) = some cs.size) (hos : old.size = cs.size) (h1 : ∀ v ∈ cs.toList, v.oneCell' = true)
    (h : wpList P ops Q rest (a.put o.dst (.tuple #[])) (w.setRow g cs)) : wpList P ops Q (o :: rest) a w :=
  wpList_plain hgd fun _ hK => by
    unfold Oper.wp execOp
    simp only [ho, hp, hx, Sem.run_bind, Sem.run_pure, Result.andThen_ok, run_store_row w ty g cs old t hg hi hos h1]
    exact hK _ _ h

theorem Blk.row {w : World} {g t : Nat} {cs : Array Value} (h : Blk w g t cs) (cs' : Array Value) : Blk (w.setRow g cs') g t cs' := setRow_heap w g cs cs' t _ h
theorem Blk.rowFar {w : World} {g t : Nat} {cs : Array Value} (h : Blk w g t cs) {g' : Nat} (hne : g ≠ g') (cs' : Array Value) : Blk (w.setRow g' cs') g t cs := by
  unfold Blk at h ⊢
  rw [World.setRow]
  simp only [Array.getElem?_modify]
  rw [if_neg (by omega)]
  exact h

end Go.Proofs.Ythejahhhmkkhoaa
