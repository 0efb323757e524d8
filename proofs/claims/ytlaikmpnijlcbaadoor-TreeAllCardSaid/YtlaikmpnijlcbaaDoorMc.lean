/-
  SEVERAL TEXTS IN ONE: Us, FrV, FrN, FrP, FrM, Copy, RegI.
-/
import Derived.Test.YtlaikmpnijlcbaaDoorMb
import Derived.Laws.Bits64b
import Derived.Laws.BitsAllLaws
import Derived.Laws.Externs
import Derived.Maps.AppendAt
import Derived.Deep.OwnRows
import Derived.Great.BuildSlice
/-
  WORDS OF 64 BITS: rows of words, the walk's numbers made natural; a number's words and bytes.
-/
namespace Go.Proofs.YtlaikmpnijlcbaaDoor
open Go.RowKit Go.IntWalk

/-- Words as the cells of a row. -/
def Us (l : List Nat) : List Value := l.map fun x : Nat => .int .u64 (x : Int)
theorem Us_len (l : List Nat) : (Us l).length = l.length := by simp [Us]
theorem Us_one (l : List Nat) : ∀ u ∈ Us l, u.oneCell' = true := by
  intro u hu
  obtain ⟨x, _, rfl⟩ := List.mem_map.1 hu
  rfl
theorem Us_at {l : List Nat} {j : Nat} (h : j < l.length) : (Us l).toArray[j]? = some (.int .u64 (l[j]! : Nat)) := by
  simp [Us, h]
theorem Us_set (l : List Nat) (k x : Nat) : (Us l).toArray.setIfInBounds k (.int .u64 (x : Int)) = (Us (l.set k x)).toArray := by
  simp [Us, List.map_set]

theorem maskW (a : Nat) (ha : a < 18446744073709551616) : bits .and .u64 (a : Int) 2251799813685247 = ((a % 2251799813685248 : Nat) : Int) := by
  have h := u64_and_nat a 2251799813685247 ha (by omega)
  have e : a &&& 2251799813685247 = a % 2251799813685248 := Nat.and_two_pow_sub_one_eq_mod a 51
  rw [e] at h
  exact h

theorem orW (i x y : Nat) (hx : x % 2 ^ i = 0) (hy : y < 2 ^ i) (h1 : x < 18446744073709551616) (h2 : y < 18446744073709551616) : bits .or .u64 (x : Int) (y : Int) = ((x + y : Nat) : Int) := by
  rw [u64_or_nat x y h1 h2, nat_join i x y hx hy]
/-! ### The numbers of a walk, made natural -/
theorem mask32 (a : Nat) (ha : a < 18446744073709551616) : bits .and .u64 (a : Int) 4294967295 = ((a % 4294967296 : Nat) : Int) := by
  have h := u64_and_nat a 4294967295 ha (by omega)
  have e : a &&& 4294967295 = a % 4294967296 := Nat.and_two_pow_sub_one_eq_mod a 32
  rw [e] at h
  exact h
theorem div32 (a : Nat) : (a : Int) / 4294967296 = ((a / 4294967296 : Nat) : Int) := by omega
theorem div51 (a : Nat) : (a : Int) / 2251799813685248 = ((a / 2251799813685248 : Nat) : Int) := by omega
theorem mulN (a b : Nat) : (a : Int) * (b : Int) = ((a * b : Nat) : Int) := (Int.natCast_mul a b).symm
theorem addN (a b : Nat) : (a : Int) + (b : Int) = ((a + b : Nat) : Int) := (Int.natCast_add a b).symm
theorem wrapN (a : Nat) (ha : a < 18446744073709551616) : IntKind.u64.wrap (a : Int) = (a : Int) := by rw [IntKind.wrap_u64]; omega
theorem wrapM (a : Nat) : IntKind.u64.wrap (a : Int) = ((a % 18446744073709551616 : Nat) : Int) := by rw [IntKind.wrap_u64]; omega

/-- The model's row for math/bits.Sub64. -/
def subEntry : Array Value → Sem Value := fun args => do
  let (x, y, b) ← Extern.MathBitsCarry.three "Sub64" args
  pure (Extern.MathBitsCarry.pair ((x + Extern.MathBitsCarry.m64 - y - b) % Extern.MathBitsCarry.m64) (if x < y + b then 1 else 0))
theorem run_sub {P : Program} (x y b : Nat) (hb : b ≤ 1) (w : World) :
    (subEntry #[.int .u64 x, .int .u64 y, .int .u64 b]).run P w =
      .ok (.tuple #[.int .u64 (((x + 18446744073709551616 - y - b) % 18446744073709551616 : Nat) : Int), .int .u64 ((if x < y + b then 1 else 0 : Nat) : Int)]) w := by
  have : b = 0 ∨ b = 1 := by omega
  rcases this with rfl | rfl <;> rfl

/-! ### Bytes and words -/
/-- The bytes when n of them are there. -/
def fb (l : List UInt8) (n : Nat) : List UInt8 := (List.range 32).map fun m => if m < n then l[m]! else 0
theorem fb_len (l : List UInt8) (n : Nat) : (fb l n).length = 32 := by simp [fb]
theorem fb_zero (l : List UInt8) : fb l 0 = List.replicate 32 0 := by
  apply List.ext_getElem (by simp [fb])
  intro i h1 h2
  rw [List.getElem_replicate]
  simp [fb]
theorem fb_all {l : List UInt8} (h : l.length = 32) : fb l 32 = l := by
  apply List.ext_getElem (by simp [fb, h])
  intro i h1 h2
  have h3 : i < 32 := by simpa [fb] using h1
  simp [fb, h3, h2]
theorem fb_set (l : List UInt8) {n : Nat} : (fb l n).set n l[n]! = fb l (n + 1) := by
  apply List.ext_getElem (by simp [fb])
  intro j h1 h2
  rw [List.getElem_set]
  simp only [fb, List.getElem_map, List.getElem_range]
  by_cases hjk : n = j
  · subst hjk
    simp
  · rw [if_neg hjk]
    by_cases hlt : j < n
    · rw [if_pos hlt, if_pos (by omega)]
    · rw [if_neg hlt, if_neg (by omega)]

/-- The word of 64 bits from 64 k on. -/
def wd (L k : Nat) : Nat := L / 18446744073709551616 ^ k % 18446744073709551616

theorem wd_byte (L k j : Nat) (hj : j < 8) : wd L k / 2 ^ (8 * j) % 256 = L / 256 ^ (8 * k + j) % 256 := by
  have e1 : (256 : Nat) ^ (8 * k + j) = 18446744073709551616 ^ k * 256 ^ j := by
    rw [Nat.pow_add, Nat.pow_mul]
  have e2 : (2 : Nat) ^ (8 * j) = 256 ^ j := by rw [Nat.pow_mul]
  rw [e1, e2, ← Nat.div_div_eq_div_mul]
  unfold wd
  generalize L / 18446744073709551616 ^ k = z
  have h8 : j = 0 ∨ j = 1 ∨ j = 2 ∨ j = 3 ∨ j = 4 ∨ j = 5 ∨ j = 6 ∨ j = 7 := by omega
  rcases h8 with rfl | rfl | rfl | rfl | rfl | rfl | rfl | rfl <;> simp only [Nat.reducePow] <;> omega

end Go.Proofs.YtlaikmpnijlcbaaDoor
/-
  ROWS OF CELLS, AND STORES OVER FRAMES BY WHAT IS KNOWN OF THEM.
-/
namespace Go.Proofs.YtlaikmpnijlcbaaDoor
open Go.RowKit Go.IntWalk

/-- The values l lie in block g from its head on, and may be written. -/
structure VL (w : World) (g : Nat) (l : List Value) : Prop where
  lt : g < w.heap.size
  cell : ∀ j v, l[j]? = some v → w.cell? ⟨g, j, none⟩ = some v
  free : ∀ j, j < l.length → w.frozen? ⟨g, j, none⟩ = false
section
variable {w w' : World} {g B : Nat} {l : List Value}
theorem VL.below (h : VL w g l) (hb : Below B w w') (hg : g < B) : VL w' g l :=
  ⟨Nat.lt_of_lt_of_le h.lt hb.size, fun j v hj => (hb.cell (p := ⟨g, j, none⟩) hg).trans (h.cell j v hj), fun j hj => (hb.frozen (p := ⟨g, j, none⟩) hg).trans (h.free j hj)⟩
theorem VL.up (h : VL w g l) (hb : Up w w') : VL w' g l := h.below hb h.lt
theorem VL.set (h : VL w g l) (k : Nat) (x : Value) : VL (w.setCell ⟨g, k, none⟩ x) g (l.set k x) := by
  refine ⟨by simpa [World.setCell] using h.lt, fun j v hj => ?_, fun j hj => ?_⟩
  · rw [List.getElem?_set] at hj
    by_cases e : k = j
    · subst e
      rw [if_pos rfl] at hj
      split at hj
      · rename_i hk
        cases hj
        exact World.cell?_setCell_same _ _ _ (h.cell k l[k] (List.getElem?_eq_getElem hk))
      · cases hj
    · rw [if_neg e] at hj
      rw [World.cell?_setCell_other _ _ _ _ (by intro he; injection he with _ he _; omega), h.cell j v hj]
  · rw [List.length_set] at hj
    rw [World.frozen?_setCell]
    exact h.free j hj
theorem VL.far (h : VL w g l) {p : Addr} (hp : g ≠ p.block) (u : Value) : VL (w.setCell p u) g l :=
  ⟨by simpa [World.setCell] using h.lt, fun j v hj => by rw [World.cell?_setCell_other _ _ _ _ (fun e => hp (by rw [e]))]; exact h.cell j v hj, fun j hj => by rw [World.frozen?_setCell]; exact h.free j hj⟩
end
theorem Us_at? {l : List Nat} {j : Nat} (h : j < l.length) : (Us l)[j]? = some (.int .u64 (l[j]! : Nat)) := by
  simp [Us, h]
theorem Us_put (l : List Nat) (k x : Nat) : (Us l).set k (.int .u64 (x : Int)) = Us (l.set k x) := by
  simp [Us, List.map_set]
theorem By_at? {l : List UInt8} {j : Nat} (h : j < l.length) : (By l)[j]? = some (.int .u8 ((l[j]!).toNat : Int)) := by
  have h1 := By_get h
  simpa using h1
theorem VL.byte {w : World} {g : Nat} {l : List UInt8} (h : VL w g (By l)) {j : Nat} (hj : j < l.length) : w.cell? ⟨g, j, none⟩ = some (.int .u8 ((l[j]!).toNat : Int)) := h.cell j _ (By_at? hj)
theorem VL.word {w : World} {g : Nat} {l : List Nat} (h : VL w g (Us l)) {j : Nat} (hj : j < l.length) : w.cell? ⟨g, j, none⟩ = some (.int .u64 (l[j]! : Nat)) := h.cell j _ (Us_at? hj)

section
variable {ops : Array Oper} {Q : Exit → Act → World → Prop} {N : Nat} {E : List (Nat × Value)} {w : World}
/-- The end of a region that stores one number. -/
theorem f_store {os : Oper} {px x : Operand} {t : TypeId} {K : IntKind} (p : Addr) (v : Int) (old : Value) (ht : (t = 83 ∧ K = .u64) ∨ (t = 5 ∧ K = .u8)) (hg : os.guard = none) (hd : os.dst = none) (ho : os.op = .store t px x) (hp : ev E px = some (.pointer (some p))) (hx : ev E x = some (.int K v))
    (hc : w.cell? p = some old) (hf : w.frozen? p = false) (hlt : p.block < w.heap.size) (h : ∀ w', Up w w' → kF (Q .normal) N E (w'.setCell p (.int K v))) :
    bF Tryd.prog ops (Up w) (fun a' => ∀ w', Up w w' → wpList Tryd.prog ops Q [os] a' w') [] N E := fun a ha => wpB_nil fun w' hw' => by
  have h1 := ha.eval hp
  have h2 := ha.eval hx
  have h3 : w'.cell? p = some old := (hw'.cell hlt).trans hc
  have h4 : w'.frozen? p = false := (hw'.frozen hlt).trans hf
  have h5 := h w' hw' a ha
  unfold wpList
  rw [if_pos (by simp [Region.wanted, hg])]
  refine .inl ?_
  unfold Oper.wp execOp
  simp only [ho, h1, h2]
  have key : (Instr.storeAt t (.pointer (some p)) (.int K v)).run Tryd.prog w' = .ok () (w'.setCell p (.int K v)) := by
    rcases ht with ⟨rfl, rfl⟩ | ⟨rfl, rfl⟩ <;> go_simp
  simp only [Sem.run_bind, key, Result.andThen_ok, Sem.run_pure, Oper.upon, hd]
  exact h5
end
section
variable {ops : Array Oper} {C0 : World → Prop} {Q : Act → Prop} {N : Nat} {E : List (Nat × Value)} {o : Oper} {rest : List Oper} {k : Nat}
theorem f_subV {x y : Operand} {t : TypeId} (m n r : Int) (hg : o.guard = none) (hd : o.dst = some k) (hk : Nat.blt k N = true) (ho : o.op = .binOp .sub 41 x y t) (hx : ev E x = some (.int .u64 m)) (hy : ev E y = some (.int .u64 n))
    (hr : IntKind.u64.wrap (m - n) = r) (hn : bF Tryd.prog ops C0 Q rest N ((k, .int .u64 r) :: E)) : bF Tryd.prog ops C0 Q (o :: rest) N E :=
  f_val _ hg hd hk (fun a ha w _ => by
    have h1 := ha.eval hx
    have h2 := ha.eval hy
    unfold execOp
    simp only [ho, h1, h2]
    go_simp) hn
theorem f_shrU {x y : Operand} {t : TypeId} (m : Int) (n : Nat) (r : Int) (h64 : n ≤ 64) (hg : o.guard = none) (hd : o.dst = some k) (hk : Nat.blt k N = true) (ho : o.op = .binOp .shr 83 x y t) (hx : ev E x = some (.int .u64 m)) (hy : ev E y = some (.int .u64 (n : Int)))
    (hr : m / 2 ^ n = r) (hn : bF Tryd.prog ops C0 Q rest N ((k, .int .u64 r) :: E)) : bF Tryd.prog ops C0 Q (o :: rest) N E :=
  f_val _ hg hd hk (fun a ha w _ => by
    have h1 := ha.eval hx
    have h2 := ha.eval hy
    have h3 : (n : Int) ≤ 64 := by omega
    unfold execOp
    simp only [ho, h1, h2]
    go_simp) hn
end
theorem VL.new (w : World) (l : List Value) (t : TypeId) : VL (w.alloc (.cells l.toArray t)) w.heap.size l := by
  have hb := Blk.new w t l.toArray
  exact ⟨by rw [World.size_alloc]; omega, fun j v hj => by rw [hb.cell j]; simpa using hj, fun j _ => hb.free j⟩
section
variable {ops : Array Oper} {C0 : World → Prop} {Q : Act → Prop} {N : Nat} {E : List (Nat × Value)} {o : Oper} {rest : List Oper} {k : Nat}
/-- A byte as a word. -/
theorem f_wordB {x : Operand} (m r : Int) (hg : o.guard = none) (hd : o.dst = some k) (hk : Nat.blt k N = true) (ho : o.op = .convert 5 83 x) (hx : ev E x = some (.int .u8 m))
    (hr : IntKind.u64.wrap m = r) (hn : bF Tryd.prog ops C0 Q rest N ((k, .int .u64 r) :: E)) : bF Tryd.prog ops C0 Q (o :: rest) N E :=
  f_val _ hg hd hk (fun a ha w _ => by
    have h1 := ha.eval hx
    unfold execOp
    simp only [ho, h1]
    go_simp) hn
/-- A word's lowest byte. -/
theorem f_byteU {x : Operand} (m r : Int) (hg : o.guard = none) (hd : o.dst = some k) (hk : Nat.blt k N = true) (ho : o.op = .convert 83 5 x) (hx : ev E x = some (.int .u64 m))
    (hr : IntKind.u8.wrap m = r) (hn : bF Tryd.prog ops C0 Q rest N ((k, .int .u8 r) :: E)) : bF Tryd.prog ops C0 Q (o :: rest) N E :=
  f_val _ hg hd hk (fun a ha w _ => by
    have h1 := ha.eval hx
    unfold execOp
    simp only [ho, h1]
    go_simp) hn
/-- An int as a uint, or as a word. -/
theorem f_uintI {x : Operand} (m r : Int) (hg : o.guard = none) (hd : o.dst = some k) (hk : Nat.blt k N = true) (ho : o.op = .convert 3 41 x) (hx : ev E x = some (.int .i64 m))
    (hr : IntKind.u64.wrap m = r) (hn : bF Tryd.prog ops C0 Q rest N ((k, .int .u64 r) :: E)) : bF Tryd.prog ops C0 Q (o :: rest) N E :=
  f_val _ hg hd hk (fun a ha w _ => by
    have h1 := ha.eval hx
    unfold execOp
    simp only [ho, h1]
    go_simp) hn
theorem f_wordI {x : Operand} (m r : Int) (hg : o.guard = none) (hd : o.dst = some k) (hk : Nat.blt k N = true) (ho : o.op = .convert 3 83 x) (hx : ev E x = some (.int .i64 m))
    (hr : IntKind.u64.wrap m = r) (hn : bF Tryd.prog ops C0 Q rest N ((k, .int .u64 r) :: E)) : bF Tryd.prog ops C0 Q (o :: rest) N E :=
  f_val _ hg hd hk (fun a ha w _ => by
    have h1 := ha.eval hx
    unfold execOp
    simp only [ho, h1]
    go_simp) hn
theorem f_geqI {x y : Operand} {t : TypeId} (m n : Int) (q : Bool) (hg : o.guard = none) (hd : o.dst = some k) (hk : Nat.blt k N = true) (ho : o.op = .binOp .geq 3 x y t) (hx : ev E x = some (.int .i64 m)) (hy : ev E y = some (.int .i64 n))
    (hr : decide (n ≤ m) = q) (hn : bF Tryd.prog ops C0 Q rest N ((k, .bool q) :: E)) : bF Tryd.prog ops C0 Q (o :: rest) N E :=
  f_val _ hg hd hk (fun a ha w _ => by
    have h1 := ha.eval hx
    have h2 := ha.eval hy
    subst hr
    unfold execOp
    simp only [ho, h1, h2]
    go_simp) hn
theorem f_neqI {x y : Operand} {t : TypeId} (m n : Int) (q : Bool) (hg : o.guard = none) (hd : o.dst = some k) (hk : Nat.blt k N = true) (ho : o.op = .binOp .neq 3 x y t) (hx : ev E x = some (.int .i64 m)) (hy : ev E y = some (.int .i64 n))
    (hr : decide (m ≠ n) = q) (hn : bF Tryd.prog ops C0 Q rest N ((k, .bool q) :: E)) : bF Tryd.prog ops C0 Q (o :: rest) N E :=
  f_val _ hg hd hk (fun a ha w _ => by
    have h1 := ha.eval hx
    have h2 := ha.eval hy
    subst hr
    unfold execOp
    simp only [ho, h1, h2]
    by_cases e : m = n <;> go_simp) hn
theorem f_remI {x y : Operand} {t : TypeId} (m n r : Int) (hz : n ≠ 0) (hg : o.guard = none) (hd : o.dst = some k) (hk : Nat.blt k N = true) (ho : o.op = .binOp .rem 3 x y t) (hx : ev E x = some (.int .i64 m)) (hy : ev E y = some (.int .i64 n))
    (hr : m.tmod n = r) (hn : bF Tryd.prog ops C0 Q rest N ((k, .int .i64 r) :: E)) : bF Tryd.prog ops C0 Q (o :: rest) N E :=
  f_val _ hg hd hk (fun a ha w _ => by
    have h1 := ha.eval hx
    have h2 := ha.eval hy
    subst hr
    unfold execOp
    simp only [ho, h1, h2]
    go_simp) hn
theorem f_remU {x y : Operand} {t : TypeId} (m n r : Int) (hz : n ≠ 0) (hg : o.guard = none) (hd : o.dst = some k) (hk : Nat.blt k N = true) (ho : o.op = .binOp .rem 83 x y t) (hx : ev E x = some (.int .u64 m)) (hy : ev E y = some (.int .u64 n))
    (hr : m.tmod n = r) (hn : bF Tryd.prog ops C0 Q rest N ((k, .int .u64 r) :: E)) : bF Tryd.prog ops C0 Q (o :: rest) N E :=
  f_val _ hg hd hk (fun a ha w _ => by
    have h1 := ha.eval hx
    have h2 := ha.eval hy
    subst hr
    unfold execOp
    simp only [ho, h1, h2]
    go_simp) hn
theorem f_quoU {x y : Operand} {t : TypeId} (m n r : Int) (hz : n ≠ 0) (hg : o.guard = none) (hd : o.dst = some k) (hk : Nat.blt k N = true) (ho : o.op = .binOp .quo 83 x y t) (hx : ev E x = some (.int .u64 m)) (hy : ev E y = some (.int .u64 n))
    (hr : IntKind.u64.wrap (m.tdiv n) = r) (hn : bF Tryd.prog ops C0 Q rest N ((k, .int .u64 r) :: E)) : bF Tryd.prog ops C0 Q (o :: rest) N E :=
  f_val _ hg hd hk (fun a ha w _ => by
    have h1 := ha.eval hx
    have h2 := ha.eval hy
    subst hr
    unfold execOp
    simp only [ho, h1, h2]
    go_simp) hn
end
/-! ### The check of a region whose first forced operation waits for some by more than four steps -/
section
variable {ops : Array Oper}
def sinksD (f : Nat) (md : Region.Mode) (ops : Array Oper) (N : Nat) : Bool := match ops[N]? with
  | none => true
  | some o => (List.range N).all fun i => edgeTo md o i || waitsT md ops (min f ops.size) N i
def tailD (f : Nat) (ops : Array Oper) (n k m : Nat) : Bool :=
  Region.noSelect ops && headC .any ops n ops.toList 0 && chainB .any ops.toList 0 none && decide (ops.size = m + k + n) && sinksD f .any ops (k + n) &&
    forcedB .any ops m (k + n) (marks k n (marks n 0 (Array.replicate ops.size false)))
theorem tail_okD (f : Nat) {n k m : Nat} (h : tailD f ops n k m = true) : tailB ops n k m = true := by
  simp only [tailD, Bool.and_eq_true, decide_eq_true_eq] at h
  obtain ⟨⟨⟨⟨⟨h1, h2⟩, h3⟩, h4⟩, h5⟩, h6⟩ := h
  have hr : ∀ j ∈ Region.ready .any ops (marks k n (marks n 0 (Array.replicate ops.size false))), j = k + n := by
    intro j hj
    cases m with
    | zero =>
      simp only [forcedB, List.isEmpty_iff] at h6
      rw [h6] at hj
      cases hj
    | succ m =>
      simp only [forcedB, Bool.and_eq_true, decide_eq_true_eq] at h6
      rw [h6.1] at hj
      simpa using hj
  simp only [tailB, Bool.and_eq_true, decide_eq_true_eq]
  refine ⟨⟨⟨⟨h1, headB_of h3 n ops.toList 0 _ Inv.start rfl h2⟩, h4⟩, ?_⟩, h6⟩
  unfold sinksB
  rw [List.all_eq_true]
  intro j hj
  have hjk := hr j hj
  subst hjk
  obtain ⟨_, o, ho, _⟩ := mem_ready.1 hj
  unfold sinksD at h5
  rw [ho] at h5
  simp only [List.all_eq_true, List.mem_range] at h5 ⊢
  intro i hi
  have hz : 0 < ops.size := Nat.lt_of_le_of_lt (Nat.zero_le _) (Array.getElem?_eq_some_iff.1 ho).1
  obtain ⟨g, hg⟩ : ∃ g, ops.size = g + 1 := ⟨ops.size - 1, by omega⟩
  have h7 := h5 i hi
  simp only [Bool.or_eq_true] at h7
  rcases h7 with h7 | h7
  · rw [hg]
    exact waitsT_edge ho h7
  · exact waitsT_mono (Nat.min_le_right _ _) h7
end
theorem f_tail {P : Program} {ops : Array Oper} {Q : Exit → Act → World → Prop} {T : List Oper} {N : Nat} {E : List (Nat × Value)} {w : World} (h : ∀ w', Up w w' → lF P ops Q T N E w') :
    bF P ops (Up w) (fun a' => ∀ w', Up w w' → wpList P ops Q T a' w') [] N E := fun a ha => wpB_nil fun w' hw' => h w' hw' a ha
section
variable {P : Program} {ops : Array Oper} {Q : Exit → Act → World → Prop} {N : Nat} {E : List (Nat × Value)} {w : World} {o : Oper} {rest : List Oper} {k : Nat}
theorem l_nil (h : kF (Q .normal) N E w) : lF P ops Q [] N E w := fun a ha => wpl_nil (h a ha)
/-- One operation that hands back a value, whatever becomes of the world. -/
theorem l_val {w' : World} (v : Value) (hg : o.guard = none) (hd : o.dst = some k) (hk : Nat.blt k N = true) (h : ∀ a, Fr N E a → (execOp a.eval o).run P w = .ok (.value v) w') (hn : lF P ops Q rest N ((k, v) :: E) w') : lF P ops Q (o :: rest) N E w := fun a ha => by
  have h1 := h a ha
  have h2 := hn _ (ha.put hk v)
  unfold wpList
  rw [if_pos (by simp [Region.wanted, hg])]
  refine .inl ?_
  unfold Oper.wp
  rw [h1]
  simp only [Oper.upon, hd]
  exact h2
theorem l_move {x : Operand} (v : Value) (hg : o.guard = none) (hd : o.dst = some k) (hk : Nat.blt k N = true) (ho : o.op = .move x) (hx : ev E x = some v) (hn : lF P ops Q rest N ((k, v) :: E) w) : lF P ops Q (o :: rest) N E w :=
  l_val v hg hd hk (fun a ha => by
    have h1 := ha.eval hx
    unfold execOp
    simp only [ho, h1, Sem.run_pure]) hn
theorem l_assign {x : Operand} (v : Value) (hg : o.guard = none) (hd : o.dst = some k) (hk : Nat.blt k N = true) (ho : o.op = .assign x) (hx : ev E x = some v) (hn : lF P ops Q rest N ((k, v) :: E) w) : lF P ops Q (o :: rest) N E w :=
  l_val v hg hd hk (fun a ha => by
    have h1 := ha.eval hx
    unfold execOp
    simp only [ho, h1, Sem.run_pure]) hn
end
theorem calls_still {f : FuncId} {args : Array Value} {v : Value} {w : World} (h : Calls Tryd.prog f args w fun e w' => e = .returned v ∧ w' = w) : Calls Tryd.prog f args w fun e w' => e = .returned v ∧ Below w.heap.size w w' :=
  h.mono fun _ _ ⟨h1, h2⟩ => ⟨h1, by rw [h2]; exact Below.refl _ _⟩
end Go.Proofs.YtlaikmpnijlcbaaDoor
/-
  NEW VARIABLES OVER FRAMES BY WHAT IS KNOWN OF THEM: 'x, y, .. := .., ..', as many as there are, in whatever order they come.
-/
namespace Go.Proofs.YtlaikmpnijlcbaaDoor
open Go.RowKit Go.IntWalk

/-- A new variable: its slot, its type, its noughts. -/
structure NV where
  t : Nat
  ty : TypeId
  zs : Array Value

section
variable {P : Program} {N : Nat}
def nvOne (P : Program) (N : Nat) (o : Oper) (v : NV) : Prop := o.guard = none ∧ o.dst = some v.t ∧ Nat.blt v.t N = true ∧ o.op = .alloc v.ty ∧ (P.info? v.ty).bind (fun i => i.zero.map (·.cells)) = some v.zs
def nvOk (P : Program) (N : Nat) : List Oper → List NV → Prop
  | _, [] => True
  | [], _ :: _ => False
  | o :: l, v :: vs => nvOne P N o v ∧ nvOk P N l vs
theorem nvOk_get : ∀ {l : List Oper} {vs : List NV}, nvOk P N l vs → ∀ (j : Nat) (v : NV), vs[j]? = some v → ∃ o : Oper, l[j]? = some o ∧ nvOne P N o v
  | _, [], _, j, v, hv => by simp at hv
  | [], _ :: _, h, _, _, _ => h.elim
  | o :: l, v0 :: vs, h, 0, v, hv => by
    simp only [List.getElem?_cons_zero, Option.some.injEq] at hv
    subst hv
    exact ⟨o, rfl, h.1⟩
  | o :: l, v0 :: vs, h, j + 1, v, hv => by
    simp only [List.getElem?_cons_succ] at hv
    obtain ⟨o', h1, h2⟩ := nvOk_get h.2 j v hv
    exact ⟨o', by simpa using h1, h2⟩
end

def ptrs : List NV → Nat → (Nat → Nat) → List (Nat × Value) → List (Nat × Value)
  | [], _, _, E => E
  | v :: vs, j, gs, E => (v.t, .pointer (some ⟨gs j, 0, none⟩)) :: ptrs vs (j + 1) gs E
def far (E : List (Nat × Value)) : List NV → Prop
  | [] => True
  | v :: vs => look E v.t = none ∧ far E vs
theorem far_cons {E : List (Nat × Value)} {k : Nat} {x : Value} : ∀ {vs : List NV}, (∀ v ∈ vs, k ≠ v.t) → far E vs → far ((k, x) :: E) vs
  | [], _, _ => trivial
  | v :: vs, h, hE => ⟨by rw [look_cons, if_neg (h v (by simp))]; exact hE.1, far_cons (fun u hu => h u (by simp [hu])) hE.2⟩
theorem far_mem {E : List (Nat × Value)} : ∀ {vs : List NV}, far E vs → ∀ (j : Nat) (v : NV), vs[j]? = some v → look E v.t = none
  | [], _, j, v, hv => by simp at hv
  | v0 :: vs, h, 0, v, hv => by
    simp only [List.getElem?_cons_zero, Option.some.injEq] at hv
    subst hv
    exact h.1
  | v0 :: vs, h, j + 1, v, hv => far_mem h.2 j v (by simpa using hv)

section
variable {N : Nat} {E : List (Nat × Value)} {a : Act}
theorem Fr.putFar (h : Fr N E a) {k : Nat} (hk : look E k = none) (v : Value) : Fr N E (a.put (some k) v) := by
  refine ⟨by simp [Act.put, h.size], h.defers, fun j u hj => ?_⟩
  have e : k ≠ j := by
    rintro rfl
    rw [hk] at hj
    cases hj
  have h1 := h.get j u hj
  simp only [Act.put, Act.eval, Array.getD_eq_getD_getElem?] at h1 ⊢
  rw [Array.getElem?_setIfInBounds_ne (by omega)]
  exact h1
theorem Fr.more (h : Fr N E a) {k : Nat} {v : Value} (hv : a.eval (.tmp k) = v) : Fr N ((k, v) :: E) a := by
  refine ⟨h.size, h.defers, fun j u hj => ?_⟩
  rw [look_cons] at hj
  by_cases e : k = j
  · subst e
    rw [if_pos rfl] at hj
    cases hj
    exact hv
  · rw [if_neg e] at hj
    exact h.get j u hj
theorem Fr.tail {k : Nat} {v : Value} (h : Fr N ((k, v) :: E) a) (hk : look E k = none) : Fr N E a := by
  refine ⟨h.size, h.defers, fun j u hj => h.get j u ?_⟩
  rw [look_cons, if_neg]
  · exact hj
  · rintro rfl
    rw [hk] at hj
    cases hj
theorem eval_put_same (h : Fr N E a) {k : Nat} (hk : Nat.blt k N = true) (v : Value) : (a.put (some k) v).eval (.tmp k) = v := (h.put hk v).get k v (by rw [look_cons, if_pos rfl])
theorem eval_put_ne {k j : Nat} (hk : k ≠ j) (v : Value) : (a.put (some k) v).eval (.tmp j) = a.eval (.tmp j) := by
  simp only [Act.put, Act.eval, Array.getD_eq_getD_getElem?]
  rw [Array.getElem?_setIfInBounds_ne (by omega)]
theorem Fr.ptrs (h : Fr N E a) (gs : Nat → Nat) : ∀ (vs : List NV) (j0 : Nat), (∀ (j : Nat) (v : NV), vs[j]? = some v → a.eval (.tmp v.t) = .pointer (some ⟨gs (j0 + j), 0, none⟩)) → Fr N (ptrs vs j0 gs E) a
  | [], _, _ => h
  | v :: vs, j0, hv => by
    refine Fr.more (Fr.ptrs h gs vs (j0 + 1) fun j u hu => ?_) (hv 0 v rfl)
    have := hv (j + 1) u (by simpa using hu)
    rwa [← Nat.add_assoc, Nat.add_right_comm] at this
end

/-- Which variables are left (numbers from n on) are just what may come next, in whatever order they come. -/
def newC (ops : Array Oper) (n : Nat) (lend : Array Bool) : Nat → List Nat → Array Bool → Bool
  | 0, _, listed => decide (listed = lend)
  | f + 1, rem, listed => decide (Region.ready .any ops listed = rem.map (n + ·)) && rem.all fun j => newC ops n lend f (rem.erase j) (listed.setIfInBounds (n + j) true)

def tsApart : List NV → Bool
  | [] => true
  | v :: vs => (vs.all fun u => !(v.t == u.t)) && tsApart vs
theorem tsApart_lt : ∀ {vs : List NV}, tsApart vs = true → ∀ (i j : Nat) (vi vj : NV), i < j → vs[i]? = some vi → vs[j]? = some vj → vi.t ≠ vj.t
  | [], _, i, j, vi, vj, _, hi, _ => by simp at hi
  | v :: vs, h, 0, j + 1, vi, vj, _, hi, hj => by
    simp only [tsApart, Bool.and_eq_true, List.all_eq_true] at h
    simp only [List.getElem?_cons_zero, Option.some.injEq, List.getElem?_cons_succ] at hi hj
    subst hi
    have := h.1 vj (List.mem_of_getElem? hj)
    simpa using this
  | v :: vs, h, i + 1, j + 1, vi, vj, hij, hi, hj => by
    simp only [tsApart, Bool.and_eq_true] at h
    exact tsApart_lt h.2 i j vi vj (by omega) (by simpa using hi) (by simpa using hj)
theorem tsApart_ne {vs : List NV} (h : tsApart vs = true) {i j : Nat} {vi vj : NV} (hij : i ≠ j) (hi : vs[i]? = some vi) (hj : vs[j]? = some vj) : vi.t ≠ vj.t := by
  rcases Nat.lt_or_gt_of_ne hij with h1 | h1
  · exact tsApart_lt h i j vi vj h1 hi hj
  · exact (tsApart_lt h j i vj vi h1 hj hi).symm

section
variable {P : Program} {Q : Exit → Act → World → Prop} {N : Nat} {E : List (Nat × Value)} {w : World}
/-- What is asked where the variables have come. -/
def newEnd (P : Program) (ops : Array Oper) (Q : Exit → Act → World → Prop) (w : World) (vs : List NV) (T : List Oper) (N : Nat) (E : List (Nat × Value)) : Prop :=
  ∀ gs w', (∀ j, j < vs.length → w.heap.size ≤ gs j) → (∀ i j, i < vs.length → j < vs.length → i ≠ j → gs i ≠ gs j) → Up w w' → (∀ (j : Nat) (v : NV), vs[j]? = some v → Blk w' (gs j) v.ty v.zs) → lF P ops Q T N (ptrs vs 0 gs E) w'
def newPost (P : Program) (ops : Array Oper) (Q : Exit → Act → World → Prop) (w : World) (vs : List NV) (T : List Oper) (N : Nat) (a' : Act) : Prop :=
  ∃ E', Fr N E' a' ∧ far E' vs ∧ newEnd P ops Q w vs T N E'

theorem news_any {ops : Array Oper} {n m M : Nat} {lend : Array Bool} (vs : List NV) (hap : tsApart vs = true) (hnv : ∀ j v, vs[j]? = some v → ∃ o, ops[n + j]? = some o ∧ nvOne P N o v) (hE : far E vs)
    (fin : ∀ gs w0 a, Up w w0 → Fr N (ptrs vs 0 gs E) a → (∀ j, j < vs.length → w.heap.size ≤ gs j) → (∀ i j, i < vs.length → j < vs.length → i ≠ j → gs i ≠ gs j) → (∀ (j : Nat) (v : NV), vs[j]? = some v → Blk w0 (gs j) v.ty v.zs) →
      wpAnyU P .any ops (Up w) Q M m 0 w0 lend a) :
    ∀ (f : Nat) (rem : List Nat) (listed : Array Bool) (w0 : World) (a : Act) (gs : Nat → Nat), newC ops n lend f rem listed = true → rem.Nodup → f = rem.length → (∀ j ∈ rem, j < vs.length) → Up w w0 → Fr N E a →
      (∀ (j : Nat) (v : NV), j ∉ rem → vs[j]? = some v → w.heap.size ≤ gs j ∧ Blk w0 (gs j) v.ty v.zs ∧ a.eval (.tmp v.t) = .pointer (some ⟨gs j, 0, none⟩)) →
      (∀ i j, i < vs.length → j < vs.length → i ∉ rem → j ∉ rem → i ≠ j → gs i ≠ gs j) → wpAnyU P .any ops (Up w) Q M m f w0 listed a
  | 0, rem, listed, w0, a, gs, hc, _, hf, _, hU, hF, hd, hg => by
    obtain rfl : rem = [] := List.eq_nil_of_length_eq_zero hf.symm
    simp only [newC, decide_eq_true_eq] at hc
    subst hc
    refine fin gs w0 a hU (hF.ptrs gs vs 0 fun j v hv => ?_) (fun j hj => ?_) (fun i j hi hj hij => hg i j hi hj (by simp) (by simp) hij) (fun j v hv => (hd j v (by simp) hv).2.1)
    · rw [Nat.zero_add]
      exact (hd j v (by simp) hv).2.2
    · exact (hd j vs[j] (by simp) (List.getElem?_eq_getElem hj)).1
  | f + 1, rem, listed, w0, a, gs, hc, hnd, hf, hlt, hU, hF, hd, hg => by
    simp only [newC, Bool.and_eq_true, decide_eq_true_eq, List.all_eq_true] at hc
    obtain ⟨hr, hc⟩ := hc
    refine ⟨?_, fun i hi => ?_⟩
    · rw [hr]
      cases rem with
      | nil => cases hf
      | cons j rem => exact List.cons_ne_nil _ _
    · rw [hr] at hi
      obtain ⟨j, hj, rfl⟩ := List.mem_map.1 hi
      have hjl := hlt j hj
      have hv : vs[j]? = some vs[j] := List.getElem?_eq_getElem hjl
      generalize vs[j] = v at hv
      obtain ⟨o, ho, hgd, hds, hb, hop, hz⟩ := hnv j v hv
      refine wpAnyU_new (base := w.heap.size) ho hgd (exec_alloc hop hz) (fun _ _ h k => h.step k) (fun _ h => h.size) hU fun w1 hw1 hC1 hp => ?_
      rw [hds]
      have hfar := far_mem hE j v hv
      have hal := (Below.refl w1.heap.size w1).alloc (Nat.le_refl _) (.cells v.zs v.ty)
      have hem : ∀ i, i ∉ rem.erase j → i = j ∨ i ∉ rem := fun i hi => by
        by_cases e : i = j
        · exact .inl e
        · exact .inr fun hm => hi ((List.mem_erase_of_ne e).2 hm)
      refine news_any vs hap hnv hE fin f (rem.erase j) _ _ _ (fun i => if i = j then w1.heap.size else gs i) (hc j hj) (hnd.erase j) (by rw [List.length_erase_of_mem hj]; omega) (fun i hi => hlt i (List.mem_of_mem_erase hi)) (hC1.step hal) (hF.putFar hfar _) ?_ ?_
      · intro i u hi hu
        by_cases e : i = j
        · subst e
          obtain rfl : u = v := Option.some.inj (hu.symm.trans hv)
          rw [if_pos rfl]
          exact ⟨hp, Blk.new w1 _ _, eval_put_same hF hb _⟩
        · rw [if_neg e]
          obtain ⟨h1, h2, h3⟩ := hd i u ((hem i hi).resolve_left e) hu
          exact ⟨h1, (h2.later hw1).later hal, by rw [eval_put_ne (tsApart_ne hap (Ne.symm e) hv hu)]; exact h3⟩
      · intro i k hi hk hir hkr hik
        have hlt1 : ∀ i, i < vs.length → i ∉ rem → gs i < w1.heap.size := fun i hi hir => ((hd i vs[i] hir (List.getElem?_eq_getElem hi)).2.1.later hw1).lt
        by_cases e : i = j
        · rw [if_pos e, if_neg (fun h => hik (e.trans h.symm))]
          have := hlt1 k hk ((hem k hkr).resolve_left (fun h => hik (e.trans h.symm)))
          omega
        · rw [if_neg e]
          by_cases e2 : k = j
          · rw [if_pos e2]
            have := hlt1 i hi ((hem i hir).resolve_left e)
            omega
          · rw [if_neg e2]
            exact hg i k hi hk ((hem i hir).resolve_left e) ((hem k hkr).resolve_left e2) hik

/-- **New variables**: n operations may be taken first; the variables come when they come; then the rest, in its order. -/
theorem c_new {id : Nat} {l : List Oper} (n : Nat) (vs : List NV) (hn : n + vs.length ≤ l.length) (hap : tsApart vs = true) (hnv : nvOk P N (l.drop n) vs) (hm : P.follows .mixedOrders = true)
    (hB : tailB l.toArray n vs.length (l.drop (n + vs.length)).length = true)
    (hC : newC l.toArray n (marks vs.length n (marks n 0 (Array.replicate l.toArray.size false))) vs.length (List.range vs.length) (marks n 0 (Array.replicate l.toArray.size false)) = true)
    (hQ : ∀ c a d v w, Q (.panic c) (a.put d v) w → Q (.panic c) a w)
    (h : bF P l.toArray (Up w) (newPost P l.toArray Q w vs (l.drop (n + vs.length)) N) (l.take n) N E) : cF P (.region id l.toArray true) Q N E w := fun a ha => by
  simp only [tailB, Bool.and_eq_true, decide_eq_true_eq] at hB
  obtain ⟨⟨⟨⟨hs, hh⟩, hz⟩, hsk⟩, hf⟩ := hB
  have hL : (l.take n).length = n := by rw [List.length_take]; omega
  refine wp_region_any hm ?_
  have hT : ∀ j, j < (l.drop (n + vs.length)).length → (l.drop (n + vs.length))[j]? = l.toArray[vs.length + n + j]? := fun j _ => by
    simp only [List.getElem?_drop, List.getElem?_toArray]
    congr 1
    omega
  have hG : wpAnyU P .any l.toArray (Up w) Q (vs.length + n) (l.drop (n + vs.length)).length (vs.length + (l.take n).length) w.drew (Array.replicate l.toArray.size false) a := by
    refine wpAnyU_head (fun _ _ h k => h.step k) hs hQ vs.length w.drew (Up.drew w) (l.take n) 0 _ a (Closed.none _) (by omega) (fun j hj => ?_) (by rw [hL]; exact hh) ?_
    · rw [hL] at hj
      simp [hj]
    rw [hL]
    refine wpB_mono (fun a' h' => ?_) _ a (h a ha)
    obtain ⟨E', hF, hE, hk⟩ := h'
    refine news_any (E := E') (w := w) vs hap (fun j v hv => ?_) hE (fun gs w0 a hU hF hb hd hB => ⟨fun j hj i hi => ?_, fun w' hw' => ?_⟩) vs.length (List.range vs.length) _ w.drew a' (fun _ => 0) hC List.nodup_range (by simp) (fun j hj => by simpa using hj) (Up.drew w) hF ?_ ?_
    · obtain ⟨o, h1, h2⟩ := nvOk_get hnv j v hv
      exact ⟨o, by simpa using h1, h2⟩
    · have h1 := List.all_eq_true.1 hsk j hj
      exact List.all_eq_true.1 h1 i (List.mem_range.2 hi)
    · exact wpAny_forced _ (vs.length + n) _ _ w' hT hf (hk gs w' hb hd (hU.step hw') (fun j v hv => (hB j v hv).later hw') a hF)
    · intro j v hj hv
      exact absurd (List.mem_range.2 (List.getElem?_eq_some_iff.1 hv).1) hj
    · intro i j hi hj h1
      exact absurd (List.mem_range.2 hi) h1
  have h2 := wpAny_of_U (vs.length + (l.take n).length) _ a w.drew hG
  rw [hL] at h2
  have e : l.toArray.size = (l.drop (n + vs.length)).length + (vs.length + n) := by rw [hz, Nat.add_assoc]
  rw [← e] at h2
  exact h2

/-- The same in the text's order. -/
theorem l_news {ops : Array Oper} {T : List Oper} : ∀ (vs : List NV) (l : List Oper) (j0 : Nat) (gs : Nat → Nat) (w : World) (E : List (Nat × Value)), nvOk P N l vs → l.drop vs.length = T →
    (∀ (gs' : Nat → Nat) (w' : World), (∀ j, j < j0 → gs' j = gs j) → (∀ j, j < vs.length → w.heap.size ≤ gs' (j0 + j)) → (∀ i j, i < vs.length → j < vs.length → i ≠ j → gs' (j0 + i) ≠ gs' (j0 + j)) → Up w w' → (∀ (j : Nat) (v : NV), vs[j]? = some v → Blk w' (gs' (j0 + j)) v.ty v.zs) →
      ∀ a, Fr N E a → (∀ (j : Nat) (v : NV), vs[j]? = some v → a.eval (.tmp v.t) = .pointer (some ⟨gs' (j0 + j), 0, none⟩)) → wpList P ops Q T a w') →
    far E vs → tsApart vs = true → ∀ a, Fr N E a → wpList P ops Q l a w
  | [], l, j0, gs, w, E, _, hT, h, _, _, a, ha => by
    obtain rfl : l = T := by simpa using hT
    exact h gs w (fun _ _ => rfl) (fun _ h => absurd h (by simp)) (fun _ _ h => absurd h (by simp)) (Up.refl w) (fun _ _ h => by simp at h) a ha (fun _ _ h => by simp at h)
  | _ :: _, [], _, _, _, _, hnv, _, _, _, _, _, _ => hnv.elim
  | v :: vs, o :: l, j0, gs, w, E, hnv, hT, h, hE, hap, a, ha => by
    obtain ⟨⟨hgd, hds, hb, hop, hz⟩, hnv⟩ := hnv
    have hap' : tsApart vs = true := by
      simp only [tsApart, Bool.and_eq_true] at hap
      exact hap.2
    refine wpl_alloc hgd hop hz ?_
    rw [hds]
    have hF := ha.putFar hE.1 (.pointer (some ⟨w.heap.size, 0, none⟩))
    have hal := (Below.refl w.heap.size w).alloc (Nat.le_refl _) (.cells v.zs v.ty)
    refine l_news (T := T) vs l (j0 + 1) (fun j => if j = j0 then w.heap.size else gs j) _ ((v.t, .pointer (some ⟨w.heap.size, 0, none⟩)) :: E) hnv (by simpa using hT) (fun gs' w' hg hge hd hU hB a' ha' hp => ?_) ?_ hap' _ (ha.put hb _)
    · have hsz : (w.alloc (.cells v.zs v.ty)).heap.size = w.heap.size + 1 := World.size_alloc _ _
      rw [hsz] at hge
      have e0 : gs' j0 = w.heap.size := by rw [hg j0 (by omega), if_pos rfl]
      refine h gs' w' (fun j hj => by rw [hg j (by omega), if_neg (by omega)]) (fun j hj => ?_) (fun i j hi hj hij => ?_) ((Up.refl w).alloc _ |>.step hU) (fun j u hu => ?_) a' (ha'.tail hE.1) (fun j u hu => ?_)
      · cases j with
        | zero => rw [Nat.add_zero, e0]; exact Nat.le_refl _
        | succ j =>
          have := hge j (by simpa using hj)
          rw [Nat.add_right_comm] at this
          rw [← Nat.add_assoc]
          omega
      · have hge' : ∀ j, j < vs.length → w.heap.size + 1 ≤ gs' (j0 + (j + 1)) := fun j hj => by
          have := hge j hj
          rw [Nat.add_right_comm, Nat.add_assoc] at this
          exact this
        cases i with
        | zero =>
          cases j with
          | zero => exact absurd rfl hij
          | succ j =>
            have := hge' j (by simpa using hj)
            have e1 : gs' (j0 + 0) = w.heap.size := by rw [Nat.add_zero, e0]
            rw [e1]
            omega
        | succ i =>
          cases j with
          | zero =>
            have := hge' i (by simpa using hi)
            have e1 : gs' (j0 + 0) = w.heap.size := by rw [Nat.add_zero, e0]
            rw [e1]
            omega
          | succ j =>
            have := hd i j (by simpa using hi) (by simpa using hj) (by omega)
            rwa [Nat.add_right_comm, Nat.add_right_comm j0 1 j] at this
      · cases j with
        | zero =>
          simp only [List.getElem?_cons_zero, Option.some.injEq] at hu
          subst hu
          rw [Nat.add_zero, e0]
          exact (Blk.new w _ _).later hU
        | succ j =>
          have := hB j u (by simpa using hu)
          rwa [Nat.add_right_comm] at this
      · cases j with
        | zero =>
          simp only [List.getElem?_cons_zero, Option.some.injEq] at hu
          subst hu
          rw [Nat.add_zero, e0]
          exact ha'.get _ _ (by rw [look_cons, if_pos rfl])
        | succ j =>
          have := hp j u (by simpa using hu)
          rwa [Nat.add_right_comm] at this
    · refine far_cons (fun u hu => ?_) hE.2
      simp only [tsApart, Bool.and_eq_true, List.all_eq_true] at hap
      have := hap.1 u hu
      simpa using this
theorem c_newF {id : Nat} {l : List Oper} (n : Nat) (vs : List NV) (hap : tsApart vs = true) (hnv : nvOk P N (l.drop n) vs)
    (h : bF P l.toArray (Up w) (newPost P l.toArray Q w vs (l.drop (n + vs.length)) N) (l.take n) N E) : cF P (.region id l.toArray false) Q N E w := fun a ha => by
  refine reg_tailF n (wpB_mono (fun a' h' w' hw' => ?_) _ _ (h a ha))
  obtain ⟨E', hF, hE, hk⟩ := h'
  refine l_news vs (l.drop n) 0 (fun _ => 0) w' E' hnv (by rw [List.drop_drop]) (fun gs w2 _ hge hd hU hB a2 ha2 hp => ?_) hE hap a' hF
  simp only [Nat.zero_add] at hge hd hB hp
  exact hk gs w2 (fun j hj => Nat.le_trans hw'.size (hge j hj)) hd (hw'.step hU) hB a2 (ha2.ptrs gs vs 0 (by simpa using hp))

/-! ### What they hold at first -/
def stOk : List NV → List Operand → List Oper → List Oper → Prop
  | [], [], T, T' => T = T'
  | v :: vs, x :: xs, o :: T, T' => (o.guard = none ∧ o.dst = none ∧ o.op = .store v.ty (.tmp v.t) x) ∧ stOk vs xs T T'
  | _, _, _, _ => False
def valOk (P : Program) (E : List (Nat × Value)) : List NV → List Operand → List (Array Value) → Prop
  | [], [], [] => True
  | v :: vs, x :: xs, c :: cs => (ev E x = some (.agg c) ∧ v.zs.size = c.size ∧ (P.info? v.ty).map (·.size) = some c.size ∧ ∀ u ∈ c.toList, u.oneCell' = true) ∧ valOk P E vs xs cs
  | _, _, _ => False
def blks (w : World) : List NV → List (Array Value) → Nat → (Nat → Nat) → Prop
  | v :: vs, c :: cs, j, gs => Blk w (gs j) v.ty c ∧ blks w vs cs (j + 1) gs
  | _, _, _, _ => True
theorem blks_row {w : World} {gs : Nat → Nat} {g : Nat} (c : Array Value) : ∀ (vs : List NV) (cs : List (Array Value)) (j : Nat), (∀ i, i < vs.length → gs (j + i) ≠ g) → blks w vs cs j gs → blks (w.setRow g c) vs cs j gs
  | [], _, _, _, _ => by unfold blks; trivial
  | _ :: _, [], _, _, _ => by unfold blks; trivial
  | v :: vs, c0 :: cs, j, hg, h => ⟨h.1.rowFar (hg 0 (by simp)) _, blks_row c vs cs (j + 1) (fun i hi => by have := hg (i + 1) (by simpa using hi); rwa [← Nat.add_assoc, Nat.add_right_comm] at this) h.2⟩
theorem l_stores {ops : Array Oper} {T' : List Oper} {W : World} {gs : Nat → Nat} : ∀ (vs : List NV) (xs : List Operand) (cs : List (Array Value)) (T : List Oper) (j0 : Nat) (w : World), stOk vs xs T T' → valOk P E vs xs cs →
    (∀ (j : Nat) (v : NV), vs[j]? = some v → look E v.t = some (.pointer (some ⟨gs (j0 + j), 0, none⟩))) → (∀ j, j < vs.length → W.heap.size ≤ gs (j0 + j)) → (∀ i j, i < vs.length → j < vs.length → i ≠ j → gs (j0 + i) ≠ gs (j0 + j)) → Up W w → (∀ (j : Nat) (v : NV), vs[j]? = some v → Blk w (gs (j0 + j)) v.ty v.zs) →
    (∀ w', Up W w' → (∀ g t c, (∀ j, j < vs.length → gs (j0 + j) ≠ g) → Blk w g t c → Blk w' g t c) → blks w' vs cs j0 gs → lF P ops Q T' N E w') → lF P ops Q T N E w
  | [], xs, cs, T, j0, w, hst, hv, _, _, _, hU, _, h => by
    cases xs with
    | cons => exact hst.elim
    | nil =>
      obtain rfl : T = T' := hst
      exact h w hU (fun _ _ _ _ h => h) (by unfold blks; trivial)
  | v :: vs, xs, cs, T, j0, w, hst, hv, hl, hge, hd, hU, hB, h => by
    cases xs with
    | nil => exact hst.elim
    | cons x xs =>
      cases T with
      | nil => exact hst.elim
      | cons o T =>
        cases cs with
        | nil => exact hv.elim
        | cons c cs =>
          obtain ⟨⟨hgd, hds, hop⟩, hst⟩ := hst
          obtain ⟨⟨hx, hz, hi, ho⟩, hv⟩ := hv
          intro a ha
          have h0 := hB 0 v rfl
          have hd0 : ∀ j, j < vs.length → gs (j0 + 1 + j) ≠ gs j0 := fun j hj => by
            have := hd (j + 1) 0 (by simpa using hj) (by simp) (by omega)
            rwa [← Nat.add_assoc, Nat.add_right_comm, Nat.add_zero] at this
          rw [Nat.add_zero] at h0
          refine wpList_store_row hgd v.ty (.tmp v.t) x hop (gs j0) (ha.get _ _ (hl 0 v rfl)) c (ha.eval hx) v.ty v.zs h0 hi hz ho ?_
          rw [hds]
          refine l_stores (gs := gs) (W := W) vs xs cs T (j0 + 1) (w.setRow (gs j0) c) hst hv (fun j u hu => ?_) (fun j hj => ?_) (fun i j hi hj hij => ?_) (up_row hU (hge 0 (by simp)) _) (fun j u hu => ?_) (fun w' hU' hK hb => ?_) a ha
          · have := hl (j + 1) u (by simpa using hu)
            rwa [← Nat.add_assoc, Nat.add_right_comm] at this
          · have := hge (j + 1) (by simpa using hj)
            rwa [← Nat.add_assoc, Nat.add_right_comm] at this
          · have := hd (i + 1) (j + 1) (by simpa using hi) (by simpa using hj) (by omega)
            rwa [← Nat.add_assoc, ← Nat.add_assoc, Nat.add_right_comm, Nat.add_right_comm j0 j 1] at this
          · have := hB (j + 1) u (by simpa using hu)
            rw [← Nat.add_assoc, Nat.add_right_comm] at this
            exact this.rowFar (hd0 j (List.getElem?_eq_some_iff.1 hu).1) _
          · refine h w' hU' (fun g t c' hg hb' => hK g t c' (fun j hj => ?_) (hb'.rowFar (Ne.symm (by have := hg 0 (by simp); rwa [Nat.add_zero] at this)) _)) ⟨hK _ _ _ hd0 (h0.row _), hb⟩
            have := hg (j + 1) (by simpa using hj)
            rwa [← Nat.add_assoc, Nat.add_right_comm] at this
theorem look_ptrs {gs : Nat → Nat} {E : List (Nat × Value)} {k : Nat} : ∀ (vs : List NV) (j0 : Nat), (∀ v ∈ vs, v.t ≠ k) → look (ptrs vs j0 gs E) k = look E k
  | [], _, _ => rfl
  | v :: vs, j0, h => by
    rw [ptrs, look_cons, if_neg (h v (by simp))]
    exact look_ptrs vs (j0 + 1) fun u hu => h u (by simp [hu])
theorem look_ptr {gs : Nat → Nat} {E : List (Nat × Value)} : ∀ (vs : List NV) (j0 : Nat), tsApart vs = true → ∀ (j : Nat) (v : NV), vs[j]? = some v → look (ptrs vs j0 gs E) v.t = some (.pointer (some ⟨gs (j0 + j), 0, none⟩))
  | [], _, _, _, _, hv => by simp at hv
  | v0 :: vs, j0, hap, 0, v, hv => by
    simp only [List.getElem?_cons_zero, Option.some.injEq] at hv
    subst hv
    rw [ptrs, look_cons, if_pos rfl, Nat.add_zero]
  | v0 :: vs, j0, hap, j + 1, v, hv => by
    have hne : v0.t ≠ v.t := tsApart_ne hap (i := 0) (j := j + 1) (by omega) rfl hv
    simp only [tsApart, Bool.and_eq_true] at hap
    rw [ptrs, look_cons, if_neg hne, look_ptr vs (j0 + 1) hap.2 j v (by simpa using hv), ← Nat.add_assoc, Nat.add_right_comm]
theorem ev_far {gs : Nat → Nat} {E : List (Nat × Value)} {vs : List NV} (hE : far E vs) {x : Operand} {v : Value} (hx : ev E x = some v) : ev (ptrs vs 0 gs E) x = some v := by
  cases x with
  | tmp t =>
    show look (ptrs vs 0 gs E) t = some v
    rw [look_ptrs vs 0 fun u hu => ?_]
    · exact hx
    · rintro rfl
      obtain ⟨j, hj⟩ := List.getElem?_of_mem hu
      have h1 := far_mem hE j u hj
      have h2 : look E u.t = some v := hx
      rw [h1] at h2
      cases h2
  | const u => exact hx
  | global g => exact hx
  | func f => exact hx
theorem valOk_far {gs : Nat → Nat} {E : List (Nat × Value)} {ws : List NV} (hE : far E ws) : ∀ (vs : List NV) (xs : List Operand) (cs : List (Array Value)), valOk P E vs xs cs → valOk P (ptrs ws 0 gs E) vs xs cs
  | [], [], [], _ => trivial
  | _ :: vs, _ :: xs, _ :: cs, h => ⟨⟨ev_far hE h.1.1, h.1.2⟩, valOk_far hE vs xs cs h.2⟩
  | [], [], _ :: _, h => h.elim
  | [], _ :: _, _, h => h.elim
  | _ :: _, [], _, h => h.elim
  | _ :: _, _ :: _, [], h => h.elim
/-- **'x, y, .. := u, v, ..'**, behind the reads and calls. -/
theorem f_new {ops : Array Oper} {vs : List NV} {T T' : List Oper} (xs : List Operand) (cs : List (Array Value)) (hE : far E vs) (hap : tsApart vs = true) (hst : stOk vs xs T T') (hv : valOk P E vs xs cs)
    (h : ∀ gs w', (∀ j, j < vs.length → w.heap.size ≤ gs j) → (∀ i j, i < vs.length → j < vs.length → i ≠ j → gs i ≠ gs j) → Up w w' → blks w' vs cs 0 gs → lF P ops Q T' N (ptrs vs 0 gs E) w') :
    bF P ops (Up w) (newPost P ops Q w vs T N) [] N E := fun a ha => wpB_nil ⟨E, ha, hE, fun gs w' hge hd hU hB => by
  refine l_stores (W := w) (gs := gs) vs xs cs T 0 w' hst (valOk_far hE _ _ _ hv) (fun j v hv => look_ptr vs 0 hap j v hv) (by simpa using hge) (by simpa using hd) hU (by simpa using hB) fun w2 hU2 _ hb => ?_
  exact h gs w2 hge hd hU2 hb⟩
end
end Go.Proofs.YtlaikmpnijlcbaaDoor
/-
  STEPS OVER FRAMES BY WHAT IS KNOWN OF THEM: fields, rows, calls that hand back one of a set, structs put together, new cells.
-/
namespace Go.Proofs.YtlaikmpnijlcbaaDoor
open Go.RowKit Go.IntWalk

section
variable {N : Nat} {E : List (Nat × Value)} {a : Act}
theorem Fr.evals (ha : Fr N E a) : ∀ (l : List Operand) (m : List Value), l.map (ev E) = m.map some → l.map a.eval = m
  | [], [], _ => rfl
  | [], _ :: _, h => by cases h
  | _ :: _, [], h => by cases h
  | y :: l, u :: m, h => by
    simp only [List.map_cons, List.cons.injEq] at h ⊢
    exact ⟨ha.eval h.1, Fr.evals ha l m h.2⟩
theorem Fr.parts (ha : Fr N E a) : ∀ (l : List (Nat × Operand)) (m : List (Nat × Value)), l.map (fun p => (p.1, ev E p.2)) = m.map (fun p => (p.1, some p.2)) → (l.map fun (i, x) => (i, a.eval x)) = m
  | [], [], _ => rfl
  | [], _ :: _, h => by cases h
  | _ :: _, [], h => by cases h
  | y :: l, u :: m, h => by
    simp only [List.map_cons, List.cons.injEq, Prod.mk.injEq] at h ⊢
    refine ⟨?_, Fr.parts ha l m h.2⟩
    rw [ha.eval h.1.2, h.1.1]
end

section
variable {P : Program} {ops : Array Oper} {C0 : World → Prop} {Q : Act → Prop} {N : Nat} {E : List (Nat × Value)} {o : Oper} {rest : List Oper} {k : Nat}
/-- The address of a field. -/
theorem f_fld {s : TypeId} {x : Operand} {f : Nat} (b off off' : Nat) (hg : o.guard = none) (hd : o.dst = some k) (hk : Nat.blt k N = true) (ho : o.op = .fieldAddr s x f) (hx : ev E x = some (.pointer (some ⟨b, off, none⟩)))
    (hr : ∀ w, (Instr.fieldAt s (.pointer (some ⟨b, off, none⟩)) f).run P w = .ok (.pointer (some ⟨b, off', none⟩)) w) (hn : bF P ops C0 Q rest N ((k, .pointer (some ⟨b, off', none⟩)) :: E)) : bF P ops C0 Q (o :: rest) N E :=
  f_val _ hg hd hk (fun a ha w _ => by
    have h1 := ha.eval hx
    unfold execOp
    simp only [ho, h1, Sem.run_bind, hr, Result.andThen_ok, Sem.run_pure]) hn
/-- The address of a part of an array or a slice. -/
theorem f_ix {t : TypeId} {x y : Operand} (p : Value) (i : Int) (q : Addr) (hg : o.guard = none) (hd : o.dst = some k) (hk : Nat.blt k N = true) (ho : o.op = .indexAddr t x y) (hx : ev E x = some p) (hy : ev E y = some (.int .i64 i))
    (hr : ∀ w, (Instr.indexAt t p (.int .i64 i)).run P w = .ok (.pointer (some q)) w) (hn : bF P ops C0 Q rest N ((k, .pointer (some q)) :: E)) : bF P ops C0 Q (o :: rest) N E :=
  f_val _ hg hd hk (fun a ha w _ => by
    have h1 := ha.eval hx
    have h2 := ha.eval hy
    unfold execOp
    simp only [ho, h1, h2, Sem.run_bind, hr, Result.andThen_ok, Sem.run_pure]) hn
/-- A row (or a struct) is read. -/
theorem f_row {ty : TypeId} {x : Operand} (b off : Nat) (cs : List Value) (d : TypeDesc) (hg : o.guard = none) (hd : o.dst = some k) (hk : Nat.blt k N = true) (ho : o.op = .load ty x) (hx : ev E x = some (.pointer (some ⟨b, off, none⟩)))
    (hc : ∀ w, C0 w → w.rangeAt b off cs) (hu : P.underlying ty = some d) (hr : d.isRow = true) (hi : (P.info? ty).map (·.size) = some cs.length)
    (hn : bF P ops C0 Q rest N ((k, .agg cs.toArray) :: E)) : bF P ops C0 Q (o :: rest) N E :=
  f_val _ hg hd hk (fun a ha w hw => by
    have h1 := ha.eval hx
    unfold execOp
    simp only [ho, h1, Instr.loadAt, Instr.sureAddr, Sem.run_bind, Sem.run_pure, Result.andThen_ok, run_loadVar_mid w b off ty cs d (hc w hw) hu hr hi]) hn
theorem f_build {t : TypeId} {parts : Array (Nat × Operand)} (vs : List (Nat × Value)) (cells : Array Value) (hg : o.guard = none) (hd : o.dst = some k) (hk : Nat.blt k N = true) (ho : o.op = .build t parts)
    (hv : parts.toList.map (fun p => (p.1, ev E p.2)) = vs.map (fun p => (p.1, some p.2))) (hb : P.built t vs = some cells) (hn : bF P ops C0 Q rest N ((k, .agg cells) :: E)) : bF P ops C0 Q (o :: rest) N E :=
  f_val _ hg hd hk (fun a ha w _ => by
    have h1 := ha.parts _ _ hv
    unfold execOp
    simp only [ho, Sem.run_bind, run_build w t _ cells (by rw [Array.toList_map, h1]; exact hb), Result.andThen_ok, Sem.run_pure]) hn
theorem f_extract {x : Operand} {i : Nat} {vs : Array Value} (v : Value) (hg : o.guard = none) (hd : o.dst = some k) (hk : Nat.blt k N = true) (ho : o.op = .extract x i) (hx : ev E x = some (.tuple vs)) (hv : vs[i]? = some v)
    (hn : bF P ops C0 Q rest N ((k, v) :: E)) : bF P ops C0 Q (o :: rest) N E :=
  f_val _ hg hd hk (fun a ha w _ => by
    have h1 := ha.eval hx
    unfold execOp
    simp only [ho, h1]
    go_simp) hn
/-- Two rows, by '=='. -/
theorem f_eq {t t' : TypeId} {x y : Operand} {q : Bool} (xs ys : Array Value) (hg : o.guard = none) (hd : o.dst = some k) (hk : Nat.blt k N = true) (ho : o.op = .binOp .eql t x y t') (hx : ev E x = some (.agg xs)) (hy : ev E y = some (.agg ys))
    (ht : P.eqGuardType P.depth t = false) (he : ∀ w, (Op.equalIn 10000 t (.agg xs) (.agg ys)).run P w = .ok q w) (hn : bF P ops C0 Q rest N ((k, .bool q) :: E)) : bF P ops C0 Q (o :: rest) N E :=
  f_val _ hg hd hk (fun a ha w _ => by
    have h1 := ha.eval hx
    have h2 := ha.eval hy
    unfold execOp
    simp only [ho, h1, h2, Sem.run_bind, run_eqGuard_agg (hm := ht), Result.andThen_ok, binOp, Op.equal, Op.maxDepth, he, Sem.run_pure]) hn
end

section
variable {ops : Array Oper} {C0 : World → Prop} {Q : Act → Prop} {N : Nat} {E : List (Nat × Value)} {o : Oper} {rest : List Oper} {k : Nat}
/-- A call that hands back one of a set. -/
theorem f_callV {f : FuncId} {xs : Array Operand} {ats : Array TypeId} (args : Array Value) (V : Value → Prop) (hg : o.guard = none) (hd : o.dst = some k) (hk : Nat.blt k N = true)
    (hf : Own f) (hc : ∀ w, C0 w → Calls Tryd.prog f args w (fun e w' => ∃ v, e = .returned v ∧ V v ∧ Below w.heap.size w w'))
    (ho : o.op = .call { callee := .value (.func f), args := xs, argTypes := ats }) (hx : xs.toList.map (ev E) = args.toList.map some) (hn : ∀ v, V v → bF Tryd.prog ops C0 Q rest N ((k, v) :: E)) : bF Tryd.prog ops C0 Q (o :: rest) N E := fun a ha => by
  refine b_callV (f := f) (args := args) V (by simp [Region.wanted, hg]) hf hc ho (ha.evals _ _ hx) fun v hv => ?_
  rw [hd]
  exact hn v hv _ (ha.put hk v)
end

section
variable {P : Program} {ops : Array Oper} {Q : Exit → Act → World → Prop} {N : Nat} {E : List (Nat × Value)} {w : World} {o : Oper} {rest : List Oper} {k : Nat}
theorem l_box {ty : TypeId} {x : Operand} (cs : Array Value) (hg : o.guard = none) (hd : o.dst = some k) (hk : Nat.blt k N = true) (ho : o.op = .box ty x) (hx : ev E x = some (.agg cs))
    (hn : lF P ops Q rest N ((k, .pointer (some ⟨w.heap.size, 0, none⟩)) :: E) (w.alloc (.cells cs ty))) : lF P ops Q (o :: rest) N E w :=
  l_val _ hg hd hk (fun a ha => by
    have h1 := ha.eval hx
    unfold execOp
    simp only [ho, h1, Sem.run_bind, run_box_agg, Result.andThen_ok, Sem.run_pure]) hn
theorem l_alloc {ty : TypeId} {zs : Array Value} (hg : o.guard = none) (hd : o.dst = some k) (hk : Nat.blt k N = true) (ho : o.op = .alloc ty) (hz : (P.info? ty).bind (fun i => i.zero.map (·.cells)) = some zs)
    (hn : lF P ops Q rest N ((k, .pointer (some ⟨w.heap.size, 0, none⟩)) :: E) (w.alloc (.cells zs ty))) : lF P ops Q (o :: rest) N E w :=
  l_val _ hg hd hk (fun _ _ => exec_alloc ho hz _ w) hn
/-- The same, the world and the address by what is known of them. -/
theorem l_boxA {ty : TypeId} {x : Operand} (cs : Array Value) (hg : o.guard = none) (hd : o.dst = some k) (hk : Nat.blt k N = true) (ho : o.op = .box ty x) (hx : ev E x = some (.agg cs))
    (hn : ∀ W g, Up w W → g = w.heap.size → Blk W g ty cs → lF P ops Q rest N ((k, .pointer (some ⟨g, 0, none⟩)) :: E) W) : lF P ops Q (o :: rest) N E w :=
  l_box cs hg hd hk ho hx (hn _ _ ((Up.refl w).alloc _) rfl (Blk.new w _ _))
theorem l_allocA {ty : TypeId} (zs : Array Value) (hg : o.guard = none) (hd : o.dst = some k) (hk : Nat.blt k N = true) (ho : o.op = .alloc ty) (hz : (P.info? ty).bind (fun i => i.zero.map (·.cells)) = some zs)
    (hn : ∀ W g, Up w W → g = w.heap.size → Blk W g ty zs → lF P ops Q rest N ((k, .pointer (some ⟨g, 0, none⟩)) :: E) W) : lF P ops Q (o :: rest) N E w :=
  l_alloc hg hd hk ho hz (hn _ _ ((Up.refl w).alloc _) rfl (Blk.new w _ _))
/-- The whole of a variable is written. -/
theorem l_set {ty t : TypeId} {p x : Operand} (g : Nat) (old cells : Array Value) (hg : o.guard = none) (hd : o.dst = none) (ho : o.op = .store ty p x) (hp : ev E p = some (.pointer (some ⟨g, 0, none⟩))) (hx : ev E x = some (.agg cells))
    (hb : Blk w g t old) (hi : (P.info? ty).map (·.size) = some cells.size) (hz : old.size = cells.size) (h1 : ∀ v ∈ cells.toList, v.oneCell' = true) (hn : lF P ops Q rest N E (w.setRow g cells)) : lF P ops Q (o :: rest) N E w := fun a ha => by
  refine wpList_store_row hg ty p x ho g (ha.eval hp) cells (ha.eval hx) t old hb hi hz h1 ?_
  rw [hd]
  exact hn a ha
/-- Cells from the middle of a variable on are written. -/
theorem l_mid {ty : TypeId} {p x : Operand} (g off : Nat) (cells : Array Value) (hg : o.guard = none) (hd : o.dst = none) (ho : o.op = .store ty p x) (hp : ev E p = some (.pointer (some ⟨g, off, none⟩))) (hx : ev E x = some (.agg cells))
    (ht : w.there g off cells.size) (hi : (P.info? ty).map (·.size) = some cells.size) (h1 : cells.all (·.oneCell') = true) (hn : lF P ops Q rest N E (w.setCells g off cells.toList)) : lF P ops Q (o :: rest) N E w := fun a ha => by
  refine wpList_store_mid hg ty p x ho g off cells (ha.eval hp) (ha.eval hx) ht hi h1 ?_
  rw [hd]
  exact hn a ha
end
theorem f_eqlI {ops : Array Oper} {C0 : World → Prop} {Q : Act → Prop} {N : Nat} {E : List (Nat × Value)} {o : Oper} {rest : List Oper} {k : Nat} {x y : Operand} {t : TypeId} (m n : Int) (q : Bool) (hg : o.guard = none) (hd : o.dst = some k) (hk : Nat.blt k N = true) (ho : o.op = .binOp .eql 3 x y t) (hx : ev E x = some (.int .i64 m)) (hy : ev E y = some (.int .i64 n))
    (hr : decide (m = n) = q) (hn : bF Tryd.prog ops C0 Q rest N ((k, .bool q) :: E)) : bF Tryd.prog ops C0 Q (o :: rest) N E :=
  f_val _ hg hd hk (fun a ha w _ => by
    have h1 := ha.eval hx
    have h2 := ha.eval hy
    subst hr
    unfold execOp
    simp only [ho, h1, h2]
    by_cases e : m = n <;> go_simp) hn
theorem addI (a b : Nat) (h : a + b < 9223372036854775808) : IntKind.i64.wrap ((a : Int) + (b : Int)) = ((a + b : Nat) : Int) := by rw [i64_left, wrap64_in _ (by omega)]; omega
theorem subI (a b : Nat) (h : b ≤ a) (h2 : a < 9223372036854775808) : IntKind.i64.wrap ((a : Int) - (b : Int)) = ((a - b : Nat) : Int) := by rw [i64_left, wrap64_in _ (by omega)]; omega
/-- The world where cells of block g alone have turned. -/
structure OnlyG (w w' : World) (g : Nat) : Prop where
  size : w'.heap.size = w.heap.size
  blk : ∀ g' t c, g' ≠ g → Blk w g' t c → Blk w' g' t c
  cell : ∀ p : Addr, p.block ≠ g → w'.cell? p = w.cell? p
  up : ∀ w0, w0.heap.size ≤ g → Up w0 w → Up w0 w'
theorem OnlyG.set {w w' : World} {g : Nat} (h : OnlyG w w' g) (k : Nat) (u : Value) : OnlyG w (w'.setCell ⟨g, k, none⟩ u) g where
  size := by rw [← h.size]; simp [World.setCell]
  blk := fun g' t c hg hb => (h.blk g' t c hg hb).far hg u
  cell := fun p hp => by rw [World.cell?_setCell_other _ _ _ _ (fun e => hp (by rw [← e])), h.cell p hp]
  up := fun w0 hg hU => (h.up w0 hg hU).setCell hg u
theorem OnlyG.refl (w : World) (g : Nat) : OnlyG w w g := ⟨rfl, fun _ _ _ _ h => h, fun _ _ => rfl, fun _ _ h => h⟩
theorem setCells_blk {w0 : World} {g t : Nat} : ∀ (U A V Z : List Value) (w : World), Blk w g t (A ++ (V ++ Z)).toArray → V.length = U.length → OnlyG w0 w g → Blk (w.setCells g A.length U) g t (A ++ (U ++ Z)).toArray ∧ OnlyG w0 (w.setCells g A.length U) g
  | [], A, V, Z, w, hb, hl, ho => by
    obtain rfl : V = [] := List.eq_nil_of_length_eq_zero hl
    exact ⟨hb, ho⟩
  | u :: U, A, [], Z, w, hb, hl, ho => by simp at hl
  | u :: U, A, v :: V, Z, w, hb, hl, ho => by
    have h1 := hb.set A.length u
    have e : (A ++ (v :: V ++ Z)).toArray.setIfInBounds A.length u = (A ++ [u] ++ (V ++ Z)).toArray := by simp
    rw [e] at h1
    have h2 := setCells_blk U (A ++ [u]) V Z _ h1 (by simpa using hl) (ho.set A.length u)
    simp only [List.length_append, List.length_cons, List.length_nil, Nat.zero_add, List.append_assoc, List.cons_append, List.nil_append] at h2
    simpa [World.setCells] using h2
theorem there_mid {w : World} {g t : Nat} {A V Z : List Value} (h : Blk w g t (A ++ (V ++ Z)).toArray) : w.there g A.length V.length := fun j hj => by
  refine ⟨?_, h.free _⟩
  rw [h.cell]
  simp only [List.getElem?_toArray]
  rw [List.getElem?_append_right (by omega), Nat.add_sub_cancel_left, List.getElem?_append_left hj, List.getElem?_eq_getElem hj]
  rfl
section
variable {P : Program} {ops : Array Oper} {Q : Exit → Act → World → Prop} {N : Nat} {E : List (Nat × Value)} {w : World} {o : Oper} {rest : List Oper} {k : Nat}
/-- A part of a variable is written. -/
theorem l_midA {ty t : TypeId} {p x : Operand} (g off : Nat) (A V Z U : List Value) (hg : o.guard = none) (hd : o.dst = none) (ho : o.op = .store ty p x) (hp : ev E p = some (.pointer (some ⟨g, off, none⟩))) (hx : ev E x = some (.agg U.toArray))
    (hb : Blk w g t (A ++ (V ++ Z)).toArray) (hoff : off = A.length) (hl : V.length = U.length) (hi : (P.info? ty).map (·.size) = some U.length) (h1 : ∀ v ∈ U, v.oneCell' = true)
    (hn : ∀ W', OnlyG w W' g → Blk W' g t (A ++ (U ++ Z)).toArray → lF P ops Q rest N E W') : lF P ops Q (o :: rest) N E w := by
  subst hoff
  have h2 := setCells_blk U A V Z w hb hl (OnlyG.refl w g)
  exact l_mid g A.length U.toArray hg hd ho hp hx (by have := there_mid hb; rw [hl] at this; simpa using this) (by simpa using hi) (all_oneCell_toArray h1) (by simpa using hn _ h2.2 h2.1)
end
theorem k_then_ret {K : Act → World → Prop} {Q : Exit → Act → World → Prop} {N : Nat} {E : List (Nat × Value)} {w : World} (h : kF (Q .ret) N E w) : kF (Exit.then K Q .ret) N E w := h
/-- 'x = ..', 'return ..' behind the reads and calls. -/
theorem f_set {P : Program} {ops : Array Oper} {Q : Exit → Act → World → Prop} {N : Nat} {E : List (Nat × Value)} {w : World} {o : Oper} {rest : List Oper} {ty t : TypeId} {p x : Operand} (g : Nat) (old cells : Array Value) (hg : o.guard = none) (hd : o.dst = none) (ho : o.op = .store ty p x) (hp : ev E p = some (.pointer (some ⟨g, 0, none⟩))) (hx : ev E x = some (.agg cells))
    (hb : Blk w g t old) (hi : (P.info? ty).map (·.size) = some cells.size) (hz : old.size = cells.size) (h1 : ∀ v ∈ cells.toList, v.oneCell' = true) (hn : ∀ w', Up w w' → Blk (w'.setRow g cells) g t cells → lF P ops Q rest N E (w'.setRow g cells)) :
    bF P ops (Up w) (fun a' => ∀ w', Up w w' → wpList P ops Q (o :: rest) a' w') [] N E :=
  f_tail fun w' hw' => l_set g old cells hg hd ho hp hx (hw'.blk hb) hi hz h1 (hn w' hw' ((hw'.blk hb).row _))
/-- Behind the set of a variable of one's own. -/
theorem up_set {w0 w w' : World} {g t : Nat} {cs : Array Value} (h : Up w0 w) (hw : Up w w') (hg : w0.heap.size ≤ g) (c : Array Value) (_ : Blk w g t cs) : Up w0 (w'.setRow g c) := up_row (h.step hw) hg c
end Go.Proofs.YtlaikmpnijlcbaaDoor
/-
  MAKE AND APPEND OVER FRAMES BY WHAT IS KNOWN OF THEM.
-/
namespace Go.Proofs.YtlaikmpnijlcbaaDoor
open Go.RowKit Go.IntWalk

/-- The slice value '.slice A xs.length c' is the call's own, and holds xs. -/
def GS (w : World) (base e : Nat) (A : Option Addr) (c : Nat) (xs : List Value) : Prop := w.ownsRow base e 1 (.slice A xs.length c) xs.length xs
section
variable {w w' : World} {base e c : Nat} {A : Option Addr} {xs : List Value}
theorem GS.nil (w : World) (base e : Nat) : GS w base e none 0 [] := ⟨rfl, .inl ⟨rfl, rfl⟩⟩
theorem GS.cut (h : GS w base e A c xs) : (A = none ∧ c = 0 ∧ xs = []) ∨ ∃ g, A = some ⟨g, 0, none⟩ ∧ base ≤ g ∧ VL w g xs := by
  rcases h.2 with ⟨h1, h2⟩ | ⟨g, cap, cur, hv, hb, hg, hn, hc, hcs, htk⟩
  · injection h1 with h3 h4 h5
    exact .inl ⟨h3, h5, List.eq_nil_of_length_eq_zero h2⟩
  · injection hv with h3 h4 h5
    have hB : Blk w g e cur := hg
    refine .inr ⟨g, h3, hb, hB.lt, fun j v hj => ?_, fun j _ => hB.free j⟩
    rw [hB.cell j]
    rw [← htk, List.getElem?_take] at hj
    split at hj
    · simpa using hj
    · cases hj
theorem GS.lt (h : GS w base e A c xs) : ∀ k, A.map (·.block) = some k → base ≤ k ∧ k < w.heap.size := fun k hk => by
  rcases h.cut with ⟨h1, _, _⟩ | ⟨g, h1, h2, h3⟩
  · rw [h1] at hk
    cases hk
  · rw [h1] at hk
    cases hk
    exact ⟨h2, h3.lt⟩
theorem GS.keep (h : GS w base e A c xs) (hk : ∀ k, A.map (·.block) = some k → w'.heap[k]? = w.heap[k]?) : GS w' base e A c xs := by
  refine ⟨h.1, ?_⟩
  rcases h.2 with h1 | ⟨g, cap, cur, hv, hb, hg, hr⟩
  · exact .inl h1
  · injection hv with h3 h4 h5
    refine .inr ⟨g, cap, cur, by rw [h3, h5], hb, ?_, hr⟩
    rw [hk g (by rw [h3]; rfl)]
    exact hg
theorem GS.below {B : Nat} (h : GS w base e A c xs) (hb : Below B w w') (hB : w.heap.size ≤ B) : GS w' base e A c xs := h.keep fun k hk => hb.block k (Nat.lt_of_lt_of_le (h.lt k hk).2 hB)
theorem GS.up (h : GS w base e A c xs) (hb : Up w w') : GS w' base e A c xs := h.below hb (Nat.le_refl _)
theorem GS.far (h : GS w base e A c xs) {p : Addr} (hp : A.map (·.block) ≠ some p.block) (u : Value) : GS (w.setCell p u) base e A c xs := h.keep fun k hk => heap_setCell_other w p k u (fun he => hp (by rw [hk, he]))
/-- What an append leaves, seen from the call's first world. -/
theorem GS.grew {W0 : World} (h : GS w base e A c xs) (hbe : Below base W0 w) (hg : w.grownBy w' (A.map (·.block))) (hz : base ≤ w.heap.size) : Below base W0 w' := hbe.grown hg hz fun k hk => (h.lt k hk).1
end

/-- A new block of n zeros. -/
theorem made_zeros (z : Value) (n : Nat) : madeCells #[z] n = (List.replicate n z).toArray := by
  apply Array.ext (by simp [madeCells])
  intro i h1 h2
  simp [madeCells, Nat.mod_one]

section
variable {ops : Array Oper} {Q : Exit → Act → World → Prop} {N : Nat} {E : List (Nat × Value)} {w : World} {o : Oper} {rest : List Oper} {k : Nat}
/-- **make([]T, n)**. -/
theorem l_make {l c : Operand} {t e : TypeId} {K : IntKind} {z : Value} {bytes : Nat} (n : Nat) (hg : o.guard = none) (hd : o.dst = some k) (hk : Nat.blt k N = true) (ho : o.op = .makeSlice t l c) (hl : ev E l = some (.int K (n : Int))) (hc : ev E c = some (.int K (n : Int)))
    (ht : Tryd.prog.underlying t = some (.slice e)) (hi : (Tryd.prog.info? e).map (fun i => (i.zero, i.size, i.bytes)) = some (some z, 1, bytes)) (hz1 : z.cells = #[z]) (hbytes : bytes * n ≤ 281474976710656) (h63 : n ≤ 9223372036854775807)
    (hn : lF Tryd.prog ops Q rest N ((k, .slice (some ⟨w.heap.size, 0, none⟩) n n) :: E) (w.alloc (.cells (List.replicate n z).toArray e))) : lF Tryd.prog ops Q (o :: rest) N E w := by
  obtain ⟨i, hi0, hz0, hs, hb⟩ := info_parts hi
  refine l_val _ hg hd hk (fun a ha => ?_) hn
  have h1 := ha.eval hl
  have h2 := ha.eval hc
  have hr := run_make_row (P := Tryd.prog) t e i z ht hi0 hz0 hs hz1 K K n (by rw [hb]; exact hbytes) h63 w
  rw [made_zeros] at hr
  unfold execOp
  simp only [ho, h1, h2, Sem.run_bind, hr, Result.andThen_ok, Sem.run_pure]
/-- **append(s, x...)**, s the call's own. -/
theorem l_app {s x : Operand} {t e : TypeId} {z : Value} {base bytes c m d : Nat} {A : Option Addr} {xs news : List Value} {ad : Addr} (hg : o.guard = none) (hd : o.dst = some k) (hk : Nat.blt k N = true) (ho : o.op = .call { callee := .builtin .append, args := #[s, x], argTypes := #[t, t] })
    (hs : ev E s = some (.slice A xs.length c)) (hx : ev E x = some (.slice (some ad) m d)) (ht : Tryd.prog.underlying t = some (.slice e)) (hi : (Tryd.prog.info? e).map (fun i => (i.zero, i.size, i.bytes)) = some (some z, 1, bytes)) (hz1 : z.cells.size = 1)
    (hown : GS w base e A c xs) (hm : news.length = m) (hnews : ∀ j u, news[j]? = some u → w.cell? (ad.add j) = some u) (h1 : ∀ u ∈ news, u.oneCell' = true) (hbytes : (xs.length + m) * bytes ≤ 140737488355328) (h63 : xs.length + m ≤ maxLen) (hbase : base ≤ w.heap.size)
    (hn : ∀ A' c' w', GS w' base e A' c' (xs ++ news) → w.grownBy w' (A.map (·.block)) → (A'.map (·.block) = A.map (·.block) ∨ A'.map (·.block) = some w.heap.size) → lF Tryd.prog ops Q rest N ((k, .slice A' (xs ++ news).length c') :: E) w') :
    lF Tryd.prog ops Q (o :: rest) N E w := by
  obtain ⟨i, hi0, hz0, hs0, hb⟩ := info_parts hi
  have hob : ∀ (B : Option Addr) (n m : Nat), (Value.slice B n m).ownBlock = B.map (·.block) := fun B n m => by cases B <;> rfl
  obtain ⟨v', w', hr, ho', hgr, _, hat⟩ := run_append_own_at (P := Tryd.prog) w base t o.type e i z 1 bytes ht hi0 hz0 hs0 hb hz1 (by omega) _ xs.length xs hown ad m d news (by rw [hm, Nat.mul_one]) hnews h1 h63 hbytes hbase
  have hlen : (xs ++ news).length = xs.length + m := by rw [List.length_append, hm]
  rw [← hlen] at ho'
  obtain ⟨A', c', rfl⟩ : ∃ A' c', v' = .slice A' (xs ++ news).length c' := by
    rcases ho'.2 with ⟨h0, hn⟩ | ⟨g, cap, cur, hv, _⟩
    · exact ⟨none, 0, by rw [h0, hn]⟩
    · exact ⟨_, _, hv⟩
  rw [hob] at hgr hat
  rw [hob] at hat
  refine l_val _ hg hd hk (fun a ha => ?_) (hn A' c' w' ho' hgr hat)
  have h2 := ha.eval hs
  have h3 := ha.eval hx
  unfold execOp
  simp only [ho, resolve, invoke, builtin, Sem.run_bind, Sem.run_pure, Result.andThen_ok, List.map_toArray, List.map_cons, List.map_nil, h2, h3, hr]
end

theorem info_word : (Tryd.prog.info? 83).map (fun i => (i.zero, i.size, i.bytes)) = some (some (.int .u64 0), 1, 8) := by kernel_rfl
theorem info_byte : (Tryd.prog.info? 5).map (fun i => (i.zero, i.size, i.bytes)) = some (some (.int .u8 0), 1, 1) := by kernel_rfl
theorem GS.new (w : World) (base e : Nat) (h : base ≤ w.heap.size) : GS (w.alloc (.cells #[] e)) base e (some ⟨w.heap.size, 0, none⟩) 0 [] :=
  ⟨rfl, .inr ⟨w.heap.size, 0, #[], rfl, h, Blk.new w _ _, Nat.le_refl _, Nat.zero_le _, rfl, rfl⟩⟩
end Go.Proofs.YtlaikmpnijlcbaaDoor
/-
  REGIONS: 'copy(a[..], b[..])', where the order of the two slices is drawn.
-/
namespace Go.Proofs.YtlaikmpnijlcbaaDoor
open Go.RowKit Go.IntWalk

/-- l laid over z from place off on. -/
def cop (z : List UInt8) (off : Nat) (l : List UInt8) : List UInt8 := z.take off ++ (l ++ z.drop (off + l.length))
theorem cop_len {z l : List UInt8} {off : Nat} (h : off + l.length ≤ z.length) : (cop z off l).length = z.length := by
  simp [cop]
  omega

/-- What is asked behind the two slices. -/
def copyEnd (Q : Exit → Act → World → Prop) (w : World) (d s : Operand) (dst : Option Tmp) (a' : Act) : Prop :=
  ∃ (g off n c g2 c2 : Nat) (t t2 : TypeId) (z l : List UInt8), a'.eval d = .slice (some ⟨g, off, none⟩) n c ∧ a'.eval s = .slice (some ⟨g2, 0, none⟩) l.length c2 ∧ Blk w g t (By z).toArray ∧ Blk w g2 t2 (By l).toArray ∧ l.length ≤ n ∧ off + l.length ≤ z.length ∧
    ∀ w', Up w w' → Q .normal (a'.put dst (goInt l.length)) (w'.setRow g (By (cop z off l)).toArray)
theorem size_u8 : (Tryd.prog.info? 5).map (·.size) = some 1 := by kernel_rfl
theorem reg_copy {Q : Exit → Act → World → Prop} {id : Nat} {a : Act} {w : World} {l : List Oper} {o : Oper} (n : Nat) (d s : Operand) (hos : l.drop n = [o]) (ho : o.op = .call { callee := .builtin .copy, args := #[d, s], argTypes := #[45, 45] }) (hg : o.guard = none)
    (hB : tailB l.toArray n 0 1 = true) (hQ : ∀ c a d v w, Q (.panic c) (a.put d v) w → Q (.panic c) a w) (hm : Tryd.prog.follows .mixedOrders = true)
    (h : wpB Tryd.prog l.toArray (Up w) (copyEnd Q w d s o.dst) (l.take n) a) : (Code.region id l.toArray true).wp Tryd.prog Q a w := by
  have hn : n ≤ l.length := by
    have h1 := congrArg List.length hos
    simp only [List.length_drop, List.length_cons, List.length_nil] at h1
    omega
  refine region_B n (Up w) hn hm (by rw [hos]; exact hB) (fun _ _ h k => h.step k) (Up.drew w) hQ ?_
  rw [hos]
  refine wpB_mono (fun a' h' w' hw' => ?_) _ _ h
  obtain ⟨g, off, n, c, g2, c2, t, t2, z, l, hd, hs, hz, hl, h1, h2, hk⟩ := h'
  have hb := hw'.blk hz
  have hb2 := hw'.blk hl
  refine wpList_copy_own hg d s 45 45 ho 5 Tryd.underlying45 size_u8 g off n c ⟨g2, 0, none⟩ l.length c2 hd hs (By z).toArray t hb (By l) (by rw [By_len]; exact (Nat.min_eq_left h1).symm) ?_ (by rw [By_len, List.size_toArray, By_len]; exact h2) (By_one l) ?_
  · intro j v hv
    have hj : (Addr.mk g2 0 none).add j = ⟨g2, j, none⟩ := by
      unfold Addr.add
      by_cases h0 : j = 0
      · subst h0; rfl
      · simp [h0]
    rw [hj, hb2.cell j]
    simpa using hv
  · have e : (By z).toArray.toList.take off ++ (By l ++ (By z).toArray.toList.drop (off + (By l).length)) = By (cop z off l) := by
      simp [cop, By]
    rw [e, By_len]
    exact hk w' hw'

/-- 'copy(a[..], b)', in the text's order. -/
theorem wpl_copy {ops : Array Oper} {rest : List Oper} {o : Oper} {a : Act} {w : World} {Q : Exit → Act → World → Prop} (d s : Operand) (hgd : o.guard = none) (ho : o.op = .call { callee := .builtin .copy, args := #[d, s], argTypes := #[45, 45] })
    (g off n c : Nat) (hd : a.eval d = .slice (some ⟨g, off, none⟩) n c) (P : Option Addr) (l : List UInt8) (c2 : Nat) (hs : a.eval s = .slice P l.length c2) (z : List UInt8) (t : Nat) (hz : Blk w g t (By z).toArray) (lo hi : Nat) (hl : BV w lo hi P l) (hn : off + n = z.length)
    (z' : List UInt8) (hz' : Go.RowKit.Hid (cop z off (l.take n) = z')) (m : Nat) (hm : Go.RowKit.Hid (min l.length n = m)) (h : wpList Tryd.prog ops Q rest (a.put o.dst (.int .i64 (m : Int))) (w.setRow g (By z').toArray)) : wpList Tryd.prog ops Q (o :: rest) a w := by
  have e0 := hz'.out
  have e1 := hm.out
  subst e0
  subst e1
  by_cases h0 : min l.length n = 0
  · have ht : l.take n = [] := by
      rw [List.take_eq_nil_iff]
      rcases Nat.min_eq_zero_iff.1 h0 with h1 | h1
      · exact .inr (List.eq_nil_of_length_eq_zero h1)
      · exact .inl h1
    have e : cop z off (l.take n) = z := by
      rw [ht]
      simp [cop]
    have e2 : w.setRow g (By z).toArray = w := setRow_self w g _ t (0, 0) hz
    rw [e, e2, h0] at h
    exact wpList_copy_nothing hgd d s 45 45 ho 5 Tryd.underlying45 size_u8 _ _ n c l.length c2 hd hs h0 h
  · have hlp : 0 < l.length := by omega
    obtain ⟨ad, rfl, _, _, hc⟩ := hl hlp
    have hlt : (By (l.take n)).length = Nat.min l.length n := by
      rw [By_len, List.length_take]
      exact Nat.min_comm _ _
    refine wpList_copy_own hgd d s 45 45 ho 5 Tryd.underlying45 size_u8 g off n c ad l.length c2 hd hs (By z).toArray t hz (By (l.take n)) hlt ?_ (by rw [hlt, List.size_toArray, By_len, ← hn]; exact Nat.add_le_add_left (Nat.min_le_right _ _) _) (By_one _) ?_
    · intro j v hv
      obtain ⟨x, hx, rfl⟩ := By_at hv
      refine hc j x ?_
      rw [List.getElem?_take] at hx
      split at hx
      · exact hx
      · cases hx
    · have e : (By z).toArray.toList.take off ++ (By (l.take n) ++ (By z).toArray.toList.drop (off + (By (l.take n)).length)) = By (cop z off (l.take n)) := by
        simp [cop, By]
      rw [e, hlt]
      exact h
end Go.Proofs.YtlaikmpnijlcbaaDoor
/-
  STEPS THAT MAKE MEMORY, over frames by what is known of them: slices of slices, calls whose answers lie in new memory, new variables; copies into a variable from any bytes.
-/
namespace Go.Proofs.YtlaikmpnijlcbaaDoor
open Go.RowKit Go.IntWalk

def z64 : List UInt8 := List.replicate 64 0
theorem z64_len : z64.length = 64 := List.length_replicate
/-! ### Bytes that are read -/
/-- The value v is a slice that reads the bytes l. -/
def SB (w : World) (v : Value) (l : List UInt8) : Prop := ∃ A c, v = .slice A l.length c ∧ SL w 0 w.heap.size A l c
/-- The slice of slices at A reads the lists ls. -/
def PT (w : World) (A : Option Addr) (ls : List (List UInt8)) : Prop := Parts w w.heap.size A ls
theorem SB.later {w w' : World} {v : Value} {l : List UInt8} (h : SB w v l) (hb : Below w.heap.size w w') : SB w' v l := by
  obtain ⟨A, c, e, h1⟩ := h
  exact ⟨A, c, e, (h1.below hb (Nat.le_refl _)).more (Nat.le_refl _) hb.size⟩
theorem PT.later {w w' : World} {A : Option Addr} {ls : List (List UInt8)} (h : PT w A ls) (hb : Below w.heap.size w w') : PT w' A ls := fun hl => by
  obtain ⟨ad, e, h1, h2⟩ := h.below hb (Nat.le_refl _) hl
  refine ⟨ad, e, Nat.lt_of_lt_of_le h1 hb.size, fun i l hi => ?_⟩
  obtain ⟨A', c, h3, h4⟩ := h2 i l hi
  exact ⟨A', c, h3, h4.more (Nat.le_refl _) hb.size⟩
theorem SB.nil (w : World) : SB w (.slice none 0 0) [] := ⟨none, 0, rfl, SL.nil _ _ _⟩
/-- A slice of a variable's row of bytes. -/
theorem SB.arr {w : World} {g t off n c : Nat} {z l : List UInt8} (h : Blk w g t (By z).toArray) (hl : (z.drop off).take n = l) (hn : l.length = n) (hc : n ≤ c) (hc2 : c ≤ 9223372036854775807) : SB w (.slice (some ⟨g, off, none⟩) n c) l := by
  refine ⟨some ⟨g, off, none⟩, c, by rw [hn], by rw [hn]; exact hc, hc2, fun h => (by cases h), fun _ => ⟨_, rfl, Nat.zero_le _, h.lt, fun j x hx => ?_⟩⟩
  rw [← hl, List.getElem?_take] at hx
  split at hx
  · rw [List.getElem?_drop] at hx
    rw [Addr.add_mid, h.cell]
    simp [By, hx]
  · cases hx
/-- The whole of a variable's row of bytes. -/
theorem SB.all {w : World} {g t n : Nat} {l : List UInt8} (h : Blk w g t (By l).toArray) (hn : l.length = n) (hc2 : n ≤ 9223372036854775807) : SB w (.slice (some ⟨g, 0, none⟩) n n) l :=
  SB.arr h (by rw [List.drop_zero, List.take_of_length_le (by omega)]) hn (Nat.le_refl _) hc2
theorem GS.sb {w : World} {base c : Nat} {A : Option Addr} {l : List UInt8} (h : GS w base 5 A c (By l)) : SB w (.slice A l.length c) l := by
  have h2 := h.2
  rw [By_len] at h2
  rcases h2 with ⟨h1, h3⟩ | ⟨g, cap, cur, hv, _, hg, hn, hc, _, htk⟩
  · injection h1 with h4 h5 h6
    have := List.eq_nil_of_length_eq_zero h3
    subst h4 h6 this
    exact SB.nil w
  · injection hv with h4 h5 h6
    subst h4 h6
    refine ⟨_, c, rfl, hn, by unfold maxLen at hc; omega, fun h => (by cases h), fun _ => ⟨_, rfl, Nat.zero_le _, Blk.lt hg, fun j x hx => ?_⟩⟩
    have hB : Blk w g _ cur := hg
    rw [Addr.add_mid, hB.cell, Nat.zero_add]
    have h7 : (By l)[j]? = some (.int .u8 (x.toNat : Int)) := by simp [By, hx]
    rw [← htk, List.getElem?_take] at h7
    split at h7
    · simpa using h7
    · cases h7
/-- A part of such a slice. -/
theorem SL.part {w : World} {lo hi c : Nat} {A : Option Addr} {l : List UInt8} (h : SL w lo hi A l c) {k n : Nat} (hk : k ≤ l.length) : SL w lo hi (if c = k then A else A.map (·.add k)) ((l.drop k).take n) (c - k) := (h.cut hk).take n
theorem SB.len {w : World} {v : Value} {l : List UInt8} (h : SB w v l) : ∃ A c, v = .slice A l.length c := by
  obtain ⟨A, c, e, _⟩ := h
  exact ⟨A, c, e⟩

/-! ### Steps -/
section
variable {ops : Array Oper} {Rel : World → World → Prop} [hR : RelOk Rel] {C0 : World → Prop} {Q : Facts → Act → Prop} {N : Nat} {E : List (Nat × Value)} {Fa : Told} {o : Oper} {rest : List (Nat × Oper)} {i k : Nat}
/-- A call whose answer is described in the world behind it. -/
theorem g_call {f : FuncId} {xs : Array Operand} {ats : Array TypeId} (args : Array Value) (V : Value → World → Prop) (hg : o.guard = none) (hd : o.dst = some k) (hk : Nat.blt k N = true) (hf : farP i Fa = true) (hp : ∀ v, Pers Rel (V v)) (hown : Own f)
    (hc : ∀ w, C0 w → Uses o Fa w → Calls Tryd.prog f args w (fun e w' => ∃ v, e = .returned v ∧ V v w' ∧ Below w.heap.size w w'))
    (ho : o.op = .call { callee := .value (.func f), args := xs, argTypes := ats }) (hx : xs.toList.map (ev E) = args.toList.map some)
    (hn : ∀ v w, C0 w → V v w → gF Tryd.prog Rel ops C0 Q rest N ((k, v) :: E) ((i, V v) :: Fa)) : gF Tryd.prog Rel ops C0 Q ((i, o) :: rest) N E Fa :=
  g_mem V hg hd hk hf (by rw [ho]; rfl) hp (fun a ha w hw hu => by
    rw [run_call_fn hown ho, map_eval (ha.evals _ _ hx)]
    exact ⟨rfl, (hc w hw hu).mono fun e w' ⟨v, h1, h2, h3⟩ => ⟨v, h1, hR.below _ _ h3, h2⟩⟩) hn
/-- A new variable. -/
theorem g_alloc {ty : TypeId} (zs : Array Value) (base : Nat) (hg : o.guard = none) (hd : o.dst = some k) (hk : Nat.blt k N = true) (hf : farP i Fa = true) (ho : o.op = .alloc ty) (hz : (Tryd.prog.info? ty).bind (fun i => i.zero.map (·.cells)) = some zs)
    (hb : ∀ w, C0 w → base ≤ w.heap.size) (hp : ∀ g, Pers Rel fun w => base ≤ g ∧ Blk w g ty zs)
    (hn : ∀ g w, C0 w → base ≤ g → Blk w g ty zs → gF Tryd.prog Rel ops C0 Q rest N ((k, .pointer (some ⟨g, 0, none⟩)) :: E) ((i, fun w => base ≤ g ∧ Blk w g ty zs) :: Fa)) : gF Tryd.prog Rel ops C0 Q ((i, o) :: rest) N E Fa :=
  g_mem (fun v w => ∃ g, v = .pointer (some ⟨g, 0, none⟩) ∧ base ≤ g ∧ Blk w g ty zs) hg hd hk hf (by rw [ho]; rfl) (fun v w w' ⟨g, e, h⟩ hr => ⟨g, e, hp g w w' h hr⟩) (fun a _ w hw _ => by
    rw [exec_alloc ho hz a w]
    exact ⟨hR.below _ _ ((Below.refl w.heap.size w).alloc (Nat.le_refl _) _), w.heap.size, rfl, hb w hw, Blk.new w _ _⟩) (fun v w hw ⟨g, e, h1, h2⟩ => by
    subst e
    intro a F ha hF
    refine hn g w hw h1 h2 a F ha fun x hx w hw => ?_
    rcases List.mem_cons.1 hx with rfl | hx
    · obtain ⟨g', e, h⟩ := hF (i, fun w => ∃ g', Value.pointer (some ⟨g, 0, none⟩) = .pointer (some ⟨g', 0, none⟩) ∧ base ≤ g' ∧ Blk w g' ty zs) List.mem_cons_self w hw
      injection e with e
      injection e with e
      injection e with e
      subst e
      exact h
    · exact hF x (List.mem_cons_of_mem _ hx) w hw)
end

theorem cells_slices : (Tryd.prog.info? 45).map (fun i => (i.zero, i.size, i.bytes)) = some (some (.slice none 0 0), 1, 24) := by kernel_rfl
theorem run_slices (vs : List Value) (n : Nat) (parts : Array (Nat × Value)) (hp : parts.toList = (vs.zipIdx 0).map fun x => (x.2, x.1)) (hn : vs.length = n) (h0 : 0 < n) (h24 : n ≤ 16777216) (h1 : ∀ v ∈ vs, v.cells = #[v]) (w : World) :
    (Instr.buildSlice 69 n parts).run Tryd.prog w = .ok (.slice (some ⟨w.heap.size, 0, none⟩) n n) (w.alloc (.cells vs.toArray 45)) := by
  obtain ⟨ie, h2, h3, h4, _⟩ := info_parts cells_slices
  refine run_buildSlice w 69 45 n parts vs.toArray ie _ Tryd.underlying69 h2 h3 (by rw [h4]; omega) (by rw [h4]; omega) ?_
  rw [hp, h4]
  exact Great.fill_flat _ _ h1 (by simp [hn])
/-- Each value reads its bytes. -/
def All2 (w : World) : List Value → List (List UInt8) → Prop
  | [], [] => True
  | v :: vs, l :: ls => SB w v l ∧ All2 w vs ls
  | _, _ => False
theorem All2.len {w : World} : ∀ {vs : List Value} {ls : List (List UInt8)}, All2 w vs ls → vs.length = ls.length
  | [], [], _ => rfl
  | _ :: _, _ :: _, h => by rw [List.length_cons, List.length_cons, All2.len h.2]
  | [], _ :: _, h => h.elim
  | _ :: _, [], h => h.elim
theorem All2.get {w : World} : ∀ {vs : List Value} {ls : List (List UInt8)}, All2 w vs ls → ∀ (i : Nat) l, ls[i]? = some l → ∃ v, vs[i]? = some v ∧ SB w v l
  | [], [], _, i, l, h => by simp at h
  | v :: vs, l0 :: ls, h, 0, l, hi => by
    simp only [List.getElem?_cons_zero, Option.some.injEq] at hi
    subst hi
    exact ⟨v, rfl, h.1⟩
  | v :: vs, l0 :: ls, h, i + 1, l, hi => by
    obtain ⟨u, h1, h2⟩ := All2.get h.2 i l (by simpa using hi)
    exact ⟨u, by simpa using h1, h2⟩
  | [], _ :: _, h, _, _, _ => h.elim
  | _ :: _, [], h, _, _, _ => h.elim
theorem All2.one {w : World} : ∀ {vs : List Value} {ls : List (List UInt8)}, All2 w vs ls → ∀ v ∈ vs, v.cells = #[v] ∧ v.oneCell' = true
  | [], _, _, v, hv => by simp at hv
  | u :: vs, l :: ls, h, v, hv => by
    rcases List.mem_cons.1 hv with rfl | hv
    · obtain ⟨A, c, rfl, _⟩ := h.1
      exact ⟨rfl, rfl⟩
    · exact All2.one h.2 v hv
  | _ :: _, [], h, _, _ => h.elim
theorem All2.later {w w' : World} (hb : Below w.heap.size w w') : ∀ {vs : List Value} {ls : List (List UInt8)}, All2 w vs ls → All2 w' vs ls
  | [], [], _ => trivial
  | _ :: _, _ :: _, h => ⟨h.1.later hb, All2.later hb h.2⟩
  | [], _ :: _, h => h.elim
  | _ :: _, [], h => h.elim
/-- A slice of slices of bytes, new: the values vs, which read the lists ls. -/
structure NewS (base : Nat) (vs : List Value) (ls : List (List UInt8)) (g : Nat) (w : World) : Prop where
  ge : base ≤ g
  blk : Blk w g 45 vs.toArray
  all : All2 w vs ls
theorem NewS.later {base g : Nat} {vs : List Value} {ls : List (List UInt8)} {w w' : World} (h : NewS base vs ls g w) (hb : Below w.heap.size w w') : NewS base vs ls g w' := ⟨h.ge, h.blk.later hb, All2.later hb h.all⟩
theorem pt_of {w : World} {g : Nat} {vs : List Value} {ls : List (List UInt8)} {cs : Array Value} {t : Nat} (hB : Blk w g t cs) (htk : ∀ (j : Nat) (v : Value), vs[j]? = some v → cs[j]? = some v) (h : All2 w vs ls) : PT w (some ⟨g, 0, none⟩) ls := fun _ => by
  refine ⟨_, rfl, hB.lt, fun i l hi => ?_⟩
  obtain ⟨v, h1, A, c, rfl, h3⟩ := h.get i l hi
  refine ⟨A, c, ?_, h3⟩
  rw [Addr.add_mid, hB.cell, Nat.zero_add]
  exact htk i _ h1
theorem NewS.pt {base g : Nat} {vs : List Value} {ls : List (List UInt8)} {w : World} (h : NewS base vs ls g w) : PT w (some ⟨g, 0, none⟩) ls := pt_of h.blk (fun j v hj => by simpa using hj) h.all
section
variable {ops : Array Oper} {C0 : World → Prop} {Q : Facts → Act → Prop} {N : Nat} {E : List (Nat × Value)} {Fa : Told} {o : Oper} {rest : List (Nat × Oper)} {i k : Nat}
theorem g_slices {n : Nat} {parts : Array (Nat × Operand)} (vs : List Value) (ls : List (List UInt8)) (base : Nat) (hg : o.guard = none) (hd : o.dst = some k) (hk : Nat.blt k N = true) (hf : farP i Fa = true) (ho : o.op = .buildSlice 69 n parts)
    (hv : parts.toList.map (fun p => (p.1, ev E p.2)) = (vs.zipIdx 0).map fun x => (x.2, some x.1)) (hn : vs.length = n) (h0 : 0 < n) (h24 : n ≤ 16777216) (hb : ∀ w, C0 w → base ≤ w.heap.size) (h : ∀ w, C0 w → Uses o Fa w → All2 w vs ls)
    (hk2 : ∀ g w, C0 w → NewS base vs ls g w → gF Tryd.prog Bel ops C0 Q rest N ((k, .slice (some ⟨g, 0, none⟩) n n) :: E) ((i, NewS base vs ls g) :: Fa)) : gF Tryd.prog Bel ops C0 Q ((i, o) :: rest) N E Fa :=
  g_mem (fun v w => ∃ g, v = .slice (some ⟨g, 0, none⟩) n n ∧ NewS base vs ls g w) hg hd hk hf (by rw [ho]; rfl) (fun v w w' ⟨g, e, h⟩ hr => ⟨g, e, h.later hr⟩) (fun a ha w hw hu => by
    have hA := h w hw hu
    have hm : ∀ (l : List (Nat × Operand)) (m : List (Value × Nat)), l.map (fun p => (p.1, ev E p.2)) = m.map (fun x => (x.2, some x.1)) → l.map (fun (i, x) => (i, a.eval x)) = m.map fun x => (x.2, x.1) := by
      intro l
      induction l with
      | nil => intro m h; cases m with
        | nil => rfl
        | cons => cases h
      | cons p l ih => intro m h; cases m with
        | nil => cases h
        | cons u m =>
          simp only [List.map_cons, List.cons.injEq, Prod.mk.injEq] at h ⊢
          exact ⟨⟨h.1.1, ha.eval h.1.2⟩, ih m h.2⟩
    have hr := run_slices vs n (parts.map fun (i, x) => (i, a.eval x)) (by rw [Array.toList_map]; exact hm _ _ hv) hn h0 h24 (fun v hv => (hA.one v hv).1) w
    have hal := (Below.refl w.heap.size w).alloc (Nat.le_refl _) (.cells vs.toArray 45)
    unfold execOp
    simp only [ho, Sem.run_bind, hr, Result.andThen_ok, Sem.run_pure]
    exact ⟨hal, w.heap.size, rfl, hb w hw, Blk.new w _ _, All2.later hal hA⟩) (fun v w hw ⟨g, e, h2⟩ => by
    subst e
    intro a F ha hF
    refine hk2 g w hw h2 a F ha fun x hx w hw => ?_
    rcases List.mem_cons.1 hx with rfl | hx
    · obtain ⟨g', e, h⟩ := hF (i, fun w => ∃ g', Value.slice (some ⟨g, 0, none⟩) n n = .slice (some ⟨g', 0, none⟩) n n ∧ NewS base vs ls g' w) List.mem_cons_self w hw
      injection e with e
      injection e with e
      injection e with e
      subst e
      exact h
    · exact hF x (List.mem_cons_of_mem _ hx) w hw)
end

/-! ### Appends of slices -/
theorem All2.app {w : World} : ∀ {vs us : List Value} {ls ms : List (List UInt8)}, All2 w vs ls → All2 w us ms → All2 w (vs ++ us) (ls ++ ms)
  | [], _, [], _, _, h => h
  | _ :: _, _, _ :: _, _, h, h' => ⟨h.1, All2.app h.2 h'⟩
  | [], _, _ :: _, _, h, _ => h.elim
  | _ :: _, _, [], _, h, _ => h.elim
theorem pt_vals {w : World} {ad : Addr} : ∀ (ls : List (List UInt8)) (o : Nat), (∀ (i : Nat) l, ls[i]? = some l → ∃ v, w.cell? (ad.add (o + i)) = some v ∧ SB w v l) → ∃ vs, All2 w vs ls ∧ ∀ (j : Nat) u, vs[j]? = some u → w.cell? (ad.add (o + j)) = some u
  | [], _, _ => ⟨[], trivial, fun j u h => by simp at h⟩
  | l :: ls, o, h => by
    obtain ⟨v, h1, h2⟩ := h 0 l rfl
    obtain ⟨vs, h3, h4⟩ := pt_vals ls (o + 1) fun i l' hi => by
      obtain ⟨v', h5, h6⟩ := h (i + 1) l' (by simpa using hi)
      exact ⟨v', by rw [show o + 1 + i = o + (i + 1) by omega]; exact h5, h6⟩
    refine ⟨v :: vs, ⟨h2, h3⟩, fun j u hj => ?_⟩
    cases j with
    | zero =>
      simp only [List.getElem?_cons_zero, Option.some.injEq] at hj
      subst hj
      exact h1
    | succ j =>
      have := h4 j u (by simpa using hj)
      rwa [show o + 1 + j = o + (j + 1) by omega] at this
theorem GS.pt {w : World} {base c : Nat} {A : Option Addr} {vs : List Value} {ls : List (List UInt8)} (h : GS w base 45 A c vs) (hA : All2 w vs ls) : PT w A ls ∧ ls.length ≤ c ∧ c ≤ 9223372036854775807 := by
  have hlen := hA.len
  rcases h.2 with ⟨h1, h3⟩ | ⟨g, cap, cur, hv, _, hg, hn, hc, _, htk⟩
  · injection h1 with h4 h5 h6
    subst h6
    exact ⟨fun h0 => absurd h0 (by omega), by omega, by omega⟩
  · injection hv with h4 h5 h6
    subst h4 h6
    refine ⟨pt_of (cs := cur) hg (fun j v hj => ?_) hA, by omega, by unfold maxLen at hc; omega⟩
    rw [← htk, List.getElem?_take] at hj
    split at hj
    · simpa using hj
    · cases hj
theorem NewS.gs {base n g : Nat} {vs : List Value} {ls : List (List UInt8)} {w : World} (h : NewS base vs ls g w) (hn : vs.length = n) (hm : n ≤ 9223372036854775807) : GS w base 45 (some ⟨g, 0, none⟩) n vs := by
  refine ⟨by simp, .inr ⟨g, n, vs.toArray, rfl, h.ge, h.blk, by omega, by unfold maxLen; omega, by simp [hn], by simp⟩⟩
section
variable {ops : Array Oper} {Q : Exit → Act → World → Prop} {N : Nat} {E : List (Nat × Value)} {w : World} {o : Oper} {rest : List Oper} {k : Nat}
/-- **append(s, parts...)** of slices of bytes, s the call's own. -/
theorem l_appS {s x : Operand} {base c d : Nat} {A X : Option Addr} {vs : List Value} {ls : List (List UInt8)} (hg : o.guard = none) (hd : o.dst = some k) (hk : Nat.blt k N = true) (ho : o.op = .call { callee := .builtin .append, args := #[s, x], argTypes := #[69, 69] })
    (hs : ev E s = some (.slice A vs.length c)) (hx : ev E x = some (.slice X ls.length d)) (hown : GS w base 45 A c vs) {W0 : World} (hW : Up W0 w) (hP : PT W0 X ls) (h0 : X = none → d = 0 ∧ ls = []) (hb : (vs.length + ls.length) * 24 ≤ 140737488355328) (hbase : base ≤ w.heap.size)
    (hn : ∀ A' c' w' us, All2 W0 us ls → GS w' base 45 A' c' (vs ++ us) → w.grownBy w' (A.map (·.block)) → lF Tryd.prog ops Q rest N ((k, .slice A' (vs ++ us).length c') :: E) w') : lF Tryd.prog ops Q (o :: rest) N E w := by
  cases X with
  | none =>
    obtain ⟨rfl, rfl⟩ := h0 rfl
    obtain ⟨i, hi0, hz, hs0, hb⟩ := info_parts cells_slices
    have hr := run_append_owned_none (P := Tryd.prog) w base 69 o.type 45 i 1 Tryd.underlying69 hi0 _ vs.length vs hown
    have h1 := hn A c w [] trivial (by rw [List.append_nil]; exact hown) (World.grownBy.refl _ _)
    rw [List.append_nil] at h1
    refine l_val _ hg hd hk (fun a ha => ?_) h1
    have h2 := ha.eval hs
    have h3 := ha.eval hx
    unfold execOp
    simp only [ho, resolve, invoke, builtin, Sem.run_bind, Sem.run_pure, Result.andThen_ok, List.map_toArray, List.map_cons, List.map_nil, h2, h3, List.length_nil, hr]
  | some ad =>
    obtain ⟨us, h1, h2⟩ := pt_vals (w := W0) (ad := ad) ls 0 fun i l hi => by
      obtain ⟨ad', e, _, h3⟩ := hP (by have := (List.getElem?_eq_some_iff.1 hi).1; omega)
      injection e with e
      subst e
      obtain ⟨A', c', h4, h5⟩ := h3 i l hi
      exact ⟨_, by rw [Nat.zero_add]; exact h4, A', c', rfl, h5⟩
    have hl := h1.len
    refine l_app (bytes := 24) (z := .slice none 0 0) (news := us) (base := base) (e := 45) (xs := vs) (A := A) (c := c) (ad := ad) (m := ls.length) (d := d) hg hd hk ho hs hx Tryd.underlying69 cells_slices rfl hown hl (fun j u hj => by
      have h5 := h2 j u hj
      rw [Nat.zero_add] at h5
      exact (hW.cell (World.block_lt_of_cell? W0 _ h5)).trans h5) (fun u hu => (h1.one u hu).2) hb (by unfold maxLen; omega) hbase ?_
    intro A' c' w' h3 h4 _
    exact hn A' c' w' us h1 h3 h4
end

/-! ### Copies -/
section
variable {ops : Array Oper} {Q : Exit → Act → World → Prop} {N : Nat} {E : List (Nat × Value)} {w : World} {o : Oper} {rest : List Oper} {k : Nat}
/-- **copy(x[off:..], s)** into a variable, all of s. -/
theorem l_copy {d s : Operand} (g off n c t : Nat) (z l : List UInt8) (v : Value) (hgd : o.guard = none) (hdst : o.dst = some k) (hE : look E k = none) (ho : o.op = .call { callee := .builtin .copy, args := #[d, s], argTypes := #[45, 45] })
    (hd : ev E d = some (.slice (some ⟨g, off, none⟩) n c)) (hs : ev E s = some v) (hz : Blk w g t (By z).toArray) (hl : SB w v l) (h0 : 0 < l.length) (h1 : l.length ≤ n) (h2 : off + l.length ≤ z.length)
    (hn : Blk (w.setRow g (By (cop z off l)).toArray) g t (By (cop z off l)).toArray → lF Tryd.prog ops Q rest N E (w.setRow g (By (cop z off l)).toArray)) : lF Tryd.prog ops Q (o :: rest) N E w := fun a ha => by
  obtain ⟨A, c2, rfl, hS⟩ := hl
  obtain ⟨ad, rfl, _, _, hc⟩ := hS.2.2.2 h0
  refine wpList_copy_own hgd d s 45 45 ho 5 Tryd.underlying45 size_u8 g off n c ad l.length c2 (ha.eval hd) (ha.eval hs) (By z).toArray t hz (By l) (by rw [By_len]; exact (Nat.min_eq_left h1).symm) ?_ (by rw [By_len, List.size_toArray, By_len]; exact h2) (By_one l) ?_
  · intro j u hu
    obtain ⟨x, hx, rfl⟩ := By_at hu
    exact hc j x hx
  · have e : (By z).toArray.toList.take off ++ (By l ++ (By z).toArray.toList.drop (off + (By l).length)) = By (cop z off l) := by
      simp [cop, By]
    rw [e, hdst]
    exact hn (hz.row _) _ (ha.putFar hE _)
end
end Go.Proofs.YtlaikmpnijlcbaaDoor
