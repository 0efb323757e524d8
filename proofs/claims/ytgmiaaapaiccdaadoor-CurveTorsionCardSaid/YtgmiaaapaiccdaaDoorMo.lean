/-
  SEVERAL TEXTS IN ONE: LawT.
-/
import Derived.Test.YtgmiaaapaiccdaaDoorMl
import Derived.Great.BuildSlice
/-
  STEPS OF CurveTorsion: four rows of bytes in a slice; numbers of uint.
-/
namespace Go.Proofs.YtgmiaaapaiccdaaDoor
open Go.RowKit Go.IntWalk Nums

def c128 : List UInt8 := [0, 0, 0, 0, 0, 0, 0, 0, 0, 0, 0, 0, 0, 0, 0, 0, 0, 0, 0, 0, 0, 0, 0, 0, 0, 0, 0, 0, 0, 0, 0, 128]
def c236 : List UInt8 := [236, 0, 0, 0, 0, 0, 0, 0, 0, 0, 0, 0, 0, 0, 0, 0, 0, 0, 0, 0, 0, 0, 0, 0, 0, 0, 0, 0, 0, 0, 0, 127]
def c0 : List UInt8 := [0, 0, 0, 0, 0, 0, 0, 0, 0, 0, 0, 0, 0, 0, 0, 0, 0, 0, 0, 0, 0, 0, 0, 0, 0, 0, 0, 0, 0, 0, 0, 0]
theorem built0B : Tryd.prog.built 22 [] = some (By c0).toArray := by kernel_rfl
theorem built128 : Tryd.prog.built 22 [(31, .int .u8 128)] = some (By c128).toArray := by kernel_rfl
theorem built236 : Tryd.prog.built 22 [(0, .int .u8 236), (31, .int .u8 127)] = some (By c236).toArray := by kernel_rfl
def rawB : Nat → List UInt8
  | 0 => oneB
  | 1 => c0
  | 2 => c128
  | _ => c236
theorem rawB_len : ∀ k, (rawB k).length = 32
  | 0 => rfl
  | 1 => rfl
  | 2 => rfl
  | _ + 3 => rfl
def all4 : List Value := By oneB ++ (By c0 ++ (By c128 ++ By c236))
theorem info_h : (Tryd.prog.info? 22).map (fun i => (i.zero, i.size)) = some (some (.agg (By c0).toArray), 32) := by kernel_rfl
theorem info_h_parts : ∃ i, Tryd.prog.info? 22 = some i ∧ i.zero = some (.agg (By c0).toArray) ∧ i.size = 32 := by
  have h := info_h
  cases hi : Tryd.prog.info? 22 with
  | none => rw [hi] at h; cases h
  | some i =>
    rw [hi] at h
    simp only [Option.map_some, Option.some.injEq, Prod.mk.injEq] at h
    exact ⟨i, rfl, h.1, h.2⟩
theorem fill4B : Instr.fill (fun i => some (i * 32, 32)) ((Array.range (4 * 32)).map ((By c0).toArray[· % (By c0).toArray.size]!)) [(0, .agg (By oneB).toArray), (1, .agg (By c0).toArray), (2, .agg (By c128).toArray), (3, .agg (By c236).toArray)] = some all4.toArray := by kernel_rfl
theorem run_slice4 (w : World) : (Instr.buildSlice 63 4 #[(0, .agg (By oneB).toArray), (1, .agg (By c0).toArray), (2, .agg (By c128).toArray), (3, .agg (By c236).toArray)]).run Tryd.prog w =
    .ok (.slice (some ⟨w.heap.size, 0, none⟩) 4 4) (w.alloc (.cells all4.toArray 22)) := by
  obtain ⟨i, hi, hz, hs⟩ := info_h_parts
  refine run_buildSlice w 63 22 4 _ _ i (.agg (By c0).toArray) Tryd.underlying63 hi hz (by rw [hs]; decide) (by rw [hs]; decide) ?_
  rw [hs]
  exact fill4B
theorem all4_at {w : World} {g t : Nat} (h : Blk w g t all4.toArray) : ∀ k, k < 4 → w.rangeAt g (32 * k) (By (rawB k))
  | 0, _ => Blk.mid5 (A := []) (V := By oneB) (Z := By c0 ++ (By c128 ++ By c236)) h rfl
  | 1, _ => Blk.mid5 (A := By oneB) (V := By c0) (Z := By c128 ++ By c236) h rfl
  | 2, _ => Blk.mid5 (A := By oneB ++ By c0) (V := By c128) (Z := By c236) (by rw [List.append_assoc]; exact h) rfl
  | 3, _ => Blk.mid5 (A := By oneB ++ (By c0 ++ By c128)) (V := By c236) (Z := []) (by rw [List.append_nil, List.append_assoc, List.append_assoc]; exact h) rfl
  | _ + 4, h => absurd h (by omega)
theorem ix63 (b k : Nat) (h : k < 4) (w : World) : (Instr.indexAt 63 (.slice (some ⟨b, 0, none⟩) 4 4) (.int .u64 (k : Int))).run Tryd.prog w = .ok (.pointer (some ⟨b, 32 * k, none⟩)) w := by
  have h3 : (k : Int) < 4 := by omega
  have h4 : (0 : Int) ≤ k := by omega
  go_simp
section
variable {ops : Array Oper} {C0 : World → Prop} {Q : Act → Prop} {N : Nat} {E : List (Nat × Value)} {o : Oper} {rest : List Oper} {k : Nat}
theorem f_remV {x y : Operand} {t : TypeId} (m n r : Int) (hz : n ≠ 0) (hg : o.guard = none) (hd : o.dst = some k) (hk : Nat.blt k N = true) (ho : o.op = .binOp .rem 64 x y t) (hx : ev E x = some (.int .u64 m)) (hy : ev E y = some (.int .u64 n))
    (hr : m.tmod n = r) (hn : bF Tryd.prog ops C0 Q rest N ((k, .int .u64 r) :: E)) : bF Tryd.prog ops C0 Q (o :: rest) N E :=
  f_val _ hg hd hk (fun a ha w _ => by
    have h1 := ha.eval hx
    have h2 := ha.eval hy
    subst hr
    unfold execOp
    simp only [ho, h1, h2]
    go_simp) hn
theorem f_eqU {x y : Operand} {t : TypeId} (m n : Int) (q : Bool) (hg : o.guard = none) (hd : o.dst = some k) (hk : Nat.blt k N = true) (ho : o.op = .binOp .eql 64 x y t) (hx : ev E x = some (.int .u64 m)) (hy : ev E y = some (.int .u64 n))
    (hr : decide (m = n) = q) (hn : bF Tryd.prog ops C0 Q rest N ((k, .bool q) :: E)) : bF Tryd.prog ops C0 Q (o :: rest) N E :=
  f_val _ hg hd hk (fun a ha w _ => by
    have h1 := ha.eval hx
    have h2 := ha.eval hy
    subst hr
    unfold execOp
    simp only [ho, h1, h2]
    by_cases e : m = n <;> go_simp) hn
end
theorem wrap_nat (x : Int) : ∃ u : Nat, IntKind.u64.wrap x = (u : Int) := by
  rw [IntKind.wrap_u64]
  exact ⟨(x % 18446744073709551616).toNat, by omega⟩
theorem tmod4 (u : Nat) : (u : Int).tmod 4 = ((u % 4 : Nat) : Int) := by
  rw [Int.tmod_eq_emod_of_nonneg (by omega)]
  omega
/-- The last string, with 255 from 1 to i - 1. -/
def flB (i : Nat) : List UInt8 := (List.range 32).map fun j => if j = 0 then 236 else if j < i then 255 else if j = 31 then 127 else 0
theorem flB_len (i : Nat) : (flB i).length = 32 := by simp [flB]
theorem flB_1 : c236 = flB 1 := by decide
theorem flB_31 : flB 31 = smB 3 := by decide
theorem flB_set {i : Nat} (h0 : 0 < i) (h1 : i < 31) : (flB i).set i 255 = flB (i + 1) := by
  apply List.ext_getElem (by simp [flB])
  intro j h2 h3
  rw [List.getElem_set]
  simp only [flB, List.getElem_map, List.getElem_range]
  split
  · rename_i e
    subst e
    rw [if_neg (by omega), if_pos (by omega)]
  · rename_i e
    by_cases hj : j = 0
    · rw [if_pos hj, if_pos hj]
    · rw [if_neg hj, if_neg hj]
      by_cases hji : j < i
      · have h5 : j < i + 1 := by omega
        rw [if_pos hji, if_pos h5]
      · have h5 : ¬ j < i + 1 := by omega
        rw [if_neg hji, if_neg h5]
theorem raw_sm : ∀ k, k < 4 → k ≠ 3 → rawB k = smB k
  | 0, _, _ => rfl
  | 1, _, _ => rfl
  | 2, _, _ => rfl
  | 3, _, h => absurd rfl h
  | _ + 4, h, _ => absurd h (by omega)
theorem smB_len : ∀ k, (smB k).length = 32 := fun k => by rw [← smP_enc, encP_len]
end Go.Proofs.YtgmiaaapaiccdaaDoor
