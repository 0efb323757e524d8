/-
  AN ARGUMENT OPENED: a slice of items (a kind, a number, bytes).
-/
import Derived.Test.YtipakpcdaaoboaaOpen
import Derived.Test.YtipakpcdaaoboaaItems
import Derived.Deep.Strs
namespace Go.Proofs.Ytipakpcdaaoboaa
open Go.ChangeShapes Go.WideShapes Go.ChangeAt Go.RowKit Go.Deep

theorem cells27 : Try.prog.cellsOf 27 = 3 := by kernel_rfl
theorem cells3 : Try.prog.cellsOf 3 = 1 := by kernel_rfl
theorem cells25' : Try.prog.cellsOf 25 = 1 := by kernel_rfl

theorem bulk_part {H : Type} {d : DataW H} : ∀ {l : List (DataW H)}, d ∈ l → Rows.uptoBulk d ≤ Rows.uptoBulkAll l
  | [], h => by cases h
  | x :: l, h => by
    simp only [Rows.uptoBulkAll]
    rcases List.mem_cons.1 h with rfl | h
    · omega
    · have := bulk_part h
      omega

section
variable {H : Type} {enc : TypeId × Value → H} {W : World} {held : Bool}

theorem open_item {fuel : Nat} {cs : List Value} {x : DataW H × List MemPlace} (h : DataW.trod enc Try.prog W 0 (fun _ => true) held fuel 27 cs = some x) :
    ∃ (K : Int) (N : Nat) (X : Option Addr) (B : List UInt8) (c : Nat), cs = [.int .i64 K, .int .u64 (N : Int), .slice X B.length c] ∧ SL W 0 W.heap.size X B c ∧ N < 18446744073709551616 ∧ B.length + 1 ≤ Rows.uptoBulk x.1 := by
  obtain ⟨y0, y1, y2, n, rfl, hl, h0, h1, h2⟩ := trod_struct3 Try.underlying27 h
  rw [cells27] at hl
  match cs, hl with
  | [c0, c1, c2], _ =>
    simp only [cells3, cells25', cells24] at h0 h1 h2
    obtain ⟨K, e0, _, _⟩ := DataW.trod_int Try.underlying3 h0
    obtain ⟨N, e1, _, w1⟩ := DataW.trod_int Try.underlying25 h1
    obtain ⟨X, B, c, e2, hs, hb⟩ := open_bytes h2
    simp at e0 e1 e2
    subst e0
    subst e1
    subst e2
    have hN := bounds_u64 w1
    refine ⟨K, N.toNat, X, B, c, by rw [Int.toNat_of_nonneg hN.1], hs, by omega, ?_⟩
    simp only [Rows.uptoBulk, Rows.uptoBulkAll]
    omega

theorem open_items {fuel : Nat} {cs : List Value} {x : DataW H × List MemPlace} (h : DataW.trod enc Try.prog W 0 (fun _ => true) held fuel 22 cs = some x) (hbulk : Rows.uptoBulk x.1 ≤ 1048576) :
    ∃ (A : Option Addr) (L : List It) (c : Nat), cs = [.slice A L.length c] ∧ Items W W.heap.size A L ∧ L.length ≤ c ∧ c ≤ 9223372036854775807 := by
  rcases open_slice Try.underlying22 h with ⟨rfl, rfl⟩ | ⟨a, len, cap, m, n, D, Pl, rfl, _, hl, hm, hmm, rfl, hx⟩
  · exact ⟨none, [], 0, rfl, fun h => absurd h (by simp), Nat.le_refl _, by omega⟩
  · have hmm' : m = cap := hmm
    subst hmm'
    rw [cells27] at hx
    obtain ⟨F, hF⟩ := choose_lt (α := It) (n := m) (p := fun i y => (∃ X c, W.cell? (a.add (i * 3)) = some (.int .i64 y.1) ∧ W.cell? (a.add (i * 3 + 1)) = some (.int .u64 (y.2.1 : Int)) ∧ W.cell? (a.add (i * 3 + 2)) = some (.slice X y.2.2.length c) ∧
        SL W 0 W.heap.size X y.2.2 c ∧ y.2.1 < 18446744073709551616) ∧ y.2.2.length + 1 ≤ Rows.uptoBulk (D i)) (fun i hi => by
      obtain ⟨cs', hc, ht⟩ := hx i hi
      obtain ⟨K, N, X, B, c, rfl, hs, hN, hb⟩ := open_item ht
      obtain ⟨_, _, hcell⟩ := World.cells?_some hc
      have c0 := hcell 0 (by omega)
      have c1 := hcell 1 (by omega)
      have c2 := hcell 2 (by omega)
      rw [add_add'] at c0 c1 c2
      exact ⟨(K, N, B), ⟨X, c, c0, c1, c2, hs, hN⟩, hb⟩)
    have hlen : ((List.range len).map F).length = len := by simp
    refine ⟨some a, (List.range len).map F, m, by rw [hlen], fun hpos => ⟨a, rfl, ?_, fun i y hi => ?_⟩, by rw [hlen]; exact hl, by unfold maxLen at hm; omega⟩
    · have h0 : 0 < m := by rw [hlen] at hpos; omega
      obtain ⟨⟨X, c, h1, _⟩, _⟩ := hF 0 h0
      have := World.block_lt_of_cell? W _ h1
      rwa [block_add] at this
    · simp only [List.getElem?_map, Option.map_eq_some_iff] at hi
      obtain ⟨j, hj, rfl⟩ := hi
      have hji : i < len ∧ j = i := by
        obtain ⟨h1, h2⟩ := List.getElem?_eq_some_iff.1 hj
        simp at h1 h2
        exact ⟨h1, h2.symm⟩
      obtain ⟨hlt, rfl⟩ := hji
      obtain ⟨⟨X, c, h1, h2, h3, h4, h5⟩, h6⟩ := hF j (by omega)
      refine ⟨X, c, h1, h2, h3, h4, h5, ?_⟩
      have hd : Rows.uptoBulk (D j) ≤ Rows.uptoBulkAll ((List.range len).map D) := bulk_part (List.mem_map.2 ⟨j, List.mem_range.2 hlt, rfl⟩)
      simp only [Rows.uptoBulk] at hbulk
      omega
end

end Go.Proofs.Ytipakpcdaaoboaa
