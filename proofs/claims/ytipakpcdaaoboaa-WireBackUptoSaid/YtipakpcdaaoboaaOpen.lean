/-
  ARGUMENTS OPENED: slices of bytes, slices of those; and their bulk.
-/
import Derived.Test.YtipakpcdaaoboaaLaw
import Derived.Test.YtipakpcdaaoboaaOne
import Derived.Deep.Slices
namespace Go.Proofs.Ytipakpcdaaoboaa
open Go.ChangeShapes Go.WideShapes Go.ChangeAt Go.RowKit Go.Deep

theorem cells5 : Try.prog.cellsOf 5 = 1 := by kernel_rfl
theorem cells24 : Try.prog.cellsOf 24 = 1 := by kernel_rfl

theorem bulk_pos {H : Type} (d : DataW H) : 1 ≤ Rows.uptoBulk d := by
  cases d with
  | lit l => cases l <;> simp [Rows.uptoBulk]
  | nil => simp [Rows.uptoBulk]
  | ptr d => simp [Rows.uptoBulk]
  | slice elems spare => simp [Rows.uptoBulk]
  | agg parts => simp [Rows.uptoBulk]
  | iface t d => simp [Rows.uptoBulk]
  | map entries => simp [Rows.uptoBulk]
  | held h => simp [Rows.uptoBulk]

theorem bulk_len {H : Type} : ∀ (l : List (DataW H)), l.length ≤ Rows.uptoBulkAll l
  | [] => Nat.zero_le _
  | d :: l => by
    have h1 := bulk_pos d
    have h2 := bulk_len l
    simp only [Rows.uptoBulkAll, List.length_cons]
    omega

section
variable {H : Type} {enc : TypeId × Value → H} {W : World} {held : Bool}

theorem sl_of {a : Addr} {len cap : Nat} {zs : List Int} (hl : len ≤ zs.length) (hlc : len ≤ cap) (hm : cap ≤ maxLen) (hcell : ∀ i, i < zs.length → W.cell? (a.add i) = some (.int .u8 (zs.getD i 0))) (hwz : ∀ n ∈ zs, (Lit.int .u8 n).wf = true) :
    ∃ l : List UInt8, l.length = len ∧ SL W 0 W.heap.size (some a) l cap := by
  have hlen : ((zs.take len).map fun z => UInt8.ofNat z.toNat).length = len := by simp; omega
  refine ⟨(zs.take len).map fun z => UInt8.ofNat z.toNat, hlen, by rw [hlen]; exact hlc, by unfold maxLen at hm; omega, fun h => (by cases h), fun hpos => ⟨a, rfl, Nat.zero_le _, ?_, fun j x hx => ?_⟩⟩
  · have h0 : 0 < zs.length := by rw [hlen] at hpos; omega
    have := World.block_lt_of_cell? W _ (hcell 0 h0)
    rwa [block_add] at this
  · simp only [List.getElem?_map, List.getElem?_take, Option.map_eq_some_iff] at hx
    obtain ⟨z, hz, rfl⟩ := hx
    split at hz
    · have hj := (List.getElem?_eq_some_iff.1 hz).1
      have hb := range_u8 hwz j
      have hg : zs.getD j 0 = z := by simp [List.getD, hz]
      rw [hz] at hb
      simp only [Option.getD_some] at hb
      rw [hcell j hj, hg]
      have e : (UInt8.ofNat z.toNat).toNat = z.toNat := by
        simp
        omega
      rw [e, Int.toNat_of_nonneg hb.1]
    · cases hz

theorem open_bytes {fuel : Nat} {cs : List Value} {x : DataW H × List MemPlace} (h : DataW.trod enc Try.prog W 0 (fun _ => true) held fuel 24 cs = some x) :
    ∃ (A : Option Addr) (l : List UInt8) (c : Nat), cs = [.slice A l.length c] ∧ SL W 0 W.heap.size A l c ∧ l.length + 1 ≤ Rows.uptoBulk x.1 := by
  rcases open_ints Try.underlying24 Try.underlying5 cells5 h with ⟨rfl, rfl⟩ | ⟨a, len, cap, zs, rfl, _, hl, hm, hz, rfl, hcell, hwz⟩
  · exact ⟨none, [], 0, rfl, SL.nil _ _ _, by simp [Rows.uptoBulk]⟩
  · have hz' : zs.length = cap := hz
    obtain ⟨l, hll, hsl⟩ := sl_of (len := len) (by omega) hl hm hcell hwz
    refine ⟨some a, l, cap, by rw [hll], hsl, ?_⟩
    have hb := bulk_len (lits (H := H) .u8 (zs.take len))
    have e : (lits (H := H) .u8 (zs.take len)).length = len := by simp [lits]; omega
    simp only [Rows.uptoBulk]
    omega

theorem encs_bulk {D : Nat → DataW H} {L : Nat → List UInt8} : ∀ (I : List Nat), (∀ i ∈ I, (L i).length + 1 ≤ Rows.uptoBulk (D i)) → (encs (I.map L)).length ≤ 9 * Rows.uptoBulkAll (I.map D)
  | [], _ => by simp [encs]
  | i :: I, h => by
    have h1 := h i (by simp)
    have h2 := encs_bulk I (fun j hj => h j (by simp [hj]))
    have e : (encs ((i :: I).map L)).length = 8 + (L i).length + (encs (I.map L)).length := by
      simp only [encs, List.map_cons, List.flatten_cons, List.length_append, be8_len]
    rw [e]
    simp only [List.map_cons, Rows.uptoBulkAll]
    omega

theorem open_parts {fuel : Nat} {cs : List Value} {x : DataW H × List MemPlace} (h : DataW.trod enc Try.prog W 0 (fun _ => true) held fuel 52 cs = some x) :
    ∃ (A : Option Addr) (a : List (List UInt8)) (c : Nat), cs = [.slice A a.length c] ∧ Parts W W.heap.size A a ∧ a.length ≤ c ∧ c ≤ 9223372036854775807 ∧ (encs a).length ≤ 9 * Rows.uptoBulk x.1 := by
  rcases open_slice1 Try.underlying52 cells24 h with ⟨rfl, rfl⟩ | ⟨a, len, cap, m, n, V, D, Pl, rfl, _, hl, hm, hmm, rfl, hx⟩
  · exact ⟨none, [], 0, rfl, fun h => absurd h (by simp), Nat.le_refl _, by omega, by simp [encs]⟩
  · have hmm' : m = cap := hmm
    subst hmm'
    obtain ⟨L, hL⟩ := choose_lt (α := List UInt8) (n := m) (p := fun i l => (∃ A c, V i = .slice A l.length c ∧ SL W 0 W.heap.size A l c) ∧ l.length + 1 ≤ Rows.uptoBulk (D i)) (fun i hi => by
      obtain ⟨A, l, c, h1, h2, h3⟩ := open_bytes (hx i hi).2
      injection h1 with h1
      exact ⟨l, ⟨A, c, h1, h2⟩, h3⟩)
    have hlen : ((List.range len).map L).length = len := by simp
    refine ⟨some a, (List.range len).map L, m, by rw [hlen], fun hpos => ⟨a, rfl, ?_, fun i l hi => ?_⟩, by rw [hlen]; exact hl, by unfold maxLen at hm; omega, ?_⟩
    · have h0 : 0 < m := by rw [hlen] at hpos; omega
      have := World.block_lt_of_cell? W _ (hx 0 h0).1
      rwa [block_add] at this
    · simp only [List.getElem?_map, Option.map_eq_some_iff] at hi
      obtain ⟨j, hj, rfl⟩ := hi
      have hji : i < len ∧ j = i := by
        obtain ⟨h1, h2⟩ := List.getElem?_eq_some_iff.1 hj
        simp at h1 h2
        exact ⟨h1, h2.symm⟩
      obtain ⟨hlt, rfl⟩ := hji
      obtain ⟨⟨A, c, h1, h2⟩, _⟩ := hL j (by omega)
      exact ⟨A, c, by rw [(hx j (by omega)).1, h1], h2⟩
    · have := encs_bulk (D := D) (L := L) (List.range len) (fun i hi => (hL i (by have := List.mem_range.1 hi; omega)).2)
      simp only [Rows.uptoBulk]
      omega
end

end Go.Proofs.Ytipakpcdaaoboaa
