/-
  PROVED: WireJoins answers true for every list of numbers and every at: pieces joined are read as one piece behind the other, however they are parted. No condition: the statement '..Said' itself.
-/
import Derived.Test.YtipakpcdaaoboaaLaw
import Derived.Test.YtipakpcdaaoboaaJoins
namespace Go.Proofs.Ytipakpcdaaoboaa
open Go.ChangeShapes Go.WideShapes Go.ChangeAt Go.RowKit

theorem joins_types : ∀ t ∈ Try.f6.params.toList, Try.prog.readableRec t = true ∧ t < Try.prog.types.size := by
  have h : Try.f6.params.toList.all (fun t => Try.prog.readableRec t && decide (t < Try.prog.types.size)) = true := by kernel_rfl
  intro t ht
  have := List.all_eq_true.1 h t ht
  simpa using this

theorem cells25 : Try.prog.cellsOf 25 = 1 := by kernel_rfl

theorem nv_of {W : World} {a : Addr} {len : Nat} {zs : List Int} (hl : len ≤ zs.length) (hcell : ∀ i, i < zs.length → W.cell? (a.add i) = some (.int .u64 (zs.getD i 0))) (hwz : ∀ n ∈ zs, (Lit.int .u64 n).wf = true) :
    ((zs.take len).map Int.toNat).length = len ∧ NV W W.heap.size (some a) ((zs.take len).map Int.toNat) := by
  refine ⟨by simp; omega, fun hpos => ⟨a, rfl, ?_, fun j x hx => ?_⟩⟩
  · have h0 : 0 < zs.length := by simp at hpos; omega
    have := World.block_lt_of_cell? W _ (hcell 0 h0)
    rwa [block_add] at this
  · simp only [List.getElem?_map, List.getElem?_take, Option.map_eq_some_iff] at hx
    obtain ⟨z, hz, rfl⟩ := hx
    split at hz
    · have hj := (List.getElem?_eq_some_iff.1 hz).1
      have hb := range_u64 hwz j
      have hg : zs.getD j 0 = z := by simp [List.getD, hz]
      rw [hz] at hb
      simp only [Option.getD_some] at hb
      rw [hcell j hj, hg]
      refine ⟨?_, by omega⟩
      rw [Int.toNat_of_nonneg hb.1]
    · cases hz

set_option maxRecDepth 100000 in
theorem joins_lifted (os : Os) (started : os.Started) (H : Type) (enc : TypeId × Value → H) :
    ReturnsInHanded {} Try.checked os 6 .any (Rows.wireJoinsSpec.pre6 enc Try.prog Try.f6 Rows.wireJoinsRow.domain false) (Rows.wireJoinsSpec.post enc Try.prog Try.f6 false true false false) := by
  refine returnsInHanded_of_change (C := Try.checked) own started (by kernel_rfl) Try.func6
    (ChangeSpec.witness6 (enc := enc) (C := Try.checked) false ⟨#[], #[.slice none 0 0, .int .i64 0], []⟩ 8 (by kernel_rfl) (by kernel_rfl) (by kernel_rfl) (by kernel_rfl)) ?_
  intro W base args ds gs before hval0 hW _ _
  have hval : ∀ (j : Nat) t v, Try.f6.params[j]? = some t → args[j]? = some v → Value.okWide Try.prog W .any base t v := hval0
  have hW' : DataW.Whole enc Try.prog Try.f6.params.toList Rows.wireJoinsSpec.vars false W args.toList ds gs before := hW
  obtain ⟨p, q, hA0, hV, rfl, hfz, hnd⟩ := hW
  have hA : DataW.TrodAll enc Try.prog W 0 (fun _ => true) true Try.f6.params.toList args.toList ds p := hA0
  rw [Try.params6] at hA hval
  obtain ⟨v0, v1, d0, d1, p0, p1, rfl, rfl, rfl, h0, h1⟩ := trodAll_two hA
  obtain ⟨rfl, rfl⟩ := trodVars_none hV
  obtain ⟨a0, len, cap, rfl⟩ := okWide_slice Try.underlying54 (hval 0 54 v0 rfl rfl)
  obtain ⟨t, rfl, rfl, rfl, _⟩ := open_int Try.underlying3 (hval 1 3 v1 rfl rfl) h1
  clear hA0 hval0 hval
  have fin : ∀ (N : List Nat), N.length = len → NV W W.heap.size a0 N → len ≤ cap → cap ≤ 9223372036854775807 →
      Calls Try.prog 6 #[.slice a0 len cap, .int .i64 t] W fun e W' => ∃ v, e = .returned v ∧ Rows.wireJoinsSpec.post enc Try.prog Try.f6 false true false false W #[.slice a0 len cap, .int .i64 t] v W' := by
    intro N hN hnv hlc hcm
    subst hN
    refine (joins_walk a0 N cap W.heap.size t W hnv (Nat.le_refl _) hlc hcm).mono fun e W' ⟨he, hb⟩ => ?_
    exact ⟨_, he, law_post (by kernel_rfl) rfl joins_types hW' rfl hb⟩
  obtain ⟨fuel, hf⟩ := h0
  rcases open_ints Try.underlying54 Try.underlying25 cells25 hf with ⟨hcs, hx⟩ | ⟨a, len', cap', zs, hcs, _, hl, hm, hz, hx, hcell, hwz⟩
  · injection hcs with hcs
    injection hcs with e1 e2 e3
    subst e1
    subst e2
    subst e3
    exact fin [] rfl (fun h => absurd h (by simp)) (Nat.le_refl _) (by omega)
  · injection hcs with hcs
    injection hcs with e1 e2 e3
    subst e1
    subst e2
    subst e3
    have hz' : zs.length = cap := hz
    obtain ⟨hN, hnv⟩ := nv_of (len := len) (by omega) hcell hwz
    exact fin _ hN hnv hl (by unfold maxLen at hm; omega)

theorem wireJoins_holds : Rows.WireJoinsSaid :=
  OpenClaim.holds_of_wide 6 Try.f6 rfl rfl rfl rfl rfl rfl rfl ⟨rfl, rfl, rfl, rfl, rfl⟩ rfl rfl rfl rfl rfl (by kernel_rfl) Try.func6 (by kernel_rfl)
    (of_decide_eq_true (by kernel_rfl)) (by unfold Func.isWrapper; first | (rw [if_pos (by decide +kernel)]; kernel_rfl) | (rw [if_neg (by decide +kernel)]; exact ⟨rfl, rfl⟩))
    (fun os started H enc _ => joins_lifted os started H enc)
#print axioms wireJoins_holds
end Go.Proofs.Ytipakpcdaaoboaa
