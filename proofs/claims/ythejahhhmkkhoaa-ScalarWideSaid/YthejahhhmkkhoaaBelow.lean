/-
  THE DOCUMENT'S OWN SCALARS: order, Below.
-/
import Derived.Test.YthejahhhmkkhoaaScal
import Derived.Test.YthejahhhmkkhoaaQuiet
namespace Go.Proofs.Ythejahhhmkkhoaa
open Go.RowKit Go.IntWalk Nums

set_option maxRecDepth 100000 in
theorem order_any (i : Nat) (hi : i < 32) (w : World) :
    Calls Try.prog 25 #[.int .i64 i] w fun e w' => e = .returned (.int .i64 od33[i]!) ∧ Below w.heap.size w w' := by
  go_enter Try.func25, Try.ntmps25
  go_wp2
  go_ret
  refine ⟨?_, (Below.refl _ _).alloc (Nat.le_refl _) _⟩
  rw [← od_get i hi]
  have hod : i < od.length := hi
  have e : (Is od)[i]'(by rw [Is_len]; exact hod) = .int .i64 od[i]! := by
    rw [getElem!_pos od i hod]
    simp [Is]
  exact congrArg Ending.returned e

theorem ret_bool {a b : Bool} (h : a = b) : Ending.returned (.bool a) = .returned (.bool b) := by rw [h]

/-- The numbers l lie in block g, from its head on. -/
def IL (w : World) (g : Nat) (l : List Int) : Prop := g < w.heap.size ∧ ∀ j, j < l.length → w.cell? ⟨g, j, none⟩ = some (.int .i64 l[j]!)
theorem IL.below {w w' : World} {g B : Nat} {l : List Int} (h : IL w g l) (hb : Below B w w') (hg : g < B) : IL w' g l :=
  ⟨Nat.lt_of_lt_of_le h.1 hb.size, fun j hj => (hb.cell (p := ⟨g, j, none⟩) hg).trans (h.2 j hj)⟩

set_option maxRecDepth 100000 in
set_option maxHeartbeats 1000000 in
theorem below_any (l : List Int) (g c : Nat) (w : World) (hl : l.length = 33) (hs : Small2 l) (h : IL w g l) :
    Calls Try.prog 20 #[.slice (some ⟨g, 0, none⟩) 33 c] w fun e w' => e = .returned (.bool (lowL l)) ∧ Below w.heap.size w w' := by
  have c32 := h.2 32 (by omega)
  have hx := hs l[32]! (by rw [getElem!_pos l 32 (by omega)]; exact List.getElem_mem _)
  have hat := lowL_at hl hs (k := 32) (by omega) (by rw [List.drop_eq_nil_of_le (by omega), List.drop_eq_nil_of_le (by rw [od33_len]; omega)])
  have hde := drop_eq hl (k := 32) (by omega) (by rw [List.drop_eq_nil_of_le (by omega), List.drop_eq_nil_of_le (by rw [od33_len]; omega)])
  rw [show od33[32]! = 0 from rfl] at hat hde
  generalize l[32]! = x at *
  go_enter Try.func20, Try.ntmps20
  by_cases hx0 : x = 0
  · subst hx0
    have hd := hde rfl
    clear hat hde
    go_wp2
    go_loopw [3] (fun i wr => ∃ k : Nat, k ≤ 32 ∧ i = .int .i64 ((k : Int) - 1) ∧ l.drop k = od33.drop k ∧ Below w.heap.size w wr) (fun i _ => (intOf i + 1).toNat)
    case atStart => exact ⟨32, by omega, rfl, hd, Below.refl _ _⟩
    case round =>
      clear hd
      obtain ⟨k, hk, rfl, hd, hb⟩ := hrel
      by_cases hk0 : 0 < k
      · obtain ⟨j, rfl⟩ : ∃ j, k = j + 1 := ⟨k - 1, by omega⟩
        have e0 : (((j + 1 : Nat) : Int) - 1) = (j : Int) := by omega
        rw [e0]
        have HI := fun (w1 : World) (hw1 : Below w.heap.size w w1) => (h.below hw1 h.1).2 j (by omega)
        have HO := fun w1 => Lib.hid (order_any j (by omega) w1)
        have hat := lowL_at hl hs (k := j) (by omega) hd
        have hde := drop_eq hl (k := j) (by omega) hd
        have HB := Lib.hid hb
        have q0 : (j : Int) < 33 := by omega
        clear hb
        generalize l[j]! = x at *
        generalize od33[j]! = y at *
        by_cases hxy : x = y
        · have hdn := hde hxy
          have HD := Lib.hid hdn
          clear hat hde hdn
          go_wp2
          refine wp_region_quiet_C (fun w' => Below w.heap.size w w') (by kernel_rfl) (by kernel_rfl) HB.out.drew ?_
          refine wpQuiet_step (fun K hK => ?_)
          go_simp
          refine ⟨_, fun _ _ => rfl, hK _ ?_⟩
          clear hK K
          refine wpQuiet_step (fun K hK => ?_)
          go_simp
          refine ⟨_, fun _ _ => rfl, hK _ ?_⟩
          clear hK K
          refine wpQuiet_step (fun K hK => ?_)
          go_simp
          refine ⟨_, fun _ _ => rfl, hK _ ?_⟩
          clear hK K
          refine q_go rfl (v := .int .i64 x) (fun w1 hw1 => by have hc := HI w1 hw1; go_simp) ?_
          refine wpQuiet_step (fun K hK => ?_)
          go_simp
          refine ⟨_, fun _ _ => rfl, hK _ ?_⟩
          clear hK K
          refine wpQuiet_step (fun K hK => ?_)
          go_simp
          apply Exists.intro
          refine ⟨fun w1 hw1 => (HO w1).out.mono fun e w2 ⟨he, hw2⟩ => ⟨he, hw1.trans (hw2.mono hw1.size)⟩, hK _ ?_⟩
          clear hK K
          refine wpQuiet_step (fun K hK => ?_)
          go_simp
          refine ⟨_, fun _ _ => rfl, hK _ ?_⟩
          clear hK K
          refine wpQuiet_nil ?_
          intro w5 hw5
          clear HB
          have HB := Lib.hid hw5
          clear hw5
          go_wp2
          go_roundw
          case rel => exact ⟨j, by omega, rfl, HD.out, HB.out⟩
          case measure => simp [intOf]
        · have hv := hat hxy
          clear hat hde
          go_wp2
          refine wp_region_quiet_C (fun w' => Below w.heap.size w w') (by kernel_rfl) (by kernel_rfl) HB.out.drew ?_
          refine wpQuiet_step (fun K hK => ?_)
          go_simp
          refine ⟨_, fun _ _ => rfl, hK _ ?_⟩
          clear hK K
          refine wpQuiet_step (fun K hK => ?_)
          go_simp
          refine ⟨_, fun _ _ => rfl, hK _ ?_⟩
          clear hK K
          refine wpQuiet_step (fun K hK => ?_)
          go_simp
          refine ⟨_, fun _ _ => rfl, hK _ ?_⟩
          clear hK K
          refine q_go rfl (v := .int .i64 x) (fun w1 hw1 => by have hc := HI w1 hw1; go_simp) ?_
          refine wpQuiet_step (fun K hK => ?_)
          go_simp
          refine ⟨_, fun _ _ => rfl, hK _ ?_⟩
          clear hK K
          refine wpQuiet_step (fun K hK => ?_)
          go_simp
          apply Exists.intro
          refine ⟨fun w1 hw1 => (HO w1).out.mono fun e w2 ⟨he, hw2⟩ => ⟨he, hw1.trans (hw2.mono hw1.size)⟩, hK _ ?_⟩
          clear hK K
          refine wpQuiet_step (fun K hK => ?_)
          go_simp
          refine ⟨_, fun _ _ => rfl, hK _ ?_⟩
          clear hK K
          refine wpQuiet_nil ?_
          intro w5 hw5
          clear HB
          have HB := Lib.hid hw5
          clear hw5
          go_wp2
          refine wp_region_quiet_C (fun w' => Below w.heap.size w w') (by kernel_rfl) (by kernel_rfl) HB.out.drew ?_
          refine wpQuiet_step (fun K hK => ?_)
          go_simp
          refine ⟨_, fun _ _ => rfl, hK _ ?_⟩
          clear hK K
          refine wpQuiet_step (fun K hK => ?_)
          go_simp
          refine ⟨_, fun _ _ => rfl, hK _ ?_⟩
          clear hK K
          refine wpQuiet_step (fun K hK => ?_)
          go_simp
          refine ⟨_, fun _ _ => rfl, hK _ ?_⟩
          clear hK K
          refine q_go rfl (v := .int .i64 x) (fun w1 hw1 => by have hc := HI w1 hw1; go_simp) ?_
          refine wpQuiet_step (fun K hK => ?_)
          go_simp
          refine ⟨_, fun _ _ => rfl, hK _ ?_⟩
          clear hK K
          refine wpQuiet_step (fun K hK => ?_)
          go_simp
          apply Exists.intro
          refine ⟨fun w1 hw1 => (HO w1).out.mono fun e w2 ⟨he, hw2⟩ => ⟨he, hw1.trans (hw2.mono hw1.size)⟩, hK _ ?_⟩
          clear hK K
          refine wpQuiet_step (fun K hK => ?_)
          go_simp
          refine ⟨_, fun _ _ => rfl, hK _ ?_⟩
          clear hK K
          refine wpQuiet_step (fun K hK => ?_)
          go_simp
          refine ⟨_, fun _ _ => rfl, hK _ ?_⟩
          clear hK K
          refine wpQuiet_nil ?_
          intro w5 hw5
          clear HB
          have HB := Lib.hid hw5
          clear hw5
          go_wp2
          go_ret
          exact ⟨ret_bool hv.symm, HB.out⟩
      · obtain rfl : k = 0 := by omega
        have hv := lowL_eq hd
        go_wp2
        go_ret
        exact ⟨ret_bool hv.symm, hb⟩
  · have hv := hat hx0
    have hn : ¬ x < 0 := by omega
    rw [decide_eq_false hn] at hv
    clear hat hde
    go_wp2
    go_ret
    exact ⟨ret_bool rfl, Below.refl _ _⟩
end Go.Proofs.Ythejahhhmkkhoaa
