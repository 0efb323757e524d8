/-
  THE DOCUMENT'S OWN SCALARS: less.
-/
import Derived.Test.YthejahhhmkkhoaaBelow
import Derived.Test.YthejahhhmkkhoaaLess
import Derived.Test.YthejahhhmkkhoaaCalls
import Derived.Deep.AppendLies
namespace Go.Proofs.Ythejahhhmkkhoaa
open Go.RowKit Go.IntWalk Nums

/-- The numbers l lie in block g from its head on, and may be written. -/
def RL (w : World) (g : Nat) (l : List Int) : Prop := g < w.heap.size ∧ (∀ j, j < l.length → w.cell? ⟨g, j, none⟩ = some (.int .i64 l[j]!)) ∧ ∀ j, j < l.length → w.frozen? ⟨g, j, none⟩ = false
section
variable {w w' : World} {g B : Nat} {l : List Int}
theorem RL.il (h : RL w g l) : IL w g l := ⟨h.1, h.2.1⟩
theorem RL.below (h : RL w g l) (hb : Below B w w') (hg : g < B) : RL w' g l :=
  ⟨Nat.lt_of_lt_of_le h.1 hb.size, fun j hj => (hb.cell (p := ⟨g, j, none⟩) hg).trans (h.2.1 j hj), fun j hj => (hb.frozen (p := ⟨g, j, none⟩) hg).trans (h.2.2 j hj)⟩
theorem RL.later (h : RL w g l) (hb : Below w.heap.size w w') : RL w' g l := h.below hb h.1
theorem RL.set (h : RL w g l) (k : Nat) (x : Int) : RL (w.setCell ⟨g, k, none⟩ (.int .i64 x)) g (l.set k x) := by
  refine ⟨by simpa [World.setCell] using h.1, fun j hj => ?_, fun j hj => ?_⟩
  · rw [List.length_set] at hj
    by_cases e : j = k
    · subst e
      rw [World.cell?_setCell_same _ _ _ (h.2.1 j hj)]
      simp [hj]
    · rw [World.cell?_setCell_other _ _ _ _ (by intro he; injection he with _ he _; omega), h.2.1 j hj]
      have e1 : (l.set k x)[j]! = l[j]! := by
        rw [getElem!_pos (l.set k x) j (by rw [List.length_set]; exact hj), List.getElem_set_ne (by omega), getElem!_pos l j hj]
      rw [e1]
  · rw [List.length_set] at hj
    rw [World.frozen?_setCell]
    exact h.2.2 j hj
theorem RL.far (h : RL w g l) {p : Addr} (hp : g ≠ p.block) (u : Value) : RL (w.setCell p u) g l :=
  ⟨by simpa [World.setCell] using h.1, fun j hj => by rw [World.cell?_setCell_other _ _ _ _ (fun e => hp (by rw [e]))]; exact h.2.1 j hj, fun j hj => by rw [World.frozen?_setCell]; exact h.2.2 j hj⟩
end
theorem own_order : Own 25 := fun _ _ => by go_simp
theorem own_below : Own 20 := fun _ _ => by go_simp
theorem own_less : Own 21 := fun _ _ => by go_simp

theorem info_i64 : (Try.prog.info? 3).map (fun i => (i.zero, i.size, i.bytes)) = some (some (.int .i64 0), 1, 8) := by kernel_rfl

set_option maxRecDepth 100000 in
set_option maxHeartbeats 4000000 in
theorem less_any (l : List Int) (g c : Nat) (w : World) (hl : l.length = 33) (hs : Small2 l) (h : IL w g l) (hge : lowL l = false) :
    Calls Try.prog 21 #[.slice (some ⟨g, 0, none⟩) 33 c] w fun e w' => ∃ m g' c', m.length = 33 ∧ Small2 m ∧ V2 m = V2 l - V2 od33 ∧ w.heap.size ≤ g' ∧ RL w' g' m ∧ e = .returned (.slice (some ⟨g', 0, none⟩) 33 c') ∧ Below w.heap.size w w' := by
  have hge2 : V2 od33 ≤ V2 l := by
    unfold lowL at hge
    rw [V2_od33]
    exact Int.not_lt.1 (of_decide_eq_false hge)
  obtain ⟨i0, hi0, hz0, hz1, hz2⟩ := info_parts info_i64
  go_enter Try.func21, Try.ntmps21
  have hown : (w.alloc (.cells #[] 3)).ownsRow w.heap.size 3 1 (.slice (some ⟨w.heap.size, 0, none⟩) 0 0) 0 [] := ⟨rfl, .inr ⟨w.heap.size, 0, #[], rfl, Nat.le_refl _, Blk.new w _ _, Nat.le_refl _, Nat.zero_le _, rfl, rfl⟩⟩
  have hnews : ∀ j u, (Is l)[j]? = some u → (w.alloc (.cells #[] 3)).cell? ((⟨g, 0, none⟩ : Addr).add j) = some u := fun j u hu => by
    have hj : j < l.length := by
      have := (List.getElem?_eq_some_iff.1 hu).1
      rwa [Is_len] at this
    rw [Addr.add_mid, Nat.zero_add, World.cell?_alloc_lt _ _ _ h.1, h.2 j hj, ← hu, getElem!_pos l j hj]
    simp [Is, hj]
  have hlen : (Is l).length = 33 * 1 := by rw [Is_len, hl]
  have hbe1 : Below w.heap.size w (w.alloc (.cells #[] 3)) := (Below.refl _ _).alloc (Nat.le_refl _) _
  have hbs : w.heap.size ≤ (w.alloc (.cells #[] 3)).heap.size := hbe1.size
  have HX := Lib.hid (And.intro hs (And.intro hge2 hbe1))
  clear h hge hge2 hs hbe1
  go_wp2_with (at_builtin; refine wpList_append_lies _ rfl (.tmp 5) (.tmp 6) 44 rfl w.heap.size 3 i0 _ 1 8 Try.underlying44 hi0 hz0 hz1 hz2 rfl (by decide) (.slice (some ⟨w.heap.size, 0, none⟩) 0 0) 0 [] rfl hown ⟨g, 0, none⟩ 33 c (Is l) rfl hlen hnews (Is_one l) (by decide) (by decide) (by decide) hbs _ rfl ?_; intro g' cap w1 hown1 hgrow hat hlt)
  have hwg : w.heap.size ≤ g' := by
    rcases hat with h1 | h1
    · injection h1 with h1
      exact Nat.le_of_eq h1
    · rw [h1]; exact hbs
  have hB1 : Below w.heap.size w w1 := below_only HX.out.2.2 hgrow hbs (Nat.le_refl _)
  have hR1 : RL w1 g' l := by
    rcases hown1.2 with ⟨_, h0⟩ | ⟨g2, cap2, cur, hv, hb, hg, hn, hc, hcs, htk⟩
    · exact absurd h0 (by decide)
    · injection hv with hv1 hv2 hv3
      injection hv1 with hv1
      injection hv1 with hv1
      subst hv1
      rw [List.nil_append] at htk
      refine ⟨hlt, fun j hj => ?_, fun j hj => frozen_of_row w1 g' j cur _ hg⟩
      rw [cell_of_row w1 g' j cur _ _ hg]
      have e1 : (Is l)[j]? = some (.int .i64 l[j]!) := by rw [getElem!_pos l j hj]; simp [Is, hj]
      rw [← htk, List.getElem?_take] at e1
      split at e1
      · simpa using e1
      · cases e1
  have HK := Lib.hid (And.intro hB1 hR1)
  clear hown hown1 hgrow hat hlt hB1 hR1 hnews hlen hbs hi0 hz0 hz1 hz2 i0
  go_loopw [4] (fun i wr => ∃ k : Nat, k ≤ 33 ∧ i = .int .i64 k ∧ ∃ out, Sb l out k ∧ RL wr g' out ∧ Below w.heap.size w wr) (fun i _ => 33 - (intOf i).toNat)
  case atStart => exact ⟨0, by omega, rfl, l, Sb.start l, HK.out.2, HK.out.1⟩
  case round =>
    clear HK
    obtain ⟨k, hk, rfl, out, hS, hR, hB⟩ := hrel
    have hol := hS.len hl hk
    by_cases hlt : k < 33
    · obtain ⟨⟨hx0, hx1⟩, hge, hlo, hno⟩ := hS.next hl HX.out.1 hlt
      have c0 := hR.2.1 k (by omega)
      have f0 := hR.2.2 k (by omega)
      have ho := small_get od33_small (i := k) (by rw [od33_len]; exact hlt)
      by_cases h32 : k < 32
      · have c1 := hR.2.1 (k + 1) (by omega)
        have f1 := hR.2.2 (k + 1) (by omega)
        have HO := fun w1 => Lib.hid (order_any k h32 w1)
        have hgel := hge (out[k]! - od33[k]!) rfl
        have hlol := fun hz => hlo (out[k]! - od33[k]!) rfl hz (by omega)
        have hyb := hS.after hl HX.out.1 (by omega)
        have h33 : (k : Int) < 33 := by omega
        have h32i : (k : Int) < 32 := by omega
        have HH := Lib.hid (And.intro hR hB)
        have HS := Lib.hid (And.intro hgel hlol)
        have hset : ∀ u : Int, (out.set k (out[k]! - od33[k]!)).set k u = out.set k u := fun u => List.set_set ..
        clear hge hlo hno hgel hlol hS hR hB
        generalize hx : out[k]! = x at *
        generalize hy : out[k + 1]! = y at *
        generalize od33[k]! = o at *
        go_wp2
        have hlater : ∀ w5, Up wr w5 → w5.cell? ⟨g', k, none⟩ = some (.int .i64 x) := fun w5 h5 => by
          have h7 := (HH.out.1.later h5).2.1 k (by omega)
          rw [hx] at h7
          exact h7
        refine region_B 8 (Up wr) (by decide) (by kernel_rfl) (by kernel_rfl) (fun _ _ h hw => h.step hw) (Up.drew wr) (fun _ _ d _ _ h => by cases d <;> exact h) ?_
        simp only [List.take_succ_cons, List.take_zero, List.drop_succ_cons, List.drop_zero]
        refine b_move rfl rfl ?_
        refine b_move rfl rfl ?_
        refine wpB_step (fun K hK => ?_)
        go_simp
        refine ⟨_, fun _ _ => ⟨rfl, rfl⟩, hK _ ?_⟩
        clear hK K
        refine b_val (v := .int .i64 x) rfl (fun w5 h5 => by have hc := hlater w5 h5; go_simp) ?_
        refine b_move rfl rfl ?_
        refine b_one rfl own_order (fun w5 => (HO w5).out) rfl rfl ?_
        refine wpB_step (fun K hK => ?_)
        go_simp
        refine ⟨_, fun _ _ => ⟨rfl, rfl⟩, hK _ ?_⟩
        clear hK K
        refine wpB_step (fun K hK => ?_)
        go_simp
        refine ⟨_, fun _ _ => ⟨rfl, rfl⟩, hK _ ?_⟩
        clear hK K
        refine wpB_nil ?_
        intro w5 h5
        have hR5 := HH.out.1.later h5
        have hB5 := below_up HH.out.2 h5
        have c0 := hR5.2.1 k (by omega)
        have c1 := hR5.2.1 (k + 1) (by omega)
        have f0 := hR5.2.2 k (by omega)
        have f1 := hR5.2.2 (k + 1) (by omega)
        rw [hx] at c0
        rw [hy] at c1
        have hRs := hR5.set k (x - o)
        have hBs := hB5.setCell (p := ⟨g', k, none⟩) hwg (.int .i64 (x - o))
        by_cases hz : 0 ≤ x - o
        · have HD := Lib.hid (And.intro (HS.out.1 hz) (And.intro hRs hBs))
          clear HS HH hRs hBs hR5 hB5 hset hlater HO
          go_wp2
          go_roundw
          case rel => exact ⟨k + 1, by omega, by go_num, _, HD.out.1, HD.out.2.1, HD.out.2.2⟩
          case measure => simp [intOf]; omega
        · have hz2 : x - o < 0 := by omega
          have hRs2 := (hRs.set k (x - o + 256)).set (k + 1) (y - 1)
          have hBs2 := (hBs.setCell (p := ⟨g', k, none⟩) hwg (.int .i64 (x - o + 256))).setCell (p := ⟨g', k + 1, none⟩) hwg (.int .i64 (y - 1))
          rw [hset] at hRs2
          have HD := Lib.hid (And.intro (HS.out.2 hz2) (And.intro hRs2 hBs2))
          clear HS HH hRs hBs hR5 hB5 hset hlater HO hRs2 hBs2
          go_wp2
          go_roundw
          case rel => exact ⟨k + 1, by omega, by go_num, _, HD.out.1, HD.out.2.1, HD.out.2.2⟩
          case measure => simp [intOf]; omega
      · obtain rfl : k = 32 := by omega
        have hx2 : ¬ out[32]! < 0 := fun h => absurd (hno rfl h) (Int.not_lt.2 HX.out.2.1)
        have hg2 := hge (out[32]!) (by rw [show od33[32]! = 0 from rfl, Int.sub_zero]) (by omega)
        rw [getElem!_pos out 32 (by omega), List.set_getElem_self] at hg2
        have HD := Lib.hid (And.intro hg2 (And.intro hR hB))
        clear hge hlo hno hg2 hR hB hS
        generalize out[32]! = x at *
        go_wp2
        go_roundw
        case rel => exact ⟨33, by omega, by go_num, _, HD.out.1, HD.out.2.1, HD.out.2.2⟩
        case measure => simp [intOf]
    · obtain rfl : k = 33 := by omega
      obtain ⟨hsm, hv⟩ := hS.last hl HX.out.1 HX.out.2.1
      go_wp2
      go_ret
      exact ⟨out, g', cap, hol, hsm, hv, hwg, hR, by simp, hB⟩
end Go.Proofs.Ythejahhhmkkhoaa
