/-
  PROVED: CurveTorsion answers true for every input: a small point added to any point changes no multiple by 8. No condition but the row's own: the table lies as the program's text lays it (the card ties it): the statement '..CardSaid' itself.
-/
import Derived.Test.YtgmiaaapaiccdaaDoorMo
import Derived.Test.YtgmiaaapaiccdaaDoorMl
namespace Go.Proofs.YtgmiaaapaiccdaaDoor
open Go.RowKit Go.IntWalk Nums
open Go.ChangeShapes Go.WideShapes Go.ChangeAt

def ZF (g1 g6 : Nat) (which : Int) (i : Nat) : List (Nat × Value) := [(1, .int .i64 which), (2, .pointer (some ⟨g1, 0, none⟩)), (4, .bool false), (6, .pointer (some ⟨g6, 0, none⟩)), (7, .int .i64 (i : Int))]
def ZR (w : World) (a : List UInt8) (g1 g6 : Nat) (i : Nat) (W : World) : Prop := 0 < i ∧ i ≤ 31 ∧ Up w W ∧ Tw W ∧ Blk W g1 22 (By a).toArray ∧ Blk W g6 22 (By (flB i)).toArray
set_option maxRecDepth 100000 in
set_option maxHeartbeats 8000000 in
theorem curveTorsion_walk {a : List UInt8} (la : a.length = 32) (which : Int) (w : World) (hT : Tw w) :
    Calls Tryd.prog 9 #[.agg (By a).toArray, .int .i64 which] w fun e w' => e = .returned (.bool true) ∧ Below w.heap.size w w' := by
  refine calls_F (vs := [.agg (By a).toArray, .int .i64 which]) 69 Tryd.func9 rfl (by rw [Tryd.ntmps9]; rfl) ?_
  have hoP := Ed.on_mul good on_base (le a)
  have hw0 := hT.lt
  refine c_seq fun K hK => ?_
  refine c_lit ?_
  refine l_boxA ((By a).toArray) rfl rfl rfl rfl rfl fun W1 g1 hw1 hg1 b1 => ?_
  have q1 : w.heap.size ≤ g1 := by rw [hg1]; exact Nat.le_refl _
  clear hg1
  replace hT := hT.below hw1
  have hU : Up w _ := hw1
  refine l_assign (.bool false) rfl rfl rfl rfl rfl ?_
  refine l_nil ?_
  refine hK _ _ ?_
  clear hK K
  refine c_seq fun K0 hK0 => ?_
  refine c_seq fun K hK => ?_
  refine c_qF ?_
  refine f_call #[] (.bool true) rfl rfl rfl own_lfirst (fun w1 h1 => lfirst_f w1 (hT.below h1)) rfl rfl ?_
  refine f_not true false rfl rfl rfl rfl rfl rfl ?_
  refine f_end fun w2 hw2 => ?_
  replace b1 := b1.later hw2
  replace hT := hT.below hw2
  replace hU := hU.step hw2
  refine hK _ _ ?_
  clear hK K
  refine c_cond false rfl ?_
  rw [if_neg (by decide)]
  refine c_skip ?_
  refine hK0 _ _ ?_
  clear hK0 K0
  refine c_seq fun K hK => ?_
  refine c_tF 4 ?_
  refine f_build [(0, .int .u8 1)] (By oneB).toArray rfl rfl rfl rfl rfl builtOne ?_
  refine f_build [] (By c0).toArray rfl rfl rfl rfl rfl built0B ?_
  refine f_build [(31, .int .u8 128)] (By c128).toArray rfl rfl rfl rfl rfl built128 ?_
  refine f_build [(0, .int .u8 236), (31, .int .u8 127)] (By c236).toArray rfl rfl rfl rfl rfl built236 ?_
  refine f_tail fun w3 hw3 => ?_
  replace b1 := b1.later hw3
  replace hT := hT.below hw3
  replace hU := hU.step hw3
  refine l_val (w' := w3.alloc (.cells all4.toArray 22)) (.slice (some ⟨w3.heap.size, 0, none⟩) 4 4) rfl rfl rfl (fun a ha => by have h := run_slice4 w3; unfold execOp; simp only [List.map_toArray, List.map_cons, List.map_nil, ha.eval (x := .tmp 13) rfl, ha.eval (x := .tmp 14) rfl, ha.eval (x := .tmp 15) rfl, ha.eval (x := .tmp 16) rfl, Sem.run_bind, h, Result.andThen_ok, Sem.run_pure]) ?_
  have b90 := Blk.new w3 22 all4.toArray
  have hal : Up w3 (w3.alloc (.cells all4.toArray 22)) := (Up.refl _).alloc _
  have n1_90 : g1 ≠ w3.heap.size := by have := b1.lt; omega
  have q90 : w.heap.size ≤ w3.heap.size := hU.size
  replace b1 := b1.later hal
  replace hT := hT.below hal
  replace hU := hU.step hal
  generalize w3.alloc (.cells all4.toArray 22) = W3 at *
  generalize w3.heap.size = g90 at *
  skip
  refine l_assign (.slice (some ⟨g90, 0, none⟩) 4 4) rfl rfl rfl rfl rfl ?_
  refine l_nil ?_
  refine hK _ _ ?_
  clear hK K
  obtain ⟨u, hu⟩ := wrap_nat which
  obtain ⟨k, hk⟩ : ∃ k, k = u % 4 := ⟨_, rfl⟩
  have hk4 : k < 4 := by omega
  have hrem : (u : Int).tmod 4 = (k : Int) := by rw [tmod4, hk]
  have hlk := rawB_len k
  refine c_seq fun K hK => ?_
  refine c_newF 6 [nvH 6] (by decide) ⟨⟨rfl, rfl, rfl, rfl, by kernel_rfl⟩, trivial⟩ ?_
  refine f_move (.slice (some ⟨g90, 0, none⟩) 4 4) rfl rfl rfl rfl rfl ?_
  refine f_move (.int .i64 which) rfl rfl rfl rfl rfl ?_
  refine f_uintI which (u : Int) rfl rfl rfl rfl rfl hu ?_
  refine f_remV (u : Int) 4 (k : Int) (by decide) rfl rfl rfl rfl rfl rfl hrem ?_
  refine f_ixV _ (.int .u64 (k : Int)) ⟨g90, 32 * k, none⟩ rfl rfl rfl rfl rfl rfl (ix63 _ k hk4) ?_
  refine f_by g90 (32 * k) hlk rfl rfl rfl rfl rfl (fun _ h1 => all4_at (h1.blk b90) k hk4) ?_
  refine f_new [.tmp 23] [(By ((rawB k))).toArray] ⟨rfl, trivial⟩ (by decide) ⟨⟨rfl, rfl, rfl⟩, rfl⟩ ⟨⟨rfl, (len_by (l := List.replicate 32 0) rfl).trans (len_by hlk).symm, size_H hlk, By_oneA _⟩, trivial⟩ fun f4 W4 hg4 hd4 hw4 hb4 => ?_
  have b400 : Blk W4 (f4 0) 22 ((By ((rawB k))).toArray) := hb4.1
  clear hb4
  have q400 : w.heap.size ≤ f4 0 := Nat.le_trans hU.size (hg4 0 (by decide))
  have n1_400 : g1 ≠ f4 0 := by have := b1.lt; have := hg4 0 (by decide); omega
  have n90_400 : g90 ≠ f4 0 := by have := b90.lt; have := hg4 0 (by decide); omega
  replace b1 := b1.later hw4
  replace b90 := b90.later hw4
  replace hT := hT.below hw4
  replace hU := hU.step hw4
  clear hg4 hd4 hw4
  generalize hf400 : f4 0 = g400 at *
  simp only [ptrs, hf400]
  clear hf400 f4
  refine l_nil ?_
  refine k_sub (E' := [(1, .int .i64 which), (2, .pointer (some ⟨g1, 0, none⟩)), (4, .bool false), (6, .pointer (some ⟨g400, 0, none⟩))]) ⟨rfl, rfl, rfl, rfl, trivial⟩ ?_
  refine hK _ _ ?_
  clear hK K
  refine c_seq fun K0 hK0 => ?_
  refine c_seq fun K hK => ?_
  by_cases h3 : k = 3
  · refine c_qF ?_
    refine f_move (.int .i64 which) rfl rfl rfl rfl rfl ?_
    refine f_uintI which (u : Int) rfl rfl rfl rfl rfl hu ?_
    refine f_remV (u : Int) 4 (k : Int) (by decide) rfl rfl rfl rfl rfl rfl hrem ?_
    refine f_eqU (k : Int) 3 true rfl rfl rfl rfl rfl rfl (by rw [decide_eq_true]; omega) ?_
    refine f_end fun w5 hw5 => ?_
    replace b1 := b1.later hw5
    replace b400 := b400.later hw5
    replace hT := hT.below hw5
    replace hU := hU.step hw5
    refine hK _ _ ?_
    clear hK K
    refine c_cond true rfl ?_
    rw [if_pos rfl]
    have hraw : rawB k = flB 1 := by rw [h3]; exact flB_1
    rw [hraw] at b400
    refine c_seq fun K hK => ?_
    refine c_qF ?_
    refine f_assign (.int .i64 1) rfl rfl rfl rfl rfl ?_
    refine f_end fun w6 hw6 => ?_
    replace b1 := b1.later hw6
    replace b400 := b400.later hw6
    replace hT := hT.below hw6
    replace hU := hU.step hw6
    refine k_sub (E' := ZF g1 g400 which 1) ⟨rfl, rfl, rfl, rfl, rfl, trivial⟩ ?_
    refine hK _ _ ?_
    clear hK K
    refine c_block ?_
    refine c_loop (m := fun i : Nat => 31 - i) (F := ZF g1 g400 which) (R := ZR w a g1 g400) ?_ 1 ⟨by decide, by decide, hU, hT, b1, b400⟩
    clear hU hT b1 b400
    rintro i V0 ⟨h0, hi, hU, hT, b1, b400⟩
    refine c_seq fun K3 hK3 => ?_
    refine c_seq fun K hK => ?_
    refine c_qF ?_
    refine f_move (.int .i64 (i : Int)) rfl rfl rfl rfl rfl ?_
    by_cases hin : i < 31
    · refine f_lssI (i : Int) 31 true rfl rfl rfl rfl rfl rfl (decide_eq_true (by omega)) ?_
      refine f_end fun w7 hw7 => ?_
      replace b1 := b1.later hw7
      replace b400 := b400.later hw7
      replace hT := hT.below hw7
      replace hU := hU.step hw7
      refine hK _ _ ?_
      clear hK K
      refine c_cond true rfl ?_
      refine c_skip ?_
      refine hK3 _ _ ?_
      clear hK3 K3
      refine c_seq fun K hK => ?_
      refine c_block ?_
      have cf := (b400.cell i).trans (By_get (l := flB i) (j := i) (by rw [flB_len]; omega))
      refine c_tF 2 ?_
      refine f_move (.int .i64 (i : Int)) rfl rfl rfl rfl rfl ?_
      refine f_ix _ (i : Int) ⟨g400, i, none⟩ rfl rfl rfl rfl rfl rfl (ixH _ i (by omega)) ?_
      refine f_store ⟨g400, i, none⟩ 255 _ (.inr ⟨rfl, rfl⟩) rfl rfl rfl rfl rfl cf (b400.free i) b400.lt fun w60 hw60 => ?_
      replace b1 := b1.later hw60
      replace b400 := b400.later hw60
      replace hT := hT.below hw60
      replace hU := hU.step hw60
      replace b1 := b1.far (p := ⟨g400, i, none⟩) n1_400 (.int .u8 255)
      replace b400 := b400.set i (.int .u8 ((255 : UInt8).toNat : Int))
      rw [By_set, flB_set h0 hin] at b400
      replace hU : Up w _ := hU.setCell (p := ⟨g400, i, none⟩) q400 (.int .u8 255)
      replace hT := hT.only ((OnlyG.refl w60 g400).set i (.int .u8 255)) (by omega)
      have e255 : ((255 : UInt8).toNat : Int) = 255 := rfl
      rw [e255] at b400
      generalize w60.setCell ⟨g400, i, none⟩ (.int .u8 255) = W60 at *
      clear cf
      refine hK _ _ ?_
      clear hK K
      refine c_qF ?_
      refine f_move (.int .i64 (i : Int)) rfl rfl rfl rfl rfl ?_
      refine f_addI (i : Int) 1 ((i + 1 : Nat) : Int) rfl rfl rfl rfl rfl rfl (addI i 1 (by omega)) ?_
      refine f_assign (.int .i64 ((i + 1 : Nat) : Int)) rfl rfl rfl rfl rfl ?_
      refine f_end fun w8 hw8 => ?_
      replace b1 := b1.later hw8
      replace b400 := b400.later hw8
      replace hT := hT.below hw8
      replace hU := hU.step hw8
      exact k_round (m := fun i : Nat => 31 - i) (F := ZF g1 g400 which) (R := ZR w a g1 g400) (s := i) (i + 1) ⟨rfl, rfl, rfl, rfl, rfl, trivial⟩ ⟨by omega, hin, hU, hT, b1, b400⟩ (by show 31 - (i + 1) < 31 - i; omega)
    · refine f_lssI (i : Int) 31 false rfl rfl rfl rfl rfl rfl (decide_eq_false (by omega)) ?_
      refine f_end fun w71 hw71 => ?_
      replace b1 := b1.later hw71
      replace b400 := b400.later hw71
      replace hT := hT.below hw71
      replace hU := hU.step hw71
      refine hK _ _ ?_
      clear hK K
      refine c_cond false rfl ?_
      refine c_exit ?_
      show kF K0 69 _ _
      obtain rfl : i = 31 := by omega
      rw [flB_31, show 3 = k from h3.symm] at b400
      rw [← smP_enc k] at b400
      refine hK0 _ _ ?_
      refine c_seq fun K hK => ?_
      refine c_newF 5 [nvP 8] (by decide) ⟨⟨rfl, rfl, rfl, rfl, by kernel_rfl⟩, trivial⟩ ?_
      refine f_by g400 0 ((encP_len _)) rfl rfl rfl rfl rfl (fun _ h1 => (h1.blk b400).range) ?_
      refine f_callV #[.agg (By (encP (smP k))).toArray] (fun v => ∃ l, QB l (smP k) ∧ v = .tuple #[.agg (Us l).toArray, .int .i64 0]) rfl rfl rfl own_cdecode (fun w1 h1 => cdec_pt (smP_on k) w1 (hT.below h1)) rfl rfl ?_
      rintro _ ⟨l36, q36, rfl⟩
      refine f_move (.tuple #[.agg (Us l36).toArray, .int .i64 0]) rfl rfl rfl rfl rfl ?_
      refine f_extract (.agg (Us l36).toArray) rfl rfl rfl rfl rfl rfl ?_
      refine f_extract (.int .i64 0) rfl rfl rfl rfl rfl rfl ?_
      refine f_new [.tmp 37] [(Us l36).toArray] ⟨rfl, trivial⟩ (by decide) ⟨⟨rfl, rfl, rfl⟩, rfl⟩ ⟨⟨rfl, us_size pz_len |>.trans (us_size q36.len).symm, size_P q36.len, Us_oneA _⟩, trivial⟩ fun f72 W72 hg72 hd72 hw72 hb72 => ?_
      have b7200 : Blk W72 (f72 0) 29 ((Us l36).toArray) := hb72.1
      clear hb72
      have q7200 : w.heap.size ≤ f72 0 := Nat.le_trans hU.size (hg72 0 (by decide))
      have n1_7200 : g1 ≠ f72 0 := by have := b1.lt; have := hg72 0 (by decide); omega
      have n400_7200 : g400 ≠ f72 0 := by have := b400.lt; have := hg72 0 (by decide); omega
      replace b1 := b1.later hw72
      replace b400 := b400.later hw72
      replace hT := hT.below hw72
      replace hU := hU.step hw72
      clear hg72 hd72 hw72
      generalize hf7200 : f72 0 = g7200 at *
      simp only [ptrs, hf7200]
      clear hf7200 f72
      refine l_assign (.int .i64 0) rfl rfl rfl rfl rfl ?_
      refine l_nil ?_
      refine hK _ _ ?_
      clear hK K
      refine c_seq fun K hK => ?_
      refine c_new 3 [nvP 10] (by decide) (by decide) ⟨⟨rfl, rfl, rfl, rfl, by kernel_rfl⟩, trivial⟩ (by kernel_rfl) (tail_ok (by kernel_rfl)) (by kernel_rfl) (fun _ _ d _ _ h => by cases d <;> exact h) ?_
      refine f_us #[] (QB · base) rfl rfl rfl own_cbase (fun w1 h1 => cbase_f w1) rfl rfl fun r39 v39 => ?_
      refine f_by g1 0 la rfl rfl rfl rfl rfl (fun _ h1 => (h1.blk b1).range) ?_
      refine f_us #[.agg (Us r39).toArray, .agg (By a).toArray] (PB · (Ed.mul dd (le a) base)) rfl rfl rfl own_cmul (fun w1 h1 => cmul_f (.inr v39) la w1 (hT.below h1)) rfl rfl fun r41 v41 => ?_
      refine f_new [.tmp 41] [(Us r41).toArray] ⟨rfl, trivial⟩ (by decide) ⟨⟨rfl, rfl, rfl⟩, rfl⟩ ⟨⟨rfl, us_size pz_len |>.trans (us_size v41.len).symm, size_P v41.len, Us_oneA _⟩, trivial⟩ fun f73 W73 hg73 hd73 hw73 hb73 => ?_
      have b7300 : Blk W73 (f73 0) 29 ((Us r41).toArray) := hb73.1
      clear hb73
      have q7300 : w.heap.size ≤ f73 0 := Nat.le_trans hU.size (hg73 0 (by decide))
      have n1_7300 : g1 ≠ f73 0 := by have := b1.lt; have := hg73 0 (by decide); omega
      have n400_7300 : g400 ≠ f73 0 := by have := b400.lt; have := hg73 0 (by decide); omega
      have n7200_7300 : g7200 ≠ f73 0 := by have := b7200.lt; have := hg73 0 (by decide); omega
      replace b1 := b1.later hw73
      replace b400 := b400.later hw73
      replace b7200 := b7200.later hw73
      replace hT := hT.below hw73
      replace hU := hU.step hw73
      clear hg73 hd73 hw73
      generalize hf7300 : f73 0 = g7300 at *
      simp only [ptrs, hf7300]
      clear hf7300 f73
      refine l_nil ?_
      refine k_sub (E' := [(2, .pointer (some ⟨g1, 0, none⟩)), (4, .bool false), (6, .pointer (some ⟨g400, 0, none⟩)), (8, .pointer (some ⟨g7200, 0, none⟩)), (9, .int .i64 0), (10, .pointer (some ⟨g7300, 0, none⟩))]) ⟨rfl, rfl, rfl, rfl, rfl, rfl, trivial⟩ ?_
      refine hK _ _ ?_
      clear hK K
      refine c_seq fun K hK => ?_
      refine c_q (by kernel_rfl) (tail_ok (by kernel_rfl)) (fun _ _ d _ _ h => by cases d <;> exact h) ?_
      refine f_move (.int .i64 0) rfl rfl rfl rfl rfl ?_
      refine f_eqE 0 0 true rfl rfl rfl rfl rfl rfl rfl (by decide) ?_
      refine f_move (.bool true) rfl rfl rfl rfl rfl ?_
      refine f_guard rfl rfl rfl rfl ?_
      refine f_pt g7200 0 q36.len rfl rfl rfl rfl rfl (fun _ h1 => (h1.blk b7200).range) ?_
      refine f_guard rfl rfl rfl rfl ?_
      refine f_call #[.agg (Us l36).toArray] (.bool true) rfl rfl rfl own_csmall (fun w1 h1 => (by have h := csmall_f (.inr q36) w1 (hT.below h1); rwa [decide_eq_true (congrArg encP (smP_8 k))] at h)) rfl rfl ?_
      refine f_pick (.bool true) rfl rfl rfl rfl rfl rfl ?_
      refine f_move (.bool true) rfl rfl rfl rfl rfl ?_
      refine f_guard rfl rfl rfl rfl ?_
      refine f_pt g7300 0 v41.len rfl rfl rfl rfl rfl (fun _ h1 => (h1.blk b7300).range) ?_
      refine f_guard rfl rfl rfl rfl ?_
      refine f_pt g7200 0 q36.len rfl rfl rfl rfl rfl (fun _ h1 => (h1.blk b7200).range) ?_
      refine f_guard rfl rfl rfl rfl ?_
      refine f_us #[.agg (Us r41).toArray, .agg (Us l36).toArray] (QB · (Ed.add dd (Ed.mul dd (le a) base) (smP k))) rfl rfl rfl own_cadd (fun w1 h1 => cadd_f v41 (.inr q36) w1 (hT.below h1)) rfl rfl fun r51 v51 => ?_
      refine f_guard rfl rfl rfl rfl ?_
      refine f_build [(0, .int .u8 8)] (By eightB).toArray rfl rfl rfl rfl rfl builtEight ?_
      refine f_guard rfl rfl rfl rfl ?_
      refine f_us #[.agg (Us r51).toArray, .agg (By eightB).toArray] (PB · (Ed.mul dd (le eightB) (Ed.add dd (Ed.mul dd (le a) base) (smP k)))) rfl rfl rfl own_cmul (fun w1 h1 => cmul_f (.inr v51) ((rfl : eightB.length = 32)) w1 (hT.below h1)) rfl rfl fun r53 v53 => ?_
      refine f_guard rfl rfl rfl rfl ?_
      refine f_call #[.agg (Us r53).toArray] (.agg (By (encP (Ed.mul dd (le eightB) (Ed.add dd (Ed.mul dd (le a) base) (smP k))))).toArray) rfl rfl rfl own_chash (fun w1 h1 => chash_f v53 w1 (hT.below h1)) rfl rfl ?_
      refine f_guard rfl rfl rfl rfl ?_
      refine f_pt g7300 0 v41.len rfl rfl rfl rfl rfl (fun _ h1 => (h1.blk b7300).range) ?_
      refine f_guard rfl rfl rfl rfl ?_
      refine f_build [(0, .int .u8 8)] (By eightB).toArray rfl rfl rfl rfl rfl builtEight ?_
      refine f_guard rfl rfl rfl rfl ?_
      refine f_us #[.agg (Us r41).toArray, .agg (By eightB).toArray] (PB · (Ed.mul dd (le eightB) (Ed.mul dd (le a) base))) rfl rfl rfl own_cmul (fun w1 h1 => cmul_f v41 ((rfl : eightB.length = 32)) w1 (hT.below h1)) rfl rfl fun r57 v57 => ?_
      refine f_guard rfl rfl rfl rfl ?_
      refine f_call #[.agg (Us r57).toArray] (.agg (By (encP (Ed.mul dd (le eightB) (Ed.mul dd (le a) base)))).toArray) rfl rfl rfl own_chash (fun w1 h1 => chash_f v57 w1 (hT.below h1)) rfl rfl ?_
      refine f_guard rfl rfl rfl rfl ?_
      refine f_eqs ((encP (Ed.mul dd (le eightB) (Ed.add dd (Ed.mul dd (le a) base) (smP k))))) ((encP (Ed.mul dd (le eightB) (Ed.mul dd (le a) base)))) rfl rfl rfl rfl rfl rfl rfl ((encP_len _)) (congrArg encP (add_sm hoP k)) ?_
      refine f_pick (.bool true) rfl rfl rfl rfl rfl rfl ?_
      refine f_move (.bool true) rfl rfl rfl rfl rfl ?_
      refine f_guard rfl rfl rfl rfl ?_
      refine f_pt g7200 0 q36.len rfl rfl rfl rfl rfl (fun _ h1 => (h1.blk b7200).range) ?_
      refine f_guard rfl rfl rfl rfl ?_
      refine f_build [(0, .int .u8 8)] (By eightB).toArray rfl rfl rfl rfl rfl builtEight ?_
      refine f_guard rfl rfl rfl rfl ?_
      refine f_us #[.agg (Us l36).toArray, .agg (By eightB).toArray] (PB · (Ed.mul dd (le eightB) (smP k))) rfl rfl rfl own_cmul (fun w1 h1 => cmul_f (.inr q36) ((rfl : eightB.length = 32)) w1 (hT.below h1)) rfl rfl fun r64 v64 => ?_
      refine f_guard rfl rfl rfl rfl ?_
      refine f_call #[.agg (Us r64).toArray] (.agg (By (encP (Ed.mul dd (le eightB) (smP k)))).toArray) rfl rfl rfl own_chash (fun w1 h1 => chash_f v64 w1 (hT.below h1)) rfl rfl ?_
      refine f_guard rfl rfl rfl rfl ?_
      refine f_build [(0, .int .u8 1)] (By oneB).toArray rfl rfl rfl rfl rfl builtOne ?_
      refine f_guard rfl rfl rfl rfl ?_
      refine f_eqs ((encP (Ed.mul dd (le eightB) (smP k)))) oneB rfl rfl rfl rfl rfl rfl rfl ((encP_len _)) (by rw [le_eight, smP_8, enc_zero]) ?_
      refine f_pick (.bool true) rfl rfl rfl rfl rfl rfl ?_
      refine f_assign (.bool true) rfl rfl rfl rfl rfl ?_
      refine f_end fun w74 hw74 => ?_
      replace b1 := b1.later hw74
      replace b400 := b400.later hw74
      replace b7200 := b7200.later hw74
      replace b7300 := b7300.later hw74
      replace hT := hT.below hw74
      replace hU := hU.step hw74
      refine hK _ _ ?_
      clear hK K
      exact c_ret fun a ha => bodyPost_ret (results_tmp rfl _ _ _) ha.defers ⟨congrArg Ending.returned (ha.get 4 _ rfl), hU⟩
  · refine c_qF ?_
    refine f_move (.int .i64 which) rfl rfl rfl rfl rfl ?_
    refine f_uintI which (u : Int) rfl rfl rfl rfl rfl hu ?_
    refine f_remV (u : Int) 4 (k : Int) (by decide) rfl rfl rfl rfl rfl rfl hrem ?_
    refine f_eqU (k : Int) 3 false rfl rfl rfl rfl rfl rfl (by rw [decide_eq_false]; omega) ?_
    refine f_end fun w5 hw5 => ?_
    replace b1 := b1.later hw5
    replace b400 := b400.later hw5
    replace hT := hT.below hw5
    replace hU := hU.step hw5
    refine hK _ _ ?_
    clear hK K
    refine c_cond false rfl ?_
    rw [if_neg (by decide)]
    refine c_skip ?_
    rw [raw_sm k hk4 h3] at b400
    rw [← smP_enc k] at b400
    refine hK0 _ _ ?_
    refine c_seq fun K hK => ?_
    refine c_newF 5 [nvP 8] (by decide) ⟨⟨rfl, rfl, rfl, rfl, by kernel_rfl⟩, trivial⟩ ?_
    refine f_by g400 0 ((encP_len _)) rfl rfl rfl rfl rfl (fun _ h1 => (h1.blk b400).range) ?_
    refine f_callV #[.agg (By (encP (smP k))).toArray] (fun v => ∃ l, QB l (smP k) ∧ v = .tuple #[.agg (Us l).toArray, .int .i64 0]) rfl rfl rfl own_cdecode (fun w1 h1 => cdec_pt (smP_on k) w1 (hT.below h1)) rfl rfl ?_
    rintro _ ⟨l36, q36, rfl⟩
    refine f_move (.tuple #[.agg (Us l36).toArray, .int .i64 0]) rfl rfl rfl rfl rfl ?_
    refine f_extract (.agg (Us l36).toArray) rfl rfl rfl rfl rfl rfl ?_
    refine f_extract (.int .i64 0) rfl rfl rfl rfl rfl rfl ?_
    refine f_new [.tmp 37] [(Us l36).toArray] ⟨rfl, trivial⟩ (by decide) ⟨⟨rfl, rfl, rfl⟩, rfl⟩ ⟨⟨rfl, us_size pz_len |>.trans (us_size q36.len).symm, size_P q36.len, Us_oneA _⟩, trivial⟩ fun f6 W6 hg6 hd6 hw6 hb6 => ?_
    have b600 : Blk W6 (f6 0) 29 ((Us l36).toArray) := hb6.1
    clear hb6
    have q600 : w.heap.size ≤ f6 0 := Nat.le_trans hU.size (hg6 0 (by decide))
    have n1_600 : g1 ≠ f6 0 := by have := b1.lt; have := hg6 0 (by decide); omega
    have n400_600 : g400 ≠ f6 0 := by have := b400.lt; have := hg6 0 (by decide); omega
    replace b1 := b1.later hw6
    replace b400 := b400.later hw6
    replace hT := hT.below hw6
    replace hU := hU.step hw6
    clear hg6 hd6 hw6
    generalize hf600 : f6 0 = g600 at *
    simp only [ptrs, hf600]
    clear hf600 f6
    refine l_assign (.int .i64 0) rfl rfl rfl rfl rfl ?_
    refine l_nil ?_
    refine hK _ _ ?_
    clear hK K
    refine c_seq fun K hK => ?_
    refine c_new 3 [nvP 10] (by decide) (by decide) ⟨⟨rfl, rfl, rfl, rfl, by kernel_rfl⟩, trivial⟩ (by kernel_rfl) (tail_ok (by kernel_rfl)) (by kernel_rfl) (fun _ _ d _ _ h => by cases d <;> exact h) ?_
    refine f_us #[] (QB · base) rfl rfl rfl own_cbase (fun w1 h1 => cbase_f w1) rfl rfl fun r39 v39 => ?_
    refine f_by g1 0 la rfl rfl rfl rfl rfl (fun _ h1 => (h1.blk b1).range) ?_
    refine f_us #[.agg (Us r39).toArray, .agg (By a).toArray] (PB · (Ed.mul dd (le a) base)) rfl rfl rfl own_cmul (fun w1 h1 => cmul_f (.inr v39) la w1 (hT.below h1)) rfl rfl fun r41 v41 => ?_
    refine f_new [.tmp 41] [(Us r41).toArray] ⟨rfl, trivial⟩ (by decide) ⟨⟨rfl, rfl, rfl⟩, rfl⟩ ⟨⟨rfl, us_size pz_len |>.trans (us_size v41.len).symm, size_P v41.len, Us_oneA _⟩, trivial⟩ fun f7 W7 hg7 hd7 hw7 hb7 => ?_
    have b700 : Blk W7 (f7 0) 29 ((Us r41).toArray) := hb7.1
    clear hb7
    have q700 : w.heap.size ≤ f7 0 := Nat.le_trans hU.size (hg7 0 (by decide))
    have n1_700 : g1 ≠ f7 0 := by have := b1.lt; have := hg7 0 (by decide); omega
    have n400_700 : g400 ≠ f7 0 := by have := b400.lt; have := hg7 0 (by decide); omega
    have n600_700 : g600 ≠ f7 0 := by have := b600.lt; have := hg7 0 (by decide); omega
    replace b1 := b1.later hw7
    replace b400 := b400.later hw7
    replace b600 := b600.later hw7
    replace hT := hT.below hw7
    replace hU := hU.step hw7
    clear hg7 hd7 hw7
    generalize hf700 : f7 0 = g700 at *
    simp only [ptrs, hf700]
    clear hf700 f7
    refine l_nil ?_
    refine k_sub (E' := [(2, .pointer (some ⟨g1, 0, none⟩)), (4, .bool false), (6, .pointer (some ⟨g400, 0, none⟩)), (8, .pointer (some ⟨g600, 0, none⟩)), (9, .int .i64 0), (10, .pointer (some ⟨g700, 0, none⟩))]) ⟨rfl, rfl, rfl, rfl, rfl, rfl, trivial⟩ ?_
    refine hK _ _ ?_
    clear hK K
    refine c_seq fun K hK => ?_
    refine c_q (by kernel_rfl) (tail_ok (by kernel_rfl)) (fun _ _ d _ _ h => by cases d <;> exact h) ?_
    refine f_move (.int .i64 0) rfl rfl rfl rfl rfl ?_
    refine f_eqE 0 0 true rfl rfl rfl rfl rfl rfl rfl (by decide) ?_
    refine f_move (.bool true) rfl rfl rfl rfl rfl ?_
    refine f_guard rfl rfl rfl rfl ?_
    refine f_pt g600 0 q36.len rfl rfl rfl rfl rfl (fun _ h1 => (h1.blk b600).range) ?_
    refine f_guard rfl rfl rfl rfl ?_
    refine f_call #[.agg (Us l36).toArray] (.bool true) rfl rfl rfl own_csmall (fun w1 h1 => (by have h := csmall_f (.inr q36) w1 (hT.below h1); rwa [decide_eq_true (congrArg encP (smP_8 k))] at h)) rfl rfl ?_
    refine f_pick (.bool true) rfl rfl rfl rfl rfl rfl ?_
    refine f_move (.bool true) rfl rfl rfl rfl rfl ?_
    refine f_guard rfl rfl rfl rfl ?_
    refine f_pt g700 0 v41.len rfl rfl rfl rfl rfl (fun _ h1 => (h1.blk b700).range) ?_
    refine f_guard rfl rfl rfl rfl ?_
    refine f_pt g600 0 q36.len rfl rfl rfl rfl rfl (fun _ h1 => (h1.blk b600).range) ?_
    refine f_guard rfl rfl rfl rfl ?_
    refine f_us #[.agg (Us r41).toArray, .agg (Us l36).toArray] (QB · (Ed.add dd (Ed.mul dd (le a) base) (smP k))) rfl rfl rfl own_cadd (fun w1 h1 => cadd_f v41 (.inr q36) w1 (hT.below h1)) rfl rfl fun r51 v51 => ?_
    refine f_guard rfl rfl rfl rfl ?_
    refine f_build [(0, .int .u8 8)] (By eightB).toArray rfl rfl rfl rfl rfl builtEight ?_
    refine f_guard rfl rfl rfl rfl ?_
    refine f_us #[.agg (Us r51).toArray, .agg (By eightB).toArray] (PB · (Ed.mul dd (le eightB) (Ed.add dd (Ed.mul dd (le a) base) (smP k)))) rfl rfl rfl own_cmul (fun w1 h1 => cmul_f (.inr v51) ((rfl : eightB.length = 32)) w1 (hT.below h1)) rfl rfl fun r53 v53 => ?_
    refine f_guard rfl rfl rfl rfl ?_
    refine f_call #[.agg (Us r53).toArray] (.agg (By (encP (Ed.mul dd (le eightB) (Ed.add dd (Ed.mul dd (le a) base) (smP k))))).toArray) rfl rfl rfl own_chash (fun w1 h1 => chash_f v53 w1 (hT.below h1)) rfl rfl ?_
    refine f_guard rfl rfl rfl rfl ?_
    refine f_pt g700 0 v41.len rfl rfl rfl rfl rfl (fun _ h1 => (h1.blk b700).range) ?_
    refine f_guard rfl rfl rfl rfl ?_
    refine f_build [(0, .int .u8 8)] (By eightB).toArray rfl rfl rfl rfl rfl builtEight ?_
    refine f_guard rfl rfl rfl rfl ?_
    refine f_us #[.agg (Us r41).toArray, .agg (By eightB).toArray] (PB · (Ed.mul dd (le eightB) (Ed.mul dd (le a) base))) rfl rfl rfl own_cmul (fun w1 h1 => cmul_f v41 ((rfl : eightB.length = 32)) w1 (hT.below h1)) rfl rfl fun r57 v57 => ?_
    refine f_guard rfl rfl rfl rfl ?_
    refine f_call #[.agg (Us r57).toArray] (.agg (By (encP (Ed.mul dd (le eightB) (Ed.mul dd (le a) base)))).toArray) rfl rfl rfl own_chash (fun w1 h1 => chash_f v57 w1 (hT.below h1)) rfl rfl ?_
    refine f_guard rfl rfl rfl rfl ?_
    refine f_eqs ((encP (Ed.mul dd (le eightB) (Ed.add dd (Ed.mul dd (le a) base) (smP k))))) ((encP (Ed.mul dd (le eightB) (Ed.mul dd (le a) base)))) rfl rfl rfl rfl rfl rfl rfl ((encP_len _)) (congrArg encP (add_sm hoP k)) ?_
    refine f_pick (.bool true) rfl rfl rfl rfl rfl rfl ?_
    refine f_move (.bool true) rfl rfl rfl rfl rfl ?_
    refine f_guard rfl rfl rfl rfl ?_
    refine f_pt g600 0 q36.len rfl rfl rfl rfl rfl (fun _ h1 => (h1.blk b600).range) ?_
    refine f_guard rfl rfl rfl rfl ?_
    refine f_build [(0, .int .u8 8)] (By eightB).toArray rfl rfl rfl rfl rfl builtEight ?_
    refine f_guard rfl rfl rfl rfl ?_
    refine f_us #[.agg (Us l36).toArray, .agg (By eightB).toArray] (PB · (Ed.mul dd (le eightB) (smP k))) rfl rfl rfl own_cmul (fun w1 h1 => cmul_f (.inr q36) ((rfl : eightB.length = 32)) w1 (hT.below h1)) rfl rfl fun r64 v64 => ?_
    refine f_guard rfl rfl rfl rfl ?_
    refine f_call #[.agg (Us r64).toArray] (.agg (By (encP (Ed.mul dd (le eightB) (smP k)))).toArray) rfl rfl rfl own_chash (fun w1 h1 => chash_f v64 w1 (hT.below h1)) rfl rfl ?_
    refine f_guard rfl rfl rfl rfl ?_
    refine f_build [(0, .int .u8 1)] (By oneB).toArray rfl rfl rfl rfl rfl builtOne ?_
    refine f_guard rfl rfl rfl rfl ?_
    refine f_eqs ((encP (Ed.mul dd (le eightB) (smP k)))) oneB rfl rfl rfl rfl rfl rfl rfl ((encP_len _)) (by rw [le_eight, smP_8, enc_zero]) ?_
    refine f_pick (.bool true) rfl rfl rfl rfl rfl rfl ?_
    refine f_assign (.bool true) rfl rfl rfl rfl rfl ?_
    refine f_end fun w8 hw8 => ?_
    replace b1 := b1.later hw8
    replace b400 := b400.later hw8
    replace b600 := b600.later hw8
    replace b700 := b700.later hw8
    replace hT := hT.below hw8
    replace hU := hU.step hw8
    refine hK _ _ ?_
    clear hK K
    exact c_ret fun a ha => bodyPost_ret (results_tmp rfl _ _ _) ha.defers ⟨congrArg Ending.returned (ha.get 4 _ rfl), hU⟩

theorem curveTorsion_types : ∀ t ∈ Tryd.f9.params.toList, Tryd.prog.readableRec t = true ∧ t < Tryd.prog.types.size := by
  have h : Tryd.f9.params.toList.all (fun t => Tryd.prog.readableRec t && decide (t < Tryd.prog.types.size)) = true := by kernel_rfl
  intro t ht
  have := List.all_eq_true.1 h t ht
  simpa using this

set_option maxRecDepth 100000 in
theorem curveTorsion_lifted (os : Os) (started : os.Started) (H : Type) (enc : TypeId × Value → H) :
    ReturnsInHanded {} Tryd.checked os 9 .any (fun w args => (Rows.curveTorsionSpec.pre enc Tryd.prog Tryd.f9 [] false w args ∧ laidMetH Tryd.prog laid1 w) ∧ sizedMet enc Tryd.prog Tryd.f9 (OpenSpec.ofChange Rows.curveTorsionSpec) false w args)
      (Rows.curveTorsionSpec.post enc Tryd.prog Tryd.f9 false true false false) := by
  refine returnsInHanded_of_change_and (C := Tryd.checked) (X := fun w _ => laidMetH Tryd.prog laid1 w) (fun _ _ _ hh h => h.of_heap hh) own started (by kernel_rfl) Tryd.func9
    (ChangeSpec.witness_shaped (enc := enc) (C := Tryd.checked) (os := os) (X := fun w _ => laidMetH Tryd.prog laid1 w) false (World.doorLaid Tryd.prog 400 os) #[.agg (By (List.replicate 32 0)).toArray, .int .i64 0] 8 rfl (World.shaped_of_RefB (by kernel_rfl) (by kernel_rfl)) (by kernel_rfl) (by kernel_rfl) (by kernel_rfl) (door_met os _)) ?_
  intro W base args ds gs before hval0 hW _ _ hL _
  have hval : ∀ (j : Nat) t v, Tryd.f9.params[j]? = some t → args[j]? = some v → Value.okWide Tryd.prog W .any base t v := hval0
  have hW' : DataW.Whole enc Tryd.prog Tryd.f9.params.toList Rows.curveTorsionSpec.vars false W args.toList ds gs before := hW
  obtain ⟨p, q, hA0, hV, rfl, hfz, hnd⟩ := hW
  have hA : DataW.TrodAll enc Tryd.prog W 0 (fun _ => true) true Tryd.f9.params.toList args.toList ds p := hA0
  rw [Tryd.params9] at hA hval
  obtain ⟨v0, v1, d0, d1, p0, p1, rfl, rfl, rfl, h0, h1⟩ := trodAll_two hA
  obtain ⟨rfl, rfl⟩ := trodVars_none hV
  obtain ⟨a, la, rfl⟩ := open_hash (hval 0 22 v0 rfl rfl) h0
  obtain ⟨which, rfl, rfl, rfl, w1⟩ := open_int Tryd.underlying3 (hval 1 3 v1 rfl rfl) h1
  have b1 := bounds_i64 w1
  clear hA0 hval0
  refine (curveTorsion_walk la which W (of_laid hL)).mono fun e W' ⟨he, hb⟩ => ?_
  exact ⟨_, he, law_post (by kernel_rfl) rfl curveTorsion_types hW' rfl hb⟩

theorem curveTorsion_holds : Rows.CurveTorsionSaid :=
  OpenClaim.holds_of_wide 9 Tryd.f9 rfl rfl rfl rfl rfl rfl rfl ⟨rfl, rfl, rfl, rfl, rfl⟩ rfl rfl rfl rfl rfl (by kernel_rfl) Tryd.func9 (by kernel_rfl)
    (of_decide_eq_true (by kernel_rfl)) (by unfold Func.isWrapper; first | (rw [if_pos (by decide +kernel)]; kernel_rfl) | (rw [if_neg (by decide +kernel)]; exact ⟨rfl, rfl⟩))
    (fun os started H enc _ => curveTorsion_lifted os started H enc)

theorem curveTorsion_card_holds : Rows.CurveTorsionCardSaid :=
  Claim7.holds_tied_plain_at .later [] [.data] true Rows.curveTorsionCard.stood.harness false
    curveTorsion_holds (fun _ h => by cases h) (by kernel_rfl) (fun _ h => by cases h) curveTorsion_row_tie rfl ⟨rfl, rfl⟩ (by kernel_rfl) rfl
    (fun f fn hf hfn => by
      obtain rfl : f = 9 := Option.some.inj ((show Tryd.prog.funcNamed "witan/witanlaw05.CurveTorsion" = some 9 by kernel_rfl).symm.trans hf) |>.symm
      obtain rfl : fn = Tryd.f9 := (Option.some.inj (Tryd.func9.symm.trans hfn)).symm
      exact ⟨by kernel_rfl, fun j t ht => by
        have hm := Array.mem_of_getElem? ht
        have hall : (Tryd.f9.params.toList.all fun u => !Tryd.prog.wantsStandIn u) = true := by kernel_rfl
        have h2 := List.all_eq_true.1 hall t (Array.mem_toList_iff.2 hm)
        show Tryd.prog.wantsStandIn t = false
        simpa using h2⟩)
    (by kernel_rfl)
#print axioms curveTorsion_card_holds
end Go.Proofs.YtgmiaaapaiccdaaDoor
