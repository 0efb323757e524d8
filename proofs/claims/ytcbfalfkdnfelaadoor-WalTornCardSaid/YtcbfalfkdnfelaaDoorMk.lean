/-
  SEVERAL TEXTS IN ONE: WlK.
-/
import Derived.Test.YtcbfalfkdnfelaaDoorMj
/-
  THE LAW WalTorn, walked.
-/
namespace Go.Proofs.YtcbfalfkdnfelaaDoor
open Go.RowKit Go.IntWalk Nums

theorem logD_le {m : Nat} : ∀ (i : Nat) (l : List (List UInt8)), (∀ x ∈ l, x.length ≤ m) → (logD i l).length ≤ l.length * (16 + m)
  | _, [], _ => Nat.zero_le _
  | i, x :: r, h => by
    show (rowD i x ++ logD (i + 1) r).length ≤ (r.length + 1) * (16 + m)
    have h1 := logD_le (i + 1) r fun y hy => h y (List.mem_cons_of_mem _ hy)
    have h2 := h x List.mem_cons_self
    rw [List.length_append, rowD_len, Nat.add_mul]
    omega
/-- Where the rows end. -/
noncomputable def endsL (l : List (List UInt8)) (i : Nat) : List Int := (List.range i).map fun j => ((logD 0 (l.take (j + 1))).length : Int)
theorem endsL_len (l : List (List UInt8)) (i : Nat) : (endsL l i).length = i := by unfold endsL; rw [List.length_map, List.length_range]
theorem endsL_next (l : List (List UInt8)) (i : Nat) : endsL l (i + 1) = endsL l i ++ [((logD 0 (l.take (i + 1))).length : Int)] := by
  unfold endsL
  rw [List.range_succ, List.map_append]
  rfl
theorem endsL_at (l : List (List UInt8)) {i j : Nat} (h : j < i) : (endsL l i)[j]? = some ((logD 0 (l.take (j + 1))).length : Int) := by
  unfold endsL
  rw [List.getElem?_map, List.getElem?_range h]
  rfl
abbrev EnO (A : Option Addr) (c : Nat) (l : List Int) : Res := OwnS 0 3 1 eI A c l
set_option maxRecDepth 100000 in
set_option maxHeartbeats 1000000 in
theorem torn15_S {A : Option Addr} {c : Nat} (bs : List Seg) (cut : Int) : Spec 5 [.slice A bs.length c, .int .i64 cut] [] (fun w => Tsh w ∧ Rd 1 eSeg A c bs w ∧ ∀ x ∈ bs, x.rd w) (one (.v (.bool true))) := by
  refine spec_S [.c (.v (.slice A bs.length c)), .c (.v (.int .i64 cut))] 115 Tryd.func5 rfl (by rw [Tryd.ntmps5]; rfl) (two_ok trivial trivial) fun b => ?_
  refine s_pure (bs.length ≤ c ∧ (A = none → c = 0)) (fun w hw _ => ⟨hw.2.1.1, hw.2.1.2.2.1⟩) fun ⟨hlc, hA⟩ => ?_
  refine s_auto TY_ok rfl ?_
  refine s_seq fun K hK => ?_
  refine s_regA TY_ok rfl fun K1 hK1 => ?_
  refine l_call0 [] rfl rfl rfl own_first15 rfl rfl (fun _ _ => rfl) first15_S (fun _ h _ => h.1) fun _ => ?_
  refine l_R [] rfl ?_
  refine l_autoS TY_ok rfl ?_
  refine s_end (hK1 _ ?_)
  refine s_no rfl ?_
  refine s_skip (hK _ ?_)
  obtain ⟨ls, hls⟩ : ∃ ls, bs.take (min bs.length 12) = ls := ⟨_, rfl⟩
  have hln : ls.length = min bs.length 12 := by rw [← hls, List.length_take]; omega
  have hrl : ∀ w, Rd 1 eSeg A c bs w → Rd 1 eSeg A c ls w := fun w h => by rw [← hls]; exact h.take _
  have hml : ∀ x ∈ ls, x ∈ bs := fun x hx => by rw [← hls] at hx; exact List.mem_of_mem_take hx
  refine s_regA TY_ok rfl fun K2 hK2 => ?_
  refine l_op (.v (.int .i64 ((min bs.length 12 : Nat) : Int))) trivial rfl rfl rfl (run_min rfl rfl rfl) ?_
  refine l_op (.v (.slice A ls.length c)) trivial rfl rfl rfl (by rw [hln]; exact run_cutHi (e := 33) (sz := 1) (by kernel_rfl) (by omega) hA rfl Tryd.underlying32 rfl rfl) ?_
  refine l_autoS TY_ok rfl ?_
  refine s_end (hK2 _ ?_)
  refine s_regA TY_ok rfl fun K3 hK3 => ?_
  refine l_call0 [.int .i64 1048576] rfl rfl rfl own_dnew rfl rfl (fun _ _ => rfl) (dnew_S 1048576 (by decide)) (fun _ _ _ => trivial) fun g => ?_
  refine l_R [DkO g 1048576 none 0 [] 0, DkB none 0 []] rfl ?_
  refine l_autoS TY_ok rfl ?_
  refine s_end (hK3 _ ?_)
  refine s_regA TY_ok rfl fun K4 hK4 => ?_
  have ho := wopen_S g 1048576 none 0 [] 0 (by decide)
  rw [saysD_nil] at ho
  refine l_callA (own := [DkO g 1048576 none 0 [] 0, DkB none 0 []]) (R' := []) [pD g] rfl rfl rfl own_wopen rfl rfl (fun _ _ => rfl) ho (fun _ h _ => h.2.2.1) fun ⟨h, P, pc, ss, hs⟩ => ?_
  obtain rfl : ss = [] := List.map_eq_nil_iff.1 hs
  refine l_R [DkO g 1048576 none 0 [] 0, DkB none 0 [], LgO h g P 0 pc false, SgO P pc []] rfl ?_
  refine l_autoS TY_ok rfl ?_
  refine s_end (hK4 _ ?_)
  refine s_nil0 0 3 1 eI ?_
  refine s_auto TY_ok rfl ?_
  refine s_seq fun K5 hK5 => ?_
  refine s_auto TY_ok rfl ?_
  refine s_block ?_
  let V : Nat × (Option Addr × Nat) × (Option Addr × Nat) × (Option Addr × Nat) × List Seg → Env := fun s => ⟨[(37, .v (.int .i64 (s.1 : Int))), (36, .v (.int .i64 (ls.length : Int))), (35, .v (.slice A ls.length c)), (10, .v (.slice s.2.2.2.1.1 (endsL (ls.map Seg.l) s.1).length s.2.2.2.1.2)), (8, .v (pD h)), (6, .v (pD g)), (5, .v (.slice A ls.length c)), (1, .v (.int .i64 cut))], [],
    [DkO g 1048576 s.2.1.1 s.2.1.2 (logD 0 ((ls.take s.1).map Seg.l)) ((logD 0 ((ls.take s.1).map Seg.l)).length : Int), DkB s.2.1.1 s.2.1.2 (logD 0 ((ls.take s.1).map Seg.l)), LgO h g s.2.2.1.1 s.2.2.2.2.length s.2.2.1.2 false, SgO s.2.2.1.1 s.2.2.1.2 s.2.2.2.2, EnO s.2.2.2.1.1 s.2.2.2.1.2 (endsL (ls.map Seg.l) s.1)], fun w => Tsh w ∧ Rd 1 eSeg A c ls w ∧ ∀ x ∈ ls, x.rd w, fun w => ∀ x ∈ s.2.2.2.2, x.rd w⟩
  refine c_weak (e' := V (0, (none, 0), (P, pc), (none, 0), [])) ⟨⟨rfl, rfl, rfl, rfl, rfl, rfl, rfl, rfl, trivial⟩, trivial, List.perm_append_comm (l₁ := [EnO none 0 []]) (l₂ := [DkO g 1048576 none 0 [] 0, DkB none 0 [], LgO h g P 0 pc false, SgO P pc []]), fun w h _ => ⟨h.2.2.2.1, hrl w h.2.2.2.2.1, fun x hx => h.2.2.2.2.2 x (hml x hx)⟩, fun _ _ _ h => by cases h⟩ (s_loop (fun s => ls.length - s.1) V (fun s => s.1 ≤ ls.length ∧ (∀ x ∈ ls.take s.1, x.l.length ≤ 5000) ∧ s.2.2.2.2.map Seg.l = (ls.take s.1).map Seg.l) ?_ (0, (none, 0), (P, pc), (none, 0), []) ⟨Nat.zero_le _, fun _ h => by simp at h, rfl⟩)
  rintro ⟨i, ⟨dA, dc⟩, ⟨P1, pc1⟩, ⟨EA, ec⟩, ss⟩ ⟨hi, hsm, hss⟩
  dsimp only at hi hsm hss
  have hssl : ss.length = i := by
    have := congrArg List.length hss
    rw [List.length_map, List.length_map, List.length_take] at this
    omega
  obtain ⟨LG, hLG⟩ : ∃ LG, logD 0 ((ls.take i).map Seg.l) = LG := ⟨_, rfl⟩
  have hLl : LG.length ≤ 12 * 5016 := by
    rw [← hLG]
    have h1 := logD_le (m := 5000) 0 ((ls.take i).map Seg.l) fun x hx => by
      obtain ⟨y, h1, rfl⟩ := List.mem_map.1 hx
      exact hsm y h1
    rw [List.length_map, List.length_take] at h1
    omega
  refine s_permR [DkO g 1048576 dA dc LG (LG.length : Int), DkB dA dc LG, LgO h g P1 ss.length pc1 false, SgO P1 pc1 ss, EnO EA ec (endsL (ls.map Seg.l) i)] (by rw [← hLG]) ?_
  refine s_auto TY_ok rfl ?_
  refine s_seq fun K6 hK6 => ?_
  refine s_ifD ((i : Int) < (ls.length : Int)) rfl (fun hlt => ?_) (fun hge => ?_)
  · have hlt : i < ls.length := by omega
    obtain ⟨x, hx⟩ : ∃ x, ls[i]? = some x := ⟨_, List.getElem?_eq_getElem hlt⟩
    have hxm := List.mem_of_getElem? hx
    refine s_skip (hK6 _ ?_)
    refine s_seq fun K7 hK7 => ?_
    refine s_block ?_
    refine s_regA TY_ok rfl fun K8 hK8 => ?_
    refine l_elem TY_ok rfl rfl rfl i rfl hx rfl rfl (rd_fact fun _ h _ => h.2.1) ?_
    refine l_autoS TY_ok rfl ?_
    refine s_end (hK8 _ ?_)
    refine s_seq fun K9 hK9 => ?_
    refine s_regA TY_ok rfl fun K10 hK10 => ?_
    by_cases hbig : x.l.length > 5000
    · refine l_is 44 true rfl (decide_eq_true (by omega)) ?_
      refine l_autoS TY_ok rfl ?_
      refine s_end (hK10 _ ?_)
      refine s_yes rfl ?_
      refine s_auto TY_ok rfl ?_
      refine s_ret (k_drop 0 rfl (k_drop 0 rfl (k_drop 0 rfl (k_drop 0 rfl (k_drop 0 rfl ?_)))))
      exact k_retD TY_ok () rfl (by decide) rfl (congrArg Value.bool (decide_eq_true (show (x.l.length : Int) > 5000 by omega)).symm) trivial rfl (fun _ _ _ => trivial) (fun _ _ => trivial)
    · have hxs : x.l.length ≤ 5000 := by omega
      refine l_is 44 false rfl (decide_eq_false (by omega)) ?_
      refine l_autoS TY_ok rfl ?_
      refine l_list TY_ok b.B.heap.size [x] (fe := eSeg) rfl rfl rfl rfl rfl (fun _ => rfl) rfl (by decide) (by decide) (okF_seg _) (Nat.le_refl _) fun B1 => ?_
      refine l_freeM 0 rfl (Nat.le_refl _) ?_
      refine l_autoS TY_ok rfl ?_
      obtain ⟨RW, hRW, hRl⟩ : ∃ RW, logD ss.length [x.l] = RW ∧ RW.length = 16 + x.l.length := ⟨_, rfl, by rw [logD_one, rowD_len]⟩
      have hw := wwrite_S h g 1048576 dA dc LG LG.length P1 pc1 ss B1 1 [x] RW hRW true (by symm; exact decide_eq_true (by omega)) (by decide) (by omega) (by omega) (Nat.le_of_ble_eq_true rfl) (fun y hy => by rw [List.mem_singleton.1 hy]; omega) (by omega)
      refine l_callA (own := [DkO g 1048576 dA dc LG (LG.length : Int), DkB dA dc LG, LgO h g P1 ss.length pc1 false, SgO P1 pc1 ss]) (R' := [EnO EA ec (endsL (ls.map Seg.l) i)]) [pD h, .slice B1 1 1] rfl rfl rfl own_wwrite rfl rfl (fun _ _ => rfl) hw (fun w hF hM => ⟨hF.1, hM.1, fun y hy => by rw [List.mem_singleton.1 hy]; exact hF.2.2 x hxm⟩) fun ⟨dA2, dc2, P2, pc2, ss2, hs2⟩ => ?_
      refine l_R [DkO g 1048576 dA2 dc2 (LG ++ RW) ((LG ++ RW).length : Int), DkB dA2 dc2 (LG ++ RW), LgO h g P2 (ss ++ ss2).length pc2 false, SgO P2 pc2 (ss ++ ss2), EnO EA ec (endsL (ls.map Seg.l) i)] rfl ?_
      refine l_autoS TY_ok rfl ?_
      refine l_is 50 false rfl rfl ?_
      refine s_end (hK10 _ ?_)
      refine s_no rfl ?_
      refine s_skip (hK9 _ ?_)
      refine s_lit ?_
      refine l_autoS TY_ok rfl ?_
      refine l_callA (own := [DkO g 1048576 dA2 dc2 (LG ++ RW) ((LG ++ RW).length : Int)]) (R' := [DkB dA2 dc2 (LG ++ RW), LgO h g P2 (ss ++ ss2).length pc2 false, SgO P2 pc2 (ss ++ ss2), EnO EA ec (endsL (ls.map Seg.l) i)]) [pD g] rfl rfl rfl own_dlen rfl rfl (fun _ _ => rfl) (dlen_S g 1048576 dA2 dc2 (LG ++ RW) ((LG ++ RW).length : Int)) (fun _ _ _ => trivial) fun _ => ?_
      refine l_R [DkO g 1048576 dA2 dc2 (LG ++ RW) ((LG ++ RW).length : Int), DkB dA2 dc2 (LG ++ RW), LgO h g P2 (ss ++ ss2).length pc2 false, SgO P2 pc2 (ss ++ ss2), EnO EA ec (endsL (ls.map Seg.l) i)] rfl ?_
      have hel := endsL_len (ls.map Seg.l) i
      refine l_push TY_ok 4 ((LG ++ RW).length : Int) (fe := eI) rfl rfl rfl rfl rfl rfl rfl (eI_ok _) (by decide) (by decide) (by show ((endsL (ls.map Seg.l) i).length + 1) * 8 ≤ _; omega) (by show (endsL (ls.map Seg.l) i).length < _; omega) (Nat.zero_le _) fun EA2 ec2 => ?_
      refine l_autoS TY_ok rfl ?_
      refine s_end (hK7 _ ?_)
      refine s_autoE TY_ok rfl ?_
      have hmap : (ls.take (i + 1)).map Seg.l = (ls.take i).map Seg.l ++ [x.l] := by rw [List.take_add_one, hx, List.map_append]; rfl
      have hLG2 : logD 0 ((ls.take (i + 1)).map Seg.l) = LG ++ RW := by
        rw [hmap, logD_app, hLG, List.length_map, List.length_take, show 0 + min i ls.length = ss.length by omega, hRW]
      have hen : endsL (ls.map Seg.l) i ++ [((LG ++ RW).length : Int)] = endsL (ls.map Seg.l) (i + 1) := by
        rw [endsL_next, ← List.map_take, hLG2]
      refine k_next (i + 1, (dA2, dc2), (P2, pc2), (EA2, ec2), ss ++ ss2) ⟨hlt, fun y hy => ?_, by show (ss ++ ss2).map Seg.l = (ls.take (i + 1)).map Seg.l; rw [List.map_append, hss, hs2, hmap]; rfl⟩ (by show ls.length - (i + 1) < ls.length - i; omega) ⟨⟨congrArg (fun z => some (SV.v (Value.int .i64 z))) (wrapI (r := ((i + 1 : Nat) : Int)) (by omega) (by omega) (by omega)), rfl, rfl, congrArg (fun z : List Int => some (SV.v (Value.slice EA2 z.length ec2))) hen, rfl, rfl, rfl, rfl, trivial⟩, trivial, ?_, fun w h _ => ?_, fun w h y hy => ?_⟩
      · rw [List.take_add_one, hx] at hy
        rcases List.mem_append.1 hy with hy | hy
        · exact hsm y hy
        · obtain rfl : y = x := by simpa using hy
          exact hxs
      · dsimp only [V]
        rw [hLG2, ← hen]
        exact .refl _
      · exact h.2.2
      · rcases List.mem_append.1 hy with hy | hy
        · exact h.2.2.2 y hy
        · exact h.2.1 y hy
  · obtain rfl : i = ls.length := by omega
    rw [List.take_length] at hLG hss hsm
    have hLs : ∀ x ∈ ls.map Seg.l, x.length ≤ 1048576 := fun x hx => by
      obtain ⟨y, h1, rfl⟩ := List.mem_map.1 hx
      have := hsm y h1
      omega
    refine s_exit (k_pass (k_pass (k_out (hK5 _ ?_))))
    refine s_regA TY_ok rfl fun Ka hKa => ?_
    refine l_callA (own := [DkO g 1048576 dA dc LG (LG.length : Int)]) (R' := [DkB dA dc LG, LgO h g P1 ss.length pc1 false, SgO P1 pc1 ss, EnO EA ec (endsL (ls.map Seg.l) ls.length)]) [pD g] rfl rfl rfl own_dlen rfl rfl (fun _ _ => rfl) (dlen_S g 1048576 dA dc LG (LG.length : Int)) (fun _ _ _ => trivial) fun _ => ?_
    refine l_R [DkO g 1048576 dA dc LG (LG.length : Int), DkB dA dc LG, LgO h g P1 ss.length pc1 false, SgO P1 pc1 ss, EnO EA ec (endsL (ls.map Seg.l) ls.length)] rfl ?_
    refine l_autoS TY_ok rfl ?_
    refine l_num 65 ((LG.length + 1 : Nat) : Int) rfl (by rw [wrapI (m := (LG.length : Int) + 1) (r := ((LG.length + 1 : Nat) : Int)) (by omega) (by omega) (by omega)]; exact wrapU rfl (by omega) (by omega)) ?_
    obtain ⟨n, hn, en⟩ := tmod_nat cut (LG.length + 1) (by omega)
    refine l_op (.v (.int .u64 (n : Int))) trivial rfl rfl rfl (by rw [← en]; exact run_remU (by omega) rfl rfl rfl) ?_
    refine l_autoS TY_ok rfl ?_
    refine l_num 13 (n : Int) rfl (wrapI rfl (by omega) (by omega)) ?_
    refine s_end (hKa _ ?_)
    refine s_regA TY_ok rfl fun Ka hKa => ?_
    refine l_callA (own := [DkO g 1048576 dA dc LG (LG.length : Int), DkB dA dc LG]) (R' := [LgO h g P1 ss.length pc1 false, SgO P1 pc1 ss, EnO EA ec (endsL (ls.map Seg.l) ls.length)]) [pD g, .int .i64 (n : Int)] rfl rfl rfl own_dcut rfl rfl (fun _ _ => rfl) (dcut_S g 1048576 n dA dc LG LG.length (by omega)) (fun _ _ _ => trivial) fun _ => ?_
    refine l_R [DkO g 1048576 dA dc (LG.take n) ((min LG.length n : Nat) : Int), DkB dA dc (LG.take n), LgO h g P1 ss.length pc1 false, SgO P1 pc1 ss, EnO EA ec (endsL (ls.map Seg.l) ls.length)] rfl ?_
    refine l_autoS TY_ok rfl ?_
    refine s_end (hKa _ ?_)
    refine s_regA TY_ok rfl fun Ka hKa => ?_
    have hsay : saysD (LG.take n) = (ls.map Seg.l).take (cutN (ls.map Seg.l) n) := by rw [← hLG]; exact says_cut hLs n
    have hKl := cutN_le (ls.map Seg.l) n
    have hKe := fun j (hj : j < (ls.map Seg.l).length) => cutN_ends (ls.map Seg.l) 0 n j hj
    obtain ⟨K0, hK0⟩ : ∃ K0, cutN (ls.map Seg.l) n = K0 := ⟨_, rfl⟩
    rw [hK0] at hsay hKl
    simp only [hK0] at hKe
    rw [List.length_map] at hKl
    have ho2 := wopen_S g 1048576 dA dc (LG.take n) (min LG.length n) (by rw [List.length_take]; omega)
    have e2 := saysD_le (LG.take n)
    obtain ⟨LH, hLH⟩ : ∃ LH, logD 0 (saysD (LG.take n)) = LH := ⟨_, rfl⟩
    rw [hLH] at ho2 e2
    rw [List.length_take] at e2
    refine l_callA (own := [DkO g 1048576 dA dc (LG.take n) ((min LG.length n : Nat) : Int), DkB dA dc (LG.take n)]) (R' := [LgO h g P1 ss.length pc1 false, SgO P1 pc1 ss, EnO EA ec (endsL (ls.map Seg.l) ls.length)]) [pD g] rfl rfl rfl own_wopen rfl rfl (fun _ _ => rfl) ho2 (fun _ h _ => h.2.2.1) fun ⟨h2, P2, pc2, s2, hs2⟩ => ?_
    refine l_R [DkO g 1048576 dA dc LH (LH.length : Int), DkB dA dc LH, LgO h2 g P2 s2.length pc2 false, SgO P2 pc2 s2, LgO h g P1 ss.length pc1 false, SgO P1 pc1 ss, EnO EA ec (endsL (ls.map Seg.l) ls.length)] rfl ?_
    refine l_autoS TY_ok rfl ?_
    refine s_end (hKa _ ?_)
    refine s_freeO 4 rfl (s_free 4 rfl (s_free 4 rfl ?_))
    have hs2m : s2.map Seg.l = (ls.take K0).map Seg.l := by rw [hs2, hsay, List.map_take]
    have hs2l : s2.length = K0 := by
      have := congrArg List.length hs2m
      rw [List.length_map, List.length_map, List.length_take] at this
      omega
    have hs2s : ∀ y ∈ s2, y.l.length ≤ 1048576 := fun y hy => saysD_small (LG.take n) y.l (by rw [← hs2]; exact List.mem_map.2 ⟨y, hy, rfl⟩)
    refine s_seq fun K6 hK6 => ?_
    refine s_regA TY_ok rfl fun Ka hKa => ?_
    refine l_is 81 false rfl rfl ?_
    refine s_end (hKa _ ?_)
    refine s_no rfl ?_
    refine s_skip (hK6 _ ?_)
    refine s_auto TY_ok rfl ?_
    refine s_seq fun K7 hK7 => ?_
    refine s_auto TY_ok rfl ?_
    refine s_block ?_
    have hel := endsL_len (ls.map Seg.l) ls.length
    let W : Nat → Env := fun j => ⟨[(84, .v (.int .i64 (j : Int))), (83, .v (.int .i64 (ls.length : Int))), (82, .v (.slice EA (endsL (ls.map Seg.l) ls.length).length ec)), (16, .v (.int .i64 ((min j K0 : Nat) : Int))), (14, .v (pD h2)), (13, .v (.int .i64 (n : Int))), (5, .v (.slice A ls.length c))], [], [DkO g 1048576 dA dc LH (LH.length : Int), DkB dA dc LH, LgO h2 g P2 s2.length pc2 false, SgO P2 pc2 s2], fun w => Rd 1 eI EA ec (endsL (ls.map Seg.l) ls.length) w ∧ Tsh w ∧ Rd 1 eSeg A c ls w ∧ ∀ x ∈ ls, x.rd w, fun w => ∀ x ∈ s2, x.rd w⟩
    refine c_weak (e' := W 0) ⟨⟨rfl, congrArg (fun z : Nat => some (SV.v (Value.int .i64 (z : Int)))) hel, rfl, congrArg (fun z : Nat => some (SV.v (Value.int .i64 (z : Int)))) (Nat.zero_min K0).symm, rfl, rfl, rfl, trivial⟩, trivial, .refl _, fun w h _ => ⟨h.1, h.2.2.2.2.2.2⟩, fun w h => h.1⟩ (s_loop (fun j => ls.length - j) W (fun j => j ≤ ls.length) ?_ 0 (Nat.zero_le _))
    intro j hj
    refine s_auto TY_ok rfl ?_
    refine s_seq fun K8 hK8 => ?_
    refine s_ifD ((j : Int) < (ls.length : Int)) rfl (fun hlt => ?_) (fun hge2 => ?_)
    · have hlt : j < ls.length := by omega
      have hk := hKe j (by rw [List.length_map]; exact hlt)
      refine s_skip (hK8 _ ?_)
      refine s_seq fun K9 hK9 => ?_
      refine s_block ?_
      refine s_regA TY_ok rfl fun Ka hKa => ?_
      refine l_elem (fe := eI) TY_ok rfl rfl rfl j rfl (endsL_at (ls.map Seg.l) hlt) rfl rfl (rd_fact fun _ h _ => h.1) ?_
      refine l_autoS TY_ok rfl ?_
      refine s_end (hKa _ ?_)
      refine s_auto TY_ok rfl ?_
      refine s_ifD (((logD 0 ((ls.map Seg.l).take (j + 1))).length : Int) ≤ (n : Int)) rfl (fun hle => ?_) (fun hle => ?_)
      · have hjk : j < K0 := hk.1 (by omega)
        refine s_lit ?_
        refine l_autoS TY_ok rfl ?_
        refine s_end (hK9 _ ?_)
        refine s_autoE TY_ok rfl ?_
        exact k_next (j + 1) hlt (by omega) ⟨⟨congrArg (fun z => some (SV.v (Value.int .i64 z))) (wrapI (by omega) (by omega) (by omega)), rfl, rfl, congrArg (fun z => some (SV.v (Value.int .i64 z))) (wrapI (by omega) (by omega) (by omega)), rfl, rfl, rfl, trivial⟩, trivial, .refl _, fun _ h _ => h, fun _ h => h⟩
      · have hjk : ¬ j < K0 := fun h => hle (by have := hk.2 h; omega)
        refine s_skip (hK9 _ ?_)
        refine s_autoE TY_ok rfl ?_
        exact k_next (j + 1) hlt (by omega) ⟨⟨congrArg (fun z => some (SV.v (Value.int .i64 z))) (wrapI (by omega) (by omega) (by omega)), rfl, rfl, congrArg (fun z : Nat => some (SV.v (Value.int .i64 (z : Int)))) (show min j K0 = min (j + 1) K0 by omega), rfl, rfl, rfl, trivial⟩, trivial, .refl _, fun _ h _ => h, fun _ h => h⟩
    · obtain rfl : j = ls.length := by omega
      refine s_exit (k_pass (k_pass (k_out (hK7 _ ?_))))
      have hkl : (ls.take K0).length = min ls.length K0 := by rw [List.length_take]; omega
      have hLH5 : LH.length ≤ 12 * 5016 := by omega
      refine s_seq fun Kz hKz => ?_
      refine s_anyP [0, 2, 3, 4, 7, 15, 17, 18] 19 3 (fun _ => True) (by kernel_rfl) rfl (fun _ _ _ => trivial) ?_
      refine p_frontF TY_ok 0 (by kernel_rfl) rfl rfl rfl rfl rfl rfl ?_
      refine p_frontF TY_ok 2 (by kernel_rfl) rfl rfl rfl rfl rfl rfl ?_
      refine p_frontF TY_ok 3 (by kernel_rfl) rfl rfl rfl rfl rfl rfl ?_
      refine p_frontZ (.v (.slice A (ls.take K0).length c)) trivial 4 (by kernel_rfl) rfl rfl rfl rfl rfl (fun G a w ha _ => by rw [hkl]; exact run_cutHi (e := 33) (sz := 1) (by kernel_rfl) (by omega) hA rfl Tryd.underlying32 rfl rfl G a w ha) ?_
      refine p_step 1 (by kernel_rfl) rfl fun Ka hKa => ?_
      refine l_permR [LgO h2 g P2 s2.length pc2 false, SgO P2 pc2 s2, DkO g 1048576 dA dc LH (LH.length : Int), DkB dA dc LH] (List.perm_append_comm (l₁ := [DkO g 1048576 dA dc LH (LH.length : Int), DkB dA dc LH])) ?_
      refine l_callA (own := [LgO h2 g P2 s2.length pc2 false, SgO P2 pc2 s2]) (R' := [DkO g 1048576 dA dc LH (LH.length : Int), DkB dA dc LH]) [pD h2] rfl rfl rfl own_wrows rfl rfl (fun _ _ => rfl) (wrows_S h2 g P2 pc2 s2 false (by omega) hs2s) (fun w _ hM => hM) fun ⟨P4, pc4, s4, hs4⟩ => ?_
      refine l_R [SgO P4 pc4 s4, BagR s4, LgO h2 g P2 s2.length pc2 false, SgO P2 pc2 s2, DkO g 1048576 dA dc LH (LH.length : Int), DkB dA dc LH] rfl ?_
      refine l_free 0 rfl (l_bagF ?_)
      refine l_permR [DkO g 1048576 dA dc LH (LH.length : Int), DkB dA dc LH, LgO h2 g P2 s2.length pc2 false, SgO P2 pc2 s2] (List.perm_append_comm (l₁ := [LgO h2 g P2 s2.length pc2 false, SgO P2 pc2 s2])) ?_
      refine s_end (hKa _ (fun _ _ _ => trivial) ?_)
      refine p_step 5 (by kernel_rfl) rfl fun Ka hKa => ?_
      refine l_call0 [.slice P4 s4.length pc4, .slice A (ls.take K0).length c] rfl rfl rfl own_rfsame15 rfl rfl (fun _ _ => rfl) (rfsame15_S s4 (ls.take K0)) (fun w hF _ => ⟨hF.2.1, hF.2.2.2.2.2.1.take K0, hF.1, fun x hx => hF.2.2.2.2.2.2 x (List.mem_of_mem_take hx)⟩) fun _ => ?_
      refine l_R [DkO g 1048576 dA dc LH (LH.length : Int), DkB dA dc LH, LgO h2 g P2 s2.length pc2 false, SgO P2 pc2 s2] rfl ?_
      refine l_is 99 true rfl (decide_eq_true (by rw [hs4, hs2m])) ?_
      refine s_end (hKa _ (fun _ _ _ => trivial) ?_)
      refine p_step 6 (by kernel_rfl) rfl fun Ka hKa => ?_
      refine l_autoS TY_ok rfl ?_
      refine s_end (hKa _ (fun _ _ _ => trivial) ?_)
      refine p_frontF TY_ok 7 (by kernel_rfl) rfl rfl rfl rfl rfl rfl ?_
      refine p_steps (fuel := 4) [8, 9, 10, 11, 12, 13, 14] (fun _ => trivial) (by kernel_rfl) rfl fun Ka hKa => ?_
      refine l_autoS TY_ok rfl ?_
      refine l_litS [122] rfl rfl rfl rfl (fun _ => rfl) rfl (by decide) (by decide) rfl rfl rfl rfl rfl fun g1 => ?_
      refine l_autoS TY_ok rfl ?_
      refine l_list TY_ok b.B.heap.size [⟨some ⟨g1, 0, none⟩, 1, [122]⟩] (fe := eSeg) rfl rfl rfl rfl rfl (fun _ => rfl) rfl (by decide) (by decide) (okF_seg _) (Nat.le_refl _) fun B1 => ?_
      refine l_freeM 0 rfl (Nat.le_refl _) ?_
      refine l_autoS TY_ok rfl ?_
      obtain ⟨RW, hRW, hRl⟩ : ∃ RW, logD s2.length [[122]] = RW ∧ RW.length = 17 := ⟨_, rfl, by rw [logD_one, rowD_len]; rfl⟩
      have hw := wwrite_S h2 g 1048576 dA dc LH LH.length P2 pc2 s2 B1 1 [⟨some ⟨g1, 0, none⟩, 1, [122]⟩] RW hRW true (by symm; exact decide_eq_true (by omega)) (by decide) (by omega) (by omega) (Nat.le_of_ble_eq_true rfl) (fun y hy => by rw [List.mem_singleton.1 hy]; exact Nat.le_of_ble_eq_true rfl) (by omega)
      refine l_callA (own := [DkO g 1048576 dA dc LH (LH.length : Int), DkB dA dc LH, LgO h2 g P2 s2.length pc2 false, SgO P2 pc2 s2]) (R' := []) [pD h2, .slice B1 1 1] rfl rfl rfl own_wwrite rfl rfl (fun _ _ => rfl) hw (fun w hF hM => ⟨hF.2.2.2.2.2.1, hM.1, fun y hy => by rw [List.mem_singleton.1 hy]; exact hM.2.1⟩) fun ⟨dA2, dc2, P5, pc5, s5, hs5⟩ => ?_
      refine l_R [DkO g 1048576 dA2 dc2 (LH ++ RW) ((LH ++ RW).length : Int), DkB dA2 dc2 (LH ++ RW), LgO h2 g P5 (s2 ++ s5).length pc5 false, SgO P5 pc5 (s2 ++ s5)] rfl ?_
      refine l_autoS TY_ok rfl (l_is 108 true rfl rfl ?_)
      refine s_end (hKa _ ?_)
      refine p_frontF TY_ok 15 (by kernel_rfl) rfl rfl rfl rfl rfl rfl ?_
      refine p_frontF TY_ok 17 (by kernel_rfl) rfl rfl rfl rfl rfl rfl ?_
      refine p_frontF TY_ok 18 (by kernel_rfl) rfl rfl rfl rfl rfl rfl ?_
      refine p_step 16 (by kernel_rfl) rfl fun Ka hKa => ?_
      refine l_autoS TY_ok rfl ?_
      refine l_permR [LgO h2 g P5 (s2 ++ s5).length pc5 false, SgO P5 pc5 (s2 ++ s5), DkO g 1048576 dA2 dc2 (LH ++ RW) ((LH ++ RW).length : Int), DkB dA2 dc2 (LH ++ RW)] (List.perm_append_comm (l₁ := [DkO g 1048576 dA2 dc2 (LH ++ RW) ((LH ++ RW).length : Int), DkB dA2 dc2 (LH ++ RW)])) ?_
      refine l_callA (own := [LgO h2 g P5 (s2 ++ s5).length pc5 false]) (R' := [SgO P5 pc5 (s2 ++ s5), DkO g 1048576 dA2 dc2 (LH ++ RW) ((LH ++ RW).length : Int), DkB dA2 dc2 (LH ++ RW)]) [pD h2] rfl rfl rfl own_wlen rfl rfl (fun _ _ => rfl) (wlen_S h2 g P5 (s2 ++ s5).length pc5 false) (fun _ _ _ => trivial) fun _ => ?_
      refine l_R [LgO h2 g P5 (s2 ++ s5).length pc5 false, SgO P5 pc5 (s2 ++ s5), DkO g 1048576 dA2 dc2 (LH ++ RW) ((LH ++ RW).length : Int), DkB dA2 dc2 (LH ++ RW)] rfl ?_
      refine s_end (hKa _ (fun _ _ _ => trivial) ?_)
      refine p_tail [19, 20, 21] (by kernel_rfl) rfl ?_
      refine l_autoS TY_ok rfl ?_
      refine s_end (hKz _ ?_)
      have hs5l : s5.length = 1 := by have := congrArg List.length hs5; rwa [List.length_map] at this
      have hfin : ((s2 ++ s5).length : Int) = IntKind.i64.wrap (((min ls.length K0 : Nat) : Int) + 1) := by
        rw [wrapI (r := ((K0 + 1 : Nat) : Int)) (by omega) (by omega) (by omega), List.length_append, hs2l, hs5l]
      refine s_ret (k_drop 0 rfl (k_drop 0 rfl (k_drop 0 rfl (k_drop 0 rfl ?_))))
      exact k_retD TY_ok () rfl (by decide) rfl (congrArg Value.bool (decide_eq_true hfin)).symm trivial rfl (fun _ _ _ => trivial) (fun _ _ => trivial)
end Go.Proofs.YtcbfalfkdnfelaaDoor
