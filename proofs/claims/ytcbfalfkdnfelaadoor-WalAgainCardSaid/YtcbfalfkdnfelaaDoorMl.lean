/-
  SEVERAL TEXTS IN ONE: WlL.
-/
import Derived.Test.YtcbfalfkdnfelaaDoorMk
/-
  THE LAW WalAgain, walked.
-/
namespace Go.Proofs.YtcbfalfkdnfelaaDoor
open Go.RowKit Go.IntWalk Nums

theorem crash_all (keep : Int) (n : Nat) : crashN keep n n = n := by
  obtain ⟨h1, h2, _⟩ := crash_le keep (Nat.le_refl n)
  omega
set_option maxRecDepth 100000 in
set_option maxHeartbeats 1000000 in
theorem again15_S {A : Option Addr} {c : Nat} (bs : List Seg) (keep : Int) : Spec 6 [.slice A bs.length c, .int .i64 keep] [] (fun w => Tsh w ∧ Rd 1 eSeg A c bs w ∧ ∀ x ∈ bs, x.rd w) (one (.v (.bool true))) := by
  refine spec_S [.c (.v (.slice A bs.length c)), .c (.v (.int .i64 keep))] 103 Tryd.func6 rfl (by rw [Tryd.ntmps6]; rfl) (two_ok trivial trivial) fun b => ?_
  refine s_pure (bs.length ≤ c ∧ (A = none → c = 0)) (fun w hw _ => ⟨hw.2.1.1, hw.2.1.2.2.1⟩) fun ⟨hlc, hA⟩ => ?_
  refine s_auto TY_ok rfl ?_
  refine s_seq fun K hK => ?_
  refine s_regA TY_ok rfl fun K1 hK1 => ?_
  refine l_call0 [] rfl rfl rfl own_first15 rfl rfl (fun _ _ => rfl) first15_S (fun _ h _ => h.1) fun _ => ?_
  refine l_R [] rfl ?_
  refine l_autoS TY_ok rfl ?_
  refine s_end (hK1 _ ?_)
  refine s_no rfl ?_
  refine s_skip (hK _ ?_)
  obtain ⟨ls, hls⟩ : ∃ ls, bs.take (min bs.length 12) = ls := ⟨_, rfl⟩
  have hln : ls.length = min bs.length 12 := by rw [← hls, List.length_take]; omega
  have hrl : ∀ w, Rd 1 eSeg A c bs w → Rd 1 eSeg A c ls w := fun w h => by rw [← hls]; exact h.take _
  have hml : ∀ x ∈ ls, x ∈ bs := fun x hx => by rw [← hls] at hx; exact List.mem_of_mem_take hx
  refine s_regA TY_ok rfl fun K2 hK2 => ?_
  refine l_op (.v (.int .i64 ((min bs.length 12 : Nat) : Int))) trivial rfl rfl rfl (run_min rfl rfl rfl) ?_
  refine l_op (.v (.slice A ls.length c)) trivial rfl rfl rfl (by rw [hln]; exact run_cutHi (e := 33) (sz := 1) (by kernel_rfl) (by omega) hA rfl Tryd.underlying32 rfl rfl) ?_
  refine l_autoS TY_ok rfl ?_
  refine s_end (hK2 _ ?_)
  refine s_regA TY_ok rfl fun K3 hK3 => ?_
  refine l_call0 [.int .i64 1048576] rfl rfl rfl own_dnew rfl rfl (fun _ _ => rfl) (dnew_S 1048576 (by decide)) (fun _ _ _ => trivial) fun g => ?_
  refine l_R [DkO g 1048576 none 0 [] 0, DkB none 0 []] rfl ?_
  refine l_autoS TY_ok rfl ?_
  refine s_end (hK3 _ ?_)
  refine s_seq fun K4 hK4 => ?_
  refine s_auto TY_ok rfl ?_
  refine s_block ?_
  let V : Nat × (Option Addr × Nat) → Env := fun s => ⟨[(27, .v (.int .i64 (s.1 : Int))), (26, .v (.int .i64 (ls.length : Int))), (25, .v (.slice A ls.length c)), (6, .v (pD g)), (5, .v (.slice A ls.length c)), (1, .v (.int .i64 keep))], [],
    [DkO g 1048576 s.2.1 s.2.2 (logD 0 ((ls.take s.1).map Seg.l)) ((logD 0 ((ls.take s.1).map Seg.l)).length : Int), DkB s.2.1 s.2.2 (logD 0 ((ls.take s.1).map Seg.l))], fun w => Tsh w ∧ Rd 1 eSeg A c ls w ∧ ∀ x ∈ ls, x.rd w, fun _ => True⟩
  refine c_weak (e' := V (0, (none, 0))) ⟨⟨rfl, rfl, rfl, rfl, rfl, rfl, trivial⟩, trivial, .refl _, fun w h _ => ⟨h.2.2.1, hrl w h.2.2.2.1, fun x hx => h.2.2.2.2 x (hml x hx)⟩, fun _ _ => trivial⟩ (s_loop (fun s => ls.length - s.1) V (fun s => s.1 ≤ ls.length ∧ (∀ x ∈ ls.take s.1, x.l.length ≤ 5000)) ?_ (0, (none, 0)) ⟨Nat.zero_le _, fun _ h => by simp at h⟩)
  rintro ⟨i, ⟨dA, dc⟩⟩ ⟨hi, hsm⟩
  dsimp only at hi hsm
  have hsm2 : ∀ x ∈ (ls.take i).map Seg.l, x.length ≤ 5000 := fun x hx => by
    obtain ⟨y, h1, rfl⟩ := List.mem_map.1 hx
    exact hsm y h1
  have hLr := saysD_log (rs := (ls.take i).map Seg.l) (fun x hx => Nat.le_trans (hsm2 x hx) (by decide))
  obtain ⟨LG, hLG⟩ : ∃ LG, logD 0 ((ls.take i).map Seg.l) = LG := ⟨_, rfl⟩
  have hLl : LG.length ≤ 12 * 5016 := by
    rw [← hLG]
    have h1 := logD_le (m := 5000) 0 ((ls.take i).map Seg.l) hsm2
    rw [List.length_map, List.length_take] at h1
    omega
  rw [hLG] at hLr
  have ho := wopen_S g 1048576 dA dc LG LG.length (by omega)
  rw [hLr, hLG] at ho
  refine s_permR [DkO g 1048576 dA dc LG (LG.length : Int), DkB dA dc LG] (by rw [← hLG]) ?_
  refine s_auto TY_ok rfl ?_
  refine s_seq fun K6 hK6 => ?_
  refine s_ifD ((i : Int) < (ls.length : Int)) rfl (fun hlt => ?_) (fun hge => ?_)
  · have hlt : i < ls.length := by omega
    obtain ⟨x, hx⟩ : ∃ x, ls[i]? = some x := ⟨_, List.getElem?_eq_getElem hlt⟩
    have hxm := List.mem_of_getElem? hx
    refine s_skip (hK6 _ ?_)
    refine s_seq fun K7 hK7 => ?_
    refine s_block ?_
    refine s_regA TY_ok rfl fun K8 hK8 => ?_
    refine l_elem TY_ok rfl rfl rfl i rfl hx rfl rfl (rd_fact fun _ h _ => h.2.1) ?_
    refine l_autoS TY_ok rfl ?_
    refine s_end (hK8 _ ?_)
    refine s_seq fun K9 hK9 => ?_
    refine s_auto TY_ok rfl ?_
    refine s_ifD ((x.l.length : Int) > 5000) rfl (fun hbig => ?_) (fun hsml => ?_)
    · refine s_auto TY_ok rfl ?_
      refine s_ret (k_drop 0 rfl (k_drop 0 rfl ?_))
      exact k_ret TY_ok () rfl (by decide) rfl rfl rfl (fun _ _ _ => trivial) (fun _ _ => trivial)
    have hxs : x.l.length ≤ 5000 := by omega
    refine s_skip (hK9 _ ?_)
    refine s_regA TY_ok rfl fun K10 hK10 => ?_
    refine l_callA (own := [DkO g 1048576 dA dc LG (LG.length : Int), DkB dA dc LG]) (R' := []) [pD g] rfl rfl rfl own_wopen rfl rfl (fun _ _ => rfl) ho (fun _ h _ => h.1) fun ⟨h, P, pc, ss, hs⟩ => ?_
    have hssl : ss.length = i := by
      have := congrArg List.length hs
      rw [List.length_map, List.length_map, List.length_take] at this
      omega
    have hss8 : ∀ y ∈ ss, y.l.length ≤ 1048576 := fun y hy => Nat.le_trans (hsm2 y.l (by rw [← hs]; exact List.mem_map.2 ⟨y, hy, rfl⟩)) (by decide)
    refine l_R [DkO g 1048576 dA dc LG (LG.length : Int), DkB dA dc LG, LgO h g P ss.length pc false, SgO P pc ss] rfl ?_
    refine l_autoS TY_ok rfl ?_
    refine s_end (hK10 _ ?_)
    refine s_seq fun K11 hK11 => ?_
    refine s_seq fun K12 hK12 => ?_
    have hil : (ls.take i).length = i := by rw [List.length_take]; omega
    refine s_anyP [0, 1, 2, 3, 4, 5, 7, 9, 13, 15, 16, 17, 22, 23] 26 2 (fun _ => True) (by kernel_rfl) rfl (fun _ _ _ => trivial) ?_
    refine p_frontF TY_ok 0 (by kernel_rfl) rfl rfl rfl rfl rfl rfl ?_
    refine p_frontF TY_ok 1 (by kernel_rfl) rfl rfl rfl rfl rfl rfl ?_
    refine p_frontF TY_ok 2 (by kernel_rfl) rfl rfl rfl rfl rfl rfl ?_
    refine p_frontF TY_ok 3 (by kernel_rfl) rfl rfl rfl rfl rfl rfl ?_
    refine p_frontF TY_ok 4 (by kernel_rfl) rfl rfl rfl rfl rfl rfl ?_
    refine p_frontF TY_ok 5 (by kernel_rfl) rfl rfl rfl rfl rfl rfl ?_
    refine p_step 6 (by kernel_rfl) rfl fun Ka hKa => ?_
    refine l_autoS TY_ok rfl (l_is 46 false rfl rfl ?_)
    refine s_end (hKa _ (fun _ _ _ => trivial) ?_)
    refine p_frontF TY_ok 7 (by kernel_rfl) rfl rfl rfl rfl rfl rfl ?_
    refine p_frontF TY_ok 9 (by kernel_rfl) rfl rfl rfl rfl rfl rfl ?_
    refine p_step 8 (by kernel_rfl) rfl fun Ka hKa => ?_
    refine l_autoS TY_ok rfl ?_
    refine l_permR [LgO h g P ss.length pc false, SgO P pc ss, DkO g 1048576 dA dc LG (LG.length : Int), DkB dA dc LG] (List.perm_append_comm (l₁ := [DkO g 1048576 dA dc LG (LG.length : Int), DkB dA dc LG])) ?_
    refine l_callA (own := [LgO h g P ss.length pc false]) (R' := [SgO P pc ss, DkO g 1048576 dA dc LG (LG.length : Int), DkB dA dc LG]) [pD h] rfl rfl rfl own_wlen rfl rfl (fun _ _ => rfl) (wlen_S h g P ss.length pc false) (fun _ _ _ => trivial) fun _ => ?_
    refine l_R [LgO h g P ss.length pc false, SgO P pc ss, DkO g 1048576 dA dc LG (LG.length : Int), DkB dA dc LG] rfl ?_
    refine s_end (hKa _ (fun _ _ _ => trivial) ?_)
    refine p_step 10 (by kernel_rfl) rfl fun Ka hKa => ?_
    refine l_autoS TY_ok rfl (l_is 50 false rfl (decide_eq_false (by omega)) ?_)
    refine s_end (hKa _ (fun _ _ _ => trivial) ?_)
    refine p_step 11 (by kernel_rfl) rfl fun Ka hKa => ?_
    refine l_autoS TY_ok rfl ?_
    refine s_end (hKa _ (fun _ _ _ => trivial) ?_)
    refine p_step 12 (by kernel_rfl) rfl fun Ka hKa => ?_
    refine l_autoS TY_ok rfl ?_
    refine s_end (hKa _ (fun _ _ _ => trivial) ?_)
    refine p_frontF TY_ok 13 (by kernel_rfl) rfl rfl rfl rfl rfl rfl ?_
    refine p_frontF TY_ok 15 (by kernel_rfl) rfl rfl rfl rfl rfl rfl ?_
    refine p_frontF TY_ok 16 (by kernel_rfl) rfl rfl rfl rfl rfl rfl ?_
    refine p_frontZ (.v (.slice A (ls.take i).length c)) trivial 17 (by kernel_rfl) rfl rfl rfl rfl rfl (fun G a w ha _ => by rw [hil]; exact run_cutHi (e := 33) (sz := 1) (by kernel_rfl) (by omega) hA rfl Tryd.underlying32 rfl rfl G a w ha) ?_
    refine p_step 14 (by kernel_rfl) rfl fun Ka hKa => ?_
    refine l_autoS TY_ok rfl ?_
    refine l_callA (own := [LgO h g P ss.length pc false, SgO P pc ss]) (R' := [DkO g 1048576 dA dc LG (LG.length : Int), DkB dA dc LG]) [pD h] rfl rfl rfl own_wrows rfl rfl (fun _ _ => rfl) (wrows_S h g P pc ss false (by omega) hss8) (fun w _ hM => hM.2.1) fun ⟨P4, pc4, s4, hs4⟩ => ?_
    refine l_R [SgO P4 pc4 s4, BagR s4, LgO h g P ss.length pc false, SgO P pc ss, DkO g 1048576 dA dc LG (LG.length : Int), DkB dA dc LG] rfl ?_
    refine l_free 0 rfl (l_bagF ?_)
    refine l_permR [DkO g 1048576 dA dc LG (LG.length : Int), DkB dA dc LG, LgO h g P ss.length pc false, SgO P pc ss] (List.perm_append_comm (l₁ := [LgO h g P ss.length pc false, SgO P pc ss])) ?_
    refine s_end (hKa _ (fun _ _ _ => trivial) ?_)
    refine p_step 18 (by kernel_rfl) rfl fun Ka hKa => ?_
    refine l_autoS TY_ok rfl ?_
    refine l_call0 [.slice P4 s4.length pc4, .slice A (ls.take i).length c] rfl rfl rfl own_rfsame15 rfl rfl (fun _ _ => rfl) (rfsame15_S s4 (ls.take i)) (fun w hF _ => ⟨hF.2.1, hF.2.2.2.2.2.2.1.take i, hF.1, fun x hx => hF.2.2.2.2.2.2.2 x (List.mem_of_mem_take hx)⟩) fun _ => ?_
    refine l_R [DkO g 1048576 dA dc LG (LG.length : Int), DkB dA dc LG, LgO h g P ss.length pc false, SgO P pc ss] rfl ?_
    refine l_is 58 true rfl (decide_eq_true (by rw [hs4, hs])) ?_
    refine s_end (hKa _ (fun _ _ _ => trivial) ?_)
    refine p_step 19 (by kernel_rfl) rfl fun Ka hKa => ?_
    refine l_autoS TY_ok rfl ?_
    refine s_end (hKa _ (fun _ _ _ => trivial) ?_)
    refine p_step 20 (by kernel_rfl) rfl fun Ka hKa => ?_
    refine l_autoS TY_ok rfl ?_
    refine s_end (hKa _ (fun _ _ _ => trivial) ?_)
    refine p_step 21 (by kernel_rfl) rfl fun Ka hKa => ?_
    refine l_autoS TY_ok rfl ?_
    refine s_end (hKa _ (fun _ _ _ => trivial) ?_)
    refine p_frontF TY_ok 22 (by kernel_rfl) rfl rfl rfl rfl rfl rfl ?_
    refine p_frontF TY_ok 23 (by kernel_rfl) rfl rfl rfl rfl rfl rfl ?_
    refine p_step 24 (by kernel_rfl) rfl fun Ka hKa => ?_
    refine l_autoS TY_ok rfl ?_
    refine l_list TY_ok b.B.heap.size [x] (fe := eSeg) rfl rfl rfl rfl rfl (fun _ => rfl) rfl (by decide) (by decide) (okF_seg _) (Nat.le_refl _) fun B1 => ?_
    refine l_freeM 0 rfl (Nat.le_refl _) ?_
    refine s_end (hKa _ (fun _ _ _ => trivial) ?_)
    refine p_step 25 (by kernel_rfl) rfl fun Ka hKa => ?_
    refine l_autoS TY_ok rfl ?_
    obtain ⟨RW, hRW, hRl⟩ : ∃ RW, logD ss.length [x.l] = RW ∧ RW.length = 16 + x.l.length := ⟨_, rfl, by rw [logD_one, rowD_len]⟩
    have hw := wwrite_S h g 1048576 dA dc LG LG.length P pc ss B1 1 [x] RW hRW true (by symm; exact decide_eq_true (by omega)) (by decide) (by omega) (by omega) (Nat.le_of_ble_eq_true rfl) (fun y hy => by rw [List.mem_singleton.1 hy]; omega) (by omega)
    refine l_callA (own := [DkO g 1048576 dA dc LG (LG.length : Int), DkB dA dc LG, LgO h g P ss.length pc false, SgO P pc ss]) (R' := []) [pD h, .slice B1 1 1] rfl rfl rfl own_wwrite rfl rfl (fun _ _ => rfl) hw (fun w hF hM => ⟨hF.2.2.2.2.2.2.1, hM.1, fun y hy => by rw [List.mem_singleton.1 hy]; exact hF.2.2.2.2.2.2.2.2 x hxm⟩) fun ⟨dA2, dc2, P2, pc2, ss2, hs2⟩ => ?_
    refine l_R [DkO g 1048576 dA2 dc2 (LG ++ RW) ((LG ++ RW).length : Int), DkB dA2 dc2 (LG ++ RW), LgO h g P2 (ss ++ ss2).length pc2 false, SgO P2 pc2 (ss ++ ss2)] rfl ?_
    refine s_end (hKa _ (fun _ _ _ => trivial) ?_)
    refine p_tail [26, 27] (by kernel_rfl) rfl ?_
    refine l_autoS TY_ok rfl (l_is 67 false rfl rfl ?_)
    refine s_end (k_drop 2 rfl (k_drop 2 rfl (hK12 _ ?_)))
    refine s_no rfl ?_
    refine s_skip (hK11 _ ?_)
    refine s_lit ?_
    refine l_autoS TY_ok rfl ?_
    refine l_callA (own := [DkO g 1048576 dA2 dc2 (LG ++ RW) (((LG ++ RW).length : Nat) : Int), DkB dA2 dc2 (LG ++ RW)]) (R' := []) [pD g, .int .i64 keep] rfl rfl rfl own_dcrash rfl rfl (fun _ _ => rfl) (dcrash_S g 1048576 keep dA2 dc2 (LG ++ RW) (LG ++ RW).length (Nat.le_refl _) (by rw [List.length_append]; omega)) (fun _ _ _ => trivial) fun _ => ?_
    refine l_R [DkO g 1048576 dA2 dc2 (LG ++ RW) ((LG ++ RW).length : Int), DkB dA2 dc2 (LG ++ RW)] (by rw [crash_all, List.take_length]; rfl) ?_
    refine s_end (hK7 _ ?_)
    refine s_autoE TY_ok rfl ?_
    have hmap : (ls.take (i + 1)).map Seg.l = (ls.take i).map Seg.l ++ [x.l] := by rw [List.take_add_one, hx, List.map_append]; rfl
    have hLG2 : logD 0 ((ls.take (i + 1)).map Seg.l) = LG ++ RW := by
      rw [hmap, logD_app, hLG, List.length_map, List.length_take, show 0 + min i ls.length = ss.length by omega, hRW]
    refine k_next (i + 1, (dA2, dc2)) ⟨hlt, fun y hy => ?_⟩ (by show ls.length - (i + 1) < ls.length - i; omega) ⟨⟨congrArg (fun z => some (SV.v (Value.int .i64 z))) (wrapI (r := ((i + 1 : Nat) : Int)) (by omega) (by omega) (by omega)), rfl, rfl, rfl, rfl, rfl, trivial⟩, trivial, ?_, fun w h _ => ?_, fun _ _ => trivial⟩
    · rw [List.take_add_one, hx] at hy
      rcases List.mem_append.1 hy with hy | hy
      · exact hsm y hy
      · obtain rfl : y = x := by simpa using hy
        exact hxs
    · dsimp only [V]
      rw [hLG2]
    · exact h.2.2.2.2.2.2.2.2
  · obtain rfl : i = ls.length := by omega
    rw [List.take_length] at hLG hsm hsm2 ho
    refine s_exit (k_pass (k_pass (k_out (hK4 _ ?_))))
    refine s_regA TY_ok rfl fun K10 hK10 => ?_
    refine l_callA (own := [DkO g 1048576 dA dc LG (LG.length : Int), DkB dA dc LG]) (R' := []) [pD g] rfl rfl rfl own_wopen rfl rfl (fun _ _ => rfl) ho (fun _ h _ => h.1) fun ⟨h, P, pc, ss, hs⟩ => ?_
    have hssl : ss.length = ls.length := by
      have := congrArg List.length hs
      rwa [List.length_map, List.length_map] at this
    have hss8 : ∀ y ∈ ss, y.l.length ≤ 1048576 := fun y hy => Nat.le_trans (hsm2 y.l (by rw [← hs]; exact List.mem_map.2 ⟨y, hy, rfl⟩)) (by decide)
    refine l_R [DkO g 1048576 dA dc LG (LG.length : Int), DkB dA dc LG, LgO h g P ss.length pc false, SgO P pc ss] rfl ?_
    refine l_autoS TY_ok rfl ?_
    refine s_end (hK10 _ ?_)
    refine s_regA TY_ok rfl fun K11 hK11 => ?_
    refine l_is 83 true rfl rfl (l_autoS TY_ok rfl ?_)
    refine l_permR [LgO h g P ss.length pc false, SgO P pc ss, DkO g 1048576 dA dc LG (LG.length : Int), DkB dA dc LG] (List.perm_append_comm (l₁ := [DkO g 1048576 dA dc LG (LG.length : Int), DkB dA dc LG])) ?_
    refine l_callA (own := [LgO h g P ss.length pc false, SgO P pc ss]) (R' := [DkO g 1048576 dA dc LG (LG.length : Int), DkB dA dc LG]) [pD h] rfl rfl rfl own_wrows rfl rfl (fun _ _ => rfl) (wrows_S h g P pc ss false (by omega) hss8) (fun w _ hM => hM.1) fun ⟨P4, pc4, s4, hs4⟩ => ?_
    refine l_R [SgO P4 pc4 s4, BagR s4, LgO h g P ss.length pc false, SgO P pc ss, DkO g 1048576 dA dc LG (LG.length : Int), DkB dA dc LG] rfl ?_
    refine l_free 0 rfl (l_bagF ?_)
    refine l_permR [DkO g 1048576 dA dc LG (LG.length : Int), DkB dA dc LG, LgO h g P ss.length pc false, SgO P pc ss] (List.perm_append_comm (l₁ := [LgO h g P ss.length pc false, SgO P pc ss])) ?_
    refine l_autoS TY_ok rfl ?_
    refine l_call0 [.slice P4 s4.length pc4, .slice A ls.length c] rfl rfl rfl own_rfsame15 rfl rfl (fun _ _ => rfl) (rfsame15_S s4 ls) (fun w hF _ => ⟨hF.2.1, hF.2.2.2.2.2.1, hF.1, hF.2.2.2.2.2.2⟩) fun _ => ?_
    refine l_R [DkO g 1048576 dA dc LG (LG.length : Int), DkB dA dc LG, LgO h g P ss.length pc false, SgO P pc ss] rfl ?_
    refine l_is 87 true rfl (decide_eq_true (by rw [hs4, hs])) (l_autoS TY_ok rfl ?_)
    obtain ⟨RW, hRW, hRl⟩ : ∃ RW, logD ss.length (ls.map Seg.l) = RW ∧ RW.length ≤ 12 * 5016 := ⟨_, rfl, by
      have h1 := logD_le (m := 5000) ss.length (ls.map Seg.l) hsm2
      rw [List.length_map] at h1
      omega⟩
    have hw := wwrite_S h g 1048576 dA dc LG LG.length P pc ss A c ls RW hRW true (by symm; exact decide_eq_true (by omega)) (by decide) (by omega) (by omega) (by omega) (fun y hy => Nat.le_trans (hsm y hy) (by decide)) (by omega)
    refine l_callA (own := [DkO g 1048576 dA dc LG (LG.length : Int), DkB dA dc LG, LgO h g P ss.length pc false, SgO P pc ss]) (R' := []) [pD h, .slice A ls.length c] rfl rfl rfl own_wwrite rfl rfl (fun _ _ => rfl) hw (fun w hF hM => ⟨hF.2.2.2.2.2.1, hF.2.2.2.2.2.2⟩) fun ⟨dA2, dc2, P2, pc2, ss2, hs2⟩ => ?_
    refine l_R [DkO g 1048576 dA2 dc2 (LG ++ RW) ((LG ++ RW).length : Int), DkB dA2 dc2 (LG ++ RW), LgO h g P2 (ss ++ ss2).length pc2 false, SgO P2 pc2 (ss ++ ss2)] rfl ?_
    refine l_autoS TY_ok rfl (l_is 95 true rfl rfl (l_autoS TY_ok rfl ?_))
    refine l_permR [LgO h g P2 (ss ++ ss2).length pc2 false, SgO P2 pc2 (ss ++ ss2), DkO g 1048576 dA2 dc2 (LG ++ RW) ((LG ++ RW).length : Int), DkB dA2 dc2 (LG ++ RW)] (List.perm_append_comm (l₁ := [DkO g 1048576 dA2 dc2 (LG ++ RW) ((LG ++ RW).length : Int), DkB dA2 dc2 (LG ++ RW)])) ?_
    refine l_callA (own := [LgO h g P2 (ss ++ ss2).length pc2 false]) (R' := [SgO P2 pc2 (ss ++ ss2), DkO g 1048576 dA2 dc2 (LG ++ RW) ((LG ++ RW).length : Int), DkB dA2 dc2 (LG ++ RW)]) [pD h] rfl rfl rfl own_wlen rfl rfl (fun _ _ => rfl) (wlen_S h g P2 (ss ++ ss2).length pc2 false) (fun _ _ _ => trivial) fun _ => ?_
    refine l_R [LgO h g P2 (ss ++ ss2).length pc2 false, SgO P2 pc2 (ss ++ ss2), DkO g 1048576 dA2 dc2 (LG ++ RW) ((LG ++ RW).length : Int), DkB dA2 dc2 (LG ++ RW)] rfl ?_
    refine l_autoS TY_ok rfl ?_
    refine s_end (hK11 _ ?_)
    have hs2l : ss2.length = ls.length := by
      have := congrArg List.length hs2
      rw [List.length_map] at this
      rw [this]
      exact List.length_map _
    have hfin : ((ss ++ ss2).length : Int) = IntKind.i64.wrap (2 * (ls.length : Int)) := by
      rw [wrapI (r := ((2 * ls.length : Nat) : Int)) (by omega) (by omega) (by omega), List.length_append]
      omega
    refine s_ret (k_drop 0 rfl (k_drop 0 rfl (k_drop 0 rfl (k_drop 0 rfl ?_))))
    exact k_retD TY_ok () rfl (by decide) rfl (congrArg Value.bool (decide_eq_true hfin)).symm trivial rfl (fun _ _ _ => trivial) (fun _ _ => trivial)
end Go.Proofs.YtcbfalfkdnfelaaDoor
