/-
  SEVERAL TEXTS IN ONE: DkL.
-/
import Derived.Test.YthkbejheedffjaaMg
/-
  THE LAW DiskKeeps, walked.
-/
namespace Go.Proofs.Ythkbejheedffjaa
open Go.RowKit Go.IntWalk

theorem own_keeps14 : Own 4 := fun _ _ => by go_simp
theorem crash_le (keep : Int) {s n : Nat} (h : s ≤ n) : s ≤ crashN keep s n ∧ crashN keep s n ≤ n ∧ ((n : Int) - s ≤ keep → crashN keep s n = n) := by
  unfold crashN
  omega
set_option maxRecDepth 100000 in
set_option maxHeartbeats 1000000 in
theorem keeps14_S {A B : Option Addr} {c d : Nat} (l m : List UInt8) (keep : Int) (hl : l.length ≤ 1048576) (hm : m.length ≤ 1048576) :
    Spec 4 [.slice A l.length c, .slice B m.length d, .int .i64 keep] [] (fun w => Rd 1 eB A c l w ∧ Rd 1 eB B d m w) (one (.v (.bool true))) := by
  refine spec_S [.c (.v (.slice A l.length c)), .c (.v (.slice B m.length d)), .c (.v (.int .i64 keep))] 91 Try.func4 rfl (by rw [Try.ntmps4]; rfl) (more_ok trivial (two_ok trivial trivial)) fun b => ?_
  refine s_auto TY_ok rfl ?_
  refine s_seq fun K hK => ?_
  refine s_regA TY_ok rfl fun K1 hK1 => ?_
  refine l_call0 [] rfl rfl rfl own_first14 rfl rfl (fun _ _ => rfl) first14_S (fun _ _ _ => trivial) fun _ => ?_
  refine l_R [] rfl ?_
  refine l_autoS TY_ok rfl ?_
  refine s_end (hK1 _ ?_)
  refine s_no rfl ?_
  refine s_skip (hK _ ?_)
  refine s_regA TY_ok rfl fun K2 hK2 => ?_
  have hn : (l ++ m).length = l.length + m.length := List.length_append
  refine l_num 18 ((l ++ m).length : Int) rfl (wrapI (by omega) (by omega) (by omega)) ?_
  refine l_call0 [.int .i64 ((l ++ m).length : Int)] rfl rfl rfl own_dnew rfl rfl (fun _ _ => rfl) (dnew_S _ (by omega)) (fun _ _ _ => trivial) fun g => ?_
  refine l_R [DkO g ((l ++ m).length : Int) none 0 [] 0, DkB none 0 []] rfl ?_
  refine l_autoS TY_ok rfl ?_
  refine s_end (hK2 _ ?_)
  refine s_seq fun K3 hK3 => ?_
  refine s_regA TY_ok rfl fun K4 hK4 => ?_
  refine l_is 28 false rfl rfl (l_autoS TY_ok rfl ?_)
  refine l_list TY_ok b.B.heap.size [⟨A, c, l⟩] (fe := eSeg) rfl rfl rfl rfl rfl (fun _ => rfl) rfl (by decide) (by decide) (okF_seg _) (Nat.le_refl _) fun B1 => ?_
  refine l_freeM 0 rfl (Nat.le_refl _) ?_
  refine l_autoS TY_ok rfl ?_
  refine l_callA [pD g, .slice B1 1 1] rfl rfl rfl own_dapp rfl rfl (fun _ _ => rfl) (dapp_fits g ((l ++ m).length : Int) none 0 [] l 0 B1 1 [⟨A, c, l⟩] (by omega) (by rw [seg1, hn, List.length_nil]; omega) (by rw [seg1, List.length_nil]; omega) (by rw [seg1]; rfl)) (fun w h1 h => ⟨h.1, fun s hs => by rw [List.mem_singleton.1 hs]; exact h1.2.2.1⟩) fun ⟨A1, c1⟩ => ?_
  refine l_R [DkO g ((l ++ m).length : Int) A1 c1 l 0, DkB A1 c1 l] rfl ?_
  refine l_autoS TY_ok rfl ?_
  refine s_end (hK4 _ ?_)
  refine s_ifD ((0 : Int) ≠ 0) rfl (fun h0 => absurd rfl h0) fun _ => ?_
  refine s_skip (hK3 _ ?_)
  refine s_regA TY_ok rfl fun K5 hK5 => ?_
  refine l_callA [pD g] rfl rfl rfl own_dsync rfl rfl (fun _ _ => rfl) (dsync_S g ((l ++ m).length : Int) A1 c1 l 0) (fun _ _ _ => trivial) fun _ => ?_
  refine l_R [DkO g ((l ++ m).length : Int) A1 c1 l (l.length : Int), DkB A1 c1 l] rfl ?_
  refine s_end (hK5 _ ?_)
  refine s_seq fun K6 hK6 => ?_
  refine s_regA TY_ok rfl fun K7 hK7 => ?_
  refine l_list TY_ok b.B.heap.size [⟨B, d, m⟩] (fe := eSeg) rfl rfl rfl rfl rfl (fun _ => rfl) rfl (by decide) (by decide) (okF_seg _) (Nat.le_refl _) fun B2 => ?_
  refine l_freeM 0 rfl (Nat.le_refl _) ?_
  refine l_callA [pD g, .slice B2 1 1] rfl rfl rfl own_dapp rfl rfl (fun _ _ => rfl) (dapp_fits g ((l ++ m).length : Int) A1 c1 l (l ++ m) (l.length : Int) B2 1 [⟨B, d, m⟩] (by omega) (by rw [seg1, hn]; omega) (by rw [seg1]; omega) (by rw [seg1])) (fun w h1 h => ⟨h.1, fun s hs => by rw [List.mem_singleton.1 hs]; exact h1.2.2.2.2.2⟩) fun ⟨A2, c2⟩ => ?_
  refine l_R [DkO g ((l ++ m).length : Int) A2 c2 (l ++ m) (l.length : Int), DkB A2 c2 (l ++ m)] rfl ?_
  refine l_autoS TY_ok rfl ?_
  refine s_end (hK7 _ ?_)
  refine s_ifD ((0 : Int) ≠ 0) rfl (fun h0 => absurd rfl h0) fun _ => ?_
  refine s_skip (hK6 _ ?_)
  refine s_regA TY_ok rfl fun K8 hK8 => ?_
  refine l_callA [pD g, .int .i64 keep] rfl rfl rfl own_dcrash rfl rfl (fun _ _ => rfl) (dcrash_S g ((l ++ m).length : Int) keep A2 c2 (l ++ m) l.length (by omega) (by omega)) (fun _ _ _ => trivial) fun _ => ?_
  obtain ⟨q1, q2, q3⟩ := crash_le keep (s := l.length) (n := (l ++ m).length) (by omega)
  generalize hq : crashN keep l.length (l ++ m).length = n at q1 q2 q3
  refine l_R [DkO g ((l ++ m).length : Int) A2 c2 ((l ++ m).take n) (n : Int), DkB A2 c2 ((l ++ m).take n)] (by rw [← hq]; rfl) ?_
  clear hq
  have e3 : ((l ++ m).take n).length = n := by rw [List.length_take]; omega
  refine s_end (hK8 _ ?_)
  refine s_regA TY_ok rfl fun K9 hK9 => ?_
  refine l_callA [pD g] rfl rfl rfl own_dbytes rfl rfl (fun _ _ => rfl) (dbytes_S g ((l ++ m).length : Int) A2 c2 ((l ++ m).take n) (n : Int) (by omega)) (fun _ _ _ => trivial) fun ⟨A4, c4⟩ => ?_
  refine l_R [DkB A4 c4 ((l ++ m).take n), DkO g ((l ++ m).length : Int) A2 c2 ((l ++ m).take n) (n : Int), DkB A2 c2 ((l ++ m).take n)] rfl ?_
  refine l_free 0 rfl ?_
  refine l_strB ((l ++ m).take n) rfl rfl rfl rfl rfl (rd_fact fun w h _ => h.1) ?_
  refine l_autoS TY_ok rfl ?_
  refine s_end (hK9 _ ?_)
  refine s_regA TY_ok rfl fun K10 hK10 => ?_
  refine l_strB l rfl rfl rfl rfl rfl (rd_fact fun w h _ => h.2.2.2.2.2.2.2.2.1) ?_
  refine l_autoS TY_ok rfl ?_
  refine l_strB m rfl rfl rfl rfl rfl (rd_fact fun w h _ => h.2.2.2.2.2.2.2.2.2) ?_
  refine l_op (vS (l ++ m)) trivial rfl rfl rfl (run_addS (by omega) rfl rfl rfl) ?_
  refine l_autoS TY_ok rfl ?_
  refine s_end (hK10 _ ?_)
  refine s_regA TY_ok rfl fun K11 hK11 => ?_
  refine l_op (.v (.int .i64 (n : Int))) trivial rfl rfl rfl (run_lenS e3 rfl rfl) ?_
  refine l_autoS TY_ok rfl ?_
  refine l_is 58 true rfl (decide_eq_true (by omega)) (l_autoS TY_ok rfl ?_)
  refine l_op (.v (.int .i64 (n : Int))) trivial rfl rfl rfl (run_lenS e3 rfl rfl) ?_
  refine l_autoS TY_ok rfl ?_
  refine l_op (.v (.int .i64 ((l ++ m).length : Int))) trivial rfl rfl rfl (run_lenS rfl rfl rfl) ?_
  refine l_autoS TY_ok rfl ?_
  refine l_is 65 true rfl (decide_eq_true (by omega)) (l_autoS TY_ok rfl ?_)
  refine l_op (.v (.int .i64 (n : Int))) trivial rfl rfl rfl (run_lenS e3 rfl rfl) ?_
  refine l_autoS TY_ok rfl ?_
  refine l_op (vS ((l ++ m).take n)) trivial rfl rfl rfl (run_cutS (by omega) rfl rfl rfl) ?_
  refine l_autoS TY_ok rfl ?_
  refine l_op (.b (decide ((l ++ m).take n = (l ++ m).take n))) trivial rfl rfl rfl (run_eqS rfl rfl rfl) ?_
  refine l_autoS TY_ok rfl ?_
  refine l_is 73 true rfl (decide_eq_true rfl) (l_autoS TY_ok rfl ?_)
  refine l_callA [pD g] rfl rfl rfl own_dsafe rfl rfl (fun _ _ => rfl) (dsafe_S g ((l ++ m).length : Int) A2 c2 ((l ++ m).take n) (n : Int)) (fun _ _ _ => trivial) fun _ => ?_
  refine l_R [DkO g ((l ++ m).length : Int) A2 c2 ((l ++ m).take n) (n : Int), DkB A2 c2 ((l ++ m).take n)] rfl ?_
  refine l_autoS TY_ok rfl ?_
  refine l_op (.v (.int .i64 (n : Int))) trivial rfl rfl rfl (run_lenS e3 rfl rfl) ?_
  refine l_autoS TY_ok rfl ?_
  refine l_is 80 true rfl (decide_eq_true rfl) (l_autoS TY_ok rfl ?_)
  by_cases h0 : keep < (m.length : Int)
  · refine l_is 85 true rfl (decide_eq_true h0) (l_autoS TY_ok rfl ?_)
    refine s_end (hK11 _ ?_)
    refine s_ret (k_drop 0 rfl (k_drop 0 rfl ?_))
    exact k_ret TY_ok () rfl (by decide) rfl rfl rfl (fun _ _ _ => trivial) (fun _ _ => trivial)
  · have e4 : n = (l ++ m).length := q3 (by omega)
    refine l_is 85 false rfl (decide_eq_false h0) (l_autoS TY_ok rfl ?_)
    refine l_op (.b (decide ((l ++ m).take n = l ++ m))) trivial rfl rfl rfl (run_eqS rfl rfl rfl) ?_
    refine l_autoS TY_ok rfl ?_
    refine l_is 6 true rfl (decide_eq_true (by rw [e4, List.take_length])) ?_
    refine s_end (hK11 _ ?_)
    refine s_ret (k_drop 0 rfl (k_drop 0 rfl ?_))
    exact k_ret TY_ok () rfl (by decide) rfl rfl rfl (fun _ _ _ => trivial) (fun _ _ => trivial)
end Go.Proofs.Ythkbejheedffjaa
