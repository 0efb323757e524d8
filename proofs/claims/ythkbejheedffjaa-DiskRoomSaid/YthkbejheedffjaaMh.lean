/-
  SEVERAL TEXTS IN ONE: DkM.
-/
import Derived.Test.YthkbejheedffjaaMg
/-
  THE LAW DiskRoom, walked.
-/
namespace Go.Proofs.Ythkbejheedffjaa
open Go.RowKit Go.IntWalk

theorem own_room14 : Own 5 := fun _ _ => by go_simp
theorem wrap_mod8 (x : UInt8) (m : Nat) : IntKind.i64.wrap ((x.toNat : Int).tmod (m : Int)) = ((x.toNat % m : Nat) : Int) := by
  have h1 : (x.toNat : Int).tmod (m : Int) = ((x.toNat % m : Nat) : Int) := (Int.ofNat_tmod x.toNat m).symm
  have h2 := Nat.mod_le x.toNat m
  have h3 := x.toNat_lt
  exact wrapI h1 (by omega) (by omega)
set_option maxRecDepth 100000 in
set_option maxHeartbeats 1000000 in
theorem room14_S {A : Option Addr} {c : Nat} (size : Int) (p : List UInt8) :
    Spec 5 [.int .i64 size, .slice A p.length c] [] (Rd 1 eB A c p) (one (.v (.bool true))) := by
  refine spec_S [.c (.v (.int .i64 size)), .c (.v (.slice A p.length c))] 95 Try.func5 rfl (by rw [Try.ntmps5]; rfl) (two_ok trivial trivial) fun b => ?_
  refine s_pure (p.length ≤ c ∧ c ≤ 9223372036854775807) (fun w hw _ => ⟨hw.1, hw.2.1⟩) fun ⟨hpc, hcm⟩ => ?_
  refine s_auto TY_ok rfl ?_
  refine s_seq fun K hK => ?_
  refine s_regA TY_ok rfl fun K1 hK1 => ?_
  refine l_call0 [] rfl rfl rfl own_first14 rfl rfl (fun _ _ => rfl) first14_S (fun _ _ _ => trivial) fun _ => ?_
  refine l_R [] rfl ?_
  refine l_autoS TY_ok rfl ?_
  refine s_end (hK1 _ ?_)
  refine s_no rfl ?_
  refine s_skip (hK _ ?_)
  obtain ⟨n, hn, _, en⟩ := wrapU_mod size 300 (by decide) (by decide)
  refine s_regA TY_ok rfl fun K2 hK2 => ?_
  refine l_num 5 (n : Int) rfl en ?_
  refine s_end (hK2 _ ?_)
  refine s_regA TY_ok rfl fun K3 hK3 => ?_
  refine l_call0 [.int .i64 (n : Int)] rfl rfl rfl own_dnew rfl rfl (fun _ _ => rfl) (dnew_S _ (by omega)) (fun _ _ _ => trivial) fun g => ?_
  refine l_R [DkO g (n : Int) none 0 [] 0, DkB none 0 []] rfl ?_
  refine l_autoS TY_ok rfl ?_
  refine s_end (hK3 _ ?_)
  refine s_seq fun K4 hK4 => ?_
  refine s_auto TY_ok rfl ?_
  refine s_no rfl ?_
  refine s_skip (hK4 _ ?_)
  refine s_auto TY_ok rfl ?_
  refine s_seq fun K5 hK5 => ?_
  have fin : ∀ (A1 : Option Addr) (c1 : Nat) (l : List UInt8) (s : Nat), l.length ≤ n → s ≤ l.length → kS b K5 95 ⟨[(5, .v (.int .i64 (n : Int))), (6, .v (pD g))], [], [DkO g (n : Int) A1 c1 l (s : Int), DkB A1 c1 l], fun _ => True, fun _ => True⟩ := by
    intro A1 c1 l s hl hs
    refine hK5 _ ?_
    refine s_regA TY_ok rfl fun K hK => ?_
    refine l_callA [pD g, .int .i64 ((0 : Nat) : Int)] rfl rfl rfl own_dcut rfl rfl (fun _ _ => rfl) (dcut_S g (n : Int) 0 A1 c1 l s (Nat.zero_le _)) (fun _ _ _ => trivial) fun _ => ?_
    refine l_R [DkO g (n : Int) A1 c1 [] 0, DkB A1 c1 []] (by rw [Nat.min_zero]; rfl) ?_
    refine l_autoS TY_ok rfl ?_
    refine l_is 75 true rfl rfl (l_autoS TY_ok rfl ?_)
    refine l_callA [pD g] rfl rfl rfl own_dlen rfl rfl (fun _ _ => rfl) (dlen_S g (n : Int) A1 c1 [] 0) (fun _ _ _ => trivial) fun _ => ?_
    refine l_R [DkO g (n : Int) A1 c1 [] 0, DkB A1 c1 []] rfl ?_
    refine l_autoS TY_ok rfl ?_
    refine l_is 80 true rfl rfl (l_autoS TY_ok rfl ?_)
    refine l_makeS TY_ok b.B.heap.size n (0 : UInt8) (fe := eB) rfl rfl rfl rfl rfl rfl rfl rfl (eB_ok 0) (by show 1 * n ≤ _; omega) (by omega) (Nat.le_refl _) fun B1 => ?_
    refine l_autoS TY_ok rfl ?_
    have hrl : (List.replicate n (0 : UInt8)).length = n := List.length_replicate
    refine l_eq 83 (.v (.slice B1 (List.replicate n (0 : UInt8)).length n)) rfl (by rw [hrl]) ?_
    refine l_list TY_ok b.B.heap.size [⟨B1, n, List.replicate n 0⟩] (fe := eSeg) rfl rfl rfl rfl rfl (fun _ => rfl) rfl (by decide) (by decide) (okF_seg _) (Nat.le_refl _) fun B2 => ?_
    refine l_freeM 0 rfl (Nat.le_refl _) ?_
    refine l_freeM 0 rfl (Nat.le_refl _) ?_
    refine l_autoS TY_ok rfl ?_
    refine l_callA [pD g, .slice B2 1 1] rfl rfl rfl own_dapp rfl rfl (fun _ _ => rfl) (dapp_fits g (n : Int) A1 c1 [] (List.replicate n 0) 0 B2 1 [⟨B1, n, List.replicate n 0⟩] (by omega) (by rw [seg1, hrl]; simp) (by rw [seg1, hrl]; simp; omega) (by rw [seg1]; rfl)) (fun w _ h => ⟨h.2.1, fun s hs => by rw [List.mem_singleton.1 hs]; exact h.1⟩) fun ⟨A3, c3⟩ => ?_
    refine l_R [DkO g (n : Int) A3 c3 (List.replicate n 0) 0, DkB A3 c3 (List.replicate n 0)] rfl ?_
    refine l_autoS TY_ok rfl ?_
    refine l_is 88 true rfl rfl (l_autoS TY_ok rfl ?_)
    refine l_list TY_ok b.B.heap.size [(1 : UInt8)] (fe := eB) rfl rfl rfl rfl rfl (fun _ => rfl) rfl (by decide) (by decide) (okF_B _) (Nat.le_refl _) fun B4 => ?_
    refine l_autoS TY_ok rfl ?_
    refine l_list TY_ok b.B.heap.size [⟨B4, 1, [1]⟩] (fe := eSeg) rfl rfl rfl rfl rfl (fun _ => rfl) rfl (by decide) (by decide) (okF_seg _) (Nat.le_refl _) fun B5 => ?_
    refine l_freeM 0 rfl (Nat.le_refl _) ?_
    refine l_freeM 0 rfl (Nat.le_refl _) ?_
    refine l_autoS TY_ok rfl ?_
    refine l_callA [pD g, .slice B5 1 1] rfl rfl rfl own_dapp rfl rfl (fun _ _ => rfl) (dapp_full g (n : Int) A3 c3 (List.replicate n 0) 0 B5 1 [⟨B4, 1, [1]⟩] (by omega) (by rw [hrl]; omega) (by rw [seg1, hrl]; show ¬ ((n : Int) + 1 ≤ n); omega) (by rw [seg1, hrl]; show n + 1 ≤ _; omega)) (fun w _ h => ⟨h.2.1, fun s hs => by rw [List.mem_singleton.1 hs]; exact h.1⟩) fun ⟨A6, c6⟩ => ?_
    refine l_R [DkO g (n : Int) A6 c6 (List.replicate n 0) 0, DkB A6 c6 (List.replicate n 0)] rfl ?_
    refine l_autoS TY_ok rfl ?_
    refine l_is 4 true rfl rfl ?_
    refine s_end (hK _ ?_)
    refine s_ret (k_drop 0 rfl (k_drop 0 rfl ?_))
    exact k_ret TY_ok () rfl (by decide) rfl rfl rfl (fun _ _ _ => trivial) (fun _ _ => trivial)
  refine s_auto TY_ok rfl ?_
  refine s_block ?_
  let F : Nat × Option Addr × Nat × List UInt8 × Nat → Env := fun x => ⟨[(28, .v (.int .i64 (x.1 : Int))), (27, .v (.int .i64 (p.length : Int))), (26, .v (.slice A p.length c)), (8, .v (.int .i64 (x.2.2.2.1.length : Int))), (6, .v (pD g)), (5, .v (.int .i64 (n : Int)))], [], [DkO g (n : Int) x.2.1 x.2.2.1 x.2.2.2.1 (x.2.2.2.2 : Int), DkB x.2.1 x.2.2.1 x.2.2.2.1], Rd 1 eB A c p, fun _ => True⟩
  refine c_weak (e' := F (0, none, 0, [], 0)) ⟨⟨rfl, rfl, rfl, rfl, rfl, rfl, trivial⟩, trivial, .refl _, fun _ h _ => h.2.2, fun _ _ => trivial⟩ (s_loop (fun x => p.length - x.1) F (fun x => x.1 ≤ p.length ∧ x.2.2.2.1.length ≤ n ∧ x.2.2.2.2 ≤ x.2.2.2.1.length) ?_ (0, none, 0, [], 0) ⟨Nat.zero_le _, Nat.zero_le _, Nat.le_refl _⟩)
  intro ⟨i, A1, c1, l, s⟩ ⟨hi, hl, hs⟩
  dsimp only at hi hl hs
  have out : kS b K5 95 (F (i, A1, c1, l, s)) := by
    refine k_weak ?_ (fin A1 c1 l s hl hs)
    exact ⟨⟨rfl, rfl, trivial⟩, trivial, .refl _, fun _ _ _ => trivial, fun _ _ => trivial⟩
  refine s_auto TY_ok rfl ?_
  refine s_seq fun K6 hK6 => ?_
  refine s_ifD ((i : Int) < (p.length : Int)) rfl (fun hlt => ?_) (fun hge => ?_)
  · have hlt : i < p.length := by omega
    obtain ⟨x, hx⟩ : ∃ x, p[i]? = some x := ⟨_, List.getElem?_eq_getElem hlt⟩
    refine s_skip (hK6 _ ?_)
    refine s_seq fun K7 hK7 => ?_
    refine s_block ?_
    refine s_regA TY_ok rfl fun K8 hK8 => ?_
    refine l_elem TY_ok rfl rfl rfl i rfl hx rfl rfl (rd_fact fun w h _ => h) ?_
    refine l_autoS TY_ok rfl ?_
    refine s_end (hK8 _ ?_)
    refine s_seq fun K9 hK9 => ?_
    refine s_auto TY_ok rfl ?_
    refine s_ifD ((i : Int) ≥ 60) rfl (fun _ => ?_) (fun _ => ?_)
    · refine s_exit (k_pass (k_passB rfl (k_pass (k_pass (k_out ?_)))))
      refine k_weak ?_ out
      exact ⟨⟨rfl, rfl, rfl, rfl, rfl, rfl, trivial⟩, trivial, .refl _, fun _ h _ => h, fun _ h => h⟩
    refine s_skip (hK9 _ ?_)
    refine s_regA TY_ok rfl fun K10 hK10 => ?_
    obtain ⟨k, hk⟩ : ∃ k, x.toNat % 40 = k := ⟨_, rfl⟩
    have hk40 : k < 40 := by rw [← hk]; exact Nat.mod_lt _ (by decide)
    refine l_num 11 (k : Int) rfl (by rw [← hk]; exact wrap_mod8 x 40) ?_
    refine s_end (hK10 _ ?_)
    refine s_regA TY_ok rfl fun K11 hK11 => ?_
    refine l_makeS TY_ok b.B.heap.size k (0 : UInt8) (fe := eB) rfl rfl rfl rfl rfl rfl rfl rfl (eB_ok 0) (by show 1 * k ≤ _; omega) (by omega) (Nat.le_refl _) fun B1 => ?_
    have hrl : (List.replicate k (0 : UInt8)).length = k := List.length_replicate
    refine l_eq 40 (.v (.slice B1 (List.replicate k (0 : UInt8)).length k)) rfl (by rw [hrl]) ?_
    refine l_list TY_ok b.B.heap.size [⟨B1, k, List.replicate k 0⟩] (fe := eSeg) rfl rfl rfl rfl rfl (fun _ => rfl) rfl (by decide) (by decide) (okF_seg _) (Nat.le_refl _) fun B2 => ?_
    refine l_freeM 0 rfl (Nat.le_refl _) ?_
    refine l_freeM 0 rfl (Nat.le_refl _) ?_
    have hF : ∀ w, Rd 1 eB A c p w → (Rd 1 eB B1 k (List.replicate k 0) w ∧ Rd 1 eSeg B2 1 [⟨B1, k, List.replicate k 0⟩] w ∧ True) → Rd 1 eSeg B2 1 [⟨B1, k, List.replicate k 0⟩] w ∧ ∀ s ∈ ([⟨B1, k, List.replicate k 0⟩] : List Seg), s.rd w := fun w _ h => ⟨h.2.1, fun s hs => by rw [List.mem_singleton.1 hs]; exact h.1⟩
    by_cases hfit : l.length + k ≤ n
    · refine l_callA [pD g, .slice B2 1 1] rfl rfl rfl own_dapp rfl rfl (fun _ _ => rfl) (dapp_fits g (n : Int) A1 c1 l (l ++ List.replicate k 0) s B2 1 [⟨B1, k, List.replicate k 0⟩] (by omega) (by rw [seg1, hrl]; omega) (by rw [seg1, hrl]; omega) (by rw [seg1])) hF fun ⟨A3, c3⟩ => ?_
      refine l_R [DkO g (n : Int) A3 c3 (l ++ List.replicate k 0) s, DkB A3 c3 (l ++ List.replicate k 0)] rfl ?_
      have hll : (l ++ List.replicate k (0 : UInt8)).length = l.length + k := by rw [List.length_append, hrl]
      refine l_autoS TY_ok rfl ?_
      refine s_end (hK11 _ ?_)
      refine s_seq fun K12 hK12 => ?_
      refine s_regA TY_ok rfl fun K13 hK13 => ?_
      refine l_op (.b (!(true == true))) trivial rfl rfl rfl (run_neqBoolW rfl rfl rfl (fun _ => rfl) (fun _ => congrArg Value.bool (decide_eq_true (show IntKind.i64.wrap ((l.length : Int) + (k : Int)) ≤ (n : Int) by rw [wrapI rfl (by omega) (by omega)]; omega)))) ?_
      refine s_end (hK13 _ ?_)
      refine s_if false rfl (fun h => by cases h) fun _ => ?_
      refine s_skip (hK12 _ ?_)
      refine s_seq fun K14 hK14 => ?_
      have tail : ∀ (A3 : Option Addr) (c3 : Nat) (l' : List UInt8) (s' : Nat), l'.length ≤ n → s' ≤ l'.length → kS b K14 95 ⟨[(28, .v (.int .i64 (i : Int))), (27, .v (.int .i64 (p.length : Int))), (26, .v (.slice A p.length c)), (8, .v (.int .i64 (l'.length : Int))), (6, .v (pD g)), (5, .v (.int .i64 (n : Int)))], [], [DkO g (n : Int) A3 c3 l' (s' : Int), DkB A3 c3 l'], Rd 1 eB A c p, fun _ => True⟩ := by
        intro A3 c3 l' s' hl' hs'
        refine hK14 _ ?_
        refine s_regA TY_ok rfl fun K20 hK20 => ?_
        refine l_callA [pD g] rfl rfl rfl own_dlen rfl rfl (fun _ _ => rfl) (dlen_S g (n : Int) A3 c3 l' s') (fun _ _ _ => trivial) fun _ => ?_
        refine l_R [DkO g (n : Int) A3 c3 l' (s' : Int), DkB A3 c3 l'] rfl ?_
        refine l_autoS TY_ok rfl ?_
        refine s_end (hK20 _ ?_)
        refine s_ifD ((l'.length : Int) ≠ (l'.length : Int)) rfl (fun h0 => absurd rfl h0) fun _ => ?_
        refine s_skip (hK7 _ ?_)
        refine s_autoE TY_ok rfl ?_
        exact k_next (i + 1, A3, c3, l', s') ⟨hlt, hl', hs'⟩ (by show p.length - (i + 1) < p.length - i; omega) ⟨⟨congrArg some (congrArg SV.v (congrArg (Value.int .i64) (wrapI rfl (by omega) (by omega)))), rfl, rfl, rfl, rfl, rfl, trivial⟩, trivial, .refl _, fun _ h _ => h.2, fun _ _ => trivial⟩
      refine s_auto TY_ok rfl ?_
      refine s_ifD ((0 : Int) = 0) rfl (fun _ => ?_) (fun h => absurd rfl h)
      refine s_lit ?_
      refine l_autoS TY_ok rfl ?_
      refine l_num 8 ((l ++ List.replicate k (0 : UInt8)).length : Int) rfl (by show IntKind.i64.wrap ((l.length : Int) + (k : Int)) = _; rw [hll]; exact wrapI (by omega) (by omega) (by omega)) ?_
      refine s_end (k_weak ?_ (tail A3 c3 (l ++ List.replicate k 0) s (by omega) (by omega)))
      exact ⟨⟨rfl, rfl, rfl, rfl, rfl, rfl, trivial⟩, trivial, .refl _, fun _ h _ => h.2, fun _ _ => trivial⟩
    · refine l_callA [pD g, .slice B2 1 1] rfl rfl rfl own_dapp rfl rfl (fun _ _ => rfl) (dapp_full g (n : Int) A1 c1 l s B2 1 [⟨B1, k, List.replicate k 0⟩] (by omega) (by omega) (by rw [seg1, hrl]; omega) (by rw [seg1, hrl]; omega)) hF fun ⟨A3, c3⟩ => ?_
      refine l_R [DkO g (n : Int) A3 c3 l s, DkB A3 c3 l] rfl ?_
      refine l_autoS TY_ok rfl ?_
      refine s_end (hK11 _ ?_)
      refine s_seq fun K12 hK12 => ?_
      refine s_regA TY_ok rfl fun K13 hK13 => ?_
      refine l_op (.b (!(false == false))) trivial rfl rfl rfl (run_neqBoolW rfl rfl rfl (fun _ => rfl) (fun _ => congrArg Value.bool (decide_eq_false (show ¬ IntKind.i64.wrap ((l.length : Int) + (k : Int)) ≤ (n : Int) by rw [wrapI rfl (by omega) (by omega)]; omega)))) ?_
      refine s_end (hK13 _ ?_)
      refine s_if false rfl (fun h => by cases h) fun _ => ?_
      refine s_skip (hK12 _ ?_)
      refine s_seq fun K14 hK14 => ?_
      have tail : ∀ (A3 : Option Addr) (c3 : Nat) (l' : List UInt8) (s' : Nat), l'.length ≤ n → s' ≤ l'.length → kS b K14 95 ⟨[(28, .v (.int .i64 (i : Int))), (27, .v (.int .i64 (p.length : Int))), (26, .v (.slice A p.length c)), (8, .v (.int .i64 (l'.length : Int))), (6, .v (pD g)), (5, .v (.int .i64 (n : Int)))], [], [DkO g (n : Int) A3 c3 l' (s' : Int), DkB A3 c3 l'], Rd 1 eB A c p, fun _ => True⟩ := by
        intro A3 c3 l' s' hl' hs'
        refine hK14 _ ?_
        refine s_regA TY_ok rfl fun K20 hK20 => ?_
        refine l_callA [pD g] rfl rfl rfl own_dlen rfl rfl (fun _ _ => rfl) (dlen_S g (n : Int) A3 c3 l' s') (fun _ _ _ => trivial) fun _ => ?_
        refine l_R [DkO g (n : Int) A3 c3 l' (s' : Int), DkB A3 c3 l'] rfl ?_
        refine l_autoS TY_ok rfl ?_
        refine s_end (hK20 _ ?_)
        refine s_ifD ((l'.length : Int) ≠ (l'.length : Int)) rfl (fun h0 => absurd rfl h0) fun _ => ?_
        refine s_skip (hK7 _ ?_)
        refine s_autoE TY_ok rfl ?_
        exact k_next (i + 1, A3, c3, l', s') ⟨hlt, hl', hs'⟩ (by show p.length - (i + 1) < p.length - i; omega) ⟨⟨congrArg some (congrArg SV.v (congrArg (Value.int .i64) (wrapI rfl (by omega) (by omega)))), rfl, rfl, rfl, rfl, rfl, trivial⟩, trivial, .refl _, fun _ h _ => h.2, fun _ _ => trivial⟩
      refine s_auto TY_ok rfl ?_
      refine s_ifD ((140 : Int) = 0) rfl (fun h => absurd h (by decide)) (fun _ => ?_)
      refine s_regA TY_ok rfl fun K15 hK15 => ?_
      refine l_callA [pD g, .int .i64 0] rfl rfl rfl own_dcrash rfl rfl (fun _ _ => rfl) (dcrash_S g (n : Int) 0 A3 c3 l s hs (by omega)) (fun _ _ _ => trivial) fun _ => ?_
      have q2 : crashN 0 s l.length ≤ l.length := by unfold crashN; omega
      generalize hq : crashN 0 s l.length = m at q2
      refine l_R [DkO g (n : Int) A3 c3 (l.take m) (m : Int), DkB A3 c3 (l.take m)] (by rw [← hq]; rfl) ?_
      clear hq
      have e3 : (l.take m).length = m := by rw [List.length_take]; omega
      refine s_end (hK15 _ ?_)
      refine s_seq fun K16 hK16 => ?_
      refine s_regA TY_ok rfl fun K17 hK17 => ?_
      refine l_callA [pD g] rfl rfl rfl own_dsafe rfl rfl (fun _ _ => rfl) (dsafe_S g (n : Int) A3 c3 (l.take m) m) (fun _ _ _ => trivial) fun _ => ?_
      refine l_R [DkO g (n : Int) A3 c3 (l.take m) (m : Int), DkB A3 c3 (l.take m)] rfl ?_
      refine l_autoS TY_ok rfl ?_
      refine l_callA [pD g] rfl rfl rfl own_dlen rfl rfl (fun _ _ => rfl) (dlen_S g (n : Int) A3 c3 (l.take m) m) (fun _ _ _ => trivial) fun _ => ?_
      refine l_R [DkO g (n : Int) A3 c3 (l.take m) (m : Int), DkB A3 c3 (l.take m)] rfl ?_
      refine l_autoS TY_ok rfl ?_
      refine s_end (hK17 _ ?_)
      refine s_ifD ((m : Int) ≠ ((l.take m).length : Int)) rfl (fun h0 => absurd (by rw [e3]) h0) fun _ => ?_
      refine s_skip (hK16 _ ?_)
      refine s_regA TY_ok rfl fun K18 hK18 => ?_
      refine l_callA [pD g] rfl rfl rfl own_dsync rfl rfl (fun _ _ => rfl) (dsync_S g (n : Int) A3 c3 (l.take m) m) (fun _ _ _ => trivial) fun _ => ?_
      refine l_R [DkO g (n : Int) A3 c3 (l.take m) ((l.take m).length : Int), DkB A3 c3 (l.take m)] rfl ?_
      refine s_end (hK18 _ ?_)
      refine s_lit ?_
      refine l_autoS TY_ok rfl ?_
      refine l_callA [pD g] rfl rfl rfl own_dlen rfl rfl (fun _ _ => rfl) (dlen_S g (n : Int) A3 c3 (l.take m) ((l.take m).length : Int)) (fun _ _ _ => trivial) fun _ => ?_
      refine l_R [DkO g (n : Int) A3 c3 (l.take m) ((l.take m).length : Int), DkB A3 c3 (l.take m)] rfl ?_
      refine l_autoS TY_ok rfl ?_
      refine s_end (k_weak ?_ (tail A3 c3 (l.take m) (l.take m).length (by omega) (Nat.le_refl _)))
      exact ⟨⟨rfl, rfl, rfl, rfl, rfl, rfl, trivial⟩, trivial, .refl _, fun _ h _ => h.2.2.2.2.2.2, fun _ _ => trivial⟩
  · obtain rfl : p.length = i := by omega
    refine s_exit (k_pass (k_pass (k_out ?_)))
    refine k_weak ?_ out
    exact ⟨⟨rfl, rfl, rfl, rfl, rfl, rfl, trivial⟩, trivial, .refl _, fun _ h _ => h, fun _ h => h⟩
end Go.Proofs.Ythkbejheedffjaa
