/-
  SEVERAL TEXTS IN ONE: DkT, DkU, DkF, Vy, DkV, Law, OpenR, Opens, OpenK, DkK.
-/
import Derived.Test.YthkbejheedffjaaMg
import Derived.Test.YthkbejheedffjaaMf
import Derived.Test.YthkbejheedffjaaRows
import Derived.Test.YthkbejheedffjaaMa
import Derived.ProofKit
import Derived.OpenShut
import Derived.SizedLaws
import Derived.Test.YthkbejheedffjaaMe
import Derived.Deep.Slices
/-
  THE DOCUMENT'S DISK, walked: what else is asked of it.
-/
namespace Go.Proofs.Ythkbejheedffjaa
open Go.RowKit Go.IntWalk

/-! ### Sync -/
/-- The first i were made safe. -/
def syK (l : List BtV) (i : Nat) : List BtV := safeB (l.take i) ++ l.drop i
theorem syK_len (l : List BtV) (i : Nat) : (syK l i).length = l.length := by
  unfold syK safeB
  rw [List.length_append, List.length_map, List.length_take, List.length_drop]
  omega
theorem syK_at {l : List BtV} {i : Nat} {x : BtV} (h : l[i]? = some x) : (syK l i)[i]? = some x ∧ (syK l i).set i (x.1, true) = syK l (i + 1) := by
  have hi : i < l.length := (List.getElem?_eq_some_iff.1 h).1
  have h1 : (safeB (l.take i)).length = i := by unfold safeB; rw [List.length_map, List.length_take]; omega
  have h2 : l.drop i = x :: l.drop (i + 1) := by
    rw [List.drop_eq_getElem_cons hi]
    congr 1
    rw [List.getElem?_eq_getElem hi] at h
    exact Option.some.inj h
  unfold syK
  constructor
  · rw [List.getElem?_append_right (by omega), h1, Nat.sub_self, h2]
    rfl
  · rw [List.set_append_right _ _ (by omega), h1, Nat.sub_self, h2, List.set_cons_zero, List.take_add_one, h]
    unfold safeB
    simp
set_option maxRecDepth 100000 in
set_option maxHeartbeats 1000000 in
theorem rksync_S (g : Nat) (size : Int) (A : Option Addr) (c : Nat) (l : List BtV) (hb : l.length ≤ 1000000000) :
    Spec 11 [pD g] [RkO g size A l.length c, RkB A c l] (fun _ => True) { ret := fun _ : Unit => .t [], own := fun _ => [RkO g size A (safeB l).length c, RkB A c (safeB l)] } := by
  have hsl : (safeB l).length = l.length := List.length_map _
  rw [hsl]
  refine spec_S [.c (.v (pD g))] 19 Try.func11 rfl (by rw [Try.ntmps11]; rfl) (one_ok trivial) fun b => ?_
  refine s_swap (ι := { c0 : Nat // l.length ≤ c ∧ c ≤ c0 }) 1 (fun c0 => RkC A c0.1 l) rfl (fun w S h => by obtain ⟨c0, h1, h2⟩ := h; exact ⟨⟨c0, h1⟩, h2⟩) fun ⟨c0, hc1, hc2⟩ => ?_
  have fin : ∀ (K : Act → World → Prop) (E : SE), kS b K 19 ⟨E, [], [RkO g size A l.length c, RkB A c (safeB l)], fun _ => True, fun _ => True⟩ → kS b K 19 ⟨E, [], [RkO g size A l.length c, RkC A c0 (safeB l)], fun _ => True, fun _ => True⟩ := fun K E h => k_swap (ι := Unit) 1 (fun _ => RkB A c (safeB l)) rfl (fun w S h => ⟨(), c0, ⟨by omega, hc2⟩, h⟩) fun _ => h
  refine s_regA TY_ok rfl fun K hK => ?_
  refine l_ldO TY_ok rfl rfl rfl rfl rfl rfl (obj_own 0 rfl) ?_
  refine l_autoS TY_ok rfl ?_
  refine s_end (hK _ ?_)
  refine s_block ?_
  let F : Nat → Env := fun i => ⟨[(8, .v (.int .i64 (i : Int))), (7, .v (.int .i64 (l.length : Int))), (0, .v (pD g))], [], [RkO g size A l.length c, RkC A c0 (syK l i)], fun _ => True, fun _ => True⟩
  refine c_weak (e' := F 0) ⟨⟨rfl, rfl, rfl, trivial⟩, trivial, .refl _, fun _ _ _ => trivial, fun _ _ => trivial⟩ (s_loop (fun i => l.length - i) F (fun i => i ≤ l.length) ?_ 0 (Nat.zero_le _))
  intro i hi
  refine s_auto TY_ok rfl ?_
  refine s_seq fun K3 hK3 => ?_
  refine s_ifD ((i : Int) < (l.length : Int)) rfl (fun hlt => ?_) (fun hge => ?_)
  · have hlt : i < l.length := by omega
    obtain ⟨x, hx⟩ : ∃ x, l[i]? = some x := ⟨_, List.getElem?_eq_getElem hlt⟩
    obtain ⟨e1, e2⟩ := syK_at hx
    have e3 := syK_len l i
    refine s_skip (hK3 _ ?_)
    refine s_seq fun K4 hK4 => ?_
    refine s_block ?_
    refine s_auto TY_ok rfl ?_
    refine s_where 1 rfl (by rw [e3]; omega) fun g' hA => ?_
    subst hA
    refine s_lit ?_
    refine l_autoS TY_ok rfl ?_
    refine l_ldO TY_ok rfl rfl rfl rfl rfl rfl (obj_own 0 rfl) ?_
    refine l_autoS TY_ok rfl ?_
    refine l_op (.v (.pointer (some ⟨g', 0 + 2 * i, none⟩))) trivial rfl rfl rfl (runO_ixS i rfl Try.underlying29 (by kernel_rfl) rfl rfl hlt) ?_
    refine l_autoS TY_ok rfl ?_
    refine l_eq 17 (.v (.pointer (some ⟨g', 2 * i + 1, none⟩))) rfl (by rw [Nat.zero_add]; rfl) ?_
    refine l_stFd (q := .c (.v (.bool true))) 1 i 1 1 x (x.1, true) rfl rfl rfl rfl rfl rfl e1 (by kernel_rfl) rfl (fun v hv => by rw [List.mem_singleton.1 hv]; rfl) rfl (by decide) (eBt_ok _) ?_
    refine s_end (hK4 _ ?_)
    refine s_autoE TY_ok rfl ?_
    refine k_next (i + 1) hlt (by omega) ⟨⟨congrArg some (congrArg SV.v (congrArg (Value.int .i64) (wrapI rfl (by omega) (by omega)))), rfl, rfl, trivial⟩, trivial, ?_, fun _ h _ => h, fun _ h => h⟩
    show List.Perm [RkO g size (some ⟨g', 0, none⟩) l.length c, RkC (some ⟨g', 0, none⟩) c0 ((syK l i).set i (x.1, true))] [RkO g size (some ⟨g', 0, none⟩) l.length c, RkC (some ⟨g', 0, none⟩) c0 (syK l (i + 1))]
    rw [e2]
  · obtain rfl : l.length = i := by omega
    have e4 : syK l l.length = safeB l := by unfold syK; rw [List.take_length, List.drop_length, List.append_nil]
    refine s_exit (k_pass (k_pass (k_out ?_)))
    rw [e4]
    refine fin _ _ ?_
    exact k_ret TY_ok () rfl (by decide) rfl rfl rfl (fun _ _ _ => trivial) (fun _ _ => trivial)
/-! ### Cut -/
/-- A cut with its end: s[:n:n]. -/
theorem run_cut3 {N : Nat} {E : SE} {o : Oper} {x y z : Operand} {t : TypeId} {A : Option Addr} {n c j sz : Nat} {e : TypeId} (he : (Try.prog.info? e).map (·.size) = some sz) (hj : j ≤ c) (hA : A = none → c = 0) (ho : o.op = .slice t x none (some y) (some z)) (hu : Try.prog.underlying t = some (.slice e)) (hx : evS E x = some (.v (.slice A n c))) (hy : evS E y = some (.v (.int .i64 (j : Int)))) (hz : evS E z = some (.v (.int .i64 (j : Int)))) :
    ∀ (G : Nat → Nat) (a : Act) (w : World), Fr N (denE G E) a → (execOp a.eval o).run Try.prog w = .ok (.value ((SV.v (.slice A j j)).den G)) w := fun G a w ha => by
  have h1 : a.eval x = .slice A n c := ha.eval (evS_ok hx)
  have h2 : a.eval y = .int .i64 (j : Int) := ha.eval (evS_ok hy)
  have h6 : a.eval z = .int .i64 (j : Int) := ha.eval (evS_ok hz)
  have h3 : (j : Int) ≤ (c : Int) := by omega
  have h4 : (0 : Int) ≤ (j : Int) := by omega
  have h5 := run_sizeOf he w
  unfold execOp
  simp only [ho]
  generalize a.eval = ρ at *
  simp only [Option.map, h1, h2, h6]
  show _ = Result.ok (Next.value (.slice A j j)) w
  cases A with
  | none =>
    have := hA rfl
    obtain rfl : c = 0 := this
    obtain rfl : j = 0 := by omega
    go_simp
  | some ad => go_simp
set_option maxRecDepth 100000 in
set_option maxHeartbeats 1000000 in
theorem rkcut_S (g : Nat) (size : Int) (n : Nat) (A : Option Addr) (c : Nat) (l : List BtV) (hn : n ≤ l.length) : Spec 15 [pD g, .int .i64 (n : Int)] [RkO g size A l.length c, RkB A c l] (fun _ => True) { ret := fun _ : Unit => .v (.bool true), own := fun _ => [RkO g size A (l.take n).length n, RkB A n (l.take n)] } := by
  have e3 : (l.take n).length = n := by rw [List.length_take]; omega
  rw [e3]
  refine spec_S [.c (.v (pD g)), .c (.v (.int .i64 (n : Int)))] 26 Try.func15 rfl (by rw [Try.ntmps15]; rfl) (two_ok trivial trivial) fun b => ?_
  refine s_swap (ι := { c0 : Nat // l.length ≤ c ∧ c ≤ c0 ∧ (A = none → c0 = 0) }) 1 (fun c0 => RkC A c0.1 l) rfl (fun w S h => by obtain ⟨c0, h1, h2⟩ := h; exact ⟨⟨c0, h1.1, h1.2, (OwnS.rd h2).2.2.1⟩, h2⟩) fun ⟨c0, hc1, hc2, hA0⟩ => ?_
  have hA : A = none → c = 0 := fun e => by have := hA0 e; omega
  refine s_auto TY_ok rfl ?_
  refine s_seq fun K1 hK1 => ?_
  refine s_regA TY_ok rfl fun K2 hK2 => ?_
  refine l_is 7 false rfl (decide_eq_false (by omega)) ?_
  refine l_autoS TY_ok rfl ?_
  refine l_ldO TY_ok rfl rfl rfl rfl rfl rfl (obj_own 0 rfl) ?_
  refine l_autoS TY_ok rfl ?_
  refine s_end (hK2 _ ?_)
  refine s_ifD ((n : Int) > (l.length : Int)) rfl (fun h0 => absurd hn (by omega)) fun _ => ?_
  refine s_skip (hK1 _ ?_)
  refine s_regA TY_ok rfl fun K3 hK3 => ?_
  refine l_ldO TY_ok rfl rfl rfl rfl rfl rfl (obj_own 0 rfl) ?_
  refine l_autoS TY_ok rfl ?_
  refine l_op (.v (.slice A n n)) trivial rfl rfl rfl (run_cut3 (e := 50) (sz := 2) (by kernel_rfl) (by omega) hA rfl Try.underlying29 rfl rfl rfl) ?_
  refine l_autoS TY_ok rfl ?_
  refine l_stO TY_ok 0 rfl rfl rfl rfl rfl rfl rfl ?_
  refine s_end (hK3 _ ?_)
  refine s_auto TY_ok rfl ?_
  refine s_swap (ι := Unit) 1 (fun _ => RkB A n (l.take n)) rfl (fun w S h => ⟨(), c0, ⟨by omega, by omega⟩, OwnS.cut h n⟩) fun _ => ?_
  exact s_ret (k_ret TY_ok () rfl (by decide) rfl rfl rfl (fun _ _ _ => trivial) (fun _ _ => trivial))
set_option maxRecDepth 100000 in
set_option maxHeartbeats 1000000 in
theorem rkcut_bad (g : Nat) (size n : Int) (A : Option Addr) (c m : Nat) (hn : n < 0 ∨ (m : Int) < n) : Spec 15 [pD g, .int .i64 n] [RkO g size A m c] (fun _ => True) { ret := fun _ : Unit => .v (.bool false), own := fun _ => [RkO g size A m c] } := by
  refine spec_S [.c (.v (pD g)), .c (.v (.int .i64 n))] 26 Try.func15 rfl (by rw [Try.ntmps15]; rfl) (two_ok trivial trivial) fun b => ?_
  refine s_auto TY_ok rfl ?_
  refine s_seq fun K1 hK1 => ?_
  refine s_regA TY_ok rfl fun K2 hK2 => ?_
  by_cases h0 : n < 0
  · refine l_is 7 true rfl (decide_eq_true h0) ?_
    refine l_autoS TY_ok rfl ?_
    refine s_end (hK2 _ ?_)
    refine s_yes rfl ?_
    refine s_auto TY_ok rfl ?_
    exact s_ret (k_ret TY_ok () rfl (by decide) rfl rfl rfl (fun _ _ _ => trivial) (fun _ _ => trivial))
  refine l_is 7 false rfl (decide_eq_false h0) ?_
  refine l_autoS TY_ok rfl ?_
  refine l_ldO TY_ok rfl rfl rfl rfl rfl rfl (obj_own 0 rfl) ?_
  refine l_autoS TY_ok rfl ?_
  refine s_end (hK2 _ ?_)
  refine s_ifD (n > (m : Int)) rfl (fun _ => ?_) fun h1 => absurd hn (by omega)
  refine s_auto TY_ok rfl ?_
  exact s_ret (k_ret TY_ok () rfl (by decide) rfl rfl rfl (fun _ _ _ => trivial) (fun _ _ => trivial))
/-! ### Bytes, Safe -/
set_option maxRecDepth 100000 in
set_option maxHeartbeats 1000000 in
theorem rkbytes_S (g : Nat) (size : Int) (A : Option Addr) (c : Nat) (l : List BtV) (hb : l.length ≤ 1000000000) :
    Spec 17 [pD g] [RkO g size A l.length c, RkB A c l] (fun _ => True) { ret := fun x : Option Addr × Nat => .v (.slice x.1 (l.map (·.1)).length x.2), own := fun x => [DkB x.1 x.2 (l.map (·.1)), RkO g size A l.length c, RkB A c l] } := by
  refine spec_S [.c (.v (pD g))] 22 Try.func17 rfl (by rw [Try.ntmps17]; rfl) (one_ok trivial) fun b => ?_
  refine s_nil0 0 5 1 eB ?_
  refine s_auto TY_ok rfl ?_
  refine s_auto TY_ok rfl ?_
  refine s_seq fun K0 hK0 => ?_
  refine s_regA TY_ok rfl fun K hK => ?_
  refine l_ldO TY_ok rfl rfl rfl rfl rfl rfl (obj_own 1 rfl) ?_
  refine l_autoS TY_ok rfl ?_
  refine s_end (hK _ ?_)
  refine s_block ?_
  let F : Nat × Option Addr × Nat → Env := fun x => ⟨[(11, .v (.int .i64 (x.1 : Int))), (10, .v (.int .i64 (l.length : Int))), (9, .v (.slice A l.length c)), (3, .v (.slice x.2.1 ((l.take x.1).map (·.1)).length x.2.2))], [], [DkB x.2.1 x.2.2 ((l.take x.1).map (·.1)), RkO g size A l.length c, RkB A c l], fun _ => True, fun _ => True⟩
  refine c_weak (e' := F (0, none, 0)) ⟨⟨rfl, rfl, rfl, rfl, trivial⟩, trivial, .refl _, fun _ _ _ => trivial, fun _ _ => trivial⟩ (s_loop (fun x => l.length - x.1) F (fun x => x.1 ≤ l.length) ?_ (0, none, 0) (Nat.zero_le _))
  intro ⟨i, A1, c1⟩ hi
  refine s_auto TY_ok rfl ?_
  refine s_seq fun K3 hK3 => ?_
  refine s_ifD ((i : Int) < (l.length : Int)) rfl (fun hlt => ?_) (fun hge => ?_)
  · have hlt : i < l.length := by omega
    obtain ⟨x, hx⟩ : ∃ x, l[i]? = some x := ⟨_, List.getElem?_eq_getElem hlt⟩
    have hml : ((l.take i).map (·.1)).length = i := by rw [List.length_map, List.length_take]; omega
    refine s_skip (hK3 _ ?_)
    refine s_seq fun K4 hK4 => ?_
    refine s_block ?_
    refine s_regA TY_ok rfl fun K5 hK5 => ?_
    refine l_elem TY_ok rfl rfl rfl i rfl hx rfl rfl (rd_ownL 2 rfl) ?_
    refine l_autoS TY_ok rfl ?_
    refine s_end (hK5 _ ?_)
    refine s_lit ?_
    refine l_autoS TY_ok rfl ?_
    refine l_push TY_ok 0 x.1 rfl rfl rfl rfl rfl rfl rfl (eB_ok _) (by decide) (by decide) (by show (((l.take i).map (·.1)).length + 1) * 1 ≤ _; omega) (by show ((l.take i).map (·.1)).length < _; omega) (Nat.zero_le _) fun A3 c3 => ?_
    refine l_autoS TY_ok rfl ?_
    refine s_end (hK4 _ ?_)
    refine s_autoE TY_ok rfl ?_
    have e1 : (l.take (i + 1)).map (·.1) = (l.take i).map (·.1) ++ [x.1] := by rw [List.take_add_one, hx]; simp
    refine k_next (i + 1, A3, c3) hlt (by show l.length - (i + 1) < l.length - i; omega) ⟨⟨congrArg some (congrArg SV.v (congrArg (Value.int .i64) (wrapI rfl (by omega) (by omega)))), rfl, rfl, by dsimp only [F]; rw [e1]; rfl, trivial⟩, trivial, ?_, fun _ h _ => h, fun _ h => h⟩
    show List.Perm [DkB A3 c3 ((l.take i).map (·.1) ++ [x.1]), RkO g size A l.length c, RkB A c l] [DkB A3 c3 ((l.take (i + 1)).map (·.1)), RkO g size A l.length c, RkB A c l]
    rw [e1]
  · obtain rfl : l.length = i := by omega
    refine s_exit (k_pass (k_pass (k_out ?_)))
    dsimp only [F]
    rw [List.take_length]
    refine hK0 _ ?_
    refine s_auto TY_ok rfl ?_
    exact s_ret (k_ret TY_ok (A1, c1) rfl (by decide) rfl rfl rfl (fun _ _ _ => trivial) (fun _ _ => trivial))
theorem cnt_next {l : List BtV} {i : Nat} {x : BtV} (h : l[i]? = some x) : cntS (l.take (i + 1)) = cntS (l.take i) + if x.2 then 1 else 0 := by
  unfold cntS
  rw [List.take_add_one, h, List.filter_append, List.length_append]
  obtain ⟨a, b⟩ := x
  cases b <;> rfl
theorem cnt_le (l : List BtV) : cntS l ≤ l.length := List.length_filter_le _ _
set_option maxRecDepth 100000 in
set_option maxHeartbeats 1000000 in
theorem rksafe_S (g : Nat) (size : Int) (A : Option Addr) (c : Nat) (l : List BtV) (hb : l.length ≤ 1000000000) :
    Spec 20 [pD g] [RkO g size A l.length c, RkB A c l] (fun _ => True) { ret := fun _ : Unit => .v (.int .i64 (cntS l : Int)), own := fun _ => [RkO g size A l.length c, RkB A c l] } := by
  refine spec_S [.c (.v (pD g))] 21 Try.func20 rfl (by rw [Try.ntmps20]; rfl) (one_ok trivial) fun b => ?_
  refine s_auto TY_ok rfl ?_
  refine s_auto TY_ok rfl ?_
  refine s_seq fun K0 hK0 => ?_
  refine s_regA TY_ok rfl fun K hK => ?_
  refine l_ldO TY_ok rfl rfl rfl rfl rfl rfl (obj_own 0 rfl) ?_
  refine l_autoS TY_ok rfl ?_
  refine s_end (hK _ ?_)
  refine s_block ?_
  let F : Nat → Env := fun i => ⟨[(11, .v (.int .i64 (i : Int))), (10, .v (.int .i64 (l.length : Int))), (9, .v (.slice A l.length c)), (3, .v (.int .i64 (cntS (l.take i) : Int)))], [], [RkO g size A l.length c, RkB A c l], fun _ => True, fun _ => True⟩
  refine c_weak (e' := F 0) ⟨⟨rfl, rfl, rfl, rfl, trivial⟩, trivial, .refl _, fun _ _ _ => trivial, fun _ _ => trivial⟩ (s_loop (fun i => l.length - i) F (fun i => i ≤ l.length) ?_ 0 (Nat.zero_le _))
  intro i hi
  refine s_auto TY_ok rfl ?_
  refine s_seq fun K3 hK3 => ?_
  refine s_ifD ((i : Int) < (l.length : Int)) rfl (fun hlt => ?_) (fun hge => ?_)
  · have hlt : i < l.length := by omega
    obtain ⟨x, hx⟩ : ∃ x, l[i]? = some x := ⟨_, List.getElem?_eq_getElem hlt⟩
    have hc := cnt_next hx
    have hcl := cnt_le (l.take i)
    rw [List.length_take] at hcl
    refine s_skip (hK3 _ ?_)
    refine s_seq fun K4 hK4 => ?_
    refine s_block ?_
    refine s_regA TY_ok rfl fun K5 hK5 => ?_
    refine l_elem TY_ok rfl rfl rfl i rfl hx rfl rfl (rd_ownL 1 rfl) ?_
    refine l_autoS TY_ok rfl ?_
    refine s_end (hK5 _ ?_)
    obtain ⟨x1, x2⟩ := x
    cases x2 with
    | true =>
      refine s_auto TY_ok rfl ?_
      refine s_yes rfl ?_
      refine s_lit ?_
      refine l_autoS TY_ok rfl ?_
      have hc2 : cntS (l.take (i + 1)) = cntS (l.take i) + 1 := by simpa using hc
      refine l_num 3 (cntS (l.take (i + 1)) : Int) rfl (by rw [hc2]; exact wrapI rfl (by omega) (by omega)) ?_
      refine s_end (hK4 _ ?_)
      refine s_autoE TY_ok rfl ?_
      exact k_next (i + 1) hlt (by omega) ⟨⟨congrArg some (congrArg SV.v (congrArg (Value.int .i64) (wrapI rfl (by omega) (by omega)))), rfl, rfl, rfl, trivial⟩, trivial, .refl _, fun _ h _ => h, fun _ h => h⟩
    | false =>
      refine s_auto TY_ok rfl ?_
      refine s_no rfl ?_
      refine s_skip (hK4 _ ?_)
      refine s_autoE TY_ok rfl ?_
      refine k_next (i + 1) hlt (by omega) ⟨⟨congrArg some (congrArg SV.v (congrArg (Value.int .i64) (wrapI rfl (by omega) (by omega)))), rfl, rfl, by dsimp only [F]; rw [hc]; rfl, trivial⟩, trivial, .refl _, fun _ h _ => h, fun _ h => h⟩
  · obtain rfl : l.length = i := by omega
    refine s_exit (k_pass (k_pass (k_out ?_)))
    rw [List.take_length]
    refine hK0 _ ?_
    refine s_auto TY_ok rfl ?_
    exact s_ret (k_ret TY_ok () rfl (by decide) rfl rfl rfl (fun _ _ _ => trivial) (fun _ _ => trivial))
/-! ### Crash -/
theorem crF_yes (k : Int) (b : UInt8) (r : List BtV) : crF k ((b, true) :: r) = (b, true) :: crF k r := rfl
theorem crF_no (k : Int) (b : UInt8) (r : List BtV) : crF k ((b, false) :: r) = if k > 0 then (b, true) :: crF (k - 1) r else crF k r := rfl
theorem crF_len : ∀ (k : Int) (l : List BtV), (crF k l).length ≤ l.length
  | _, [] => Nat.le_refl _
  | k, (b, true) :: r => by rw [crF_yes]; exact Nat.succ_le_succ (crF_len k r)
  | k, (b, false) :: r => by
    rw [crF_no]
    by_cases h : k > 0
    · rw [if_pos h]
      exact Nat.succ_le_succ (crF_len (k - 1) r)
    · rw [if_neg h]
      exact Nat.le_succ_of_le (crF_len k r)
set_option maxRecDepth 100000 in
set_option maxHeartbeats 1000000 in
theorem rkcrash_S (g : Nat) (size keep : Int) (A : Option Addr) (c : Nat) (l : List BtV) (hb : l.length ≤ 1000000000) (hk : keep ≤ 9223372036854775807) :
    Spec 13 [pD g, .int .i64 keep] [RkO g size A l.length c, RkB A c l] (fun _ => True) { ret := fun _ : Option Addr × Nat => .t [], own := fun x => [RkO g size x.1 (crF keep l).length x.2, RkB x.1 x.2 (crF keep l)] } := by
  refine spec_S [.c (.v (pD g)), .c (.v (.int .i64 keep))] 38 Try.func13 rfl (by rw [Try.ntmps13]; rfl) (two_ok trivial trivial) fun b => ?_
  refine s_nil0 0 50 2 eBt ?_
  refine s_auto TY_ok rfl ?_
  refine s_seq fun K0 hK0 => ?_
  refine s_regA TY_ok rfl fun K hK => ?_
  refine l_ldO TY_ok rfl rfl rfl rfl rfl rfl (obj_own 1 rfl) ?_
  refine l_autoS TY_ok rfl ?_
  refine s_end (hK _ ?_)
  refine s_block ?_
  let F : Nat × Int × Option Addr × Nat × List BtV → Env := fun x => ⟨[(12, .v (.int .i64 (x.1 : Int))), (11, .v (.int .i64 (l.length : Int))), (10, .v (.slice A l.length c)), (4, .v (.slice x.2.2.1 x.2.2.2.2.length x.2.2.2.1)), (1, .v (.int .i64 x.2.1)), (0, .v (pD g))], [], [RkC x.2.2.1 x.2.2.2.1 x.2.2.2.2, RkO g size A l.length c, RkB A c l], fun _ => True, fun _ => True⟩
  refine c_weak (e' := F (0, keep, none, 0, [])) ⟨⟨rfl, rfl, rfl, rfl, rfl, rfl, trivial⟩, trivial, .refl _, fun _ _ _ => trivial, fun _ _ => trivial⟩ (s_loop (fun x => l.length - x.1) F (fun x => x.1 ≤ l.length ∧ x.2.2.2.2.length ≤ x.1 ∧ x.2.1 ≤ 9223372036854775807 ∧ x.2.2.2.2 ++ crF x.2.1 (l.drop x.1) = crF keep l) ?_ (0, keep, none, 0, []) ⟨Nat.zero_le _, Nat.zero_le _, hk, rfl⟩)
  intro ⟨i, k, A1, c1, out⟩ ⟨hi, hol, hkk, heq⟩
  dsimp only at hi hol hkk heq
  refine s_auto TY_ok rfl ?_
  refine s_seq fun K3 hK3 => ?_
  refine s_ifD ((i : Int) < (l.length : Int)) rfl (fun hlt => ?_) (fun hge => ?_)
  · have hlt : i < l.length := by omega
    obtain ⟨x, hx⟩ : ∃ x, l[i]? = some x := ⟨_, List.getElem?_eq_getElem hlt⟩
    have h2 : l.drop i = x :: l.drop (i + 1) := by
      rw [List.drop_eq_getElem_cons hlt]
      congr 1
      rw [List.getElem?_eq_getElem hlt] at hx
      exact Option.some.inj hx
    rw [h2] at heq
    refine s_skip (hK3 _ ?_)
    refine s_seq fun K4 hK4 => ?_
    refine s_block ?_
    refine s_regA TY_ok rfl fun K5 hK5 => ?_
    refine l_elem TY_ok rfl rfl rfl i rfl hx rfl rfl (rd_ownL 2 rfl) ?_
    refine l_autoS TY_ok rfl ?_
    refine s_end (hK5 _ ?_)
    obtain ⟨x1, x2⟩ := x
    cases x2 with
    | true =>
      rw [crF_yes] at heq
      refine s_auto TY_ok rfl ?_
      refine s_yes rfl ?_
      refine s_seq fun K6 hK6 => ?_
      refine s_auto TY_ok rfl ?_
      refine s_no rfl ?_
      refine s_skip (hK6 _ ?_)
      refine s_lit ?_
      refine l_autoS TY_ok rfl ?_
      refine l_push TY_ok 0 (x1, true) rfl rfl rfl rfl rfl rfl rfl (eBt_ok _) (by decide) (by decide) (by show (out.length + 1) * 2 ≤ _; omega) (by show out.length < _; omega) (Nat.zero_le _) fun A3 c3 => ?_
      refine l_autoS TY_ok rfl ?_
      refine s_end (hK4 _ ?_)
      refine s_autoE TY_ok rfl ?_
      exact k_next (i + 1, k, A3, c3, out ++ [(x1, true)]) ⟨hlt, by show (out ++ [(x1, true)]).length ≤ i + 1; rw [List.length_append]; simp; omega, hkk, by show (out ++ [(x1, true)]) ++ crF k (l.drop (i + 1)) = _; rw [List.append_assoc]; exact heq⟩ (by show l.length - (i + 1) < l.length - i; omega) ⟨⟨congrArg some (congrArg SV.v (congrArg (Value.int .i64) (wrapI rfl (by omega) (by omega)))), rfl, rfl, rfl, rfl, rfl, trivial⟩, trivial, .refl _, fun _ h _ => h, fun _ h => h⟩
    | false =>
      rw [crF_no] at heq
      refine s_auto TY_ok rfl ?_
      refine s_ifD (k > 0) rfl (fun h0 => ?_) (fun h0 => ?_)
      · rw [if_pos h0] at heq
        refine s_seq fun K7 hK7 => ?_
        refine s_auto TY_ok rfl ?_
        refine s_yes rfl ?_
        refine s_lit ?_
        refine l_autoS TY_ok rfl ?_
        refine l_num 1 (k - 1) rfl (wrapI rfl (by omega) (by omega)) ?_
        refine s_end (hK7 _ ?_)
        refine s_lit ?_
        refine l_autoS TY_ok rfl ?_
        refine l_push TY_ok 0 (x1, true) rfl rfl rfl rfl rfl rfl rfl (eBt_ok _) (by decide) (by decide) (by show (out.length + 1) * 2 ≤ _; omega) (by show out.length < _; omega) (Nat.zero_le _) fun A3 c3 => ?_
        refine l_autoS TY_ok rfl ?_
        refine s_end (hK4 _ ?_)
        refine s_autoE TY_ok rfl ?_
        exact k_next (i + 1, k - 1, A3, c3, out ++ [(x1, true)]) ⟨hlt, by show (out ++ [(x1, true)]).length ≤ i + 1; rw [List.length_append]; simp; omega, by show k - 1 ≤ _; omega, by show (out ++ [(x1, true)]) ++ crF (k - 1) (l.drop (i + 1)) = _; rw [List.append_assoc]; exact heq⟩ (by show l.length - (i + 1) < l.length - i; omega) ⟨⟨congrArg some (congrArg SV.v (congrArg (Value.int .i64) (wrapI rfl (by omega) (by omega)))), rfl, rfl, rfl, rfl, rfl, trivial⟩, trivial, .refl _, fun _ h _ => h, fun _ h => h⟩
      · rw [if_neg h0] at heq
        refine s_skip (hK4 _ ?_)
        refine s_autoE TY_ok rfl ?_
        exact k_next (i + 1, k, A1, c1, out) ⟨hlt, by show out.length ≤ i + 1; omega, hkk, heq⟩ (by show l.length - (i + 1) < l.length - i; omega) ⟨⟨congrArg some (congrArg SV.v (congrArg (Value.int .i64) (wrapI rfl (by omega) (by omega)))), rfl, rfl, rfl, rfl, rfl, trivial⟩, trivial, .refl _, fun _ h _ => h, fun _ h => h⟩
  · obtain rfl : l.length = i := by omega
    rw [List.drop_length] at heq
    have heq : out = crF keep l := (List.append_nil _).symm.trans heq
    refine s_exit (k_pass (k_pass (k_out ?_)))
    refine hK0 _ ?_
    refine s_lit ?_
    refine l_autoS TY_ok rfl ?_
    refine l_stO TY_ok 1 rfl rfl rfl rfl rfl rfl rfl ?_
    refine l_swap (ι := Unit) 0 (fun _ => RkB A1 c1 out) rfl (fun w S h => ⟨(), OwnS.loose h⟩) fun _ => ?_
    refine s_end (k_drop 2 rfl (k_weak (e' := ⟨[], [], [RkO g size A1 (crF keep l).length c1, RkB A1 c1 (crF keep l)], fun _ => True, fun _ => True⟩) ⟨trivial, trivial, by rw [heq]; exact List.Perm.swap _ _ _, fun _ _ _ => trivial, fun _ _ => trivial⟩ ?_))
    exact k_ret TY_ok (A1, c1) rfl (by decide) rfl rfl rfl (fun _ _ _ => trivial) (fun _ _ => trivial)
end Go.Proofs.Ythkbejheedffjaa
/-
  DISKS, told: what only reads.
-/
namespace Go.Proofs.Ythkbejheedffjaa
open Go.RowKit Go.IntWalk

theorem rk_ok (size : Int) (A : Option Addr) (n c : Nat) : OkP (rkP size A n c) := fun x hx => by
  rcases List.mem_cons.1 hx with rfl | hx
  · exact ⟨trivial, rfl, rfl⟩
  rw [List.mem_singleton.1 hx]
  exact ⟨trivial, rfl, rfl⟩
set_option maxRecDepth 100000 in
set_option maxHeartbeats 1000000 in
theorem dlen_T (g : Nat) (size : Int) (A : Option Addr) (c : Nat) (l : List UInt8) (s : Int) : Spec 18 [pD g] [] (ObjF g 48 (dkP size A c l s)) (one (.v (.int .i64 (l.length : Int)))) := by
  refine spec_S [.c (.v (pD g))] 10 Try.func18 rfl (by rw [Try.ntmps18]; rfl) (one_ok trivial) fun b => ?_
  refine s_auto TY_ok rfl ?_
  refine s_seq fun K hK => ?_
  refine s_auto TY_ok rfl ?_
  refine s_no rfl ?_
  refine s_skip (hK _ ?_)
  refine s_regA TY_ok rfl fun K1 hK1 => ?_
  refine l_ldO TY_ok rfl rfl rfl rfl rfl rfl (obj_fact fun _ h _ => h) ?_
  refine l_autoS TY_ok rfl ?_
  refine s_end (hK1 _ ?_)
  exact s_ret (k_ret TY_ok () rfl (by decide) rfl rfl rfl (fun _ _ _ => trivial) (fun _ _ => trivial))
set_option maxRecDepth 100000 in
set_option maxHeartbeats 1000000 in
theorem dsafe_T (g : Nat) (size : Int) (A : Option Addr) (c : Nat) (l : List UInt8) (s : Int) : Spec 19 [pD g] [] (ObjF g 48 (dkP size A c l s)) (one (.v (.int .i64 s))) := by
  refine spec_S [.c (.v (pD g))] 9 Try.func19 rfl (by rw [Try.ntmps19]; rfl) (one_ok trivial) fun b => ?_
  refine s_auto TY_ok rfl ?_
  refine s_seq fun K hK => ?_
  refine s_auto TY_ok rfl ?_
  refine s_no rfl ?_
  refine s_skip (hK _ ?_)
  refine s_regA TY_ok rfl fun K1 hK1 => ?_
  refine l_ldO TY_ok rfl rfl rfl rfl rfl rfl (obj_fact fun _ h _ => h) ?_
  refine l_autoS TY_ok rfl ?_
  refine s_end (hK1 _ ?_)
  exact s_ret (k_ret TY_ok () rfl (by decide) rfl rfl rfl (fun _ _ _ => trivial) (fun _ _ => trivial))
set_option maxRecDepth 100000 in
set_option maxHeartbeats 1000000 in
theorem rksafe_T (g : Nat) (size : Int) (A : Option Addr) (c : Nat) (l : List BtV) (hb : l.length ≤ 1000000000) :
    Spec 20 [pD g] [] (fun w => ObjF g 31 (rkP size A l.length c) w ∧ Rd 2 eBt A c l w) (one (.v (.int .i64 (cntS l : Int)))) := by
  refine spec_S [.c (.v (pD g))] 21 Try.func20 rfl (by rw [Try.ntmps20]; rfl) (one_ok trivial) fun b => ?_
  refine s_auto TY_ok rfl ?_
  refine s_auto TY_ok rfl ?_
  refine s_seq fun K0 hK0 => ?_
  refine s_regA TY_ok rfl fun K hK => ?_
  refine l_ldO TY_ok rfl rfl rfl rfl rfl rfl (obj_fact fun _ h _ => h.1) ?_
  refine l_autoS TY_ok rfl ?_
  refine s_end (hK _ ?_)
  refine s_block ?_
  let F : Nat → Env := fun i => ⟨[(11, .v (.int .i64 (i : Int))), (10, .v (.int .i64 (l.length : Int))), (9, .v (.slice A l.length c)), (3, .v (.int .i64 (cntS (l.take i) : Int)))], [], [], fun w => ObjF g 31 (rkP size A l.length c) w ∧ Rd 2 eBt A c l w, fun _ => True⟩
  refine c_weak (e' := F 0) ⟨⟨rfl, rfl, rfl, rfl, trivial⟩, trivial, .refl _, fun _ h _ => h, fun _ _ => trivial⟩ (s_loop (fun i => l.length - i) F (fun i => i ≤ l.length) ?_ 0 (Nat.zero_le _))
  intro i hi
  refine s_auto TY_ok rfl ?_
  refine s_seq fun K3 hK3 => ?_
  refine s_ifD ((i : Int) < (l.length : Int)) rfl (fun hlt => ?_) (fun hge => ?_)
  · have hlt : i < l.length := by omega
    obtain ⟨x, hx⟩ : ∃ x, l[i]? = some x := ⟨_, List.getElem?_eq_getElem hlt⟩
    have hc := cnt_next hx
    have hcl := cnt_le (l.take i)
    rw [List.length_take] at hcl
    refine s_skip (hK3 _ ?_)
    refine s_seq fun K4 hK4 => ?_
    refine s_block ?_
    refine s_regA TY_ok rfl fun K5 hK5 => ?_
    refine l_elem TY_ok rfl rfl rfl i rfl hx rfl rfl (rd_fact fun _ h _ => h.2) ?_
    refine l_autoS TY_ok rfl ?_
    refine s_end (hK5 _ ?_)
    obtain ⟨x1, x2⟩ := x
    cases x2 with
    | true =>
      refine s_auto TY_ok rfl ?_
      refine s_yes rfl ?_
      refine s_lit ?_
      refine l_autoS TY_ok rfl ?_
      have hc2 : cntS (l.take (i + 1)) = cntS (l.take i) + 1 := by simpa using hc
      refine l_num 3 (cntS (l.take (i + 1)) : Int) rfl (by rw [hc2]; exact wrapI rfl (by omega) (by omega)) ?_
      refine s_end (hK4 _ ?_)
      refine s_autoE TY_ok rfl ?_
      exact k_next (i + 1) hlt (by omega) ⟨⟨congrArg some (congrArg SV.v (congrArg (Value.int .i64) (wrapI rfl (by omega) (by omega)))), rfl, rfl, rfl, trivial⟩, trivial, .refl _, fun _ h _ => h, fun _ h => h⟩
    | false =>
      refine s_auto TY_ok rfl ?_
      refine s_no rfl ?_
      refine s_skip (hK4 _ ?_)
      refine s_autoE TY_ok rfl ?_
      refine k_next (i + 1) hlt (by omega) ⟨⟨congrArg some (congrArg SV.v (congrArg (Value.int .i64) (wrapI rfl (by omega) (by omega)))), rfl, rfl, by dsimp only [F]; rw [hc]; rfl, trivial⟩, trivial, .refl _, fun _ h _ => h, fun _ h => h⟩
  · obtain rfl : l.length = i := by omega
    refine s_exit (k_pass (k_pass (k_out ?_)))
    rw [List.take_length]
    refine hK0 _ ?_
    refine s_auto TY_ok rfl ?_
    exact s_ret (k_ret TY_ok () rfl (by decide) rfl rfl rfl (fun _ _ _ => trivial) (fun _ _ => trivial))
set_option maxRecDepth 100000 in
set_option maxHeartbeats 1000000 in
theorem rkbytes_T (g : Nat) (size : Int) (A : Option Addr) (c : Nat) (l : List BtV) (hb : l.length ≤ 1000000000) :
    Spec 17 [pD g] [] (fun w => ObjF g 31 (rkP size A l.length c) w ∧ Rd 2 eBt A c l w) { ret := fun x : Option Addr × Nat => .v (.slice x.1 (l.map (·.1)).length x.2), p := fun x => Rd 1 eB x.1 x.2 (l.map (·.1)) } := by
  refine spec_S [.c (.v (pD g))] 22 Try.func17 rfl (by rw [Try.ntmps17]; rfl) (one_ok trivial) fun b => ?_
  refine s_nil0 0 5 1 eB ?_
  refine s_auto TY_ok rfl ?_
  refine s_auto TY_ok rfl ?_
  refine s_seq fun K0 hK0 => ?_
  refine s_regA TY_ok rfl fun K hK => ?_
  refine l_ldO TY_ok rfl rfl rfl rfl rfl rfl (obj_fact fun _ h _ => h.1) ?_
  refine l_autoS TY_ok rfl ?_
  refine s_end (hK _ ?_)
  refine s_block ?_
  let F : Nat × Option Addr × Nat → Env := fun x => ⟨[(11, .v (.int .i64 (x.1 : Int))), (10, .v (.int .i64 (l.length : Int))), (9, .v (.slice A l.length c)), (3, .v (.slice x.2.1 ((l.take x.1).map (·.1)).length x.2.2))], [], [DkB x.2.1 x.2.2 ((l.take x.1).map (·.1))], fun w => ObjF g 31 (rkP size A l.length c) w ∧ Rd 2 eBt A c l w, fun _ => True⟩
  refine c_weak (e' := F (0, none, 0)) ⟨⟨rfl, rfl, rfl, rfl, trivial⟩, trivial, .refl _, fun _ h _ => h, fun _ _ => trivial⟩ (s_loop (fun x => l.length - x.1) F (fun x => x.1 ≤ l.length) ?_ (0, none, 0) (Nat.zero_le _))
  intro ⟨i, A1, c1⟩ hi
  refine s_auto TY_ok rfl ?_
  refine s_seq fun K3 hK3 => ?_
  refine s_ifD ((i : Int) < (l.length : Int)) rfl (fun hlt => ?_) (fun hge => ?_)
  · have hlt : i < l.length := by omega
    obtain ⟨x, hx⟩ : ∃ x, l[i]? = some x := ⟨_, List.getElem?_eq_getElem hlt⟩
    have hml : ((l.take i).map (·.1)).length = i := by rw [List.length_map, List.length_take]; omega
    refine s_skip (hK3 _ ?_)
    refine s_seq fun K4 hK4 => ?_
    refine s_block ?_
    refine s_regA TY_ok rfl fun K5 hK5 => ?_
    refine l_elem TY_ok rfl rfl rfl i rfl hx rfl rfl (rd_fact fun _ h _ => h.2) ?_
    refine l_autoS TY_ok rfl ?_
    refine s_end (hK5 _ ?_)
    refine s_lit ?_
    refine l_autoS TY_ok rfl ?_
    refine l_push TY_ok 0 x.1 rfl rfl rfl rfl rfl rfl rfl (eB_ok _) (by decide) (by decide) (by show (((l.take i).map (·.1)).length + 1) * 1 ≤ _; omega) (by show ((l.take i).map (·.1)).length < _; omega) (Nat.zero_le _) fun A3 c3 => ?_
    refine l_autoS TY_ok rfl ?_
    refine s_end (hK4 _ ?_)
    refine s_autoE TY_ok rfl ?_
    have e1 : (l.take (i + 1)).map (·.1) = (l.take i).map (·.1) ++ [x.1] := by rw [List.take_add_one, hx]; simp
    refine k_next (i + 1, A3, c3) hlt (by show l.length - (i + 1) < l.length - i; omega) ⟨⟨congrArg some (congrArg SV.v (congrArg (Value.int .i64) (wrapI rfl (by omega) (by omega)))), rfl, rfl, by dsimp only [F]; rw [e1]; rfl, trivial⟩, trivial, ?_, fun _ h _ => h, fun _ h => h⟩
    show List.Perm [DkB A3 c3 ((l.take i).map (·.1) ++ [x.1])] [DkB A3 c3 ((l.take (i + 1)).map (·.1))]
    rw [e1]
  · obtain rfl : l.length = i := by omega
    refine s_exit (k_pass (k_pass (k_out ?_)))
    dsimp only [F]
    rw [List.take_length]
    refine hK0 _ ?_
    refine s_auto TY_ok rfl ?_
    refine s_free 0 rfl ?_
    exact s_ret (k_ret TY_ok (A1, c1) rfl (by decide) rfl rfl rfl (fun _ h _ => h.1) (fun _ _ => trivial))
end Go.Proofs.Ythkbejheedffjaa
/-
  THE LAWS' first, of disks.
-/
namespace Go.Proofs.Ythkbejheedffjaa
open Go.RowKit Go.IntWalk

theorem own_first14 : Own 6 := fun _ _ => by go_simp
theorem seg1 (A : Option Addr) (c : Nat) (l : List UInt8) : segs [⟨A, c, l⟩] = l := by simp [segs]
set_option maxRecDepth 100000 in
set_option maxHeartbeats 1000000 in
theorem first14_S : Spec 6 [] [] (fun _ => True) (one (.v (.bool true))) := by
  refine spec_S [] 56 Try.func6 rfl (by rw [Try.ntmps6]; rfl) no_ok fun b => ?_
  refine s_auto TY_ok rfl ?_
  refine s_regA TY_ok rfl fun K hK => ?_
  refine l_call0 [.int .i64 5] rfl rfl rfl own_dnew rfl rfl (fun _ _ => rfl) (dnew_S 5 (by decide)) (fun _ _ _ => trivial) fun g => ?_
  refine l_R [DkO g 5 none 0 [] 0, DkB none 0 []] rfl ?_
  refine l_autoS TY_ok rfl ?_
  refine s_end (hK _ ?_)
  refine s_seq fun K1 hK1 => ?_
  refine s_auto TY_ok rfl ?_
  refine s_ifD ((0 : Int) ≠ 0) rfl (fun h0 => absurd rfl h0) fun _ => ?_
  refine s_skip (hK1 _ ?_)
  refine s_regA TY_ok rfl fun K2 hK2 => ?_
  refine l_litS [97, 98] rfl rfl rfl rfl (fun _ => rfl) rfl (by decide) (by decide) rfl rfl rfl rfl rfl fun g1 => ?_
  refine l_list TY_ok b.B.heap.size [⟨some ⟨g1, 0, none⟩, 2, [97, 98]⟩] (fe := eSeg) rfl rfl rfl rfl rfl (fun _ => rfl) rfl (by decide) (by decide) (okF_seg _) (Nat.le_refl _) fun B1 => ?_
  refine l_freeM 0 rfl (Nat.le_refl _) ?_
  refine l_callA [pD g, .slice B1 1 1] rfl rfl rfl own_dapp rfl rfl (fun _ _ => rfl) (dapp_S g 5 none 0 [] 0 B1 1 [⟨some ⟨g1, 0, none⟩, 2, [97, 98]⟩] (by decide) (by decide) (by rw [seg1]; decide)) (fun w _ h => ⟨h.1, fun s hs => by rw [List.mem_singleton.1 hs]; exact h.2.1⟩) fun ⟨A1, c1⟩ => ?_
  refine l_R [DkO g 5 A1 c1 [97, 98] 0, DkB A1 c1 [97, 98]] rfl ?_
  refine l_num 20 0 rfl rfl ?_
  refine l_autoS TY_ok rfl ?_
  refine s_end (hK2 _ ?_)
  refine s_regA TY_ok rfl fun K3 hK3 => ?_
  refine l_callA [pD g] rfl rfl rfl own_dsync rfl rfl (fun _ _ => rfl) (dsync_S g 5 A1 c1 [97, 98] 0) (fun _ _ _ => trivial) fun _ => ?_
  refine l_R [DkO g 5 A1 c1 [97, 98] 2, DkB A1 c1 [97, 98]] rfl ?_
  refine s_end (hK3 _ ?_)
  refine s_regA TY_ok rfl fun K4 hK4 => ?_
  refine l_litS [99, 100] rfl rfl rfl rfl (fun _ => rfl) rfl (by decide) (by decide) rfl rfl rfl rfl rfl fun g2 => ?_
  refine l_list TY_ok b.B.heap.size [⟨some ⟨g2, 0, none⟩, 2, [99, 100]⟩] (fe := eSeg) rfl rfl rfl rfl rfl (fun _ => rfl) rfl (by decide) (by decide) (okF_seg _) (Nat.le_refl _) fun B2 => ?_
  refine l_freeM 0 rfl (Nat.le_refl _) ?_
  refine l_callA [pD g, .slice B2 1 1] rfl rfl rfl own_dapp rfl rfl (fun _ _ => rfl) (dapp_S g 5 A1 c1 [97, 98] 2 B2 1 [⟨some ⟨g2, 0, none⟩, 2, [99, 100]⟩] (by decide) (by decide) (by rw [seg1]; decide)) (fun w _ h => ⟨h.1, fun s hs => by rw [List.mem_singleton.1 hs]; exact h.2.1⟩) fun ⟨A2, c2⟩ => ?_
  refine l_R [DkO g 5 A2 c2 [97, 98, 99, 100] 2, DkB A2 c2 [97, 98, 99, 100]] rfl ?_
  refine l_num 27 0 rfl rfl ?_
  refine l_autoS TY_ok rfl ?_
  refine l_litS [101, 102] rfl rfl rfl rfl (fun _ => rfl) rfl (by decide) (by decide) rfl rfl rfl rfl rfl fun g3 => ?_
  refine l_list TY_ok b.B.heap.size [⟨some ⟨g3, 0, none⟩, 2, [101, 102]⟩] (fe := eSeg) rfl rfl rfl rfl rfl (fun _ => rfl) rfl (by decide) (by decide) (okF_seg _) (Nat.le_refl _) fun B3 => ?_
  refine l_freeM 0 rfl (Nat.le_refl _) ?_
  refine l_callA [pD g, .slice B3 1 1] rfl rfl rfl own_dapp rfl rfl (fun _ _ => rfl) (dapp_S g 5 A2 c2 [97, 98, 99, 100] 2 B3 1 [⟨some ⟨g3, 0, none⟩, 2, [101, 102]⟩] (by decide) (by decide) (by rw [seg1]; decide)) (fun w _ h => ⟨h.1, fun s hs => by rw [List.mem_singleton.1 hs]; exact h.2.1⟩) fun ⟨A3, c3⟩ => ?_
  refine l_R [DkO g 5 A3 c3 [97, 98, 99, 100] 2, DkB A3 c3 [97, 98, 99, 100]] rfl ?_
  refine l_num 32 140 rfl rfl ?_
  refine l_autoS TY_ok rfl ?_
  refine s_end (hK4 _ ?_)
  refine s_regA TY_ok rfl fun K5 hK5 => ?_
  refine l_callA [pD g, .int .i64 1] rfl rfl rfl own_dcrash rfl rfl (fun _ _ => rfl) (dcrash_S g 5 1 A3 c3 [97, 98, 99, 100] 2 (by decide) (by decide)) (fun _ _ _ => trivial) fun _ => ?_
  refine l_R [DkO g 5 A3 c3 [97, 98, 99] 3, DkB A3 c3 [97, 98, 99]] rfl ?_
  refine s_end (hK5 _ ?_)
  refine s_regA TY_ok rfl fun K6 hK6 => ?_
  refine l_is 37 true rfl rfl (l_autoS TY_ok rfl ?_)
  refine l_is 41 true rfl rfl (l_autoS TY_ok rfl ?_)
  refine l_is 45 true rfl rfl (l_autoS TY_ok rfl ?_)
  refine l_callA [pD g] rfl rfl rfl own_dbytes rfl rfl (fun _ _ => rfl) (dbytes_S g 5 A3 c3 [97, 98, 99] 3 (by decide)) (fun _ _ _ => trivial) fun ⟨A4, c4⟩ => ?_
  refine l_R [DkB A4 c4 [97, 98, 99], DkO g 5 A3 c3 [97, 98, 99] 3, DkB A3 c3 [97, 98, 99]] rfl ?_
  refine l_free 0 rfl ?_
  refine l_autoS TY_ok rfl ?_
  refine l_strB [97, 98, 99] rfl rfl rfl rfl rfl (rd_fact fun w h _ => h.1) ?_
  refine l_autoS TY_ok rfl ?_
  refine l_op (.b (decide (([97, 98, 99] : List UInt8) = [97, 98, 99]))) trivial rfl rfl rfl (run_eqS rfl rfl rfl) ?_
  refine l_autoS TY_ok rfl ?_
  refine l_is 51 true rfl rfl (l_autoS TY_ok rfl ?_)
  refine l_callA [pD g] rfl rfl rfl own_dsafe rfl rfl (fun _ _ => rfl) (dsafe_S g 5 A3 c3 [97, 98, 99] 3) (fun _ _ _ => trivial) fun _ => ?_
  refine l_R [DkO g 5 A3 c3 [97, 98, 99] 3, DkB A3 c3 [97, 98, 99]] rfl ?_
  refine l_autoS TY_ok rfl ?_
  refine l_is 0 true rfl rfl ?_
  refine s_end (hK6 _ ?_)
  refine s_ret (k_drop 0 rfl (k_drop 0 rfl ?_))
  exact k_ret TY_ok () rfl (by decide) rfl rfl rfl (fun _ _ _ => trivial) (fun _ _ => trivial)
end Go.Proofs.Ythkbejheedffjaa
/-
  DRAWN REGIONS WITH MEMORY, over states: any operations that only read may be taken first, the others in their order.
-/
namespace Go.Proofs.Ythkbejheedffjaa
open Go.RowKit Go.IntWalk

section
variable {P : Program} {ops : Array Oper} {Q : Exit → Act → World → Prop} {Inv : World → Prop}
def wpAnyP (P : Program) (ops : Array Oper) (Q : Exit → Act → World → Prop) (Inv : World → Prop) (p : Nat → Bool) (Fin : Array Bool → Act → World → Prop) : Nat → Array Bool → Act → World → Prop
  | 0, listed, a, w => (∀ j ∈ Region.ready .any ops listed, ∀ i, p i = true → waitsT .any ops ops.size j i = true) ∧ Fin listed a w
  | fuel + 1, listed, a, w => Region.ready .any ops listed ≠ [] ∧ ∀ i ∈ Region.ready .any ops listed, wpOp P ops Q i (fun a' w' => Inv w' ∧ wpAnyP P ops Q Inv p Fin fuel (listed.setIfInBounds i true) a' w') a w
/-- The rest, whatever the order. -/
abbrev FinA (P : Program) (ops : Array Oper) (Q : Exit → Act → World → Prop) (m : Nat) : Array Bool → Act → World → Prop := fun listed a w => wpAny P .any ops Q m listed a w
theorem wpAny_of_P {p : Nat → Bool} {m : Nat} : ∀ (fuel : Nat) (listed : Array Bool) (a : Act) (w : World), wpAnyP P ops Q Inv p (FinA P ops Q m) fuel listed a w → wpAny P .any ops Q (m + fuel) listed a w
  | 0, _, _, _, h => h.2
  | fuel + 1, _, _, _, h => ⟨fun h0 => absurd h0 h.1, fun i hi => wpOp_mono (fun a' w' h' => wpAny_of_P fuel _ a' w' h'.2) (h.2 i hi)⟩
theorem P_first {p : Nat → Bool} {Fin : Array Bool → Act → World → Prop} {i : Nat} {oi : Oper} {v : Value} (hin : p i = true) (hi : ops[i]? = some oi) (hst : stillG oi.op = true) (hsel : ∀ (j : Nat) (o : Oper) cs b, ops[j]? = some o → o.op ≠ .select cs b) (hQ : ∀ c a d v w, Q (.panic c) (a.put d v) w → Q (.panic c) a w) :
    ∀ (fuel : Nat) (listed : Array Bool) (a : Act) (w : World), Inv w → Closed .any ops listed →
      (∀ j oj, ops[j]? = some oj → j ≠ i → listed.getD j true = false → (∀ e ∈ oj.after, Region.binds .any e = true → e.on ≠ i) → oi.apart ops oj = true) →
      i ∈ Region.ready .any ops listed → YieldsB P ops Inv oi (· = v) a → wpAnyP P ops Q Inv p Fin fuel (listed.setIfInBounds i true) (a.put oi.dst v) w → wpAnyP P ops Q Inv p Fin (fuel + 1) listed a w := by
  intro fuel
  induction fuel with
  | zero =>
    intro listed a w hC hcs _ hr hy H
    refine ⟨fun h => (by rw [h] at hr; cases hr), fun j hj => ?_⟩
    by_cases hji : j = i
    · subst hji
      exact still_wpOp hi hst hy hC ⟨hC, H⟩
    · have h1 := H.1 j (ready_mono hj hji) i hin
      obtain ⟨_, oj, hoj, hall⟩ := mem_ready.1 hj
      have h6 := hcs.waits _ j i oj hoj hall h1
      rw [getD_ready hr] at h6
      cases h6
  | succ fuel ih =>
    intro listed a w hC hcs hfree hr hy H
    refine ⟨fun h => (by rw [h] at hr; cases hr), fun j hj => ?_⟩
    by_cases hji : j = i
    · subst hji
      exact still_wpOp hi hst hy hC ⟨hC, H⟩
    · obtain ⟨hjun, oj, hoj, hall⟩ := mem_ready.1 hj
      have hnot : ∀ e ∈ oj.after, Region.binds .any e = true → e.on ≠ i := fun e he hb heq => by
        have h1 := hall e he hb
        rw [heq, getD_ready hr] at h1
        cases h1
      have h2 := wpOp_putB (V := (· = v)) hoj (hfree j oj hoj hji hjun hnot) (fun cs b => hsel i oi cs b hi) (fun cs b => hsel j oj cs b hoj) ⟨v, rfl⟩ (.inr ⟨v, fun _ h => h⟩) hQ hy (fun u hu => by
        subst hu
        exact H.2 j (ready_mono hj hji))
      have hun' : ∀ k, (listed.setIfInBounds j true).getD k true = false → listed.getD k true = false := fun k hun => by
        by_cases hjk : j = k
        · subst hjk; exact hjun
        · rw [getD_set_ne true hjk] at hun; exact hun
      refine wpOp_mono (fun a' w' h3 => ?_) h2
      obtain ⟨hy', h4⟩ := h3
      obtain ⟨hC', h5⟩ := h4 v rfl
      refine ⟨hC', ih (listed.setIfInBounds j true) a' w' hC' (hcs.set hj) (fun k ok hk hki hun hno => hfree k ok hk hki (hun' k hun) hno) (ready_mono hr (Ne.symm hji)) hy' ?_⟩
      rw [Array.setIfInBounds_comm _ _ hji]
      exact h5
end
def pS (P : Program) (b : Base) (Q : Exit → Act → World → Prop) (N : Nat) (ops : Array Oper) (Inv : World → Prop) (p : Nat → Bool) (Fin : Array Bool → Act → World → Prop) (fuel : Nat) (listed : Array Bool) (e : Env) : Prop := Closed .any ops listed → ∀ a w, St b N e a w → Inv w → wpAnyP P ops (NoPanic Q) Inv p Fin fuel listed a w
/-- May it be taken here, ahead of all that is left? -/
def frontP (ops : Array Oper) (p : Nat → Bool) (i : Nat) (listed : Array Bool) : Bool := p i && (Region.ready .any ops listed).contains i && Region.free .any ops listed i && Region.noSelect ops
section
variable {P : Program} {T : List TyR} {b : Base} {ops : Array Oper} {Q : Exit → Act → World → Prop} {N fuel : Nat} {p : Nat → Bool} {Fin : Array Bool → Act → World → Prop} {listed : Array Bool} {E : SE} {L L0 : List LV} {R : List Res} {F M : World → Prop} {Inv : World → Prop} {e : Env}
theorem panic_putP : ∀ c (a : Act) d v w, NoPanic Q (.panic c) (a.put d v) w → NoPanic Q (.panic c) a w := fun _ _ _ _ _ h => h
/-- A step that only reads is taken first. -/
theorem p_front {o : Oper} {k : Nat} {v : SV} (hT : OkT P T) (i : Nat) (hc : frontP ops p i listed = true) (ho : ops[i]? = some o) (hg : o.guard = none) (hd : o.dst = some k) (hk : Nat.blt k N = true) (hs : stillG o.op = true) (hv : stepS T E L0 o.op = some v) (hsub : ∀ x ∈ L0, x ∈ L)
    (hn : pS P b Q N ops (InvL L0) p Fin fuel (listed.setIfInBounds i true) ⟨(k, v) :: E, L, R, F, M⟩) : pS P b Q N ops (InvL L0) p Fin (fuel + 1) listed ⟨E, L, R, F, M⟩ := fun hcs a w hst hI => by
  obtain ⟨G, S, h1, h2, h3⟩ := hst
  simp only [frontP, Bool.and_eq_true] at hc
  obtain ⟨⟨⟨hin, hr⟩, hfr⟩, hsel⟩ := hc
  have hr' : i ∈ Region.ready .any ops listed := by simpa using hr
  obtain ⟨h4, h5⟩ := stepS_ok hT h2 (fun x hx => (h3.var x (hsub x hx)).2.1) hv
  have h6 := hn (hcs.set hr') (a.put (some k) (v.den G)) w ⟨G, S, h1.put hk _, h2.cons h4, h3⟩ hI
  refine P_first hin ho hs (Region.noSelect_spec hsel) panic_putP fuel listed a w hI hcs (Region.free_spec ho hfr) hr' (v := v.den G) (.inl ⟨by simp [Region.wanted, hg], fun w' hw' => ?_⟩) (by rw [hd]; exact h6)
  unfold atB
  rw [h5 h1 fun x hx => by
    obtain ⟨g, e1, e2⟩ := hw' x hx
    rw [(h3.var x (hsub x hx)).2.2 g e1]
    exact e2]
  exact ⟨rfl, rfl⟩
/-- A step whose value hangs on the frame alone is taken first. -/
theorem p_frontO {o : Oper} {k : Nat} (v : SV) (hvo : v.Ok) (i : Nat) (hc : frontP ops p i listed = true) (ho : ops[i]? = some o) (hg : o.guard = none) (hd : o.dst = some k) (hk : Nat.blt k N = true) (hs : stillG o.op = true) (hv : ∀ (G : Nat → Nat) (a : Act) (w : World), Fr N (denE G E) a → (execOp a.eval o).run P w = .ok (.value (v.den G)) w)
    (hn : pS P b Q N ops Inv p Fin fuel (listed.setIfInBounds i true) ⟨(k, v) :: E, L, R, F, M⟩) : pS P b Q N ops Inv p Fin (fuel + 1) listed ⟨E, L, R, F, M⟩ := fun hcs a w hst hI => by
  obtain ⟨G, S, h1, h2, h3⟩ := hst
  simp only [frontP, Bool.and_eq_true] at hc
  obtain ⟨⟨⟨hin, hr⟩, hfr⟩, hsel⟩ := hc
  have hr' : i ∈ Region.ready .any ops listed := by simpa using hr
  have h6 := hn (hcs.set hr') (a.put (some k) (v.den G)) w ⟨G, S, h1.put hk _, h2.cons hvo, h3⟩ hI
  refine P_first hin ho hs (Region.noSelect_spec hsel) panic_putP fuel listed a w hI hcs (Region.free_spec ho hfr) hr' (v := v.den G) (.inl ⟨by simp [Region.wanted, hg], fun w' _ => ?_⟩) (by rw [hd]; exact h6)
  unfold atB
  rw [hv G a w' h1]
  exact ⟨rfl, rfl⟩
theorem p_weak {e' : Env} (hw : Weak e e') (h : pS P b Q N ops Inv p Fin fuel listed e') : pS P b Q N ops Inv p Fin fuel listed e := fun hcs a w hst hI => h hcs a w (hst.weak hw) hI
/-- The only one that may come next. -/
theorem p_step {o : Oper} (i : Nat) (hr : Region.ready .any ops listed = [i]) (ho : ops[i]? = some o) (h : ∀ K : Act → World → Prop, (∀ e', (∀ a w, St b N e' a w → Inv w) → pS P b Q N ops Inv p Fin fuel (listed.setIfInBounds i true) e' → kS b K N e') → lS P b ops (Exit.then K (NoPanic Q)) N [o] e) : pS P b Q N ops Inv p Fin (fuel + 1) listed e := fun hcs a w hst _ =>
  ⟨by rw [hr]; simp, fun j hj => by
    rw [hr, List.mem_singleton] at hj
    subst hj
    have hcs' := hcs.set (i := j) (by rw [hr]; simp)
    exact wpOp_of_list ho (h (fun a' w' => Inv w' ∧ wpAnyP P ops (NoPanic Q) Inv p Fin fuel (listed.setIfInBounds j true) a' w') (fun e' hI' ha a' w' hs' => ⟨hI' a' w' hs', ha hcs' a' w' hs' (hI' a' w' hs')⟩) a w hst)⟩
/-- Either of two may come next. -/
theorem p_step2 {o o' : Oper} (i i' : Nat) (hr : Region.ready .any ops listed = [i, i']) (ho : ops[i]? = some o) (ho' : ops[i']? = some o')
    (h : ∀ K : Act → World → Prop, (∀ e', (∀ a w, St b N e' a w → Inv w) → pS P b Q N ops Inv p Fin fuel (listed.setIfInBounds i true) e' → kS b K N e') → lS P b ops (Exit.then K (NoPanic Q)) N [o] e)
    (h' : ∀ K : Act → World → Prop, (∀ e', (∀ a w, St b N e' a w → Inv w) → pS P b Q N ops Inv p Fin fuel (listed.setIfInBounds i' true) e' → kS b K N e') → lS P b ops (Exit.then K (NoPanic Q)) N [o'] e) : pS P b Q N ops Inv p Fin (fuel + 1) listed e := fun hcs a w hst _ =>
  ⟨by rw [hr]; simp, fun j hj => by
    rw [hr] at hj
    have key : ∀ (i : Nat) (o : Oper), i ∈ Region.ready .any ops listed → ops[i]? = some o → (∀ K : Act → World → Prop, (∀ e', (∀ a w, St b N e' a w → Inv w) → pS P b Q N ops Inv p Fin fuel (listed.setIfInBounds i true) e' → kS b K N e') → lS P b ops (Exit.then K (NoPanic Q)) N [o] e) → wpOp P ops (NoPanic Q) i (fun a' w' => Inv w' ∧ wpAnyP P ops (NoPanic Q) Inv p Fin fuel (listed.setIfInBounds i true) a' w') a w := fun i o hi ho h =>
      wpOp_of_list ho (h (fun a' w' => Inv w' ∧ wpAnyP P ops (NoPanic Q) Inv p Fin fuel (listed.setIfInBounds i true) a' w') (fun e' hI' ha a' w' hs' => ⟨hI' a' w' hs', ha (hcs.set hi) a' w' hs' (hI' a' w' hs')⟩) a w hst)
    rcases List.mem_cons.1 hj with rfl | hj
    · exact key _ o (by rw [hr]; simp) ho h
    · rw [List.mem_singleton] at hj
      subst hj
      exact key _ o' (by rw [hr]; simp) ho' h'⟩

/-- What can be seen, taken first: whatever the worlds with Inv say. -/
theorem p_frontI {o : Oper} {k : Nat} (v : SV) (hvo : v.Ok) (i : Nat) (hc : frontP ops p i listed = true) (ho : ops[i]? = some o) (hg : o.guard = none) (hd : o.dst = some k) (hk : Nat.blt k N = true) (hs : stillG o.op = true) (hv : ∀ (G : Nat → Nat) (a : Act) (w : World), Fr N (denE G E) a → Inv w → (execOp a.eval o).run P w = .ok (.value (v.den G)) w)
    (hn : pS P b Q N ops Inv p Fin fuel (listed.setIfInBounds i true) ⟨(k, v) :: E, L, R, F, M⟩) : pS P b Q N ops Inv p Fin (fuel + 1) listed ⟨E, L, R, F, M⟩ := fun hcs a w hst hI => by
  obtain ⟨G, S, h1, h2, h3⟩ := hst
  simp only [frontP, Bool.and_eq_true] at hc
  obtain ⟨⟨⟨hin, hr⟩, hfr⟩, hsel⟩ := hc
  have hr' : i ∈ Region.ready .any ops listed := by simpa using hr
  have h6 := hn (hcs.set hr') (a.put (some k) (v.den G)) w ⟨G, S, h1.put hk _, h2.cons hvo, h3⟩ hI
  refine P_first hin ho hs (Region.noSelect_spec hsel) panic_putP fuel listed a w hI hcs (Region.free_spec ho hfr) hr' (v := v.den G) (.inl ⟨by simp [Region.wanted, hg], fun w' hw' => ?_⟩) (by rw [hd]; exact h6)
  unfold atB
  rw [hv G a w' h1 hw']
  exact ⟨rfl, rfl⟩
theorem p_frontS {o : Oper} {k : Nat} {v : SV} (hT : OkT P T) (i : Nat) (hc : frontP ops p i listed = true) (ho : ops[i]? = some o) (hg : o.guard = none) (hd : o.dst = some k) (hk : Nat.blt k N = true) (hs : stillG o.op = true) (hv : stepS T E L0 o.op = some v) (hsub : ∀ x ∈ L0, x ∈ L) (hI : ∀ w, Inv w → InvL L0 w)
    (hn : pS P b Q N ops Inv p Fin fuel (listed.setIfInBounds i true) ⟨(k, v) :: E, L, R, F, M⟩) : pS P b Q N ops Inv p Fin (fuel + 1) listed ⟨E, L, R, F, M⟩ := fun hcs a w hst hI0 => by
  obtain ⟨G, S, h1, h2, h3⟩ := hst
  simp only [frontP, Bool.and_eq_true] at hc
  obtain ⟨⟨⟨hin, hr⟩, hfr⟩, hsel⟩ := hc
  have hr' : i ∈ Region.ready .any ops listed := by simpa using hr
  obtain ⟨h4, h5⟩ := stepS_ok hT h2 (fun x hx => (h3.var x (hsub x hx)).2.1) hv
  have h6 := hn (hcs.set hr') (a.put (some k) (v.den G)) w ⟨G, S, h1.put hk _, h2.cons h4, h3⟩ hI0
  refine P_first hin ho hs (Region.noSelect_spec hsel) panic_putP fuel listed a w hI0 hcs (Region.free_spec ho hfr) hr' (v := v.den G) (.inl ⟨by simp [Region.wanted, hg], fun w' hw' => ?_⟩) (by rw [hd]; exact h6)
  unfold atB
  rw [h5 h1 fun x hx => by
    obtain ⟨g, e1, e2⟩ := hI w' hw' x hx
    rw [(h3.var x (hsub x hx)).2.2 g e1]
    exact e2]
  exact ⟨rfl, rfl⟩
theorem p_frontA {o : Oper} {k : Nat} (v : SV) (hvo : v.Ok) (i : Nat) (hc : frontP ops p i listed = true) (ho : ops[i]? = some o) (hg : o.guard = none) (hd : o.dst = some k) (hk : Nat.blt k N = true) (hs : stillG o.op = true) (hsub : ∀ x ∈ L0, x ∈ L) (hI : ∀ w, Inv w → InvL L0 w)
    (hv : ∀ (G : Nat → Nat) (a : Act) (w : World), Fr N (denE G E) a → LAt G L0 w → (execOp a.eval o).run P w = .ok (.value (v.den G)) w)
    (hn : pS P b Q N ops Inv p Fin fuel (listed.setIfInBounds i true) ⟨(k, v) :: E, L, R, F, M⟩) : pS P b Q N ops Inv p Fin (fuel + 1) listed ⟨E, L, R, F, M⟩ := fun hcs a w hst hI0 => by
  obtain ⟨G, S, h1, h2, h3⟩ := hst
  simp only [frontP, Bool.and_eq_true] at hc
  obtain ⟨⟨⟨hin, hr⟩, hfr⟩, hsel⟩ := hc
  have hr' : i ∈ Region.ready .any ops listed := by simpa using hr
  have h6 := hn (hcs.set hr') (a.put (some k) (v.den G)) w ⟨G, S, h1.put hk _, h2.cons hvo, h3⟩ hI0
  refine P_first hin ho hs (Region.noSelect_spec hsel) panic_putP fuel listed a w hI0 hcs (Region.free_spec ho hfr) hr' (v := v.den G) (.inl ⟨by simp [Region.wanted, hg], fun w' hw' => ?_⟩) (by rw [hd]; exact h6)
  unfold atB
  rw [hv G a w' h1 fun x hx => by
    obtain ⟨g, e1, e2⟩ := hI w' hw' x hx
    rw [(h3.var x (hsub x hx)).2.2 g e1]
    exact e2]
  exact ⟨rfl, rfl⟩
/-- A cell of a variable. -/
theorem runO_ldL {o : Oper} {t : TypeId} {x : Operand} {j off : Nat} {d : TypeDesc} {ps : List Pt} (v : Value) (ho : o.op = .load t x) (hx : evS E x = some (.a j off)) (hl : lookL L0 j = some ps) (hv : (catP ps)[off]? = some v) (hu : P.underlying t = some d) (hr : d.isRow = false) :
    ∀ (G : Nat → Nat) (a : Act) (w : World), Fr N (denE G E) a → LAt G L0 w → (execOp a.eval o).run P w = .ok (.value ((SV.v v).den G)) w := fun G a w ha hw => by
  have h1 : a.eval x = .pointer (some ⟨G j, off, none⟩) := ha.eval (evS_ok hx)
  obtain ⟨u, hu2, rfl, hps⟩ := lookL_mem hl
  have h2 := (hw u hu2).cell off
  rw [hps, hv] at h2
  have h3 := run_load_cell hu hr h2
  unfold execOp
  simp only [ho, h1, Sem.run_bind, h3, Result.andThen_ok, Sem.run_pure]
  rfl
/-- What lies behind a pointer, taken first. -/
theorem p_ldO {o : Oper} {k : Nat} {t ty : TypeId} {x : Operand} {g off : Nat} {ps : List Pt} {q : SQ} (hT : OkT P T) (i : Nat) (hc : frontP ops p i listed = true) (ho : ops[i]? = some o) (hg : o.guard = none) (hd : o.dst = some k) (hk : Nat.blt k N = true) (hop : o.op = .load t x) (hx : evS E x = some (.v (.pointer (some ⟨g, off, none⟩)))) (hl : loadS T ps t off = some q) (hok : OkP ps) (hI : ∀ w, Inv w → ObjF g ty ps w)
    (hn : pS P b Q N ops Inv p Fin fuel (listed.setIfInBounds i true) ⟨(k, .q q) :: E, L, R, F, M⟩) : pS P b Q N ops Inv p Fin (fuel + 1) listed ⟨E, L, R, F, M⟩ :=
  p_frontI (.q q) (loadS_at hT hok hl).1 i hc ho hg hd hk (by rw [hop]; rfl) (fun _ _ w ha hw => (load_obj hT hop hx hl ha (hI w hw)).2) hn
theorem inv_two {E' : SE} {L' : List LV} {R' : List Res} {F' M' : World → Prop} {p : World → Prop} (hsub : ∀ x ∈ L0, x ∈ L' ∧ x.g.isSome = true) (hp : ∀ w, F' w → M' w → p w) : ∀ a w, St b N ⟨E', L', R', F', M'⟩ a w → InvL L0 w ∧ p w := fun a w hst => by
  refine ⟨?_, ?_⟩
  · obtain ⟨G, S, _, _, h3⟩ := hst
    intro x hx
    obtain ⟨h1, h2⟩ := hsub x hx
    obtain ⟨g, hg⟩ := Option.isSome_iff_exists.1 h2
    have h4 := h3.var x h1
    refine ⟨g, hg, ?_⟩
    rw [← h4.2.2 g hg]
    exact h4.1
  · obtain ⟨G, S, _, _, h3⟩ := hst
    exact hp w h3.view.fact h3.view.fresh
/-! ### The rest in its order -/
def forcedJ (ops : Array Oper) : List Nat → Array Bool → Bool
  | [], listed => (Region.ready .any ops listed).isEmpty
  | k :: ks, listed => decide (Region.ready .any ops listed = [k]) && forcedJ ops ks (listed.setIfInBounds k true)
/-- The operations of these numbers. -/
def opsJ (l : List Oper) : List Nat → List Oper
  | [] => []
  | k :: ks => match l[k]? with
    | some o => o :: opsJ l ks
    | none => []
theorem wpAny_forcedJ {l : List Oper} : ∀ (ks : List Nat) (listed : Array Bool) (a : Act) (w : World), (∀ k ∈ ks, k < l.length) → forcedJ l.toArray ks listed = true →
    wpList P l.toArray Q (opsJ l ks) a w → wpAny P .any l.toArray Q ks.length listed a w
  | [], _, _, _, _, hB, h => ⟨by simpa [forcedJ] using hB, h⟩
  | k :: ks, listed, a, w, hl, hB, h => by
    obtain ⟨o, ho⟩ : ∃ o, l[k]? = some o := ⟨_, List.getElem?_eq_getElem (hl k List.mem_cons_self)⟩
    have h0 : l.toArray[k]? = some o := by simpa using ho
    simp only [forcedJ, Bool.and_eq_true, decide_eq_true_eq] at hB
    obtain ⟨hr, hB'⟩ := hB
    unfold opsJ at h
    rw [ho] at h
    dsimp only at h
    refine ⟨fun e => (by rw [hr] at e; cases e), fun i hi => ?_⟩
    rw [hr, List.mem_singleton] at hi
    subst hi
    have hl' : ∀ j ∈ ks, j < l.length := fun j hj => hl j (List.mem_cons_of_mem _ hj)
    unfold wpOp
    simp only [h0]
    unfold wpList at h
    split
    · rename_i hw
      simp only [hw, if_true] at h
      exact h.imp (Oper.wp_mono fun a' w' h' => wpAny_forcedJ ks _ a' w' hl' hB' h') id
    · rename_i hw
      simp only [hw] at h
      exact wpAny_forcedJ ks _ _ _ hl' hB' (by simpa using h)
def memJ (ks : List Nat) (i : Nat) : Bool := ks.any fun k => Nat.beq k i
/-- The rest is forced. -/
theorem p_tail {ks : List Nat} (js : List Nat) {l l' : List Oper} (hB : ((Region.ready .any l.toArray listed).all (fun j => ks.all fun i => waitsT .any l.toArray l.toArray.size j i) && js.all (fun k => decide (k < l.length)) && forcedJ l.toArray js listed) = true) (hl : opsJ l js = l') (h : lS P b l.toArray (NoPanic Q) N l' e) :
    pS P b Q N l.toArray Inv (memJ ks) (FinA P l.toArray (NoPanic Q) js.length) 0 listed e := fun _ a w hst _ => by
  subst hl
  simp only [Bool.and_eq_true, List.all_eq_true, decide_eq_true_eq] at hB
  refine ⟨fun j hj i hi => ?_, wpAny_forcedJ js listed a w hB.1.2 hB.2 (h a w hst)⟩
  obtain ⟨k, hk, e⟩ := List.any_eq_true.1 hi
  obtain rfl := Nat.eq_of_beq_eq_true e
  exact hB.1.1 j hj k hk
/-- A drawn region: so many steps in whatever order (those of ks that only read first), then the others (js) in their order. -/
theorem s_anyP {l : List Oper} {id : Nat} (ks : List Nat) (n m : Nat) (Inv : World → Prop) (hm : P.follows .mixedOrders = true) (hn : m + n = l.length) (h0 : ∀ a w, St b N e a w → Inv w) (h : pS P b Q N l.toArray Inv (memJ ks) (FinA P l.toArray (NoPanic Q) m) n (Array.replicate l.toArray.size false) e) : cS P b (.region id l.toArray true) Q N e := fun a w hst => by
  refine wp_region_noPanic (wp_region_any hm ?_)
  obtain ⟨G, S, h1, h2, h3⟩ := hst
  have hd : St b N e a w.drew := ⟨G, S, h1, h2, h3.drew⟩
  have h4 := wpAny_of_P n _ a w.drew (h (Closed.none _) a w.drew hd (h0 a _ hd))
  have e1 : m + n = l.toArray.size := by simpa using hn
  rw [e1] at h4
  exact h4
end
end Go.Proofs.Ythkbejheedffjaa
/-
  THE LAW DiskPlays, walked: a nil disk; the code behind the switch.
-/
namespace Go.Proofs.Ythkbejheedffjaa
open Go.RowKit Go.IntWalk

structure OpV where
  kd : Int
  n : Int
  A : Option Addr
  c : Nat
  l : List UInt8
def OpV.parts (o : OpV) : List Pt := [.one (.v (.int .i64 o.kd)), .one (.v (.int .i64 o.n)), .one (.v (.slice o.A o.l.length o.c))]
def eOp (o : OpV) : SQ := .p o.parts
theorem eOp_ok (o : OpV) : OkP (eOp o).parts1 ∧ (eOp o).cl.length = 3 := ⟨fun q hq => by
  simp only [eOp, OpV.parts, SQ.parts1, List.mem_cons, List.not_mem_nil, or_false] at hq
  rcases hq with rfl | rfl | rfl <;> exact ⟨trivial, rfl, rfl⟩, rfl⟩
theorem own_plays14 : Own 3 := fun _ _ => by go_simp
/-- What is known of the script. -/
def ScrF (S : Option Addr) (d : Nat) (ops : List OpV) (w : World) : Prop := Rd 3 eOp S d ops w ∧ ∀ o ∈ ops, Rd 1 eB o.A o.c o.l w
theorem seg2 (A B : Option Addr) (c d : Nat) (l m : List UInt8) : segs [⟨A, c, l⟩, ⟨B, d, m⟩] = l ++ m := by simp [segs]
theorem seg3 (A B : Option Addr) (c d : Nat) (l m : List UInt8) : segs [⟨A, c, l⟩, ⟨none, 0, []⟩, ⟨B, d, m⟩] = l ++ m := by simp [segs]
theorem btD_apL (size : Int) (l m : List UInt8) {s : Nat} (h : s ≤ l.length) : (if ((btD l s).length : Int) + m.length ≤ size then btD l s ++ uns m else btD l s) = btD (apL size l m) s := by
  rw [btD_len, btD_app l m h]
  unfold apL
  by_cases e : (l.length : Int) + m.length ≤ size
  · rw [if_pos e, if_pos e]
  · rw [if_neg e, if_neg e]
theorem apL_le (size : Int) (l m : List UInt8) (h : (l.length : Int) ≤ size) : l.length ≤ (apL size l m).length ∧ (apL size l m).length ≤ l.length + m.length ∧ ((apL size l m).length : Int) ≤ size := by
  unfold apL
  by_cases e : (l.length : Int) + m.length ≤ size
  · rw [if_pos e, List.length_append]
    omega
  · rw [if_neg e]
    omega
theorem xor_b255 (a : UInt8) : ∃ y : UInt8, bits .xor .u8 (a.toNat : Int) 255 = (y.toNat : Int) := by
  have key : ∀ m : Nat, m < 256 → 0 ≤ bits .xor .u8 (m : Int) 255 ∧ bits .xor .u8 (m : Int) 255 < 256 := by decide +kernel
  exact byte_z (key a.toNat a.toNat_lt)
/-- Bytes handed back in the same place are the same. -/
theorem told_bytes {l : List UInt8} {x : Option Addr × Nat} {w : World} (h : ∃ y : Option Addr × Nat, (RV.v (Value.slice x.1 l.length x.2)).den = (RV.v (Value.slice y.1 l.length y.2)).den ∧ Rd 1 eB y.1 y.2 l w) : Rd 1 eB x.1 x.2 l w := by
  obtain ⟨y, e, h⟩ := h
  injection e with e1 _ e2
  rw [e1, e2]
  exact h
set_option maxRecDepth 100000 in
set_option maxHeartbeats 1000000 in
theorem plays14_S {S : Option Addr} {d : Nat} (size : Int) (ops : List OpV) (hsz : size ≤ 9223372036854775807) (hops : ∀ o ∈ ops, o.l.length ≤ 1048576 ∧ o.n ≤ 9223372036854775807) :
    Spec 3 [.int .i64 size, .slice S ops.length d] [] (ScrF S d ops) (one (.v (.bool true))) := by
  refine spec_S [.c (.v (.int .i64 size)), .c (.v (.slice S ops.length d))] 206 Try.func3 rfl (by rw [Try.ntmps3]; rfl) (two_ok trivial trivial) fun b => ?_
  refine s_pure (ops.length ≤ d ∧ d ≤ 9223372036854775807) (fun w hw _ => ⟨hw.1.1, hw.1.2.1⟩) fun ⟨hpc, hcm⟩ => ?_
  refine s_auto TY_ok rfl ?_
  refine s_seq fun K hK => ?_
  refine s_regA TY_ok rfl fun K1 hK1 => ?_
  refine l_call0 [] rfl rfl rfl own_first14 rfl rfl (fun _ _ => rfl) first14_S (fun _ _ _ => trivial) fun _ => ?_
  refine l_R [] rfl ?_
  refine l_autoS TY_ok rfl ?_
  refine s_end (hK1 _ ?_)
  refine s_no rfl ?_
  refine s_skip (hK _ ?_)
  refine s_regA TY_ok rfl fun K3 hK3 => ?_
  by_cases hneg : size < 0
  · refine l_call0 [.int .i64 size] rfl rfl rfl own_dnew rfl rfl (fun _ _ => rfl) (dnew_no size hneg) (fun _ _ _ => trivial) fun _ => ?_
    refine l_R [] rfl ?_
    refine l_autoS TY_ok rfl ?_
    refine s_end (hK3 _ ?_)
    refine s_seq fun K4 hK4 => ?_
    refine s_auto TY_ok rfl ?_
    refine s_ifD (size < 0) rfl (fun _ => ?_) fun h => absurd hneg h
    refine s_regA TY_ok rfl fun K5 hK5 => ?_
    refine l_is 4 true rfl rfl ?_
    refine s_end (hK5 _ ?_)
    exact s_ret (k_ret TY_ok () rfl (by decide) rfl rfl rfl (fun _ _ _ => trivial) (fun _ _ => trivial))
  refine l_call0 [.int .i64 size] rfl rfl rfl own_dnew rfl rfl (fun _ _ => rfl) (dnew_S size (by omega)) (fun _ _ _ => trivial) fun g => ?_
  refine l_R [DkO g size none 0 [] 0, DkB none 0 []] rfl ?_
  refine l_autoS TY_ok rfl ?_
  refine s_end (hK3 _ ?_)
  refine s_seq fun K4 hK4 => ?_
  refine s_auto TY_ok rfl ?_
  refine s_ifD (size < 0) rfl (fun h => absurd h hneg) fun _ => ?_
  refine s_skip (hK4 _ ?_)
  refine s_seq fun K5 hK5 => ?_
  refine s_auto TY_ok rfl ?_
  refine s_ifD ((0 : Int) ≠ 0) rfl (fun h0 => absurd rfl h0) fun _ => ?_
  refine s_skip (hK5 _ ?_)
  refine s_regA TY_ok rfl fun K6 hK6 => ?_
  refine s_end (k_give 7 rfl (E' := [(5, .v (pD g)), (1, .v (.slice S ops.length d))]) ⟨rfl, rfl, trivial⟩ fun g2 => hK6 _ ?_)
  refine s_nil0 0 50 2 eBt ?_
  refine s_swap (ι := Unit) 0 (fun _ => RkB none 0 []) rfl (fun w S h => ⟨(), OwnS.loose h⟩) fun _ => ?_
  refine c_weak (e' := ⟨[(7, .v (pD g2)), (5, .v (pD g)), (1, .v (.slice S ops.length d))], [], [DkO g size none 0 [] 0, DkB none 0 [], RkO g2 size none 0 0, RkB none 0 []], ScrF S d ops, fun _ => True⟩) ⟨⟨rfl, rfl, rfl, trivial⟩, trivial, ?_, fun _ h _ => h.2.2, fun _ _ => trivial⟩ ?_
  · exact (List.perm_append_comm (l₁ := [RkB none 0 [], RkO g2 size none 0 0]) (l₂ := [DkO g size none 0 [] 0, DkB none 0 []])).trans (List.Perm.append_left [DkO g size none 0 [] 0, DkB none 0 []] (List.Perm.swap _ _ _))
  refine s_seq fun K9 hK9 => ?_
  have fin : kS b K9 206 ⟨[], [], [], fun _ => True, fun _ => True⟩ := by
    refine hK9 _ ?_
    refine s_auto TY_ok rfl ?_
    refine s_regA TY_ok rfl fun Ka hKa => ?_
    refine l_call0 [.pointer none] rfl rfl rfl own_dsync rfl rfl (fun _ _ => rfl) dsync_no (fun _ _ _ => trivial) fun _ => ?_
    refine l_R [] rfl ?_
    refine s_end (hKa _ ?_)
    refine s_regA TY_ok rfl fun Kb hKb => ?_
    refine l_call0 [.pointer none, .int .i64 1] rfl rfl rfl own_dcrash rfl rfl (fun _ _ => rfl) (dcrash_no 1) (fun _ _ _ => trivial) fun _ => ?_
    refine l_R [] rfl ?_
    refine s_end (hKb _ ?_)
    refine s_regA TY_ok rfl fun Kc hKc => ?_
    refine l_list TY_ok b.B.heap.size [⟨none, 0, []⟩] (fe := eSeg) rfl rfl rfl rfl rfl (fun _ => rfl) rfl (by decide) (by decide) (okF_seg _) (Nat.le_refl _) fun B1 => ?_
    refine l_freeM 0 rfl (Nat.le_refl _) ?_
    refine l_call0 [.pointer none, .slice B1 1 1] rfl rfl rfl own_dapp rfl rfl (fun _ _ => rfl) (dapp_no B1 1 1) (fun _ _ _ => trivial) fun _ => ?_
    refine l_R [] rfl ?_
    refine l_autoS TY_ok rfl ?_
    refine l_is 185 true rfl rfl (l_autoS TY_ok rfl ?_)
    refine l_call0 [.pointer none, .int .i64 0] rfl rfl rfl own_dcut rfl rfl (fun _ _ => rfl) (dcut_no 0) (fun _ _ _ => trivial) fun _ => ?_
    refine l_R [] rfl ?_
    refine l_autoS TY_ok rfl ?_
    refine l_is 190 true rfl rfl (l_autoS TY_ok rfl ?_)
    refine l_call0 [.pointer none] rfl rfl rfl own_dlen rfl rfl (fun _ _ => rfl) dlen_no (fun _ _ _ => trivial) fun _ => ?_
    refine l_R [] rfl ?_
    refine l_autoS TY_ok rfl ?_
    refine l_is 195 true rfl rfl (l_autoS TY_ok rfl ?_)
    refine l_call0 [.pointer none] rfl rfl rfl own_dsafe rfl rfl (fun _ _ => rfl) dsafe_no (fun _ _ _ => trivial) fun _ => ?_
    refine l_R [] rfl ?_
    refine l_autoS TY_ok rfl ?_
    refine l_is 200 true rfl rfl (l_autoS TY_ok rfl ?_)
    refine l_call0 [.pointer none] rfl rfl rfl own_dbytes rfl rfl (fun _ _ => rfl) dbytes_no (fun _ _ _ => trivial) fun _ => ?_
    refine l_R [] rfl ?_
    refine l_autoS TY_ok rfl ?_
    refine l_is 4 true rfl rfl ?_
    refine s_end (hKc _ ?_)
    exact s_ret (k_ret TY_ok () rfl (by decide) rfl rfl rfl (fun _ _ _ => trivial) (fun _ _ => trivial))
  refine s_auto TY_ok rfl ?_
  refine s_block ?_
  let F : Nat × List UInt8 × Nat × (Option Addr × Nat) × (Option Addr × Nat) → Env := fun x => ⟨[(44, .v (.int .i64 (x.1 : Int))), (43, .v (.int .i64 (ops.length : Int))), (42, .v (.slice S ops.length d)), (7, .v (pD g2)), (5, .v (pD g))], [], [DkO g size x.2.2.2.1.1 x.2.2.2.1.2 x.2.1 (x.2.2.1 : Int), DkB x.2.2.2.1.1 x.2.2.2.1.2 x.2.1, RkO g2 size x.2.2.2.2.1 (btD x.2.1 x.2.2.1).length x.2.2.2.2.2, RkB x.2.2.2.2.1 x.2.2.2.2.2 (btD x.2.1 x.2.2.1)], ScrF S d ops, fun _ => True⟩
  refine c_weak (e' := F (0, [], 0, (none, 0), (none, 0))) ⟨⟨rfl, rfl, rfl, rfl, rfl, trivial⟩, trivial, .refl _, fun _ h _ => h, fun _ _ => trivial⟩ (s_loop (fun x => ops.length - x.1) F (fun x => x.1 ≤ ops.length ∧ x.1 ≤ 50 ∧ x.2.1.length ≤ x.1 * 1048576 ∧ (x.2.1.length : Int) ≤ size ∧ x.2.2.1 ≤ x.2.1.length) ?_ (0, [], 0, (none, 0), (none, 0)) ⟨Nat.zero_le _, Nat.zero_le _, Nat.zero_le _, by show (0 : Int) ≤ size; omega, Nat.le_refl _⟩)
  intro ⟨i, l, s, ⟨A1, c1⟩, A2, c2⟩ ⟨hi, hi50, hl, hls, hs⟩
  dsimp only at hi hi50 hl hls hs
  have hl1 : l.length ≤ (i + 1) * 1048576 := Nat.le_trans hl (Nat.mul_le_mul_right _ (Nat.le_succ i))
  have out : kS b K9 206 (F (i, l, s, (A1, c1), A2, c2)) := by
    refine k_drop 0 rfl (k_drop 0 rfl (k_drop 0 rfl (k_drop 0 rfl ?_)))
    refine k_weak ?_ fin
    exact ⟨trivial, trivial, .refl _, fun _ _ _ => trivial, fun _ _ => trivial⟩
  refine s_auto TY_ok rfl ?_
  refine s_seq fun K10 hK10 => ?_
  refine s_ifD ((i : Int) < (ops.length : Int)) rfl (fun hlt => ?_) (fun hge => ?_)
  · have hlt : i < ops.length := by omega
    obtain ⟨o, ho⟩ : ∃ o, ops[i]? = some o := ⟨_, List.getElem?_eq_getElem hlt⟩
    have hom : o ∈ ops := List.mem_of_getElem? ho
    obtain ⟨hol, hon⟩ := hops o hom
    refine s_skip (hK10 _ ?_)
    refine s_seq fun K11 hK11 => ?_
    refine s_block ?_
    refine s_regA TY_ok rfl fun K12 hK12 => ?_
    refine l_elem TY_ok rfl rfl rfl i rfl ho rfl rfl (rd_fact fun w h _ => h.1) ?_
    refine l_autoS TY_ok rfl ?_
    refine s_end (hK12 _ ?_)
    refine s_seq fun K13 hK13 => ?_
    refine s_auto TY_ok rfl ?_
    refine s_ifD ((i : Int) ≥ 50) rfl (fun _ => ?_) (fun h50 => ?_)
    · refine s_exit (k_pass (k_passB rfl (k_pass (k_pass (k_out ?_)))))
      refine k_weak ?_ out
      exact ⟨⟨rfl, rfl, rfl, rfl, rfl, trivial⟩, trivial, .refl _, fun _ h _ => h, fun _ h => h⟩
    refine s_skip (hK13 _ ?_)
    refine s_seq fun K14 hK14 => ?_
    have tail : ∀ (l' : List UInt8) (s' : Nat) (A3 : Option Addr) (c3 : Nat) (A4 : Option Addr) (c4 : Nat), l'.length ≤ (i + 1) * 1048576 → (l'.length : Int) ≤ size → s' ≤ l'.length →
        kS b K14 206 ⟨[(44, .v (.int .i64 (i : Int))), (43, .v (.int .i64 (ops.length : Int))), (42, .v (.slice S ops.length d)), (7, .v (pD g2)), (5, .v (pD g))], [], [DkO g size A3 c3 l' (s' : Int), DkB A3 c3 l', RkO g2 size A4 (btD l' s').length c4, RkB A4 c4 (btD l' s')], ScrF S d ops, fun _ => True⟩ := by
      intro l' s' A3 c3 A4 c4 hl' hls' hs'
      have hbl := btD_len l' s'
      have hbf := btD_fst l' s'
      have hbc := btD_cnt l' hs'
      refine hK14 _ ?_
      refine s_regA TY_ok rfl fun Ka hKa => ?_
      refine l_callA [pD g] rfl rfl rfl own_dbytes rfl rfl (fun _ _ => rfl) (dbytes_S g size A3 c3 l' (s' : Int) (by omega)) (fun _ _ _ => trivial) fun ⟨A5, c5⟩ => ?_
      refine l_R [DkB A5 c5 l', DkO g size A3 c3 l' (s' : Int), DkB A3 c3 l', RkO g2 size A4 (btD l' s').length c4, RkB A4 c4 (btD l' s')] rfl ?_
      refine l_autoS TY_ok rfl ?_
      refine s_end (hKa _ ?_)
      refine s_seq fun Kb hKb => ?_
      refine s_regH 20 (by decide) (by kernel_rfl) (by kernel_rfl) fun Kc hKc G Sx w0 hst => ?_
      refine h_auto TY_ok hst rfl ?_
      refine h_strU l' hst rfl rfl rfl rfl rfl rfl (fun w hv _ => rd_own 0 rfl _ _ w hv) ?_
      refine h_auto TY_ok hst rfl ?_
      refine h_callE (F' := fun w => ObjF g2 31 (rkP size A4 (btD l' s').length c4) w ∧ Rd 2 eBt A4 c4 (btD l' s') w) hst [pD g2] rfl rfl rfl rfl own_rkbytes rfl rfl (fun _ => rfl) (rkbytes_T g2 size A4 c4 (btD l' s') (by omega)) (fun w hv _ => ⟨obj_own 3 rfl _ _ w hv, rd_ownL 4 rfl _ _ w hv⟩) fun x _ => ?_
      refine h_auto TY_ok hst rfl ?_
      refine h_strU ((btD l' s').map (·.1)) hst rfl rfl rfl rfl rfl rfl (fun w _ hu => told_bytes (hu 3 _ rfl (by kernel_rfl))) ?_
      refine h_op hst (.b (!decide (l' = (btD l' s').map (·.1)))) trivial rfl rfl rfl rfl (run_neqS rfl rfl rfl) ?_
      refine h_auto TY_ok hst rfl ?_
      refine h_is 150 false rfl (by rw [hbf, decide_eq_true rfl]; rfl) (h_auto TY_ok hst rfl ?_)
      refine h_callS (F' := ObjF g 48 (dkP size A3 c3 l' (s' : Int))) (r := .v (.int .i64 (l'.length : Int))) hst [pD g] rfl rfl rfl rfl own_dlen rfl rfl (fun _ => rfl) trivial (dlen_T g size A3 c3 l' (s' : Int)) (obj_own 1 rfl) ?_
      refine h_auto TY_ok hst rfl ?_
      refine h_is 157 false rfl (decide_eq_false fun h => h rfl) (h_auto TY_ok hst rfl ?_)
      refine h_callS (F' := ObjF g 48 (dkP size A3 c3 l' (s' : Int))) (r := .v (.int .i64 (s' : Int))) hst [pD g] rfl rfl rfl rfl own_dsafe rfl rfl (fun _ => rfl) trivial (dsafe_T g size A3 c3 l' (s' : Int)) (obj_own 1 rfl) ?_
      refine h_auto TY_ok hst rfl ?_
      refine h_callS (F' := fun w => ObjF g2 31 (rkP size A4 (btD l' s').length c4) w ∧ Rd 2 eBt A4 c4 (btD l' s') w) (r := .v (.int .i64 (cntS (btD l' s') : Int))) hst [pD g2] rfl rfl rfl rfl own_rksafe rfl rfl (fun _ => rfl) trivial (rksafe_T g2 size A4 c4 (btD l' s') (by omega)) (fun _ _ w hv => ⟨obj_own 3 rfl _ _ w hv, rd_ownL 4 rfl _ _ w hv⟩) ?_
      refine h_auto TY_ok hst rfl ?_
      refine h_end hst ?_
      refine s_end (hKc _ ?_)
      refine s_ifD ((s' : Int) ≠ (cntS (btD l' s') : Int)) rfl (fun h => absurd (by rw [hbc]) h) fun _ => ?_
      refine s_skip (hKb _ ?_)
      refine s_auto TY_ok rfl ?_
      refine s_block ?_
      let F5 : Nat × List UInt8 → Env := fun x => ⟨[(166, .v (.int .i64 (x.1 : Int))), (165, .v (.int .i64 (l'.length : Int))), (15, .v (.slice A5 l'.length c5)), (44, .v (.int .i64 (i : Int))), (43, .v (.int .i64 (ops.length : Int))), (42, .v (.slice S ops.length d)), (7, .v (pD g2)), (5, .v (pD g))], [], [DkB A5 c5 x.2, DkO g size A3 c3 l' (s' : Int), DkB A3 c3 l', RkO g2 size A4 (btD l' s').length c4, RkB A4 c4 (btD l' s')], ScrF S d ops, fun _ => True⟩
      refine c_weak (e' := F5 (0, l')) ⟨⟨rfl, rfl, rfl, rfl, rfl, rfl, rfl, rfl, trivial⟩, trivial, .refl _, fun _ h _ => h.2, fun _ _ => trivial⟩ (s_loop (fun x => l'.length - x.1) F5 (fun x => x.1 ≤ l'.length ∧ x.2.length = l'.length) ?_ (0, l') ⟨Nat.zero_le _, rfl⟩)
      intro ⟨j, m⟩ ⟨hj, hm⟩
      dsimp only at hj hm
      refine s_auto TY_ok rfl ?_
      refine s_seq fun Kd hKd => ?_
      refine s_ifD ((j : Int) < (l'.length : Int)) rfl (fun hltj => ?_) (fun hgej => ?_)
      · have hltj : j < l'.length := by omega
        obtain ⟨y, hy⟩ : ∃ y, m[j]? = some y := ⟨_, List.getElem?_eq_getElem (by omega)⟩
        refine s_skip (hKd _ ?_)
        refine s_seq fun Ke hKe => ?_
        refine s_block ?_
        refine s_auto TY_ok rfl ?_
        refine s_lit ?_
        refine l_autoS TY_ok rfl ?_
        refine l_elem TY_ok rfl rfl rfl j rfl hy hm.symm rfl (rd_own 0 rfl) ?_
        obtain ⟨y2, hy2⟩ := xor_b255 y
        refine l_op (.v (.int .u8 (bits .xor .u8 (y.toNat : Int) 255))) trivial rfl rfl rfl (run_xor rfl rfl rfl) ?_
        refine l_eq 173 (.v (.int .u8 (y2.toNat : Int))) rfl (by rw [hy2]) ?_
        refine l_place TY_ok 0 y2 j rfl rfl rfl rfl rfl rfl hm.symm rfl (by show j < m.length; omega) (eB_ok _) ?_
        refine s_end (hKe _ ?_)
        refine s_autoE TY_ok rfl ?_
        exact k_next (j + 1, m.set j y2) ⟨hltj, by show (m.set j y2).length = _; rw [List.length_set]; exact hm⟩ (by show l'.length - (j + 1) < l'.length - j; omega) ⟨⟨congrArg some (congrArg SV.v (congrArg (Value.int .i64) (wrapI rfl (by omega) (by omega)))), rfl, rfl, rfl, rfl, rfl, rfl, rfl, trivial⟩, trivial, .refl _, fun _ h _ => h, fun _ h => h⟩
      · refine s_exit (k_pass (k_pass (k_out ?_)))
        refine k_drop 0 rfl ?_
        refine hK11 _ ?_
        refine s_autoE TY_ok rfl ?_
        exact k_next (i + 1, l', s', (A3, c3), A4, c4) ⟨hlt, by show i + 1 ≤ 50; omega, hl', hls', hs'⟩ (by show ops.length - (i + 1) < ops.length - i; omega) ⟨⟨congrArg some (congrArg SV.v (congrArg (Value.int .i64) (wrapI rfl (by omega) (by omega)))), rfl, rfl, rfl, rfl, trivial⟩, trivial, .refl _, fun _ h _ => h, fun _ h => h⟩
    obtain ⟨k, hk4, ek⟩ := tmod_nat o.kd 4 (by decide)
    refine s_regA TY_ok rfl fun K15 hK15 => ?_
    refine l_num 54 (k : Int) rfl ek ?_
    refine s_end (hK15 _ ?_)
    refine s_block ?_
    refine s_auto TY_ok rfl ?_
    refine s_ifD ((k : Int) = 0) rfl (fun _ => ?_) (fun _ => ?_)
    · have hap := apL_le size l o.l hls
      refine s_regA TY_ok rfl fun Ka hKa => ?_
      refine l_list0 (e := 5) (sz := 1) 0 eB rfl rfl rfl rfl (Nat.zero_le _) (fun w => by go_simp) fun B0 => ?_
      refine l_autoS TY_ok rfl ?_
      refine l_appY TY_ok 0 o.l rfl rfl rfl rfl rfl rfl rfl rfl rfl (rd_fact fun w h _ => h.2 o hom) (by decide) (by show (0 + o.l.length) * 1 ≤ _; omega) (by show 0 + o.l.length ≤ _; omega) (Nat.zero_le _) fun Ao co => ?_
      refine l_autoS TY_ok rfl ?_
      refine s_end (hKa _ ?_)
      obtain ⟨k2, hk2⟩ : ∃ k2, o.l.length / 2 = k2 := ⟨_, rfl⟩
      have hk2l : k2 ≤ o.l.length := by omega
      have t1 : (o.l.take k2).length = k2 := by rw [List.length_take]; omega
      have t2 : (o.l.drop k2).length = o.l.length - k2 := List.length_drop
      refine s_regA TY_ok rfl fun Kb hKb => ?_
      refine l_num 11 (k2 : Int) rfl (by rw [← hk2]; exact wrapQ o.l.length 2 (by omega)) ?_
      refine s_end (k_weak (e' := ⟨[(11, .v (.int .i64 (k2 : Int))), (10, .v (.slice Ao o.l.length co)), (9, .a 9 0), (44, .v (.int .i64 (i : Int))), (43, .v (.int .i64 (ops.length : Int))), (42, .v (.slice S ops.length d)), (7, .v (pD g2)), (5, .v (pD g))], [⟨9, none, 34, o.parts⟩], [DkO g size A1 c1 l (s : Int), DkB A1 c1 l, RkO g2 size A2 (btD l s).length c2, RkB A2 c2 (btD l s), DkB Ao co o.l], ScrF S d ops, fun _ => True⟩) ⟨⟨rfl, rfl, rfl, rfl, rfl, rfl, rfl, rfl, trivial⟩, ⟨rfl, rfl, trivial⟩, List.perm_append_comm (l₁ := [DkB Ao co o.l]) (l₂ := [DkO g size A1 c1 l (s : Int), DkB A1 c1 l, RkO g2 size A2 (btD l s).length c2, RkB A2 c2 (btD l s)]), fun _ h _ => h, fun _ _ => trivial⟩ (hKb _ ?_))
      refine s_own 4 rfl fun _ hco hAo => ?_
      refine s_pure (o.l.length ≤ o.c ∧ (o.A = none → o.c = 0)) (fun w h _ => ⟨(h.2 o hom).1, (h.2 o hom).2.2.1⟩) fun ⟨hoc, hoA⟩ => ?_
      refine s_seq fun Kc hKc => ?_
      refine s_anyP [0, 1, 2, 3, 4, 5, 6] 8 2 (InvL []) (by kernel_rfl) rfl (fun _ _ _ x hx => by cases hx) ?_
      refine p_front TY_ok 0 (by kernel_rfl) rfl rfl rfl rfl rfl rfl (fun _ h => (by cases h)) ?_
      refine p_front TY_ok 1 (by kernel_rfl) rfl rfl rfl rfl rfl rfl (fun _ h => (by cases h)) ?_
      refine p_front TY_ok 2 (by kernel_rfl) rfl rfl rfl rfl rfl rfl (fun _ h => (by cases h)) ?_
      refine p_frontO (.v (.slice Ao (o.l.take k2).length co)) trivial 3 (by kernel_rfl) rfl rfl rfl rfl rfl (by rw [t1]; exact run_cutHi (e := 5) (sz := 1) (by kernel_rfl) (by omega) hAo rfl Try.underlying32 rfl rfl) ?_
      refine p_front TY_ok 4 (by kernel_rfl) rfl rfl rfl rfl rfl rfl (fun _ h => (by cases h)) ?_
      refine p_front TY_ok 5 (by kernel_rfl) rfl rfl rfl rfl rfl rfl (fun _ h => (by cases h)) ?_
      refine p_frontO (.v (.slice (cutA Ao co k2) (o.l.drop k2).length (co - k2))) trivial 6 (by kernel_rfl) rfl rfl rfl rfl rfl (by rw [t2]; exact run_cutLo hk2l hco hAo rfl rfl rfl) ?_
      refine p_step 7 (by kernel_rfl) rfl fun Kd hKd => ?_
      refine l_list TY_ok b.B.heap.size [⟨Ao, co, o.l.take k2⟩, ⟨none, 0, []⟩, ⟨cutA Ao co k2, co - k2, o.l.drop k2⟩] (fe := eSeg) rfl rfl rfl rfl rfl (fun _ => rfl) rfl (by decide) (by decide) (okF_seg _) (Nat.le_refl _) fun B1 => ?_
      refine l_freeM 0 rfl (Nat.le_refl _) ?_
      refine s_end (hKd _ (fun _ _ _ x hx => by cases hx) ?_)
      refine p_tail [8, 9] (by kernel_rfl) rfl ?_
      have hsg : segs [⟨Ao, co, o.l.take k2⟩, ⟨none, 0, []⟩, ⟨cutA Ao co k2, co - k2, o.l.drop k2⟩] = o.l := by rw [seg3, List.take_append_drop]
      have hd := dapp_S g size A1 c1 l (s : Int) B1 3 [⟨Ao, co, o.l.take k2⟩, ⟨none, 0, []⟩, ⟨cutA Ao co k2, co - k2, o.l.drop k2⟩] hsz hls (by rw [hsg]; omega)
      rw [hsg] at hd
      refine l_callC (own := [DkO g size A1 c1 l (s : Int), DkB A1 c1 l]) (R' := [RkO g2 size A2 (btD l s).length c2, RkB A2 c2 (btD l s), DkB Ao co o.l]) (fun _ => [pD g, .slice B1 3 3]) rfl rfl rfl own_dapp rfl rfl (fun _ _ => rfl) (fun _ w => Rd 1 eSeg B1 3 [⟨Ao, co, o.l.take k2⟩, ⟨none, 0, []⟩, ⟨cutA Ao co k2, co - k2, o.l.drop k2⟩] w ∧ ∀ s ∈ ([⟨Ao, co, o.l.take k2⟩, ⟨none, 0, []⟩, ⟨cutA Ao co k2, co - k2, o.l.drop k2⟩] : List Seg), s.rd w) (fun _ => hd) (fun G Sx w hv => ⟨hv.fresh.1, fun sg hsg => ?_⟩) fun ⟨A3, c3⟩ => ?_
      · have h0 := rd_own 2 rfl G Sx w hv
        simp only [List.mem_cons, List.not_mem_nil, or_false] at hsg
        rcases hsg with rfl | rfl | rfl
        · exact h0.take k2
        · exact Rd.nil _ _ _
        · exact h0.part hk2l
      refine l_R [DkO g size A3 c3 (apL size l o.l) (s : Int), DkB A3 c3 (apL size l o.l), RkO g2 size A2 (btD l s).length c2, RkB A2 c2 (btD l s), DkB Ao co o.l] rfl ?_
      refine l_autoS TY_ok rfl ?_
      refine s_end (k_weak (e' := ⟨[(12, .v (.int .i64 (apE size l o.l : Int))), (11, .v (.int .i64 (k2 : Int))), (10, .v (.slice Ao o.l.length co)), (9, .a 9 0), (44, .v (.int .i64 (i : Int))), (43, .v (.int .i64 (ops.length : Int))), (42, .v (.slice S ops.length d)), (7, .v (pD g2)), (5, .v (pD g))], [⟨9, none, 34, o.parts⟩], [RkO g2 size A2 (btD l s).length c2, RkB A2 c2 (btD l s), DkO g size A3 c3 (apL size l o.l) (s : Int), DkB A3 c3 (apL size l o.l), DkB Ao co o.l], ScrF S d ops, fun _ => True⟩) ⟨⟨rfl, rfl, rfl, rfl, rfl, rfl, rfl, rfl, rfl, trivial⟩, ⟨rfl, rfl, trivial⟩, List.Perm.append_right [DkB Ao co o.l] (List.perm_append_comm (l₁ := [DkO g size A3 c3 (apL size l o.l) (s : Int), DkB A3 c3 (apL size l o.l)]) (l₂ := [RkO g2 size A2 (btD l s).length c2, RkB A2 c2 (btD l s)])), fun _ h _ => h, fun _ _ => trivial⟩ (hKc _ ?_))
      refine s_seq fun Ke hKe => ?_
      have rest : ∀ (A4 : Option Addr) (c4 : Nat), kS b Ke 206 ⟨[(10, .v (.slice Ao o.l.length co)), (44, .v (.int .i64 (i : Int))), (43, .v (.int .i64 (ops.length : Int))), (42, .v (.slice S ops.length d)), (7, .v (pD g2)), (5, .v (pD g))], [], [RkO g2 size A4 (btD (apL size l o.l) s).length c4, RkB A4 c4 (btD (apL size l o.l) s), DkO g size A3 c3 (apL size l o.l) (s : Int), DkB A3 c3 (apL size l o.l), DkB Ao co o.l], ScrF S d ops, fun _ => True⟩ := by
        intro A4 c4
        refine hKe _ ?_
        refine s_auto TY_ok rfl ?_
        refine s_block ?_
        let F6 : Nat × List UInt8 → Env := fun x => ⟨[(116, .v (.int .i64 (x.1 : Int))), (115, .v (.int .i64 (o.l.length : Int))), (10, .v (.slice Ao o.l.length co)), (44, .v (.int .i64 (i : Int))), (43, .v (.int .i64 (ops.length : Int))), (42, .v (.slice S ops.length d)), (7, .v (pD g2)), (5, .v (pD g))], [], [RkO g2 size A4 (btD (apL size l o.l) s).length c4, RkB A4 c4 (btD (apL size l o.l) s), DkO g size A3 c3 (apL size l o.l) (s : Int), DkB A3 c3 (apL size l o.l), DkB Ao co x.2], ScrF S d ops, fun _ => True⟩
        refine c_weak (e' := F6 (0, o.l)) ⟨⟨rfl, rfl, rfl, rfl, rfl, rfl, rfl, rfl, trivial⟩, trivial, .refl _, fun _ h _ => h, fun _ _ => trivial⟩ (s_loop (fun x => o.l.length - x.1) F6 (fun x => x.1 ≤ o.l.length ∧ x.2.length = o.l.length) ?_ (0, o.l) ⟨Nat.zero_le _, rfl⟩)
        intro ⟨j, m⟩ ⟨hj, hm⟩
        dsimp only at hj hm
        refine s_auto TY_ok rfl ?_
        refine s_seq fun Kg hKg => ?_
        refine s_ifD ((j : Int) < (o.l.length : Int)) rfl (fun hltj => ?_) (fun hgej => ?_)
        · have hltj : j < o.l.length := by omega
          obtain ⟨y, hy⟩ : ∃ y, m[j]? = some y := ⟨_, List.getElem?_eq_getElem (by omega)⟩
          refine s_skip (hKg _ ?_)
          refine s_seq fun Kh hKh => ?_
          refine s_block ?_
          refine s_auto TY_ok rfl ?_
          refine s_lit ?_
          refine l_autoS TY_ok rfl ?_
          refine l_elem TY_ok rfl rfl rfl j rfl hy hm.symm rfl (rd_own 4 rfl) ?_
          obtain ⟨y2, hy2⟩ := xor_b255 y
          refine l_op (.v (.int .u8 (bits .xor .u8 (y.toNat : Int) 255))) trivial rfl rfl rfl (run_xor rfl rfl rfl) ?_
          refine l_eq 123 (.v (.int .u8 (y2.toNat : Int))) rfl (by rw [hy2]) ?_
          refine l_place TY_ok 4 y2 j rfl rfl rfl rfl rfl rfl hm.symm rfl (by show j < m.length; omega) (eB_ok _) ?_
          refine s_end (hKh _ ?_)
          refine s_autoE TY_ok rfl ?_
          exact k_next (j + 1, m.set j y2) ⟨hltj, by show (m.set j y2).length = _; rw [List.length_set]; exact hm⟩ (by show o.l.length - (j + 1) < o.l.length - j; omega) ⟨⟨congrArg some (congrArg SV.v (congrArg (Value.int .i64) (wrapI rfl (by omega) (by omega)))), rfl, rfl, rfl, rfl, rfl, rfl, rfl, trivial⟩, trivial, .refl _, fun _ h _ => h, fun _ h => h⟩
        · refine s_exit (k_pass (k_pass (k_out ?_)))
          refine k_drop 4 rfl ?_
          refine k_weak ?_ (tail (apL size l o.l) s A3 c3 A4 c4 (by omega) hap.2.2 (by omega))
          exact ⟨⟨rfl, rfl, rfl, rfl, rfl, trivial⟩, trivial, List.perm_append_comm (l₁ := [RkO g2 size A4 (btD (apL size l o.l) s).length c4, RkB A4 c4 (btD (apL size l o.l) s)]) (l₂ := [DkO g size A3 c3 (apL size l o.l) (s : Int), DkB A3 c3 (apL size l o.l)]), fun _ h _ => h, fun _ h => h⟩
      refine s_seq fun Kf hKf => ?_
      refine s_locs fun Gl => ?_
      refine s_anyP [0, 1, 2, 3, 4, 5, 6, 7, 8, 11, 12] 13 9 (InvL (withG Gl [⟨9, none, 34, o.parts⟩])) (by kernel_rfl) rfl (inv_of withG_is) ?_
      refine p_front TY_ok 0 (by kernel_rfl) rfl rfl rfl rfl rfl rfl (fun _ h => h) ?_
      refine p_front TY_ok 1 (by kernel_rfl) rfl rfl rfl rfl rfl rfl (fun _ h => h) ?_
      refine p_front TY_ok 2 (by kernel_rfl) rfl rfl rfl rfl rfl rfl (fun _ h => h) ?_
      refine p_front TY_ok 3 (by kernel_rfl) rfl rfl rfl rfl rfl rfl (fun _ h => h) ?_
      refine p_frontO (.v (.slice o.A (o.l.take k2).length o.c)) trivial 4 (by kernel_rfl) rfl rfl rfl rfl rfl (by rw [t1]; exact run_cutHi (e := 5) (sz := 1) (by kernel_rfl) (by omega) hoA rfl Try.underlying32 rfl rfl) ?_
      refine p_front TY_ok 5 (by kernel_rfl) rfl rfl rfl rfl rfl rfl (fun _ h => h) ?_
      refine p_front TY_ok 6 (by kernel_rfl) rfl rfl rfl rfl rfl rfl (fun _ h => h) ?_
      refine p_front TY_ok 7 (by kernel_rfl) rfl rfl rfl rfl rfl rfl (fun _ h => h) ?_
      refine p_frontO (.v (.slice (cutA o.A o.c k2) (o.l.drop k2).length (o.c - k2))) trivial 8 (by kernel_rfl) rfl rfl rfl rfl rfl (by rw [t2]; exact run_cutLo hk2l hoc hoA rfl rfl rfl) ?_
      refine p_front TY_ok 11 (by kernel_rfl) rfl rfl rfl rfl rfl rfl (fun _ h => h) ?_
      refine p_front TY_ok 12 (by kernel_rfl) rfl rfl rfl rfl rfl rfl (fun _ h => h) ?_
      refine p_step 9 (by kernel_rfl) rfl fun Kg hKg => ?_
      refine l_list TY_ok b.B.heap.size [⟨o.A, o.c, o.l.take k2⟩, ⟨cutA o.A o.c k2, o.c - k2, o.l.drop k2⟩] (fe := eSeg) rfl rfl rfl rfl rfl (fun _ => rfl) rfl (by decide) (by decide) (okF_seg _) (Nat.le_refl _) fun B2 => ?_
      refine l_freeM 0 rfl (Nat.le_refl _) ?_
      refine s_end (hKg _ (inv_of withG_is) ?_)
      refine p_step 10 (by kernel_rfl) rfl fun Kh hKh => ?_
      have hsg2 : segs [⟨o.A, o.c, o.l.take k2⟩, ⟨cutA o.A o.c k2, o.c - k2, o.l.drop k2⟩] = o.l := by rw [seg2, List.take_append_drop]
      have hr := rkapp_S g2 size A2 c2 (btD l s) B2 2 [⟨o.A, o.c, o.l.take k2⟩, ⟨cutA o.A o.c k2, o.c - k2, o.l.drop k2⟩] (by rw [hsg2, btD_len]; omega)
      rw [hsg2, btD_apL size l o.l hs] at hr
      refine l_callA [pD g2, .slice B2 2 2] rfl rfl rfl own_rkapp rfl rfl (fun _ _ => rfl) hr (fun w h1 h => ⟨h.1, fun sg hsg => ?_⟩) fun ⟨A4, c4⟩ => ?_
      · have h0 := h1.2 o hom
        simp only [List.mem_cons, List.not_mem_nil, or_false] at hsg
        rcases hsg with rfl | rfl
        · exact h0.take k2
        · exact h0.part hk2l
      refine l_R [RkO g2 size A4 (btD (apL size l o.l) s).length c4, RkB A4 c4 (btD (apL size l o.l) s), DkO g size A3 c3 (apL size l o.l) (s : Int), DkB A3 c3 (apL size l o.l), DkB Ao co o.l] rfl ?_
      refine s_end (hKh _ (inv_of withG_is) ?_)
      refine p_tail [13, 14, 15, 16, 17, 18, 19, 20, 21] (by kernel_rfl) rfl ?_
      refine l_op (.b (!(decide (((btD l s).length : Int) + (o.l.length : Int) ≤ size) == decide ((apE size l o.l : Int) = 0)))) trivial rfl rfl rfl (run_neqBoolW rfl rfl rfl (fun _ => rfl) (fun _ => rfl)) ?_
      by_cases hfit : (l.length : Int) + o.l.length ≤ size
      · have he : apE size l o.l = 0 := if_pos hfit
        refine l_is 105 false rfl (by rw [btD_len, decide_eq_true hfit, he]; rfl) (l_autoS TY_ok rfl ?_)
        refine l_is 109 false rfl (by rw [he]; rfl) (l_autoS TY_ok rfl ?_)
        refine s_end (k_noloc (hKf _ ?_))
        refine s_no rfl ?_
        refine s_skip (k_weak ?_ (rest A4 c4))
        exact ⟨⟨rfl, rfl, rfl, rfl, rfl, rfl, trivial⟩, trivial, .refl _, fun _ h _ => h.2, fun _ _ => trivial⟩
      · have he : apE size l o.l = 140 := if_neg hfit
        refine l_is 105 false rfl (by rw [btD_len, decide_eq_false hfit, he]; rfl) (l_autoS TY_ok rfl ?_)
        refine l_is 109 true rfl (by rw [he]; rfl) (l_autoS TY_ok rfl ?_)
        refine s_end (k_noloc (hKf _ ?_))
        refine s_ifD ((apE size l o.l : Int) ≠ 140) rfl (fun h => absurd (by rw [he]; rfl) h) fun _ => ?_
        refine s_skip (k_weak ?_ (rest A4 c4))
        exact ⟨⟨rfl, rfl, rfl, rfl, rfl, rfl, trivial⟩, trivial, .refl _, fun _ h _ => h.2, fun _ _ => trivial⟩
    refine s_auto TY_ok rfl ?_
    refine s_ifD ((k : Int) = 1) rfl (fun _ => ?_) (fun _ => ?_)
    · refine s_regA TY_ok rfl fun Ka hKa => ?_
      refine l_callA [pD g] rfl rfl rfl own_dsync rfl rfl (fun _ _ => rfl) (dsync_S g size A1 c1 l (s : Int)) (fun _ _ _ => trivial) fun _ => ?_
      refine l_R [DkO g size A1 c1 l (l.length : Int), DkB A1 c1 l, RkO g2 size A2 (btD l s).length c2, RkB A2 c2 (btD l s)] rfl ?_
      refine s_end (k_weak (e' := ⟨[(44, .v (.int .i64 (i : Int))), (43, .v (.int .i64 (ops.length : Int))), (42, .v (.slice S ops.length d)), (7, .v (pD g2)), (5, .v (pD g))], [], [RkO g2 size A2 (btD l s).length c2, RkB A2 c2 (btD l s), DkO g size A1 c1 l (l.length : Int), DkB A1 c1 l], ScrF S d ops, fun _ => True⟩) ⟨⟨rfl, rfl, rfl, rfl, rfl, trivial⟩, trivial, List.perm_append_comm (l₁ := [DkO g size A1 c1 l (l.length : Int), DkB A1 c1 l]) (l₂ := [RkO g2 size A2 (btD l s).length c2, RkB A2 c2 (btD l s)]), fun _ h _ => h.2, fun _ _ => trivial⟩ (hKa _ ?_))
      refine s_lit ?_
      refine l_autoS TY_ok rfl ?_
      refine l_callA [pD g2] rfl rfl rfl own_rksync rfl rfl (fun _ _ => rfl) (rksync_S g2 size A2 c2 (btD l s) (by rw [btD_len]; omega)) (fun _ _ _ => trivial) fun _ => ?_
      refine l_R [RkO g2 size A2 (safeB (btD l s)).length c2, RkB A2 c2 (safeB (btD l s)), DkO g size A1 c1 l (l.length : Int), DkB A1 c1 l] rfl ?_
      rw [btD_sync]
      refine s_end (k_weak ?_ (tail l l.length A1 c1 A2 c2 hl1 hls (Nat.le_refl _)))
      exact ⟨⟨rfl, rfl, rfl, rfl, rfl, trivial⟩, trivial, List.perm_append_comm (l₁ := [RkO g2 size A2 (btD l l.length).length c2, RkB A2 c2 (btD l l.length)]) (l₂ := [DkO g size A1 c1 l (l.length : Int), DkB A1 c1 l]), fun _ h _ => h.2, fun _ _ => trivial⟩
    refine s_auto TY_ok rfl ?_
    refine s_ifD ((k : Int) = 2) rfl (fun _ => ?_) (fun _ => ?_)
    · refine s_regA TY_ok rfl fun Ka hKa => ?_
      refine l_callA [pD g, .int .i64 o.n] rfl rfl rfl own_dcrash rfl rfl (fun _ _ => rfl) (dcrash_S g size o.n A1 c1 l s hs (by omega)) (fun _ _ _ => trivial) fun _ => ?_
      have q2 : crashN o.n s l.length ≤ l.length := by unfold crashN; omega
      have q3 := btD_crash l o.n hs
      generalize hq : crashN o.n s l.length = m at q2 q3
      have e3 : (l.take m).length = m := by rw [List.length_take]; omega
      refine l_R [DkO g size A1 c1 (l.take m) (m : Int), DkB A1 c1 (l.take m), RkO g2 size A2 (btD l s).length c2, RkB A2 c2 (btD l s)] (by rw [← hq]; rfl) ?_
      refine s_end (k_weak (e' := ⟨(9, .a 9 0) :: [(44, .v (.int .i64 (i : Int))), (43, .v (.int .i64 (ops.length : Int))), (42, .v (.slice S ops.length d)), (7, .v (pD g2)), (5, .v (pD g))], [⟨9, none, 34, o.parts⟩], [RkO g2 size A2 (btD l s).length c2, RkB A2 c2 (btD l s), DkO g size A1 c1 (l.take m) (m : Int), DkB A1 c1 (l.take m)], ScrF S d ops, fun _ => True⟩) ⟨⟨rfl, rfl, rfl, rfl, rfl, rfl, trivial⟩, ⟨rfl, rfl, trivial⟩, List.perm_append_comm (l₁ := [DkO g size A1 c1 (l.take m) (m : Int), DkB A1 c1 (l.take m)]) (l₂ := [RkO g2 size A2 (btD l s).length c2, RkB A2 c2 (btD l s)]), fun _ h _ => h.2, fun _ _ => trivial⟩ (hKa _ ?_))
      refine s_lit ?_
      refine l_autoS TY_ok rfl ?_
      refine l_callA [pD g2, .int .i64 o.n] rfl rfl rfl own_rkcrash rfl rfl (fun _ _ => rfl) (rkcrash_S g2 size o.n A2 c2 (btD l s) (by rw [btD_len]; omega) hon) (fun _ _ _ => trivial) fun ⟨A6, c6⟩ => ?_
      refine l_R [RkO g2 size A6 (crF o.n (btD l s)).length c6, RkB A6 c6 (crF o.n (btD l s)), DkO g size A1 c1 (l.take m) (m : Int), DkB A1 c1 (l.take m)] rfl ?_
      rw [q3]
      refine s_end (k_weak ?_ (tail (l.take m) m A1 c1 A6 c6 (by omega) (by omega) (by omega)))
      exact ⟨⟨rfl, rfl, rfl, rfl, rfl, trivial⟩, trivial, List.perm_append_comm (l₁ := [RkO g2 size A6 (btD (l.take m) m).length c6, RkB A6 c6 (btD (l.take m) m)]) (l₂ := [DkO g size A1 c1 (l.take m) (m : Int), DkB A1 c1 (l.take m)]), fun _ h _ => h.2, fun _ _ => trivial⟩
    by_cases hcut : 0 ≤ o.n ∧ o.n ≤ (l.length : Int)
    · obtain ⟨n, hn⟩ : ∃ n : Nat, o.n = (n : Int) := ⟨o.n.toNat, by omega⟩
      have hnl : n ≤ l.length := by omega
      have e3 : (l.take n).length = n := by rw [List.length_take]; omega
      refine s_regA TY_ok rfl fun Ka hKa => ?_
      refine l_num 57 (n : Int) rfl hn ?_
      refine l_callA [pD g, .int .i64 (n : Int)] rfl rfl rfl own_dcut rfl rfl (fun _ _ => rfl) (dcut_S g size n A1 c1 l s hnl) (fun _ _ _ => trivial) fun _ => ?_
      refine l_R [DkO g size A1 c1 (l.take n) (min s n : Nat), DkB A1 c1 (l.take n), RkO g2 size A2 (btD l s).length c2, RkB A2 c2 (btD l s)] rfl ?_
      refine l_autoS TY_ok rfl ?_
      refine s_end (k_weak (e' := ⟨(14, .v (.int .i64 0)) :: (9, .a 9 0) :: [(44, .v (.int .i64 (i : Int))), (43, .v (.int .i64 (ops.length : Int))), (42, .v (.slice S ops.length d)), (7, .v (pD g2)), (5, .v (pD g))], [⟨9, none, 34, o.parts⟩], [RkO g2 size A2 (btD l s).length c2, RkB A2 c2 (btD l s), DkO g size A1 c1 (l.take n) (min s n : Nat), DkB A1 c1 (l.take n)], ScrF S d ops, fun _ => True⟩) ⟨⟨rfl, rfl, rfl, rfl, rfl, rfl, rfl, trivial⟩, ⟨rfl, rfl, trivial⟩, List.perm_append_comm (l₁ := [DkO g size A1 c1 (l.take n) (min s n : Nat), DkB A1 c1 (l.take n)]) (l₂ := [RkO g2 size A2 (btD l s).length c2, RkB A2 c2 (btD l s)]), fun _ h _ => h.2, fun _ _ => trivial⟩ (hKa _ ?_))
      refine s_regA TY_ok rfl fun Kc hKc => ?_
      refine l_num 61 (n : Int) rfl hn ?_
      refine l_callA [pD g2, .int .i64 (n : Int)] rfl rfl rfl own_rkcut rfl rfl (fun _ _ => rfl) (rkcut_S g2 size n A2 c2 (btD l s) (by rw [btD_len]; exact hnl)) (fun _ _ _ => trivial) fun _ => ?_
      refine l_R [RkO g2 size A2 ((btD l s).take n).length n, RkB A2 n ((btD l s).take n), DkO g size A1 c1 (l.take n) (min s n : Nat), DkB A1 c1 (l.take n)] rfl ?_
      rw [btD_take l s n hnl]
      refine l_autoS TY_ok rfl ?_
      refine l_op (.b (!(true == decide ((0 : Int) = 0)))) trivial rfl rfl rfl (run_neqBoolW rfl rfl rfl (fun _ => rfl) (fun _ => rfl)) ?_
      refine l_is 65 false rfl rfl (l_autoS TY_ok rfl ?_)
      refine l_is 69 false rfl rfl (l_autoS TY_ok rfl ?_)
      refine s_end (hKc _ ?_)
      refine s_no rfl ?_
      refine s_skip (k_weak ?_ (tail (l.take n) (min s n) A1 c1 A2 n (by omega) (by omega) (by omega)))
      exact ⟨⟨rfl, rfl, rfl, rfl, rfl, trivial⟩, trivial, List.perm_append_comm (l₁ := [RkO g2 size A2 (btD (l.take n) (min s n)).length n, RkB A2 n (btD (l.take n) (min s n))]) (l₂ := [DkO g size A1 c1 (l.take n) (min s n : Nat), DkB A1 c1 (l.take n)]), fun _ h _ => h.2, fun _ _ => trivial⟩
    · refine s_regA TY_ok rfl fun Ka hKa => ?_
      refine l_callA [pD g, .int .i64 o.n] rfl rfl rfl own_dcut rfl rfl (fun _ _ => rfl) (dcut_bad g size o.n A1 c1 l (s : Int) (by omega)) (fun _ _ _ => trivial) fun _ => ?_
      refine l_R [DkO g size A1 c1 l (s : Int), DkB A1 c1 l, RkO g2 size A2 (btD l s).length c2, RkB A2 c2 (btD l s)] rfl ?_
      refine l_autoS TY_ok rfl ?_
      refine s_end (k_weak (e' := ⟨(14, .v (.int .i64 2)) :: (9, .a 9 0) :: [(44, .v (.int .i64 (i : Int))), (43, .v (.int .i64 (ops.length : Int))), (42, .v (.slice S ops.length d)), (7, .v (pD g2)), (5, .v (pD g))], [⟨9, none, 34, o.parts⟩], [RkO g2 size A2 (btD l s).length c2, RkB A2 c2 (btD l s), DkO g size A1 c1 l (s : Int), DkB A1 c1 l], ScrF S d ops, fun _ => True⟩) ⟨⟨rfl, rfl, rfl, rfl, rfl, rfl, rfl, trivial⟩, ⟨rfl, rfl, trivial⟩, List.perm_append_comm (l₁ := [DkO g size A1 c1 l (s : Int), DkB A1 c1 l]) (l₂ := [RkO g2 size A2 (btD l s).length c2, RkB A2 c2 (btD l s)]), fun _ h _ => h.2, fun _ _ => trivial⟩ (hKa _ ?_))
      refine s_regA TY_ok rfl fun Kc hKc => ?_
      refine l_callA [pD g2, .int .i64 o.n] rfl rfl rfl own_rkcut rfl rfl (fun _ _ => rfl) (rkcut_bad g2 size o.n A2 c2 (btD l s).length (by rw [btD_len]; omega)) (fun _ _ _ => trivial) fun _ => ?_
      refine l_R [RkO g2 size A2 (btD l s).length c2, RkB A2 c2 (btD l s), DkO g size A1 c1 l (s : Int), DkB A1 c1 l] rfl ?_
      refine l_autoS TY_ok rfl ?_
      refine l_op (.b (!(false == decide ((2 : Int) = 0)))) trivial rfl rfl rfl (run_neqBoolW rfl rfl rfl (fun _ => rfl) (fun _ => rfl)) ?_
      refine l_is 65 false rfl rfl (l_autoS TY_ok rfl ?_)
      refine l_is 69 true rfl rfl (l_autoS TY_ok rfl ?_)
      refine s_end (hKc _ ?_)
      refine s_ifD ((2 : Int) ≠ 2) rfl (fun h => absurd rfl h) fun _ => ?_
      refine s_skip (k_weak ?_ (tail l s A1 c1 A2 c2 hl1 hls hs))
      exact ⟨⟨rfl, rfl, rfl, rfl, rfl, trivial⟩, trivial, List.perm_append_comm (l₁ := [RkO g2 size A2 (btD l s).length c2, RkB A2 c2 (btD l s)]) (l₂ := [DkO g size A1 c1 l (s : Int), DkB A1 c1 l]), fun _ h _ => h.2, fun _ _ => trivial⟩
  · refine s_exit (k_pass (k_pass (k_out ?_)))
    refine k_weak ?_ out
    exact ⟨⟨rfl, rfl, rfl, rfl, rfl, trivial⟩, trivial, .refl _, fun _ h _ => h, fun _ h => h⟩
end Go.Proofs.Ythkbejheedffjaa
/-
  FROM A WALK TO A LAW'S ROW: the arguments read behind the call as they read before; arrays of 32 bytes, opened.
-/
namespace Go.Proofs.Ythkbejheedffjaa
open Go.ChangeShapes Go.WideShapes Go.ChangeAt Go.RowKit

theorem own : ownKnob Try.prog.godebug = none := by kernel_rfl
theorem laidOut : laidOutB Try.prog = true := by kernel_rfl

section
variable {H : Type} {enc : TypeId × Value → H} {W W' : World}

/-- All arguments at once. -/
theorem trodAll_below : ∀ {ts : List TypeId} {vs : List Value} {ds : List (DataW H)} {p : List MemPlace}, (∀ t ∈ ts, Try.prog.readableRec t = true ∧ t < Try.prog.types.size) →
    DataW.TrodAll enc Try.prog W 0 (fun _ => true) true ts vs ds p → Below W.heap.size W W' → (∀ x ∈ p, x.block < W.heap.size) → DataW.TrodAll enc Try.prog W' 0 (fun b => decide (b < W.heap.size)) true ts vs ds p
  | [], _, _, _, _, h, _, _ => by
    obtain ⟨rfl, rfl, rfl⟩ := trodAll_nil h
    exact trodAll_mk0
  | t :: ts, _, _, _, hts, h, hb, hlt => by
    obtain ⟨v, vs', d, ds', p, q, rfl, rfl, rfl, h0, h1⟩ := trodAll_cons h
    obtain ⟨hr, hz⟩ := hts t (by simp)
    exact trodAll_cons_mk (Below.trod laidOut hr hz h0 hb (fun x hx => hlt x (by simp [hx]))) (trodAll_below (fun u hu => hts u (by simp [hu])) h1 hb (fun x hx => hlt x (by simp [hx])))

theorem law_post {f : Func} {s : ChangeSpec} {args : Array Value} {ds gs : List (DataW H)} {before : List MemPlace} (hf : f.resultTypes = #[4]) (hvars : s.vars = [])
    (hts : ∀ t ∈ f.params.toList, Try.prog.readableRec t = true ∧ t < Try.prog.types.size)
    (hW : DataW.Whole enc Try.prog f.params.toList s.vars false W args.toList ds gs before) (hs : s.fn H (ds ++ gs) = { results := [.lit (.bool true)], args := ds }) (hb : Below W.heap.size W W') :
    s.post enc Try.prog f false true false false W args (.bool true) W' := by
  have hW' := hW
  obtain ⟨p, q, hA, hV, rfl, _, _⟩ := hW
  rw [hvars] at hV
  obtain ⟨rfl, rfl⟩ := trodVars_none hV
  have hlt : ∀ x ∈ p, x.block < W.heap.size := fun x hx => hW'.lt x (by simp [hx])
  refine ⟨ds, [], p ++ [], [], p, [], hW', ?_, ?_, ?_, hb.frame _, fun h => by cases h⟩
  · rw [hs, hf]
    exact trodAll_mk1 (shut_bool Try.underlying4 true)
  · rw [hs]
    exact trodAll_below hts hA hb hlt
  · rw [hs, hvars]
    rfl
end

theorem cells8 : Try.prog.cellsOf 5 = 1 := by kernel_rfl
theorem one_of {l : List Value} {i : Nat} {v : Value} (h : (l.drop (i * 1)).take 1 = [v]) : l[i]? = some v := by
  rw [Nat.mul_one] at h
  have h1 : ((l.drop i).take 1)[0]? = some v := by rw [h]; rfl
  rw [List.getElem?_take, if_pos (by omega), List.getElem?_drop] at h1
  simpa using h1

/-! ### Arrays of 32 bytes -/
theorem okWide_array {P : Program} {w : World} {r : Reach} {base n : Nat} {t e : TypeId} {v : Value} (ht : P.underlying t = some (.array n e)) (h : Value.okWide P w r base t v) : ∃ cs, v = .agg cs ∧ cs.size = P.cellsOf t := by
  simp only [Value.okWide, ht] at h
  obtain ⟨cs, h1, h2, _⟩ := h
  exact ⟨cs, h1, h2⟩

theorem by_of {cs : List Value} (hl : cs.length = 32) (h : ∀ i, i < 32 → ∃ n : Int, cs[i]? = some (.int .u8 n) ∧ 0 ≤ n ∧ n < 256) : ∃ l : List UInt8, l.length = 32 ∧ cs = By l := by
  refine ⟨cs.map fun v => match v with | .int _ n => UInt8.ofNat n.toNat | _ => 0, by simp [hl], ?_⟩
  apply List.ext_getElem (by simp [By])
  intro i h1 h2
  obtain ⟨n, hn, h0, h3⟩ := h i (by omega)
  have e : cs[i] = .int .u8 n := by
    have := List.getElem?_eq_getElem h1
    rw [hn] at this
    exact (Option.some.inj this).symm
  simp only [By, List.getElem_map, e]
  congr 1
  rw [UInt8.toNat_ofNat']
  omega

end Go.Proofs.Ythkbejheedffjaa
/-
  FROM A WALK TO A LAW'S ROW: slices of anything, opened; hashes.
-/
namespace Go.Proofs.Ythkbejheedffjaa
open Go.RowKit Go.IntWalk
open Go.ChangeShapes Go.WideShapes Go.ChangeAt

theorem pick_list {α : Type} (P : Nat → α → Prop) : ∀ n, (∀ i, i < n → ∃ l, P i l) → ∃ ks : List α, ks.length = n ∧ ∀ i l, ks[i]? = some l → P i l
  | 0, _ => ⟨[], rfl, fun i l h => by simp at h⟩
  | n + 1, h => by
    obtain ⟨ks, hl, hk⟩ := pick_list P n fun i hi => h i (by omega)
    obtain ⟨l, hp⟩ := h n (by omega)
    refine ⟨ks ++ [l], by simp [hl], fun i x hx => ?_⟩
    by_cases hi : i < ks.length
    · rw [List.getElem?_append_left hi] at hx
      exact hk i x hx
    · rw [List.getElem?_append_right (by omega)] at hx
      have h0 : i - ks.length = 0 := by
        by_cases e : i - ks.length = 0
        · exact e
        · rw [List.getElem?_eq_none (by simp; omega)] at hx
          cases hx
      rw [h0] at hx
      obtain rfl : l = x := by simpa using hx
      obtain rfl : i = n := by omega
      exact hp
set_option maxRecDepth 20000 in
theorem open_rd {α H : Type} {enc : TypeId × Value → H} {W : World} {held : Bool} {fuel : Nat} {t e : TypeId} {k : Nat} {fe : α → SQ} {cs : List Value} {x : DataW H × List MemPlace} (ht : Try.prog.underlying t = some (.slice e)) (hk : Try.prog.cellsOf e = k) (hk0 : 0 < k)
    (hel : ∀ n cs x, DataW.trod enc Try.prog W 0 (fun _ => true) held n e cs = some x → ∃ a : α, cs = (fe a).cl ∧ OkP (fe a).parts1 ∧ (fe a).cl.length = k)
    (h : DataW.trod enc Try.prog W 0 (fun _ => true) held fuel t cs = some x) :
    ∃ (A : Option Addr) (l : List α) (c : Nat), cs = [.slice A l.length c] ∧ Rd k fe A c l W := by
  rcases DataW.trod_slice ht h with ⟨rfl, _⟩ | ⟨a, len, cap, elems, rest, n, rfl, rfl, rfl, _, hl, hm, hlen, hel2, _⟩
  · exact ⟨none, [], 0, rfl, Rd.nil _ _ _⟩
  · rw [hk] at hel2
    obtain ⟨ks, hk1, hk2⟩ := pick_list (fun i (y : α) => (OkP (fe y).parts1 ∧ (fe y).cl.length = k) ∧ W.cells? 0 (a.add (i * k)) k = some (fe y).cl) len fun i hi => by
      have h0 := hel2 i hi
      rw [List.getElem?_eq_getElem (by omega)] at h0
      cases hc : W.cells? 0 (a.add (i * k)) k with
      | none => rw [hc] at h0; cases h0
      | some cs =>
        rw [hc] at h0
        obtain ⟨y, rfl, h1⟩ := hel _ _ _ h0
        exact ⟨y, h1, rfl⟩
    subst hk1
    refine ⟨some a, ks, cap, rfl, hl, (by unfold maxLen at hm; omega), fun e => (by cases e), fun y hy => ?_, fun hpos => ?_⟩
    · obtain ⟨i, hi, rfl⟩ := List.getElem_of_mem hy
      exact (hk2 i _ (List.getElem?_eq_getElem hi)).1
    have hcell : ∀ i y, ks[i]? = some y → ∀ j v, (fe y).cl[j]? = some v → W.cell? (a.add (i * k + j)) = some v := fun i y hi j v hj => by
      obtain ⟨⟨_, hkl⟩, hc⟩ := hk2 i y hi
      obtain ⟨_, _, h3⟩ := World.cells?_some hc
      have hjk : j < k := by
        have := (List.getElem?_eq_some_iff.1 hj).1
        omega
      have := h3 j hjk
      rw [Addr.add_add, hj] at this
      exact this
    have h00 := hk2 0 _ (List.getElem?_eq_getElem hpos)
    have hb := World.cells?_block h00.2 hk0
    rw [Nat.zero_mul] at hb
    obtain ⟨b, o, sp⟩ := a
    have hsp0 : sp = none := by
      obtain ⟨v, hv⟩ : ∃ v, (fe ks[0]).cl[0]? = some v := ⟨_, List.getElem?_eq_getElem (by rw [h00.1.2]; exact hk0)⟩
      have := hcell 0 _ (List.getElem?_eq_getElem hpos) 0 v hv
      rw [Nat.zero_mul, show (⟨b, o, sp⟩ : Addr).add (0 + 0) = ⟨b, o, sp⟩ from rfl, World.cell?] at this
      cases sp with
      | none => rfl
      | some s =>
        exfalso
        dsimp only at this
        split at this
        · simp at this
        · cases this
    subst hsp0
    refine ⟨b, o, rfl, hb, fun i y hi j v hj => ?_⟩
    have := hcell i y hi j v hj
    rw [Addr.add_mid] at this
    rwa [Nat.add_assoc, Nat.mul_comm k i]
end Go.Proofs.Ythkbejheedffjaa
/-
  FROM A WALK TO A LAW'S ROW: slices of bytes and arrays of 64 bytes, opened.
-/
namespace Go.Proofs.Ythkbejheedffjaa
open Go.RowKit Go.IntWalk
open Go.ChangeShapes Go.WideShapes Go.ChangeAt

theorem open_bytes {H : Type} {enc : TypeId × Value → H} {W : World} {held : Bool} {fuel : Nat} {cs : List Value} {x : DataW H × List MemPlace} (h : DataW.trod enc Try.prog W 0 (fun _ => true) held fuel 32 cs = some x) :
    ∃ (A : Option Addr) (l : List UInt8) (c : Nat), cs = [.slice A l.length c] ∧ SL W 0 W.heap.size A l c := by
  rcases open_ints Try.underlying32 Try.underlying5 cells8 h with ⟨rfl, rfl⟩ | ⟨a, len, cap, zs, rfl, _, hl, hm, hz, rfl, hcell, hwz⟩
  · exact ⟨none, [], 0, rfl, SL.nil _ _ _⟩
  · have hz' : zs.length = cap := hz
    have hlen : ((zs.take len).map fun z => UInt8.ofNat z.toNat).length = len := by simp; omega
    refine ⟨some a, (zs.take len).map fun z => UInt8.ofNat z.toNat, cap, by rw [hlen], by rw [hlen]; exact hl, by unfold maxLen at hm; omega, fun h => (by cases h), fun hpos => ⟨a, rfl, Nat.zero_le _, ?_, fun j x hx => ?_⟩⟩
    · have h0 : 0 < zs.length := by rw [hlen] at hpos; omega
      have := World.block_lt_of_cell? W _ (hcell 0 h0)
      rwa [block_add] at this
    · simp only [List.getElem?_map, List.getElem?_take, Option.map_eq_some_iff] at hx
      obtain ⟨z, hz, rfl⟩ := hx
      split at hz
      · have hj := (List.getElem?_eq_some_iff.1 hz).1
        have hb := range_u8 hwz j
        have hg : zs.getD j 0 = z := by simp [List.getD, hz]
        rw [hz] at hb
        simp only [Option.getD_some] at hb
        rw [hcell j hj, hg]
        have e : (UInt8.ofNat z.toNat).toNat = z.toNat := by
          simp
          omega
        rw [e, Int.toNat_of_nonneg hb.1]
      · cases hz
theorem bulk_one {H : Type} (d : DataW H) : 1 ≤ Rows.uptoBulk d := by
  cases d with
  | lit l => cases l <;> simp [Rows.uptoBulk]
  | _ => simp [Rows.uptoBulk]
theorem bulk_len {H : Type} : ∀ l : List (DataW H), l.length ≤ Rows.uptoBulkAll l
  | [] => Nat.zero_le _
  | d :: l => by
    have h1 := bulk_one d
    have h2 := bulk_len l
    simp only [Rows.uptoBulkAll, List.length_cons]
    omega
theorem slice_bulk {H : Type} {enc : TypeId × Value → H} {W : World} {held : Bool} {fuel n c : Nat} {t e : TypeId} {A : Option Addr} {x : DataW H × List MemPlace} (ht : Try.prog.underlying t = some (.slice e)) (h : DataW.trod enc Try.prog W 0 (fun _ => true) held fuel t [.slice A n c] = some x) : n ≤ Rows.uptoBulk x.1 := by
  rcases DataW.trod_slice ht h with ⟨e, _⟩ | ⟨a, len, cap, elems, rest, m, _, e, rfl, _, _, _, hlen, _⟩
  · injection e with e
    injection e with _ e
    omega
  · injection e with e
    injection e with _ e
    have h1 := bulk_len (elems.map (·.1))
    rw [List.length_map] at h1
    simp only [Rows.uptoBulk]
    omega
theorem okWide_b64 {P : Program} {w : World} {r : Reach} {base n : Nat} {t e : TypeId} {v : Value} (ht : P.underlying t = some (.array n e)) (h : Value.okWide P w r base t v) : ∃ cs, v = .agg cs ∧ cs.size = P.cellsOf t := okWide_array ht h
theorem by_of64 {cs : List Value} (hl : cs.length = 64) (h : ∀ i, i < 64 → ∃ n : Int, cs[i]? = some (.int .u8 n) ∧ 0 ≤ n ∧ n < 256) : ∃ l : List UInt8, l.length = 64 ∧ cs = By l := by
  refine ⟨cs.map fun v => match v with | .int _ n => UInt8.ofNat n.toNat | _ => 0, by simp [hl], ?_⟩
  apply List.ext_getElem (by simp [By])
  intro i h1 h2
  obtain ⟨n, hn, h0, h3⟩ := h i (by omega)
  have e : cs[i] = .int .u8 n := by
    have := List.getElem?_eq_getElem h1
    rw [hn] at this
    exact (Option.some.inj this).symm
  simp only [By, List.getElem_map, e]
  congr 1
  rw [UInt8.toNat_ofNat']
  omega
end Go.Proofs.Ythkbejheedffjaa
/-
  FROM A WALK TO A LAW'S ROW: slices of anything, opened, with what is known of each element.
-/
namespace Go.Proofs.Ythkbejheedffjaa
open Go.RowKit Go.IntWalk
open Go.ChangeShapes Go.WideShapes Go.ChangeAt

theorem bulk_in {H : Type} {d : DataW H} : ∀ {l : List (DataW H)}, d ∈ l → Rows.uptoBulk d ≤ Rows.uptoBulkAll l
  | e :: l, h => by
    simp only [Rows.uptoBulkAll]
    rcases List.mem_cons.1 h with rfl | h
    · exact Nat.le_add_right _ _
    · exact Nat.le_trans (bulk_in h) (Nat.le_add_left _ _)
theorem open_rdP {α H : Type} {enc : TypeId × Value → H} {W : World} {held : Bool} {fuel : Nat} {t e : TypeId} {k : Nat} {fe : α → SQ} {p : DataW H → α → Prop} {cs : List Value} {x : DataW H × List MemPlace} (ht : Try.prog.underlying t = some (.slice e)) (hk : Try.prog.cellsOf e = k) (hk0 : 0 < k)
    (hel : ∀ n cs x, DataW.trod enc Try.prog W 0 (fun _ => true) held n e cs = some x → ∃ a : α, (cs = (fe a).cl ∧ OkP (fe a).parts1 ∧ (fe a).cl.length = k) ∧ p x.1 a)
    (h : DataW.trod enc Try.prog W 0 (fun _ => true) held fuel t cs = some x) :
    ∃ (A : Option Addr) (l : List α) (c : Nat), cs = [.slice A l.length c] ∧ Rd k fe A c l W ∧ ∀ y ∈ l, ∃ d, p d y ∧ Rows.uptoBulk d ≤ Rows.uptoBulk x.1 := by
  rcases DataW.trod_slice ht h with ⟨rfl, _⟩ | ⟨a, len, cap, elems, rest, n, rfl, rfl, rfl, _, hl, hm, hlen, hel2, _⟩
  · exact ⟨none, [], 0, rfl, Rd.nil _ _ _, fun _ h => by cases h⟩
  · rw [hk] at hel2
    obtain ⟨ks, hk1, hk2⟩ := pick_list (fun i (y : α) => ((OkP (fe y).parts1 ∧ (fe y).cl.length = k) ∧ W.cells? 0 (a.add (i * k)) k = some (fe y).cl) ∧ ∃ d ∈ elems.map (·.1), p d y) len fun i hi => by
      have h0 := hel2 i hi
      rw [List.getElem?_eq_getElem (by omega)] at h0
      cases hc : W.cells? 0 (a.add (i * k)) k with
      | none => rw [hc] at h0; cases h0
      | some cs =>
        rw [hc] at h0
        obtain ⟨y, ⟨rfl, h1⟩, h2⟩ := hel _ _ _ h0
        exact ⟨y, ⟨h1, rfl⟩, _, List.mem_map.2 ⟨_, List.getElem_mem _, rfl⟩, h2⟩
    subst hk1
    refine ⟨some a, ks, cap, rfl, ⟨hl, (by unfold maxLen at hm; omega), fun e => (by cases e), fun y hy => ?_, fun hpos => ?_⟩, fun y hy => ?_⟩
    · obtain ⟨i, hi, rfl⟩ := List.getElem_of_mem hy
      exact (hk2 i _ (List.getElem?_eq_getElem hi)).1.1
    · have hcell : ∀ i y, ks[i]? = some y → ∀ j v, (fe y).cl[j]? = some v → W.cell? (a.add (i * k + j)) = some v := fun i y hi j v hj => by
        obtain ⟨⟨⟨_, hkl⟩, hc⟩, _⟩ := hk2 i y hi
        obtain ⟨_, _, h3⟩ := World.cells?_some hc
        have hjk : j < k := by
          have := (List.getElem?_eq_some_iff.1 hj).1
          omega
        have := h3 j hjk
        rw [Addr.add_add, hj] at this
        exact this
      have h00 := (hk2 0 _ (List.getElem?_eq_getElem hpos)).1
      have hb := World.cells?_block h00.2 hk0
      rw [Nat.zero_mul] at hb
      obtain ⟨b, o, sp⟩ := a
      have hsp0 : sp = none := by
        obtain ⟨v, hv⟩ : ∃ v, (fe ks[0]).cl[0]? = some v := ⟨_, List.getElem?_eq_getElem (by rw [h00.1.2]; exact hk0)⟩
        have := hcell 0 _ (List.getElem?_eq_getElem hpos) 0 v hv
        rw [Nat.zero_mul, show (⟨b, o, sp⟩ : Addr).add (0 + 0) = ⟨b, o, sp⟩ from rfl, World.cell?] at this
        cases sp with
        | none => rfl
        | some s =>
          exfalso
          dsimp only at this
          split at this
          · simp at this
          · cases this
      subst hsp0
      refine ⟨b, o, rfl, hb, fun i y hi j v hj => ?_⟩
      have := hcell i y hi j v hj
      rw [Addr.add_mid] at this
      rwa [Nat.add_assoc, Nat.mul_comm k i]
    · obtain ⟨i, hi, rfl⟩ := List.getElem_of_mem hy
      obtain ⟨_, d, hd, hp⟩ := hk2 i _ (List.getElem?_eq_getElem hi)
      refine ⟨d, hp, ?_⟩
      have := bulk_in hd
      simp only [Rows.uptoBulk]
      omega
theorem wf_i64 {n : Int} (h : (Lit.int .i64 n).wf = true) : -9223372036854775808 ≤ n ∧ n ≤ 9223372036854775807 := by
  have := range_i64 (zs := [n]) (fun m hm => by rw [List.mem_singleton.1 hm]; exact h) 0
  simpa using this
end Go.Proofs.Ythkbejheedffjaa
/-
  FROM A WALK TO A LAW'S ROW: scripts of calls of a disk, opened.
-/
namespace Go.Proofs.Ythkbejheedffjaa
open Go.RowKit Go.IntWalk
open Go.ChangeShapes Go.WideShapes Go.ChangeAt

instance {S : Option Addr} {d : Nat} {ops : List OpV} : Pst (ScrF S d ops) := ⟨fun _ _ h hb => ⟨h.1.later hb, fun o ho => (h.2 o ho).later hb⟩⟩
set_option maxRecDepth 20000 in
theorem op_cells {H : Type} {enc : TypeId × Value → H} {W : World} {held : Bool} (n : Nat) (cs : List Value) (x : DataW H × List MemPlace) (h : DataW.trod enc Try.prog W 0 (fun _ => true) held n 34 cs = some x) :
    ∃ o : OpV, (cs = (eOp o).cl ∧ OkP (eOp o).parts1 ∧ (eOp o).cl.length = 3) ∧ Rd 1 eB o.A o.c o.l W ∧ o.l.length ≤ Rows.uptoBulk x.1 ∧ o.n ≤ 9223372036854775807 := by
  obtain ⟨xs, m, _, rfl, hl, hlen, hf⟩ := DataW.trod_struct Try.underlying34 h
  obtain ⟨a, b, c, rfl⟩ : ∃ a b c, cs = [a, b, c] := by
    match cs, (show cs.length = 3 from hl.trans (by kernel_rfl)) with
    | [a, b, c], _ => exact ⟨a, b, c, rfl⟩
  obtain ⟨x0, x1, x2, rfl⟩ : ∃ a b c, xs = [a, b, c] := by
    match xs, (show xs.length = 3 from hlen) with
    | [a, b, c], _ => exact ⟨a, b, c, rfl⟩
  have c0 : Try.prog.cellsOf 3 = 1 := by kernel_rfl
  have c1 : Try.prog.cellsOf 32 = 1 := by kernel_rfl
  have h0 : DataW.trod enc Try.prog W 0 (fun _ => true) held m 3 (([a, b, c].drop 0).take (Try.prog.cellsOf 3)) = some x0 := hf 0 _ rfl
  have h1 : DataW.trod enc Try.prog W 0 (fun _ => true) held m 3 (([a, b, c].drop 1).take (Try.prog.cellsOf 3)) = some x1 := hf 1 _ rfl
  have h2 : DataW.trod enc Try.prog W 0 (fun _ => true) held m 32 (([a, b, c].drop 2).take (Try.prog.cellsOf 32)) = some x2 := hf 2 _ rfl
  rw [c0] at h0 h1
  rw [c1] at h2
  obtain ⟨n0, e0, _⟩ := DataW.trod_int Try.underlying3 h0
  obtain ⟨n1, e1, _, w1⟩ := DataW.trod_int Try.underlying3 h1
  have h3 : DataW.trod enc Try.prog W 0 (fun _ => true) held m 32 [c] = some x2 := h2
  obtain ⟨A, l, c', e2, hs⟩ := open_bytes h3
  injection e0 with e0
  injection e1 with e1
  injection e2 with e2
  subst e0 e1 e2
  have hb := slice_bulk Try.underlying32 h3
  refine ⟨⟨n0, n1, A, c', l⟩, ⟨rfl, eOp_ok _⟩, Rd.of_sl hs, ?_, (wf_i64 w1).2⟩
  simp only [Rows.uptoBulk, Rows.uptoBulkAll, List.map_cons, List.map_nil]
  show l.length ≤ _
  omega
end Go.Proofs.Ythkbejheedffjaa
