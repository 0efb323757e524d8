/-
  SEVERAL TEXTS IN ONE: Ns.
-/
import Derived.Test.YtoecohpcnojokaaDoorMp
/-
  LAW WitnessPuts: parts tell what trees do, also when put into.
-/
namespace Go.Proofs.YtoecohpcnojokaaDoor
open Go.RowKit Go.IntWalk Nums

/-- '!=' of bools. -/
theorem run_neqBoolW {N : Nat} {E : SE} {o : Oper} {x y : Operand} {t' : TypeId} {u v : SV} {p q : Bool} (ho : o.op = .binOp .neq 4 x y t') (hx : evS E x = some u) (hy : evS E y = some v) (hu : ∀ G, u.den G = .bool p) (hv : ∀ G, v.den G = .bool q) : ∀ (G : Nat → Nat) (a : Act) (w : World), Fr N (denE G E) a → (execOp a.eval o).run Tryd.prog w = .ok (.value ((SV.b (!(p == q))).den G)) w := fun G a w ha => by
  have h1 : a.eval x = .bool p := (ha.eval (evS_ok hx)).trans (hu G)
  have h2 : a.eval y = .bool q := (ha.eval (evS_ok hy)).trans (hv G)
  unfold execOp
  simp only [ho, h1, h2]
  go_simp
  rfl
/-- The keys of the first puts. -/
def putK (q : List (List UInt8)) (ps : List PairT) (i : Nat) : List (List UInt8) := q ++ (ps.take (min i 8)).map (·.1)
theorem putK_next {q : List (List UInt8)} {ps : List PairT} {i : Nat} {p : PairT} (hp : ps[i]? = some p) (h : i < 8) : putK q ps (i + 1) = putK q ps i ++ [p.1] := by
  unfold putK
  rw [show min (i + 1) 8 = i + 1 by omega, show min i 8 = i by omega, List.take_add_one, hp]
  simp
theorem putK_past {q : List (List UInt8)} {ps : List PairT} {i : Nat} (h : ¬ i < 8) : putK q ps (i + 1) = putK q ps i := by
  unfold putK
  rw [show min (i + 1) 8 = 8 by omega, show min i 8 = 8 by omega]
theorem putK_mem {q : List (List UInt8)} {ps : List PairT} {i : Nat} {p : PairT} (hp : ps[i]? = some p) (h : i < 8) : p.1 ∈ putK q ps ps.length := by
  refine List.mem_append_right _ (List.mem_map.2 ⟨p, ?_, rfl⟩)
  have hi := (List.getElem?_eq_some_iff.1 hp).1
  have : (ps.take (min ps.length 8))[i]? = some p := by rw [List.getElem?_take, if_pos (by omega), hp]
  exact List.mem_of_getElem? this
theorem putK_len {q : List (List UInt8)} {ps : List PairT} {i : Nat} : (putK q ps i).length ≤ q.length + 8 := by
  unfold putK
  rw [List.length_append, List.length_map, List.length_take]
  omega
set_option maxRecDepth 100000 in
set_option maxHeartbeats 4000000 in
theorem wputsL_S {A A2 A3 : Option Addr} {c c2 c3 : Nat} (l : List PairT) (ks : List (List UInt8)) (ps : List PairT) : Spec 5 [.slice A l.length c, .slice A2 ks.length c2, .slice A3 ps.length c3] [] (fun w => Tsh w ∧ Rd 64 eP A c l w ∧ Rd 32 (eY 32) A2 c2 ks w ∧ Rd 64 eP A3 c3 ps w) (one (.v (.bool true))) := by
  refine spec_S [.c (.v (.slice A l.length c)), .c (.v (.slice A2 ks.length c2)), .c (.v (.slice A3 ps.length c3))] 138 Tryd.func5 rfl (by rw [Tryd.ntmps5]; rfl) (more_ok trivial (two_ok trivial trivial)) fun b => ?_
  refine s_pure (((ks.length ≤ c2 ∧ (A2 = none → c2 = 0)) ∧ ∀ k ∈ ks, k.length = 32) ∧ ps.length ≤ 9223372036854775807 ∧ ∀ p ∈ ps, OkT2 p) (fun w h _ => ⟨⟨⟨h.2.2.1.1, h.2.2.1.2.2.1⟩, fun k hk => wY_len (h.2.2.1.2.2.2.1 k hk).1⟩, Nat.le_trans h.2.2.2.1 h.2.2.2.2.1, fun p hp => eP_len (h.2.2.2.2.2.2.1 p hp).1⟩) fun ⟨⟨⟨hlc, hA2⟩, hks⟩, hpl, hpok⟩ => ?_
  refine s_auto TY_ok rfl ?_
  refine s_seq fun K hK => ?_
  refine s_regA TY_ok rfl fun K1 hK1 => ?_
  refine l_call0 [] rfl rfl rfl own_wfirst rfl rfl (fun _ _ => rfl) wfirst_S (fun _ h _ => h.1) fun _ => ?_
  refine l_autoS TY_ok rfl ?_
  refine s_end (hK1 _ ?_)
  refine s_no rfl ?_
  refine s_skip (hK _ ?_)
  refine s_regA TY_ok rfl fun K2 hK2 => ?_
  refine l_call0 [.slice A l.length c] rfl rfl rfl own_grown rfl rfl (fun _ _ => rfl) (grown_S l) (fun _ h _ => ⟨h.2.1, h.2.2.1⟩) fun x => ?_
  obtain ⟨x, hx⟩ := x
  refine l_autoS TY_ok rfl ?_
  refine s_end (hK2 _ ?_)
  refine s_regA TY_ok rfl fun K3 hK3 => ?_
  refine l_list0 (e := 38) (sz := 32) 0 (eY 32) rfl rfl rfl rfl (Nat.zero_le _) (fun w => by go_simp) fun B => ?_
  refine l_autoS TY_ok rfl ?_
  refine l_op (.v (.int .i64 ((min ks.length 8 : Nat) : Int))) trivial rfl rfl rfl (run_min rfl rfl rfl) ?_
  have hk8 : min ks.length 8 = (ks.take 8).length := by rw [List.length_take, Nat.min_comm]
  have hq8 : ∀ k ∈ ks.take 8, k.length = 32 := fun k hk => hks k (List.mem_of_mem_take hk)
  have hq88 : (ks.take 8).length ≤ 8 := by rw [← hk8]; omega
  refine l_op (.v (.slice A2 (min ks.length 8) c2)) trivial rfl rfl rfl (run_cutHi (sz := 32) (by kernel_rfl) (by omega) hA2 rfl Tryd.underlying23 rfl rfl) ?_
  rw [hk8]
  have hrd8 : ∀ w, Rd 32 (eY 32) A2 c2 ks w → Rd 32 (eY 32) A2 c2 (ks.take 8) w := fun w h => h.take 8
  generalize ks.take 8 = q at *
  refine l_appY TY_ok 0 q rfl rfl rfl rfl rfl rfl rfl rfl rfl (rd_fact fun w h _ => hrd8 w h.2.2.2.2.1) (by decide) (by show (0 + q.length) * 32 ≤ _; omega) (by show 0 + q.length ≤ _; omega) (Nat.zero_le _) fun A9 c9 => ?_
  refine l_autoS TY_ok rfl ?_
  refine s_end (hK3 _ ?_)
  refine s_seq fun K4 hK4 => ?_
  refine s_auto TY_ok rfl ?_
  refine s_block ?_
  let F1 : Nat × Option Addr × Nat → Env := fun ⟨i, A9, c9⟩ => ⟨[(41, .v (.int .i64 (i : Int))), (40, .v (.int .i64 (ps.length : Int))), (39, .v (.slice A3 ps.length c3)), (9, .v (.slice A9 (putK q ps i).length c9)), (7, .a 7 0), (2, .v (.slice A3 ps.length c3))], [⟨7, none, 27, trPs x.t 0⟩], [KyS A9 c9 (putK q ps i)], fun w => TF x.t w ∧ Tsh w ∧ Rd 64 eP A3 c3 ps w, fun _ => True⟩
  have e0 : putK q ps 0 = q := by simp [putK]
  refine c_weak (e' := F1 (0, A9, c9)) ⟨⟨rfl, rfl, rfl, congrArg (fun z : List (List UInt8) => some (SV.v (Value.slice A9 z.length c9))) e0.symm, rfl, rfl, trivial⟩, ⟨rfl, rfl, trivial⟩, .of_eq (congrArg (fun z => [KyS A9 c9 z]) e0.symm), fun _ h _ => ⟨h.1, h.2.2.1, h.2.2.2.2.2⟩, fun _ _ => trivial⟩ (s_loop (fun y => ps.length - y.1) F1 (fun y => y.1 ≤ ps.length) ?_ (0, A9, c9) (Nat.zero_le _))
  rintro ⟨i, A9, c9⟩ hi
  dsimp only at hi
  have hKl := putK_len (q := q) (ps := ps) (i := i)
  refine s_auto TY_ok rfl ?_
  refine s_seq fun K5 hK5 => ?_
  refine s_ifD ((i : Int) < (ps.length : Int)) rfl (fun hlt => ?_) (fun hge => ?_)
  · have hlt : i < ps.length := by omega
    obtain ⟨p, hp0⟩ : ∃ y, ps[i]? = some y := ⟨_, List.getElem?_eq_getElem hlt⟩
    have hp := hpok p (List.mem_of_getElem? hp0)
    refine s_skip (hK5 _ ?_)
    refine s_seq fun K6 hK6 => ?_
    refine s_block ?_
    refine s_regA TY_ok rfl fun K7 hK7 => ?_
    refine l_elem TY_ok rfl rfl rfl i rfl hp0 rfl rfl (rd_fact fun _ h _ => h.2.2) ?_
    refine l_autoS TY_ok rfl ?_
    refine s_end (hK7 _ ?_)
    refine s_auto TY_ok rfl ?_
    refine s_ifD ((i : Int) < 8) rfl (fun h8 => ?_) (fun h8 => ?_)
    · have h8 : i < 8 := by omega
      refine s_lit ?_
      refine l_autoS TY_ok rfl ?_
      refine l_push TY_ok 0 p.1 rfl rfl rfl rfl rfl rfl rfl (eY_ok hp.1) (by decide) (by decide) (by show ((putK q ps i).length + 1) * 32 ≤ _; omega) (by omega) (Nat.zero_le _) fun A1 c1 => ?_
      refine l_autoS TY_ok rfl ?_
      refine s_end (hK6 _ ?_)
      refine s_autoE TY_ok rfl ?_
      have en := putK_next (q := q) hp0 h8
      exact k_next (i + 1, A1, c1) hlt (by show ps.length - (i + 1) < ps.length - i; omega) ⟨⟨congrArg some (congrArg SV.v (congrArg (Value.int .i64) (wrapI rfl (by omega) (by omega)))), rfl, rfl, congrArg (fun z : List (List UInt8) => some (SV.v (Value.slice A1 z.length c1))) en.symm, rfl, rfl, trivial⟩, ⟨rfl, rfl, trivial⟩, .of_eq (congrArg (fun z => [KyS A1 c1 z]) en.symm), fun _ h _ => h, fun _ _ => trivial⟩
    · have h8 : ¬ i < 8 := by omega
      refine s_skip (hK6 _ ?_)
      refine s_autoE TY_ok rfl ?_
      have en := putK_past (q := q) (ps := ps) h8
      exact k_next (i + 1, A9, c9) hlt (by show ps.length - (i + 1) < ps.length - i; omega) ⟨⟨congrArg some (congrArg SV.v (congrArg (Value.int .i64) (wrapI rfl (by omega) (by omega)))), rfl, rfl, congrArg (fun z : List (List UInt8) => some (SV.v (Value.slice A9 z.length c9))) en.symm, rfl, rfl, trivial⟩, ⟨rfl, rfl, trivial⟩, .of_eq (congrArg (fun z => [KyS A9 c9 z]) en.symm), fun _ h _ => h, fun _ _ => trivial⟩
  refine s_exit (k_pass (k_pass (k_out ?_)))
  refine hK4 _ ?_
  obtain rfl : i = ps.length := by omega
  refine s_free 0 rfl ?_
  have hKok : ∀ k ∈ putK q ps ps.length, k.length = 32 := fun k hk => by
    rcases List.mem_append.1 hk with h | h
    · exact hq8 k h
    · obtain ⟨p, hp, rfl⟩ := List.mem_map.1 h
      exact (hpok p (List.mem_of_mem_take hp)).1
  have hKin : ∀ i p, ps[i]? = some p → i < 8 → p.1 ∈ putK q ps ps.length := fun i p h h8 => putK_mem h h8
  generalize putK q ps ps.length = KS at *
  have hpt := partT_cut hx.sort hx.pairs KS
  have hbl := hx.bytes KS
  have hcut := wCut_S (A := A9) (c := c9) x.o x.t KS hx.tree hx.sort hx.keys (by omega) hKok
  generalize PW.cut 256 0 x.o KS = W at *
  refine s_regA TY_ok rfl fun K7 hK7 => ?_
  refine l_call0 [(eTr x.t 0).den, .slice A9 KS.length c9] rfl rfl rfl own_wCut rfl rfl (fun _ _ => rfl) hcut (fun w h _ => ⟨h.2.1, h.1⟩) fun _ => ?_
  refine l_autoS TY_ok rfl ?_
  refine s_end (hK7 _ ?_)
  refine s_seq fun K8 hK8 => ?_
  refine s_auto TY_ok rfl ?_
  refine s_block ?_
  let F2 : Nat → Env := fun j => ⟨[(59, .v (.int .i64 (j : Int))), (58, .v (.int .i64 (KS.length : Int))), (57, .v (.slice A9 KS.length c9)), (12, .a 12 0), (7, .a 7 0), (2, .v (.slice A3 ps.length c3))], [⟨12, none, 33, [.one (.v W.top)]⟩, ⟨7, none, 27, trPs x.t 0⟩], [], fun w => Rd 32 (eY 32) A9 c9 KS w ∧ TF x.t w ∧ Tsh w ∧ Rd 64 eP A3 c3 ps w, fun _ => True⟩
  refine c_weak (e' := F2 0) ⟨⟨rfl, rfl, rfl, rfl, rfl, rfl, trivial⟩, ⟨rfl, rfl, rfl, rfl, trivial⟩, .refl _, fun _ h _ => h.2, fun _ _ => trivial⟩ (s_loop (fun j => KS.length - j) F2 (fun j => j ≤ KS.length) ?_ 0 (Nat.zero_le _))
  intro j hj
  refine s_auto TY_ok rfl ?_
  refine s_seq fun K10 hK10 => ?_
  refine s_ifD ((j : Int) < (KS.length : Int)) rfl (fun hlt => ?_) (fun hge => ?_)
  · have hlt : j < KS.length := by omega
    obtain ⟨k, hk0⟩ : ∃ y, KS[j]? = some y := ⟨_, List.getElem?_eq_getElem hlt⟩
    have hkm := List.mem_of_getElem? hk0
    have hk := hKok k hkm
    refine s_skip (hK10 _ ?_)
    refine s_seq fun K11 hK11 => ?_
    refine s_block ?_
    refine s_regA TY_ok rfl fun K12 hK12 => ?_
    refine l_elem TY_ok rfl rfl rfl j rfl hk0 rfl rfl (rd_fact fun _ h _ => h.1) ?_
    refine l_autoS TY_ok rfl ?_
    refine s_end (hK12 _ ?_)
    have hget1 := wGet_S hk W hpt.right
    have htl := hpt.tells hkm hx.sort
    have htget := tGet_S 256 x.o x.t hk (Nat.le_refl _) hx.tree hx.sort
    rw [htl] at hget1
    cases hg : getT x.o k with
    | some v =>
      rw [hg] at hget1 htget
      have hvl : v.length = 32 := (hx.pairs _ ((getT_some hx.sort).1 hg)).2
      refine s_regA TY_ok rfl fun K13 hK13 => ?_
      refine l_call0 [(prQ W).den, (eY 32 k).den] rfl rfl rfl own_wGet rfl rfl (fun _ _ => rfl) hget1 (fun _ _ _ => trivial) fun _ => ?_
      refine l_autoS TY_ok rfl ?_
      refine s_end (hK13 _ ?_)
      refine s_regA TY_ok rfl fun K14 hK14 => ?_
      refine l_call0 [(eTr x.t 0).den, (eY 32 k).den] rfl rfl rfl own_tGet rfl rfl (fun _ _ => rfl) htget (fun w h _ => h.2.2.1) fun _ => ?_
      refine l_autoS TY_ok rfl ?_
      refine s_end (hK14 _ ?_)
      refine s_regA TY_ok rfl fun K15 hK15 => ?_
      refine l_op (.b (!decide (v = v))) trivial rfl rfl rfl (run_neqY rfl rfl rfl Tryd.underlying38 (by kernel_rfl) hvl hvl) ?_
      refine l_is 78 false rfl (by simp) ?_
      refine l_autoS TY_ok rfl ?_
      refine l_op (.b (!(true == true))) trivial rfl rfl rfl (run_neqBoolW rfl rfl rfl (fun _ => rfl) (fun _ => rfl)) ?_
      refine l_is 82 false rfl rfl ?_
      refine l_autoS TY_ok rfl ?_
      refine l_is 87 false rfl (by simp) ?_
      refine s_end (hK15 _ ?_)
      refine s_no rfl ?_
      refine s_skip (hK11 _ ?_)
      refine s_autoE TY_ok rfl ?_
      exact k_next (j + 1) hlt (by show KS.length - (j + 1) < KS.length - j; omega) ⟨⟨congrArg some (congrArg SV.v (congrArg (Value.int .i64) (wrapI rfl (by omega) (by omega)))), rfl, rfl, rfl, rfl, rfl, trivial⟩, ⟨rfl, rfl, rfl, rfl, trivial⟩, .refl _, fun _ h _ => h.2.2, fun _ _ => trivial⟩
    | none =>
      rw [hg] at hget1 htget
      refine s_regA TY_ok rfl fun K13 hK13 => ?_
      refine l_call0 [(prQ W).den, (eY 32 k).den] rfl rfl rfl own_wGet rfl rfl (fun _ _ => rfl) hget1 (fun _ _ _ => trivial) fun _ => ?_
      refine l_autoS TY_ok rfl ?_
      refine s_end (hK13 _ ?_)
      refine s_regA TY_ok rfl fun K14 hK14 => ?_
      refine l_call0 [(eTr x.t 0).den, (eY 32 k).den] rfl rfl rfl own_tGet rfl rfl (fun _ _ => rfl) htget (fun w h _ => h.2.2.1) fun _ => ?_
      refine l_autoS TY_ok rfl ?_
      refine s_end (hK14 _ ?_)
      refine s_regA TY_ok rfl fun K15 hK15 => ?_
      refine l_op (.b (!decide (z32T = z32T))) trivial rfl rfl rfl (run_neqY rfl rfl rfl Tryd.underlying38 (by kernel_rfl) rfl rfl) ?_
      refine l_is 78 false rfl (by simp) ?_
      refine l_autoS TY_ok rfl ?_
      refine l_op (.b (!(false == false))) trivial rfl rfl rfl (run_neqBoolW rfl rfl rfl (fun _ => rfl) (fun _ => rfl)) ?_
      refine l_is 82 false rfl rfl ?_
      refine l_autoS TY_ok rfl ?_
      refine l_is 87 false rfl (by simp) ?_
      refine s_end (hK15 _ ?_)
      refine s_no rfl ?_
      refine s_skip (hK11 _ ?_)
      refine s_autoE TY_ok rfl ?_
      exact k_next (j + 1) hlt (by show KS.length - (j + 1) < KS.length - j; omega) ⟨⟨congrArg some (congrArg SV.v (congrArg (Value.int .i64) (wrapI rfl (by omega) (by omega)))), rfl, rfl, rfl, rfl, rfl, trivial⟩, ⟨rfl, rfl, rfl, rfl, trivial⟩, .refl _, fun _ h _ => h.2.2, fun _ _ => trivial⟩
  refine s_exit (k_pass (k_pass (k_out ?_)))
  refine hK8 _ ?_
  refine s_seq fun K20 hK20 => ?_
  have hend : ∀ (o : List PairT) (t : TA) (W' : PW), PartT o KS W' → TOk 256 o t → W'.bytes.length ≤ 30000 → ∀ en, Weak en ⟨[(12, .a 12 0), (7, .a 7 0)], [⟨12, none, 33, [.one (.v W'.top)]⟩, ⟨7, none, 27, trPs t 0⟩], [], fun w => TF t w ∧ Tsh w, fun _ => True⟩ → kS b K20 138 en := by
    intro o t W' hpt ht hbl en hw
    refine k_weak hw (hK20 _ ?_)
    have hWg := hpt.good
    have hroot := hpt.root ht
    have hpb := PW.parse_bytes hpt.right
    refine s_regA TY_ok rfl fun K21 hK21 => ?_
    refine l_call0 [(prQ W').den] rfl rfl rfl own_wBytes rfl rfl (fun _ _ => rfl) (wBytes_S hWg (by omega)).rd (fun _ _ _ => trivial) fun u => ?_
    have hparse := wParse_S (A := u.1) (c := u.2) W'.bytes
    rw [hpb] at hparse
    refine l_call0 [.slice u.1 W'.bytes.length u.2] rfl rfl rfl own_wParse rfl rfl (fun _ _ => rfl) hparse (fun w h m => ⟨m.1, h.2.2⟩) fun _ => ?_
    refine l_autoS TY_ok rfl ?_
    refine s_end (hK21 _ ?_)
    refine s_regD 9 (by decide) (by kernel_rfl) (by kernel_rfl) fun K22 hK22 G S w0 hst => ?_
    refine g_autoS TY_ok hst rfl ?_
    refine g_is 131 true rfl (by simp) ?_
    refine g_autoS TY_ok hst rfl ?_
    refine g_callS (F' := fun _ => True) hst [(prQ W').den] rfl rfl rfl own_wRoot rfl rfl (fun _ => rfl) (wRoot_S hWg) (eY_ok hWg.root_len).1 (fun _ _ _ _ => trivial) ?_
    refine g_autoS TY_ok hst rfl ?_
    refine g_callS (F' := TF t) hst [(eTr t 0).den] rfl rfl rfl own_tRoot rfl rfl (fun _ => rfl) (tRoot_S t 0) (eY_ok t.root_len).1 (fun _ _ _ hv => hv.fact.2.2.1) ?_
    refine g_autoS TY_ok hst rfl ?_
    refine g_opS (.b (decide (W'.root = t.root))) trivial rfl rfl rfl (run_eqY rfl rfl rfl Tryd.underlying38 (by kernel_rfl) hWg.root_len t.root_len) ?_
    refine g_is 136 true rfl (by rw [hroot]; simp) ?_
    refine g_autoS TY_ok hst rfl ?_
    refine g_endS hst ?_
    refine l_autoS TY_ok rfl ?_
    refine s_end (hK22 _ ?_)
    exact s_ret (k_ret TY_ok () rfl (by decide) rfl rfl rfl (fun _ _ _ => trivial) (fun _ _ => trivial))
  refine s_auto TY_ok rfl ?_
  refine s_block ?_
  let F3 : Nat × List PairT × TA × PW → Env := fun ⟨i, _, t, W⟩ => ⟨[(91, .v (.int .i64 (i : Int))), (90, .v (.int .i64 (ps.length : Int))), (89, .v (.slice A3 ps.length c3)), (12, .a 12 0), (7, .a 7 0)], [⟨12, none, 33, [.one (.v W.top)]⟩, ⟨7, none, 27, trPs t 0⟩], [], fun w => TF t w ∧ Tsh w ∧ Rd 64 eP A3 c3 ps w, fun _ => True⟩
  refine c_weak (e' := F3 (0, x.o, x.t, W)) ⟨⟨rfl, rfl, rfl, rfl, rfl, trivial⟩, ⟨rfl, rfl, rfl, rfl, trivial⟩, .refl _, fun _ h _ => h.2, fun _ _ => trivial⟩ (s_loop (fun y => ps.length - y.1) F3 (fun y => y.1 ≤ ps.length ∧ y.1 ≤ 8 ∧ PartT y.2.1 KS y.2.2.2 ∧ TOk 256 y.2.1 y.2.2.1 ∧ SortT y.2.1 ∧ (∀ p ∈ y.2.1, OkT2 p) ∧ y.2.1.length ≤ 25 + y.1 ∧ y.2.2.2.bytes.length ≤ 20000 + 650 * y.1) ?_ (0, x.o, x.t, W) ⟨Nat.zero_le _, Nat.zero_le _, hpt, hx.tree, hx.sort, hx.pairs, hx.few, hbl⟩)
  rintro ⟨i, o, t, W'⟩ ⟨hi, hi8, hpt', ht', hs', hok', hfew', hbl'⟩
  dsimp only at hi hi8 hpt' ht' hs' hok' hfew' hbl'
  have hkk' : KeysT o := fun y hy => (hok' y hy).1
  refine s_auto TY_ok rfl ?_
  refine s_seq fun K23 hK23 => ?_
  refine s_ifD ((i : Int) < (ps.length : Int)) rfl (fun hlt => ?_) (fun hge => ?_)
  · have hlt : i < ps.length := by omega
    obtain ⟨p, hp0⟩ : ∃ y, ps[i]? = some y := ⟨_, List.getElem?_eq_getElem hlt⟩
    have hp := hpok p (List.mem_of_getElem? hp0)
    refine s_skip (hK23 _ ?_)
    refine s_seq fun K24 hK24 => ?_
    refine s_block ?_
    refine s_regA TY_ok rfl fun K25 hK25 => ?_
    refine l_elem TY_ok rfl rfl rfl i rfl hp0 rfl rfl (rd_fact fun _ h _ => h.2.2) ?_
    refine l_autoS TY_ok rfl ?_
    refine s_end (hK25 _ ?_)
    refine s_seq fun K26 hK26 => ?_
    refine s_auto TY_ok rfl ?_
    refine s_ifD ((i : Int) ≥ 8) rfl (fun h8 => ?_) (fun h8 => ?_)
    · exact s_exit (k_pass (k_passB rfl (k_pass (k_pass (k_out (hend o t W' hpt' ht' (by omega) _ ⟨⟨rfl, rfl, trivial⟩, ⟨rfl, rfl, rfl, rfl, trivial⟩, .refl _, fun _ h _ => ⟨h.1, h.2.1⟩, fun _ _ => trivial⟩))))))
    have h8 : i < 8 := by omega
    have hpK := hKin i p hp0 h8
    have hpt2 := hpt'.put hp hpK hs' hkk'
    have hput := wPut_S hp W' hpt'.right
    rw [hpt'.known hpK hs'] at hput
    have hple := PW.put_le hp (d := 0) hpt'.good
    generalize PW.put p 0 W' = W2 at *
    have hWg2 := hpt2.good
    have htput := tPut0 hp ht' hs' hkk' (by omega)
    refine s_skip (hK26 _ ?_)
    refine s_auto TY_ok rfl ?_
    refine s_regA TY_ok rfl fun K27 hK27 => ?_
    refine l_call0 [(prQ W').den, (eY 32 p.1).den, (eY 32 p.2).den] rfl rfl rfl own_wPut rfl rfl (fun _ _ => rfl) hput (fun _ h _ => h.2.1) fun _ => ?_
    refine l_autoS TY_ok rfl ?_
    refine s_end (hK27 _ ?_)
    refine s_regA TY_ok rfl fun K28 hK28 => ?_
    refine l_call0 [(eTr t 0).den, (eY 32 p.1).den, (eY 32 p.2).den] rfl rfl rfl own_tPut rfl rfl (fun _ _ => rfl) htput (fun _ h _ => ⟨h.2.1, h.2.2.1⟩) fun t2 => ?_
    obtain ⟨t2, ht2⟩ := t2
    have hroot := hpt2.root ht2
    refine l_autoS TY_ok rfl ?_
    refine s_end (hK28 _ ?_)
    refine s_keep [7, 12, 22, 89, 90, 91] [7, 12] rfl rfl ?_
    refine s_regD 9 (by decide) (by kernel_rfl) (by kernel_rfl) fun K29 hK29 G S w0 hst => ?_
    refine g_autoS TY_ok hst rfl ?_
    refine g_is 115 false rfl (by simp) ?_
    refine g_autoS TY_ok hst rfl ?_
    refine g_callS (F' := fun _ => True) hst [(prQ W2).den] rfl rfl rfl own_wRoot rfl rfl (fun _ => rfl) (wRoot_S hWg2) (eY_ok hWg2.root_len).1 (fun _ _ _ _ => trivial) ?_
    refine g_autoS TY_ok hst rfl ?_
    refine g_callS (F' := TF t2) hst [(eTr t2 0).den] rfl rfl rfl own_tRoot rfl rfl (fun _ => rfl) (tRoot_S t2 0) (eY_ok t2.root_len).1 (fun _ _ _ hv => hv.fact.1) ?_
    refine g_autoS TY_ok hst rfl ?_
    refine g_opS (.b (!decide (W2.root = t2.root))) trivial rfl rfl rfl (run_neqY rfl rfl rfl Tryd.underlying38 (by kernel_rfl) hWg2.root_len t2.root_len) ?_
    refine g_is 120 false rfl (by rw [hroot]; simp) ?_
    refine g_autoS TY_ok hst rfl ?_
    refine g_endS hst ?_
    refine s_end (hK29 _ ?_)
    refine s_no rfl ?_
    refine s_skip (hK24 _ ?_)
    refine s_autoE TY_ok rfl ?_
    have hpl2 := (putT_len o p).2
    exact k_next (i + 1, putT o p, t2, W2) ⟨hlt, h8, hpt2, ht2, putT_sort hs' hkk' hp.1, fun y hy => by
      rcases (putT_mem hs' hkk' hp.1 y).1 hy with rfl | h
      · exact hp
      · exact hok' y h.1, by show (putT o p).length ≤ 25 + (i + 1); omega, by show W2.bytes.length ≤ 20000 + 650 * (i + 1); omega⟩ (by show ps.length - (i + 1) < ps.length - i; omega) ⟨⟨congrArg some (congrArg SV.v (congrArg (Value.int .i64) (wrapI rfl (by omega) (by omega)))), rfl, rfl, rfl, rfl, trivial⟩, ⟨rfl, rfl, rfl, rfl, trivial⟩, .refl _, fun _ h _ => ⟨h.1, h.2.2.2.1, h.2.2.2.2⟩, fun _ _ => trivial⟩
  · exact s_exit (k_pass (k_pass (k_out (hend o t W' hpt' ht' (by omega) _ ⟨⟨rfl, rfl, trivial⟩, ⟨rfl, rfl, rfl, rfl, trivial⟩, .refl _, fun _ h _ => ⟨h.1, h.2.1⟩, fun _ _ => trivial⟩))))
end Go.Proofs.YtoecohpcnojokaaDoor
