/-
  SEVERAL TEXTS IN ONE: TrO.
-/
import Derived.Test.YtlaikmpnijlcbaaDoorMn
/-
  TREEORDER: in which order pairs come counts for nothing.
-/
namespace Go.Proofs.YtlaikmpnijlcbaaDoor
open Go.RowKit Go.IntWalk Nums

/-! ### Plain -/
theorem putT_last : ∀ {l : List PairT} {p : PairT}, (∀ q ∈ l, lessT q.1 p.1 = true) → putT l p = l ++ [p]
  | [], _, _ => rfl
  | q :: l, p, h => by
    unfold putT
    rw [if_pos (h q List.mem_cons_self), putT_last fun x hx => h x (List.mem_cons_of_mem _ hx)]
    rfl
theorem putT_head {l : List PairT} {p : PairT} (h : ∀ q ∈ l, lessT p.1 q.1 = true) : putT l p = p :: l := by
  cases l with
  | nil => rfl
  | cons q l =>
    have h1 := h q List.mem_cons_self
    unfold putT
    rw [if_neg (by rw [lessT_asymm h1]; decide), if_neg fun e => by rw [e, lessT_irrefl] at h1; cases h1]
theorem putT_take {l : List PairT} {p : PairT} {i : Nat} (hs : SortT l) (hi : l[i]? = some p) : putT (l.take i) p = l.take (i + 1) := by
  have hlt := (List.getElem?_eq_some_iff.1 hi).1
  have e : l.take (i + 1) = l.take i ++ [p] := by rw [List.take_add_one, hi]; rfl
  rw [e]
  refine putT_last fun q hq => ?_
  have h2 : SortT (l.take (i + 1)) := List.Pairwise.sublist (List.take_sublist _ _) hs
  rw [e] at h2
  exact (List.pairwise_append.1 h2).2.2 q hq p (List.mem_singleton.2 rfl)
theorem drop_at {l : List PairT} {p : PairT} {i : Nat} (hi : l[i]? = some p) : l.drop i = p :: l.drop (i + 1) := by
  have hlt := (List.getElem?_eq_some_iff.1 hi).1
  rw [List.drop_eq_getElem_cons hlt, (List.getElem?_eq_some_iff.1 hi).2]
theorem putT_drop {l : List PairT} {p : PairT} {i : Nat} (hs : SortT l) (hi : l[i]? = some p) : putT (l.drop (i + 1)) p = l.drop i := by
  rw [drop_at hi]
  refine putT_head fun q hq => ?_
  have h2 : SortT (l.drop i) := List.Pairwise.sublist (List.drop_sublist _ _) hs
  rw [drop_at hi] at h2
  exact (SortT.cons.1 h2).1 q hq

/-! ### Reading pairs -/
theorem rd_key {g o c i : Nat} {l : List PairT} {p : PairT} {w : World} (h : Rd 64 eP (some ⟨g, o, none⟩) c l w) (hi : l[i]? = some p) (hp : OkT2 p) : w.rangeAt g (o + 64 * i + 0) (By p.1) ∧ w.rangeAt g (o + 64 * i + 32) (By p.2) := by
  obtain ⟨_, _, _, _, h5⟩ := h
  obtain ⟨b', o', e, hb, hr⟩ := h5 (Nat.lt_of_le_of_lt (Nat.zero_le _) (List.getElem?_eq_some_iff.1 hi).1)
  injection e with e
  injection e with e1 e2
  subst e1
  subst e2
  have hr := hr i p hi
  rw [eP_cl] at hr
  refine ⟨range_in (A := []) (B := By p.1) (Z := By p.2) hr rfl, ?_⟩
  have hl1 : (By p.1).length = 32 := by rw [By_len]; exact hp.1
  have := range_in (A := By p.1) (B := By p.2) (Z := []) hr (by simp)
  rwa [hl1] at this
theorem runO_key {N : Nat} {E : SE} {o : Oper} {x : Operand} {g off : Nat} {k : List UInt8} {w : World} (ho : o.op = .load 30 x) (hx : evS E x = some (.v (.pointer (some ⟨g, off, none⟩)))) (hk : k.length = 32) (h : w.rangeAt g off (By k)) :
    ∀ (G : Nat → Nat) (a : Act), Fr N (denE G E) a → (execOp a.eval o).run Tryd.prog w = .ok (.value ((SV.q (eY 32 k)).den G)) w := fun G a ha => by
  have h1 : a.eval x = .pointer (some ⟨g, off, none⟩) := ha.eval (evS_ok hx)
  have h3 := run_load_row (P := Tryd.prog) (t := 30) (cs := (By k).toArray) Tryd.underlying30 rfl (size_hash _ (by rw [List.size_toArray, By_len, hk])) h
  unfold execOp
  simp only [ho, h1, Sem.run_bind, h3, Result.andThen_ok, Sem.run_pure]
  rfl
theorem putT_len_in : ∀ {l : List PairT} {p q : PairT}, SortT l → q ∈ l → q.1 = p.1 → (putT l p).length = l.length
  | [], _, _, _, h, _ => by cases h
  | x :: l, p, q, hs, h, e => by
    obtain ⟨h1, h2⟩ := SortT.cons.1 hs
    unfold putT
    by_cases hl : lessT x.1 p.1 = true
    · rw [if_pos hl]
      rcases List.mem_cons.1 h with rfl | h
      · rw [e, lessT_irrefl] at hl
        cases hl
      · rw [List.length_cons, List.length_cons, putT_len_in h2 h e]
    · rw [if_neg hl]
      by_cases hx : x.1 = p.1
      · rw [if_pos hx]
        rfl
      · rcases List.mem_cons.1 h with rfl | h
        · exact absurd e hx
        · have := h1 q h
          rw [e] at this
          exact absurd this hl
theorem own_torder : Own 4 := fun _ _ => by go_simp
set_option maxRecDepth 100000 in
set_option maxHeartbeats 4000000 in
theorem torder_S {A : Option Addr} {c : Nat} (l0 : List PairT) (f : Int) {v : List UInt8} (hv : v.length = 32) : Spec 4 [.slice A l0.length c, .int .i64 f, (eY 32 v).den] [] (fun w => Tsh w ∧ Rd 64 eP A c l0 w) (one (.v (.bool true))) := by
  refine spec_S [.c (.v (.slice A l0.length c)), .c (.v (.int .i64 f)), eY 32 v] 149 Tryd.func4 rfl (by rw [Tryd.ntmps4]; rfl) (more_ok trivial (two_ok trivial (eY_ok hv).1)) fun b => ?_
  have hl9 := hhT_len 9
  obtain ⟨k9, hk9⟩ : ∃ k, hhT 9 = k := ⟨_, rfl⟩
  rw [hk9] at hl9
  refine s_auto TY_ok rfl ?_
  refine s_seq fun K hK => ?_
  refine s_regA TY_ok rfl fun K1 hK1 => ?_
  refine l_call0 [] rfl rfl rfl own_tfirst rfl rfl (fun _ _ => rfl) tfirst_S (fun _ h _ => h.1) fun _ => ?_
  refine l_autoS TY_ok rfl ?_
  refine s_end (hK1 _ ?_)
  refine s_no rfl ?_
  refine s_skip (hK _ ?_)
  refine c_weak (e' := ⟨[(0, .v (.slice A l0.length c)), (1, .v (.int .i64 f)), (5, .a 5 0)], [⟨5, none, 30, [.agg 32 (By v).toArray]⟩], [], fun w => Tsh w ∧ Rd 64 eP A c l0 w, fun _ => True⟩) ⟨⟨rfl, rfl, rfl, trivial⟩, ⟨rfl, rfl, trivial⟩, .refl _, fun _ h _ => h.2, fun _ _ => trivial⟩ ?_
  refine s_pure (l0.length ≤ c ∧ (A = none → c = 0) ∧ ∀ x ∈ l0, OkT2 x) (fun _ h _ => ⟨h.2.1, h.2.2.2.1, fun x hx => eP_len (h.2.2.2.2.1 x hx).1⟩) fun ⟨hlc, hA, hok0⟩ => ?_
  refine s_regA TY_ok rfl fun K2 hK2 => ?_
  refine l_op (.v (.int .i64 ((min l0.length 25 : Nat) : Int))) trivial rfl rfl rfl (run_min rfl rfl rfl) ?_
  refine l_num 22 ((l0.take 25).length : Int) rfl (by rw [List.length_take, Nat.min_comm]) ?_
  refine l_autoS TY_ok rfl ?_
  refine s_end (hK2 _ ?_)
  have hl25 : (l0.take 25).length ≤ 25 := by rw [List.length_take]; exact Nat.min_le_left _ _
  have hlc2 : (l0.take 25).length ≤ c := by rw [List.length_take]; exact Nat.le_trans (Nat.min_le_right _ _) hlc
  have hok : ∀ x ∈ l0.take 25, OkT2 x := fun x hx => hok0 x (List.mem_of_mem_take hx)
  refine c_weak (e' := ⟨[(0, .v (.slice A l0.length c)), (1, .v (.int .i64 f)), (5, .a 5 0), (7, .v (.int .i64 ((l0.take 25).length : Int)))], [⟨5, none, 30, [.agg 32 (By v).toArray]⟩], [], fun w => Tsh w ∧ Rd 64 eP A c (l0.take 25) w, fun _ => True⟩) ⟨⟨rfl, rfl, rfl, rfl, trivial⟩, ⟨rfl, rfl, trivial⟩, .refl _, fun _ h _ => ⟨h.1, h.2.take 25⟩, fun _ _ => trivial⟩ ?_
  refine s_auto TY_ok rfl ?_
  refine s_seq fun K3 hK3 => ?_
  refine s_regA TY_ok rfl fun K4 hK4 => ?_
  refine l_op (.v (.slice A (l0.take 25).length c)) trivial rfl rfl rfl (run_cutHi (sz := 64) rfl hlc2 hA rfl Tryd.underlying22 rfl rfl) ?_
  generalize l0.take 25 = l at *
  refine l_autoS TY_ok rfl ?_
  refine s_end (hK4 _ ?_)
  refine s_block ?_
  let F : Nat × List PairT × Option Addr × Nat → Env := fun ⟨i, o, B, e⟩ => ⟨[(27, .v (.int .i64 (i : Int))), (26, .v (.int .i64 (l.length : Int))), (25, .v (.slice A l.length c)), (8, .v (.slice B o.length e)), (1, .v (.int .i64 f)), (5, .a 5 0)], [⟨5, none, 30, [.agg 32 (By v).toArray]⟩], [], fun w => Tsh w ∧ Rd 64 eP A c l w, fun w => Rd 64 eP B e o w⟩
  refine c_weak (e' := F (0, [], none, 0)) ⟨⟨rfl, rfl, rfl, rfl, rfl, rfl, trivial⟩, ⟨rfl, rfl, trivial⟩, .refl _, fun _ h _ => h, fun _ _ => Rd.nil _ _ _⟩ (s_loop (fun x => l.length - x.1) F (fun x => x.1 ≤ l.length ∧ SortT x.2.1 ∧ (∀ y ∈ x.2.1, OkT2 y) ∧ x.2.1.length ≤ x.1) ?_ (0, [], none, 0) ⟨Nat.zero_le _, List.Pairwise.nil, fun _ h => (by cases h), Nat.le_refl _⟩)
  rintro ⟨i, o, B, e⟩ ⟨hi, hs, ho, hlo⟩
  dsimp only at hi hs ho hlo
  have hk : KeysT o := fun x hx => (ho x hx).1
  refine s_auto TY_ok rfl ?_
  refine s_seq fun K5 hK5 => ?_
  refine s_ifD ((i : Int) < (l.length : Int)) rfl (fun hlt => ?_) (fun hge => ?_)
  · have hlt : i < l.length := by omega
    obtain ⟨x, hx⟩ : ∃ x, l[i]? = some x := ⟨_, List.getElem?_eq_getElem hlt⟩
    have hx2 := hok x (List.mem_of_getElem? hx)
    refine s_skip (hK5 _ ?_)
    refine s_seq fun K6 hK6 => ?_
    refine s_block ?_
    refine s_regA TY_ok rfl fun K7 hK7 => ?_
    refine l_elem TY_ok rfl rfl rfl i rfl hx rfl rfl (rd_fact fun _ h _ => h.2) ?_
    refine l_autoS TY_ok rfl ?_
    refine s_end (hK7 _ ?_)
    refine s_lit ?_
    refine l_autoS TY_ok rfl ?_
    refine l_call0 [.slice B o.length e, (eP x).den] rfl rfl rfl own_rput9 rfl rfl (fun _ _ => rfl) (rput_S o hx2 (by omega)) (fun _ _ h => h) fun ⟨B', e'⟩ => ?_
    refine l_autoS TY_ok rfl ?_
    refine s_end (hK6 _ ?_)
    refine s_autoE TY_ok rfl ?_
    exact k_next (i + 1, putT o x, B', e') ⟨hlt, putT_sort hs hk hx2.1, fun y hy => by
      rcases (putT_mem hs hk hx2.1 y).1 hy with rfl | h
      · exact hx2
      · exact ho y h.1, Nat.le_trans (putT_len o x).2 (Nat.succ_le_succ hlo)⟩ (by show l.length - (i + 1) < l.length - i; omega) ⟨⟨congrArg some (congrArg SV.v (congrArg (Value.int .i64) (wrapI rfl (by omega) (by omega)))), rfl, rfl, rfl, rfl, rfl, trivial⟩, ⟨rfl, rfl, trivial⟩, .refl _, fun _ h _ => h.2, fun _ h => h.1⟩
  obtain rfl : i = l.length := by omega
  refine s_exit (k_pass (k_pass (k_out ?_)))
  refine hK3 _ ?_
  have ho25 : o.length ≤ 25 := Nat.le_trans hlo hl25
  refine s_auto TY_ok rfl ?_
  refine s_seq fun K6 hK6 => ?_
  refine s_auto TY_ok rfl ?_
  refine s_block ?_
  let F2 : Nat × TA × TA → Env := fun ⟨i, a, z⟩ => ⟨[(37, .v (.int .i64 (i : Int))), (36, .v (.int .i64 (o.length : Int))), (8, .v (.slice B o.length e)), (11, .a 11 0), (12, .a 12 0), (1, .v (.int .i64 f)), (5, .a 5 0)], [⟨12, none, 27, trPs z 0⟩, ⟨11, none, 27, trPs a 0⟩, ⟨5, none, 30, [.agg 32 (By v).toArray]⟩], [], fun w => TF a w ∧ TF z w ∧ Tsh w, fun w => Rd 64 eP B e o w⟩
  refine c_weak (e' := F2 (0, .nil, .nil)) ⟨⟨rfl, rfl, rfl, rfl, rfl, rfl, rfl, trivial⟩, ⟨rfl, rfl, rfl, rfl, rfl, rfl, trivial⟩, .refl _, fun _ h _ => ⟨trivial, trivial, h.1⟩, fun _ h => h⟩ (s_loop (fun x => o.length - x.1) F2 (fun x => x.1 ≤ o.length ∧ TOk 256 (o.take x.1) x.2.1 ∧ TOk 256 (o.drop (o.length - x.1)) x.2.2) ?_ (0, .nil, .nil) ⟨Nat.zero_le _, TOk.nil rfl, TOk.nil (by simp)⟩)
  clear hlo hi hok0 hK hK1 hK2 hK3 hK4 hK5
  rintro ⟨i, a, z⟩ ⟨hi, ha, hz⟩
  dsimp only at hi ha hz
  refine s_auto TY_ok rfl ?_
  refine s_seq fun K5 hK5 => ?_
  refine s_ifD ((i : Int) < (o.length : Int)) rfl (fun hlt => ?_) (fun hge => ?_)
  · have hlt : i < o.length := by omega
    obtain ⟨p, hp0⟩ : ∃ x, o[i]? = some x := ⟨_, List.getElem?_eq_getElem hlt⟩
    have hp := ho p (List.mem_of_getElem? hp0)
    obtain ⟨j, hjd⟩ : ∃ j, j = o.length - 1 - i := ⟨_, rfl⟩
    have hj : j < o.length := by omega
    obtain ⟨pj, hpj0⟩ : ∃ x, o[j]? = some x := ⟨_, List.getElem?_eq_getElem hj⟩
    have hpj := ho pj (List.mem_of_getElem? hpj0)
    refine s_pure (∃ g o0, B = some ⟨g, o0, none⟩) (fun _ _ h => by
      obtain ⟨g, o0, e, _⟩ := h.2.2.2.2 (by omega)
      exact ⟨g, o0, e⟩) fun ⟨g, o0, hB⟩ => ?_
    subst hB
    refine s_skip (hK5 _ ?_)
    refine s_seq fun K7 hK7 => ?_
    refine s_block ?_
    refine s_auto TY_ok rfl ?_
    refine s_regH 11 (by decide) (by kernel_rfl) (by kernel_rfl) fun K8 hK8 G S w0 hst => ?_
    refine h_auto TY_ok hst rfl ?_
    refine h_op hst (.v (.pointer (some ⟨g, o0 + 64 * i, none⟩))) trivial rfl rfl rfl rfl (runO_ixS i rfl Tryd.underlying22 rfl rfl rfl hlt) ?_
    refine h_auto TY_ok hst rfl ?_
    refine h_opV hst (.q (eY 32 p.1)) (eY_ok hp.1).1 rfl rfl rfl rfl (fun G _ a _ ha hw => runO_key rfl rfl hp.1 (rd_key hw.fresh hp0 hp).1 G a ha) ?_
    refine h_auto TY_ok hst rfl ?_
    refine h_op hst (.v (.pointer (some ⟨g, o0 + 64 * i, none⟩))) trivial rfl rfl rfl rfl (runO_ixS i rfl Tryd.underlying22 rfl rfl rfl hlt) ?_
    refine h_auto TY_ok hst rfl ?_
    refine h_opV hst (.q (eY 32 p.2)) (eY_ok hp.2).1 rfl rfl rfl rfl (fun G _ a _ ha hw => runO_key rfl rfl hp.2 (rd_key hw.fresh hp0 hp).2 G a ha) ?_
    refine h_end hst ?_
    refine l_call0 [(eTr a 0).den, (eY 32 p.1).den, (eY 32 p.2).den] rfl rfl rfl own_tPut rfl rfl (fun _ _ => rfl) (tPut0 hp ha hs.take (fun x hx => hk x (List.mem_of_mem_take hx)) (by rw [List.length_take]; omega)) (fun _ h _ => ⟨h.1, h.2.2⟩) fun ⟨a', ha'⟩ => ?_
    rw [putT_take hs hp0] at ha'
    refine l_autoS TY_ok rfl ?_
    refine s_end (hK8 _ ?_)
    clear hst
    refine s_keep [37, 36, 8, 11, 12, 1, 5, 13] [12, 11, 5] rfl rfl ?_
    refine s_regA TY_ok rfl fun K9 hK9 => ?_
    refine l_num 14 (j : Int) rfl (by
      rw [wrapI (m := (o.length : Int) - 1) (r := ((o.length - 1 : Nat) : Int)) (by omega) (by omega) (by omega)]
      exact wrapI (by omega) (by omega) (by omega)) ?_
    refine s_end (hK9 _ ?_)
    refine s_keep [37, 36, 8, 11, 12, 1, 5, 14] [12, 11, 5] rfl rfl ?_
    refine s_locs fun G => ?_
    have hsub : ∀ u ∈ ([⟨12, some (G 12), 27, trPs z 0⟩] : List LV), u ∈ withG G [⟨12, none, 27, trPs z 0⟩, ⟨11, none, 27, trPs a' 0⟩, ⟨5, none, 30, [.agg 32 (By v).toArray]⟩] ∧ u.g.isSome = true := fun u hu => by
      rw [List.mem_singleton.1 hu]
      exact ⟨List.mem_cons_self, rfl⟩
    refine s_anyP [0, 1, 2, 3, 4, 5, 6, 8, 9, 10, 11, 12, 13, 14, 15, 16, 17] 18 2 (fun w => InvL [⟨12, some (G 12), 27, trPs z 0⟩] w ∧ Rd 64 eP (some ⟨g, o0, none⟩) e o w) (by kernel_rfl) rfl (inv_two hsub fun _ _ h => h.2) ?_
    refine p_frontS TY_ok 0 (by kernel_rfl) rfl rfl rfl rfl rfl rfl (fun x hx => (hsub x hx).1) (fun _ h => h.1) ?_
    refine p_frontS TY_ok 1 (by kernel_rfl) rfl rfl rfl rfl rfl rfl (fun x hx => (hsub x hx).1) (fun _ h => h.1) ?_
    refine p_frontS TY_ok 2 (by kernel_rfl) rfl rfl rfl rfl rfl rfl (fun x hx => (hsub x hx).1) (fun _ h => h.1) ?_
    refine p_frontO (.v (.pointer (some ⟨g, o0 + 64 * j, none⟩))) trivial 3 (by kernel_rfl) rfl rfl rfl rfl rfl (runO_ixS j rfl Tryd.underlying22 rfl rfl rfl hj) ?_
    refine p_frontS TY_ok 4 (by kernel_rfl) rfl rfl rfl rfl rfl rfl (fun x hx => (hsub x hx).1) (fun _ h => h.1) ?_
    refine p_frontI (.q (eY 32 pj.1)) (eY_ok hpj.1).1 5 (by kernel_rfl) rfl rfl rfl rfl rfl (fun G a w ha hw => runO_key rfl rfl hpj.1 (rd_key hw.2 hpj0 hpj).1 G a ha) ?_
    refine p_frontO (.q (eY 32 k9)) (eY_ok hl9).1 6 (by kernel_rfl) rfl rfl rfl rfl rfl (run_hh 9 hk9 rfl rfl) ?_
    refine p_frontS TY_ok 8 (by kernel_rfl) rfl rfl rfl rfl rfl rfl (fun x hx => (hsub x hx).1) (fun _ h => h.1) ?_
    refine p_frontS TY_ok 9 (by kernel_rfl) rfl rfl rfl rfl rfl rfl (fun x hx => (hsub x hx).1) (fun _ h => h.1) ?_
    refine p_frontO (.v (.pointer (some ⟨g, o0 + 64 * j, none⟩))) trivial 10 (by kernel_rfl) rfl rfl rfl rfl rfl (runO_ixS j rfl Tryd.underlying22 rfl rfl rfl hj) ?_
    refine p_frontS TY_ok 11 (by kernel_rfl) rfl rfl rfl rfl rfl rfl (fun x hx => (hsub x hx).1) (fun _ h => h.1) ?_
    refine p_frontI (.q (eY 32 pj.1)) (eY_ok hpj.1).1 12 (by kernel_rfl) rfl rfl rfl rfl rfl (fun G a w ha hw => runO_key rfl rfl hpj.1 (rd_key hw.2 hpj0 hpj).1 G a ha) ?_
    refine p_frontS TY_ok 13 (by kernel_rfl) rfl rfl rfl rfl rfl rfl (fun x hx => (hsub x hx).1) (fun _ h => h.1) ?_
    refine p_frontS TY_ok 14 (by kernel_rfl) rfl rfl rfl rfl rfl rfl (fun x hx => (hsub x hx).1) (fun _ h => h.1) ?_
    refine p_frontO (.v (.pointer (some ⟨g, o0 + 64 * j, none⟩))) trivial 15 (by kernel_rfl) rfl rfl rfl rfl rfl (runO_ixS j rfl Tryd.underlying22 rfl rfl rfl hj) ?_
    refine p_frontS TY_ok 16 (by kernel_rfl) rfl rfl rfl rfl rfl rfl (fun x hx => (hsub x hx).1) (fun _ h => h.1) ?_
    refine p_frontI (.q (eY 32 pj.2)) (eY_ok hpj.2).1 17 (by kernel_rfl) rfl rfl rfl rfl rfl (fun G a w ha hw => runO_key rfl rfl hpj.2 (rd_key hw.2 hpj0 hpj).2 G a ha) ?_
    refine p_step 7 (by kernel_rfl) rfl fun K10 hK10 => ?_
    refine l_call0 [(eTr z 0).den, (eY 32 pj.1).den, (eY 32 k9).den] rfl rfl rfl own_tPut rfl rfl (fun _ _ => rfl) (tPut0 (p := (pj.1, k9)) ⟨hpj.1, hl9⟩ hz hs.drop (fun x hx => hk x (List.mem_of_mem_drop hx)) (by rw [List.length_drop]; omega)) (fun _ h _ => ⟨h.2.2.1, h.2.2.2⟩) fun ⟨z1, hz1⟩ => ?_
    have hs1 : SortT (putT (o.drop (o.length - i)) (pj.1, k9)) := putT_sort hs.drop (fun x hx => hk x (List.mem_of_mem_drop hx)) hpj.1
    have hk1 : KeysT (putT (o.drop (o.length - i)) (pj.1, k9)) := putT_keys hs.drop (fun x hx => hk x (List.mem_of_mem_drop hx)) hpj.1
    have hn1 : (putT (o.drop (o.length - i)) (pj.1, k9)).length + 1 ≤ 1000000 := by
      have := (putT_len (o.drop (o.length - i)) (pj.1, k9)).2
      rw [List.length_drop] at this
      omega
    refine s_end (hK10 _ (inv_two hsub fun _ _ h => h.2.2) ?_)
    refine p_tail [18, 19] (by kernel_rfl) rfl ?_
    refine l_call0 [(eTr z1 0).den, (eY 32 pj.1).den, (eY 32 pj.2).den] rfl rfl rfl own_tPut rfl rfl (fun _ _ => rfl) (tPut0 hpj hz1 hs1 hk1 hn1) (fun _ h _ => ⟨h.1, h.2.2.2.2⟩) fun ⟨z2, hz2⟩ => ?_
    have e2 : o.length - i = j + 1 := by omega
    have e3 := putT_twice (l := o.drop (o.length - i)) (p := (pj.1, k9)) (q := pj) hs.drop (fun x hx => hk x (List.mem_of_mem_drop hx)) hpj.1 rfl
    rw [e3, e2, putT_drop hs hpj0] at hz2
    refine l_autoS TY_ok rfl ?_
    refine s_end (hK7 _ (k_noloc ?_))
    refine s_autoE TY_ok rfl ?_
    exact k_next (i + 1, a', z2) ⟨hlt, ha', by rw [show o.length - (i + 1) = j by omega]; exact hz2⟩ (by show o.length - (i + 1) < o.length - i; omega) ⟨⟨congrArg some (congrArg SV.v (congrArg (Value.int .i64) (wrapI rfl (by omega) (by omega)))), rfl, rfl, rfl, rfl, rfl, rfl, trivial⟩, ⟨rfl, rfl, rfl, rfl, rfl, rfl, trivial⟩, .refl _, fun _ h _ => ⟨h.2.2.1, h.1, h.2.2.2.2.2⟩, fun _ h => h.2.2.2⟩
  obtain rfl : i = o.length := by omega
  rw [List.take_length] at ha
  rw [Nat.sub_self, List.drop_zero] at hz
  refine s_exit (k_pass (k_pass (k_out ?_)))
  refine hK6 _ ?_
  have hroot : ∀ t, TOk 256 o t → t.root = rootT 256 o := fun t h => h.root
  refine s_seq fun K7 hK7 => ?_
  refine s_regH 5 (by decide) (by kernel_rfl) (by kernel_rfl) fun K8 hK8 G S w0 hst => ?_
  refine h_auto TY_ok hst rfl ?_
  refine h_callS (F' := TF a) (r := .q (eY 32 a.root)) hst [(eTr a 0).den] rfl rfl rfl rfl own_tRoot rfl rfl (fun _ => rfl) (eY_ok a.root_len).1 (tRoot_S a 0) (fun _ _ _ hv => hv.fact.1) ?_
  refine h_auto TY_ok hst rfl ?_
  refine h_callS (F' := TF z) (r := .q (eY 32 z.root)) hst [(eTr z 0).den] rfl rfl rfl rfl own_tRoot rfl rfl (fun _ => rfl) (eY_ok z.root_len).1 (tRoot_S z 0) (fun _ _ _ hv => hv.fact.2.1) ?_
  refine h_op hst (.b (!decide (a.root = z.root))) trivial rfl rfl rfl rfl (run_neqY rfl rfl rfl Tryd.underlying30 (by kernel_rfl) a.root_len z.root_len) ?_
  refine h_is 81 false rfl (by rw [hroot a ha, hroot z hz]; simp) ?_
  refine h_end hst ?_
  refine s_end (hK8 _ ?_)
  refine s_no rfl ?_
  refine s_skip (hK7 _ ?_)
  clear hst
  refine s_keep [8, 11, 1, 5] [11, 5] rfl rfl ?_
  refine s_seq fun K8 hK8 => ?_
  refine s_auto TY_ok rfl ?_
  refine s_ifD ((o.length : Int) = 0) rfl (fun _ => ?_) (fun hne => ?_)
  · refine s_auto TY_ok rfl ?_
    exact s_ret (k_ret TY_ok () rfl (by decide) rfl rfl rfl (fun _ _ _ => trivial) (fun _ _ => trivial))
  refine s_skip (hK8 _ ?_)
  have hpos : 0 < o.length := by omega
  obtain ⟨q, hq, -, hqw⟩ := wrapU_mod f o.length hpos (by omega)
  obtain ⟨p, hp0⟩ : ∃ x, o[q]? = some x := ⟨_, List.getElem?_eq_getElem hq⟩
  have hp := ho p (List.mem_of_getElem? hp0)
  refine s_regA TY_ok rfl fun K9 hK9 => ?_
  refine l_num 90 (o.length : Int) rfl (wrapU rfl (by omega) (by omega)) ?_
  refine l_op (.v (.int .u64 ((IntKind.u64.wrap f).tmod (o.length : Int)))) trivial rfl rfl rfl (run_remU (by omega) rfl rfl rfl) ?_
  refine l_autoS TY_ok rfl ?_
  refine l_num 92 (q : Int) rfl hqw ?_
  refine l_elem TY_ok rfl rfl rfl q rfl hp0 rfl rfl (rd_fact fun _ _ h => h) ?_
  refine l_autoS TY_ok rfl ?_
  refine s_end (hK9 _ ?_)
  refine s_regA TY_ok rfl fun K10 hK10 => ?_
  refine l_call0 [(eTr a 0).den, (eY 32 p.1).den, (eY 32 v).den] rfl rfl rfl own_tPut rfl rfl (fun _ _ => rfl) (tPut0 (p := (p.1, v)) ⟨hp.1, hv⟩ ha hs hk (by omega)) (fun _ h _ => ⟨h.1, h.2.2⟩) fun ⟨t, ht⟩ => ?_
  refine l_autoS TY_ok rfl ?_
  refine s_end (hK10 _ ?_)
  have hs2 : SortT (putT o (p.1, v)) := putT_sort hs hk hp.1
  have hk2 : KeysT (putT o (p.1, v)) := putT_keys hs hk hp.1
  have hlen2 : (putT o (p.1, v)).length = o.length := putT_len_in hs (List.mem_of_getElem? hp0) rfl
  have hback : putT (putT o (p.1, v)) p = o := by
    rw [putT_twice (p := (p.1, v)) (q := p) hs hk hp.1 rfl]
    exact putT_same hs hk (List.mem_of_getElem? hp0)
  have hsame : v = p.2 → putT o (p.1, v) = o := fun e => by
    rw [e]
    exact putT_same hs hk (List.mem_of_getElem? hp0)
  have hsh0 : ∀ m : List PairT, SharesT (256 - 256) m := fun _ _ _ _ _ _ h => absurd h (Nat.not_lt_zero _)
  have hputs := rput_S (A := B) (c := e) o (p := (p.1, v)) ⟨hp.1, hv⟩ (by omega)
  have htl : t.len = o.length := ht.len.trans hlen2
  have hal : a.len = o.length := ha.len
  have har : a.root = rootT 256 o := ha.root
  have htr : t.root = rootT 256 (putT o (p.1, v)) := ht.root
  have r1 := rootT_len 256 o
  have r2 := rootT_len 256 (putT o (p.1, v))
  have hRo := fun e => rroot_S 256 o B e (Nat.le_refl _) (by omega) hs (hsh0 o)
  have hR2 := fun B e => rroot_S 256 (putT o (p.1, v)) B e (Nat.le_refl _) (by rw [hlen2]; omega) hs2 (hsh0 _)
  have hput3 := tPut0 (l := putT o (p.1, v)) (t := t) hp ht hs2 hk2 (by rw [hlen2]; omega)
  have hroot3 : ∀ y : TA, TOk 256 (putT (putT o (p.1, v)) p) y → y.root = rootT 256 o := fun y hy => by
    rw [hback] at hy
    exact hy.root
  generalize rootT 256 (putT o (p.1, v)) = Q2 at *
  generalize rootT 256 o = Q1 at *
  have heq : v = p.2 → Q2 = Q1 := fun h => by
    rw [← htr, ← har]
    have := ht
    rw [hsame h] at this
    exact this.root.trans ha.root.symm
  generalize putT o (p.1, v) = o2 at *
  refine s_keep [8, 11, 15, 16, 5] [16, 15, 11, 5] rfl rfl ?_
  refine s_regA TY_ok rfl fun K11 hK11 => ?_
  refine l_call0 [.slice B o.length e, (eP (p.1, v)).den] rfl rfl rfl own_rput9 rfl rfl (fun _ _ => rfl) hputs (fun _ _ h => h.2) fun ⟨B', e'⟩ => ?_
  refine l_call0 [.slice B' o2.length e', .int .i64 0] rfl rfl rfl own_rroot9 rfl rfl (fun _ _ => rfl) (hR2 B' e') (fun _ _ h => h.1) fun _ => ?_
  refine l_autoS TY_ok rfl ?_
  refine s_end (hK11 _ ?_)
  refine c_weak (e' := ⟨[(8, .v (.slice B o.length e)), (11, .a 11 0), (15, .a 15 0), (16, .a 16 0), (17, .a 17 0), (5, .a 5 0)], [⟨17, none, 30, [.agg 32 (By Q2).toArray]⟩, ⟨16, none, 27, trPs t 0⟩, ⟨15, none, 32, (eP p).parts1⟩, ⟨11, none, 27, trPs a 0⟩, ⟨5, none, 30, [.agg 32 (By v).toArray]⟩], [], fun w => TF t w ∧ TF a w ∧ Tsh w, fun w => Rd 64 eP B e o w⟩) ⟨⟨rfl, rfl, rfl, rfl, rfl, rfl, trivial⟩, ⟨rfl, rfl, rfl, rfl, rfl, rfl, rfl, rfl, rfl, rfl, trivial⟩, .refl _, fun _ h _ => ⟨h.2.2.1, h.2.2.2.1, h.2.2.2.2.2⟩, fun _ h => h.2.2.2⟩ ?_
  refine s_regH 42 (by decide) (by kernel_rfl) (by kernel_rfl) fun K12 hK12 G S w0 hst => ?_
  refine h_auto TY_ok hst rfl ?_
  refine h_callS (F' := TF t) (r := .q (eY 32 t.root)) hst [(eTr t 0).den] rfl rfl rfl rfl own_tRoot rfl rfl (fun _ => rfl) (eY_ok t.root_len).1 (tRoot_S t 0) (fun _ _ _ hv => hv.fact.1) ?_
  refine h_auto TY_ok hst rfl ?_
  refine h_callS (F' := TF a) (r := .q (eY 32 a.root)) hst [(eTr a 0).den] rfl rfl rfl rfl own_tRoot rfl rfl (fun _ => rfl) (eY_ok a.root_len).1 (tRoot_S a 0) (fun _ _ _ hv => hv.fact.2.1) ?_
  refine h_op hst (.b (decide (t.root = a.root))) trivial rfl rfl rfl rfl (run_eqY rfl rfl rfl Tryd.underlying30 (by kernel_rfl) t.root_len a.root_len) ?_
  refine h_auto TY_ok hst rfl ?_
  refine h_callS (F' := Rd 64 eP B e o) (r := .q (eY 32 Q1)) hst [.slice B o.length e, .int .i64 0] rfl rfl rfl rfl own_rroot9 rfl rfl (fun _ => rfl) (eY_ok r1).1 (hRo e) (fun _ _ _ hv => hv.fresh) ?_
  refine h_op hst (.b (decide (Q2 = Q1))) trivial rfl rfl rfl rfl (run_eqY rfl rfl rfl Tryd.underlying30 (by kernel_rfl) r2 r1) ?_
  refine h_op hst (.b (decide (t.root = a.root) == decide (Q2 = Q1))) trivial rfl rfl rfl rfl (run_eqBool rfl rfl rfl (fun _ => rfl) (fun _ => rfl)) ?_
  refine h_is 116 true rfl (by rw [htr, har]; simp) ?_
  refine h_auto TY_ok hst rfl ?_
  refine h_op hst (.b (!decide (v = p.2))) trivial rfl rfl rfl rfl (run_neqY rfl rfl rfl Tryd.underlying30 (by kernel_rfl) hv hp.2) ?_
  by_cases hvp : v = p.2
  · refine h_is 121 false rfl (by simp [hvp]) ?_
    refine h_auto TY_ok hst rfl ?_
    refine h_callS (F' := TF t) (r := .q (eY 32 t.root)) hst [(eTr t 0).den] rfl rfl rfl rfl own_tRoot rfl rfl (fun _ => rfl) (eY_ok t.root_len).1 (tRoot_S t 0) (fun _ _ _ hv => hv.fact.1) ?_
    refine h_auto TY_ok hst rfl ?_
    refine h_callS (F' := TF a) (r := .q (eY 32 a.root)) hst [(eTr a 0).den] rfl rfl rfl rfl own_tRoot rfl rfl (fun _ => rfl) (eY_ok a.root_len).1 (tRoot_S a 0) (fun _ _ _ hv => hv.fact.2.1) ?_
    refine h_bare rfl ?_
    refine h_op hst (.b (decide (t.root = a.root))) trivial rfl rfl rfl rfl (run_eqY rfl rfl rfl Tryd.underlying30 (by kernel_rfl) t.root_len a.root_len) ?_
    refine h_is 127 true rfl (by rw [htr, har, heq hvp]; simp) ?_
    refine h_auto TY_ok hst rfl ?_
    refine h_callE (F' := fun w => TF t w ∧ Tsh w) hst [(eTr t 0).den, (eY 32 p.1).den, (eY 32 p.2).den] rfl rfl rfl rfl own_tPut rfl rfl (fun _ => rfl) hput3 (fun w hw _ => ⟨hw.fact.1, hw.fact.2.2⟩) fun x hxok => ?_
    refine h_bare rfl ?_
    refine h_call (r := .q (eY 32 Q1)) hst [(eTr x.1 0).den] rfl rfl rfl rfl own_tRoot rfl rfl (fun _ => rfl) (eY_ok r1).1 (fun w hw hu => ?_) ?_
    · obtain ⟨y, hy1, hy2⟩ : ∃ y : { t' : TA // TOk 256 (putT o2 p) t' }, (eTr x.1 0).den = (eTr y.1 0).den ∧ TF y.1 w := hu 29 _ rfl (by kernel_rfl)
      rw [hy1, ← hroot3 y.1 y.2]
      exact (tRoot_S y.1 0 w (fun _ => False) (fun _ => False) (fun _ h => h) (fun _ h => h.elim) (Stb.of_pst hy2 fun _ _ h => h.elim id id)).mono fun _ _ ⟨_, _, h1, _, h2, _⟩ => ⟨h1, h2.up fun _ _ h => h⟩
    refine h_auto TY_ok hst rfl ?_
    refine h_callS (F' := TF a) (r := .q (eY 32 a.root)) hst [(eTr a 0).den] rfl rfl rfl rfl own_tRoot rfl rfl (fun _ => rfl) (eY_ok a.root_len).1 (tRoot_S a 0) (fun _ _ _ hv => hv.fact.2.1) ?_
    refine h_bare rfl ?_
    refine h_op hst (.b (decide (Q1 = a.root))) trivial rfl rfl rfl rfl (run_eqY rfl rfl rfl Tryd.underlying30 (by kernel_rfl) r1 a.root_len) ?_
    refine h_is 140 true rfl (by rw [har]; simp) ?_
    refine h_auto TY_ok hst rfl ?_
    refine h_callS (F' := TF t) (r := .v (.int .i64 (t.len : Int))) hst [(eTr t 0).den] rfl rfl rfl rfl own_tLen rfl rfl (fun _ => rfl) trivial (tLen_S t 0) (fun _ _ _ hv => hv.fact.1) ?_
    refine h_num 144 (o.length : Int) rfl (by rw [htl]) ?_
    refine h_auto TY_ok hst rfl ?_
    refine h_callS (F' := TF a) (r := .v (.int .i64 (a.len : Int))) hst [(eTr a 0).den] rfl rfl rfl rfl own_tLen rfl rfl (fun _ => rfl) trivial (tLen_S a 0) (fun _ _ _ hv => hv.fact.2.1) ?_
    refine h_num 146 (o.length : Int) rfl (by rw [hal]) ?_
    refine h_auto TY_ok hst rfl ?_
    refine h_is 148 true rfl (by simp) ?_
    refine h_end hst ?_
    refine l_autoS TY_ok rfl ?_
    refine s_end (hK12 _ ?_)
    exact s_ret (k_ret TY_ok () rfl (by decide) rfl rfl rfl (fun _ _ _ => trivial) (fun _ _ => trivial))
  · refine h_is 121 true rfl (by simp [hvp]) ?_
    refine h_auto TY_ok hst rfl ?_
    refine h_callE (F' := fun w => TF t w ∧ Tsh w) hst [(eTr t 0).den, (eY 32 p.1).den, (eY 32 p.2).den] rfl rfl rfl rfl own_tPut rfl rfl (fun _ => rfl) hput3 (fun w hw _ => ⟨hw.fact.1, hw.fact.2.2⟩) fun x hxok => ?_
    refine h_bare rfl ?_
    refine h_call (r := .q (eY 32 Q1)) hst [(eTr x.1 0).den] rfl rfl rfl rfl own_tRoot rfl rfl (fun _ => rfl) (eY_ok r1).1 (fun w hw hu => ?_) ?_
    · obtain ⟨y, hy1, hy2⟩ : ∃ y : { t' : TA // TOk 256 (putT o2 p) t' }, (eTr x.1 0).den = (eTr y.1 0).den ∧ TF y.1 w := hu 29 _ rfl (by kernel_rfl)
      rw [hy1, ← hroot3 y.1 y.2]
      exact (tRoot_S y.1 0 w (fun _ => False) (fun _ => False) (fun _ h => h) (fun _ h => h.elim) (Stb.of_pst hy2 fun _ _ h => h.elim id id)).mono fun _ _ ⟨_, _, h1, _, h2, _⟩ => ⟨h1, h2.up fun _ _ h => h⟩
    refine h_auto TY_ok hst rfl ?_
    refine h_callS (F' := TF a) (r := .q (eY 32 a.root)) hst [(eTr a 0).den] rfl rfl rfl rfl own_tRoot rfl rfl (fun _ => rfl) (eY_ok a.root_len).1 (tRoot_S a 0) (fun _ _ _ hv => hv.fact.2.1) ?_
    refine h_bare rfl ?_
    refine h_op hst (.b (decide (Q1 = a.root))) trivial rfl rfl rfl rfl (run_eqY rfl rfl rfl Tryd.underlying30 (by kernel_rfl) r1 a.root_len) ?_
    refine h_is 140 true rfl (by rw [har]; simp) ?_
    refine h_auto TY_ok hst rfl ?_
    refine h_callS (F' := TF t) (r := .v (.int .i64 (t.len : Int))) hst [(eTr t 0).den] rfl rfl rfl rfl own_tLen rfl rfl (fun _ => rfl) trivial (tLen_S t 0) (fun _ _ _ hv => hv.fact.1) ?_
    refine h_num 144 (o.length : Int) rfl (by rw [htl]) ?_
    refine h_auto TY_ok hst rfl ?_
    refine h_callS (F' := TF a) (r := .v (.int .i64 (a.len : Int))) hst [(eTr a 0).den] rfl rfl rfl rfl own_tLen rfl rfl (fun _ => rfl) trivial (tLen_S a 0) (fun _ _ _ hv => hv.fact.2.1) ?_
    refine h_num 146 (o.length : Int) rfl (by rw [hal]) ?_
    refine h_auto TY_ok hst rfl ?_
    refine h_is 148 true rfl (by simp) ?_
    refine h_end hst ?_
    refine l_autoS TY_ok rfl ?_
    refine s_end (hK12 _ ?_)
    exact s_ret (k_ret TY_ok () rfl (by decide) rfl rfl rfl (fun _ _ _ => trivial) (fun _ _ => trivial))
end Go.Proofs.YtlaikmpnijlcbaaDoor
