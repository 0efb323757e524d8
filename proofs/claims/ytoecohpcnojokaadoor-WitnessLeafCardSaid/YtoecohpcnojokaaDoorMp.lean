/-
  SEVERAL TEXTS IN ONE: Nr.
-/
import Derived.Test.YtoecohpcnojokaaDoorMo
/-
  LAW WitnessLeaf: a key that is put is found, in a tree of one pair more.
-/
namespace Go.Proofs.YtoecohpcnojokaaDoor
open Go.RowKit Go.IntWalk Nums

theorem putT_cnt_new : ∀ {l : List PairT} {p : PairT}, (∀ q ∈ l, q.1 ≠ p.1) → (putT l p).length = l.length + 1
  | [], _, _ => rfl
  | q :: l, p, h => by
    unfold putT
    split
    · rw [List.length_cons, putT_cnt_new fun x hx => h x (List.mem_cons_of_mem _ hx), List.length_cons]
    · rw [if_neg (h q List.mem_cons_self)]
      rfl
theorem putT_cnt_in : ∀ {l : List PairT} {p q : PairT}, SortT l → q ∈ l → q.1 = p.1 → (putT l p).length = l.length
  | [], _, _, _, h, _ => by cases h
  | x :: l, p, q, hs, hq, e => by
    obtain ⟨h1, h2⟩ := List.pairwise_cons.1 hs
    unfold putT
    by_cases hl : lessT x.1 p.1 = true
    · rw [if_pos hl, List.length_cons, List.length_cons]
      rcases List.mem_cons.1 hq with rfl | hq
      · rw [e, lessT_irrefl] at hl
        cases hl
      · rw [putT_cnt_in h2 hq e]
    · rw [if_neg hl]
      rcases List.mem_cons.1 hq with rfl | hq
      · rw [if_pos e]
        rfl
      · have := h1 q hq
        rw [e] at this
        exact absurd this hl
theorem putT_count {l : List PairT} {p : PairT} (hs : SortT l) : (putT l p).length = l.length + (match getT l p.1 with | some _ => 0 | none => 1) := by
  cases hg : getT l p.1 with
  | some v => exact putT_cnt_in hs ((getT_some hs).1 hg) rfl
  | none => exact putT_cnt_new (getT_none.1 hg)
set_option maxRecDepth 100000 in
set_option maxHeartbeats 2000000 in
theorem wleafL_S {A : Option Addr} {c : Nat} (l : List PairT) {k v : List UInt8} (hk : k.length = 32) (hv : v.length = 32) : Spec 6 [.slice A l.length c, (eY 32 k).den, (eY 32 v).den] [] (fun w => Tsh w ∧ Rd 64 eP A c l w) (one (.v (.bool true))) := by
  refine spec_S [.c (.v (.slice A l.length c)), eY 32 k, eY 32 v] 104 Tryd.func6 rfl (by rw [Tryd.ntmps6]; rfl) (more_ok trivial (two_ok (eY_ok hk).1 (eY_ok hv).1)) fun b => ?_
  have hp : OkT2 (k, v) := ⟨hk, hv⟩
  refine s_auto TY_ok rfl ?_
  refine s_seq fun K hK => ?_
  refine s_regA TY_ok rfl fun K1 hK1 => ?_
  refine l_call0 [] rfl rfl rfl own_wfirst rfl rfl (fun _ _ => rfl) wfirst_S (fun _ h _ => h.1) fun _ => ?_
  refine l_autoS TY_ok rfl ?_
  refine s_end (hK1 _ ?_)
  refine s_no rfl ?_
  refine s_skip (hK _ ?_)
  refine s_regA TY_ok rfl fun K2 hK2 => ?_
  refine l_call0 [.slice A l.length c] rfl rfl rfl own_grown rfl rfl (fun _ _ => rfl) (grown_S l) (fun _ h _ => h.2) fun x => ?_
  obtain ⟨x, hx⟩ := x
  refine l_autoS TY_ok rfl ?_
  refine s_end (hK2 _ ?_)
  have hpt := partT_cut hx.sort hx.pairs [k]
  have hcut := fun A c => wCut_S (A := A) (c := c) x.o x.t [k] hx.tree hx.sort hx.keys (by show 1 ≤ _; decide) (fun y hy => by rw [List.mem_singleton.1 hy]; exact hk)
  generalize PW.cut 256 0 x.o [k] = W at *
  have hpt2 := hpt.put hp List.mem_cons_self hx.sort hx.keys
  have hs2 := putT_sort hx.sort hx.keys hp.1
  have htl := hpt.tells List.mem_cons_self hx.sort
  have htl2 := hpt2.tells List.mem_cons_self hs2
  rw [putT_get hx.sort hx.keys hp.1, if_pos rfl] at htl2
  have hget1 := wGet_S hk W hpt.right
  rw [htl] at hget1
  have hput := wPut_S hp W hpt.right
  rw [hpt.known List.mem_cons_self hx.sort] at hput
  generalize hW2 : PW.put (k, v) 0 W = W2 at *
  have hget2 := wGet_S hk W2 hpt2.right
  rw [htl2] at hget2
  have hWg2 := hpt2.good
  have htget := tGet_S 256 x.o x.t hk (Nat.le_refl _) hx.tree hx.sort
  have htput := tPut0 hp hx.tree hx.sort hx.keys (by have := hx.few; omega)
  have hcount := putT_count (p := (k, v)) hx.sort
  have hroot2 := fun t ht => hpt2.root (t := t) ht
  have hfew := hx.few
  cases hg : getT x.o k with
  | some u =>
    rw [hg] at hget1 htget hcount
    replace hcount : (putT x.o (k, v)).length = x.o.length + 0 := hcount
    refine s_regA TY_ok rfl fun K3 hK3 => ?_
    refine l_call0 [(eTr x.t 0).den, (eY 32 k).den] rfl rfl rfl own_tGet rfl rfl (fun _ _ => rfl) htget (fun w h _ => h.1) fun _ => ?_
    refine l_autoS TY_ok rfl ?_
    refine s_end (hK3 _ ?_)
    refine s_regA TY_ok rfl fun K4 hK4 => ?_
    refine l_list (fe := eY 32) TY_ok 0 [k] rfl rfl rfl rfl rfl (fun _ => rfl) rfl (by decide) (by decide) (fun y hy => by rw [List.mem_singleton.1 hy]; exact eY_ok hk) (Nat.zero_le _) fun B => ?_
    refine l_free 0 rfl ?_
    refine l_call0 [(eTr x.t 0).den, .slice B 1 1] rfl rfl rfl own_wCut rfl rfl (fun _ _ => rfl) (hcut B 1) (fun _ h _ => ⟨h.2.2.1, h.1⟩) fun _ => ?_
    refine l_autoS TY_ok rfl ?_
    refine s_end (hK4 _ ?_)
    refine s_regA TY_ok rfl fun K5 hK5 => ?_
    refine l_call0 [(prQ W).den, (eY 32 k).den] rfl rfl rfl own_wGet rfl rfl (fun _ _ => rfl) hget1 (fun _ _ _ => trivial) fun _ => ?_
    refine l_autoS TY_ok rfl ?_
    refine s_end (hK5 _ ?_)
    refine s_regA TY_ok rfl fun K6 hK6 => ?_
    refine l_call0 [(prQ W).den, (eY 32 k).den, (eY 32 v).den] rfl rfl rfl own_wPut rfl rfl (fun _ _ => rfl) hput (fun _ h _ => h.2.2.2.2.2.2.1) fun _ => ?_
    refine l_autoS TY_ok rfl ?_
    refine s_end (hK6 _ ?_)
    refine s_regA TY_ok rfl fun K7 hK7 => ?_
    refine l_call0 [(prQ W2).den, (eY 32 k).den] rfl rfl rfl own_wGet rfl rfl (fun _ _ => rfl) hget2 (fun _ _ _ => trivial) fun _ => ?_
    refine l_autoS TY_ok rfl ?_
    refine s_end (hK7 _ ?_)
    refine s_regA TY_ok rfl fun K8 hK8 => ?_
    refine l_call0 [(eTr x.t 0).den, (eY 32 k).den, (eY 32 v).den] rfl rfl rfl own_tPut rfl rfl (fun _ _ => rfl) htput (fun _ h _ => ⟨h.2.2.2.2.2.2.1, h.2.2.2.2.2.2.2.2.1⟩) fun t' => ?_
    obtain ⟨t', ht'⟩ := t'
    have hroot := hroot2 t' ht'
    have hlen := ht'.len
    have hlen0 := hx.tree.len
    refine l_autoS TY_ok rfl ?_
    refine s_end (hK8 _ ?_)
    refine s_auto TY_ok rfl ?_
    refine s_seq fun K9 hK9 => ?_
    refine s_auto TY_ok rfl ?_
    refine s_yes rfl ?_
    refine s_autoE TY_ok rfl (hK9 _ ?_)
    refine s_keep [5, 7, 10, 13, 14, 15, 16, 17, 18, 19, 20, 21] [5, 7, 15, 17, 20] rfl rfl ?_
    refine s_regH 39 (by decide) (by kernel_rfl) (by kernel_rfl) fun K10 hK10 G S w0 hst => ?_
    refine h_auto TY_ok hst rfl ?_
    refine h_op hst (.b (true == true)) trivial rfl rfl rfl rfl (run_eqBool rfl rfl rfl (fun _ => rfl) (fun _ => rfl)) ?_
    refine h_is 67 true rfl rfl ?_
    refine h_auto TY_ok hst rfl ?_
    refine h_is 72 true rfl (by simp) ?_
    refine h_auto TY_ok hst rfl ?_
    refine h_is 76 true rfl (by simp) ?_
    refine h_auto TY_ok hst rfl ?_
    refine h_is 80 true rfl (by simp) ?_
    refine h_auto TY_ok hst rfl ?_
    refine h_op hst (.b (decide (v = v))) trivial rfl rfl rfl rfl (run_eqY rfl rfl rfl Tryd.underlying38 (by kernel_rfl) hv hv) ?_
    refine h_is 86 true rfl (by simp) ?_
    refine h_auto TY_ok hst rfl ?_
    refine h_callS (F' := fun _ => True) (r := .q (eY 32 W2.root)) hst [(prQ W2).den] rfl rfl rfl rfl own_wRoot rfl rfl (fun _ => rfl) (eY_ok hWg2.root_len).1 (wRoot_S hWg2) (fun _ _ _ _ => trivial) ?_
    refine h_auto TY_ok hst rfl ?_
    refine h_callS (F' := TF t') (r := .q (eY 32 t'.root)) hst [(eTr t' 0).den] rfl rfl rfl rfl own_tRoot rfl rfl (fun _ => rfl) (eY_ok t'.root_len).1 (tRoot_S t' 0) (fun _ _ _ hv => hv.fact.1) ?_
    refine h_auto TY_ok hst rfl ?_
    refine h_op hst (.b (decide (W2.root = t'.root))) trivial rfl rfl rfl rfl (run_eqY rfl rfl rfl Tryd.underlying38 (by kernel_rfl) hWg2.root_len t'.root_len) ?_
    refine h_is 93 true rfl (by rw [hroot]; simp) ?_
    refine h_auto TY_ok hst rfl ?_
    refine h_callS (F' := TF t') (r := .v (.int .i64 (t'.len : Int))) hst [(eTr t' 0).den] rfl rfl rfl rfl own_tLen rfl rfl (fun _ => rfl) trivial (tLen_S t' 0) (fun _ _ _ hv => hv.fact.1) ?_
    refine h_auto TY_ok hst rfl ?_
    refine h_callS (F' := TF x.t) (r := .v (.int .i64 (x.t.len : Int))) hst [(eTr x.t 0).den] rfl rfl rfl rfl own_tLen rfl rfl (fun _ => rfl) trivial (tLen_S x.t 0) (fun _ _ _ hv => hv.fact.2.2.2.2.2.2.2.1) ?_
    refine h_auto TY_ok hst rfl ?_
    refine h_is 103 true rfl ?_ ?_
    · have e : IntKind.i64.wrap ((x.t.len : Int) + 0) = ((x.t.len + 0 : Nat) : Int) := wrapI rfl (by omega) (by omega)
      rw [e]
      exact decide_eq_true (by omega)
    refine h_auto TY_ok hst rfl ?_
    refine h_end hst ?_
    refine l_autoS TY_ok rfl ?_
    refine s_end (hK10 _ ?_)
    exact s_ret (k_ret TY_ok () rfl (by decide) rfl rfl rfl (fun _ _ _ => trivial) (fun _ _ => trivial))
  | none =>
    rw [hg] at hget1 htget hcount
    replace hcount : (putT x.o (k, v)).length = x.o.length + 1 := hcount
    refine s_regA TY_ok rfl fun K3 hK3 => ?_
    refine l_call0 [(eTr x.t 0).den, (eY 32 k).den] rfl rfl rfl own_tGet rfl rfl (fun _ _ => rfl) htget (fun w h _ => h.1) fun _ => ?_
    refine l_autoS TY_ok rfl ?_
    refine s_end (hK3 _ ?_)
    refine s_regA TY_ok rfl fun K4 hK4 => ?_
    refine l_list (fe := eY 32) TY_ok 0 [k] rfl rfl rfl rfl rfl (fun _ => rfl) rfl (by decide) (by decide) (fun y hy => by rw [List.mem_singleton.1 hy]; exact eY_ok hk) (Nat.zero_le _) fun B => ?_
    refine l_free 0 rfl ?_
    refine l_call0 [(eTr x.t 0).den, .slice B 1 1] rfl rfl rfl own_wCut rfl rfl (fun _ _ => rfl) (hcut B 1) (fun _ h _ => ⟨h.2.2.1, h.1⟩) fun _ => ?_
    refine l_autoS TY_ok rfl ?_
    refine s_end (hK4 _ ?_)
    refine s_regA TY_ok rfl fun K5 hK5 => ?_
    refine l_call0 [(prQ W).den, (eY 32 k).den] rfl rfl rfl own_wGet rfl rfl (fun _ _ => rfl) hget1 (fun _ _ _ => trivial) fun _ => ?_
    refine l_autoS TY_ok rfl ?_
    refine s_end (hK5 _ ?_)
    refine s_regA TY_ok rfl fun K6 hK6 => ?_
    refine l_call0 [(prQ W).den, (eY 32 k).den, (eY 32 v).den] rfl rfl rfl own_wPut rfl rfl (fun _ _ => rfl) hput (fun _ h _ => h.2.2.2.2.2.2.1) fun _ => ?_
    refine l_autoS TY_ok rfl ?_
    refine s_end (hK6 _ ?_)
    refine s_regA TY_ok rfl fun K7 hK7 => ?_
    refine l_call0 [(prQ W2).den, (eY 32 k).den] rfl rfl rfl own_wGet rfl rfl (fun _ _ => rfl) hget2 (fun _ _ _ => trivial) fun _ => ?_
    refine l_autoS TY_ok rfl ?_
    refine s_end (hK7 _ ?_)
    refine s_regA TY_ok rfl fun K8 hK8 => ?_
    refine l_call0 [(eTr x.t 0).den, (eY 32 k).den, (eY 32 v).den] rfl rfl rfl own_tPut rfl rfl (fun _ _ => rfl) htput (fun _ h _ => ⟨h.2.2.2.2.2.2.1, h.2.2.2.2.2.2.2.2.1⟩) fun t' => ?_
    obtain ⟨t', ht'⟩ := t'
    have hroot := hroot2 t' ht'
    have hlen := ht'.len
    have hlen0 := hx.tree.len
    refine l_autoS TY_ok rfl ?_
    refine s_end (hK8 _ ?_)
    refine s_auto TY_ok rfl ?_
    refine s_seq fun K9 hK9 => ?_
    refine s_auto TY_ok rfl ?_
    refine s_no rfl ?_
    refine s_skip (hK9 _ ?_)
    refine s_keep [5, 7, 10, 13, 14, 15, 16, 17, 18, 19, 20, 21] [5, 7, 15, 17, 20] rfl rfl ?_
    refine s_regH 39 (by decide) (by kernel_rfl) (by kernel_rfl) fun K10 hK10 G S w0 hst => ?_
    refine h_auto TY_ok hst rfl ?_
    refine h_op hst (.b (false == false)) trivial rfl rfl rfl rfl (run_eqBool rfl rfl rfl (fun _ => rfl) (fun _ => rfl)) ?_
    refine h_is 67 true rfl rfl ?_
    refine h_auto TY_ok hst rfl ?_
    refine h_is 72 true rfl (by simp) ?_
    refine h_auto TY_ok hst rfl ?_
    refine h_is 76 true rfl (by simp) ?_
    refine h_auto TY_ok hst rfl ?_
    refine h_is 80 true rfl (by simp) ?_
    refine h_auto TY_ok hst rfl ?_
    refine h_op hst (.b (decide (v = v))) trivial rfl rfl rfl rfl (run_eqY rfl rfl rfl Tryd.underlying38 (by kernel_rfl) hv hv) ?_
    refine h_is 86 true rfl (by simp) ?_
    refine h_auto TY_ok hst rfl ?_
    refine h_callS (F' := fun _ => True) (r := .q (eY 32 W2.root)) hst [(prQ W2).den] rfl rfl rfl rfl own_wRoot rfl rfl (fun _ => rfl) (eY_ok hWg2.root_len).1 (wRoot_S hWg2) (fun _ _ _ _ => trivial) ?_
    refine h_auto TY_ok hst rfl ?_
    refine h_callS (F' := TF t') (r := .q (eY 32 t'.root)) hst [(eTr t' 0).den] rfl rfl rfl rfl own_tRoot rfl rfl (fun _ => rfl) (eY_ok t'.root_len).1 (tRoot_S t' 0) (fun _ _ _ hv => hv.fact.1) ?_
    refine h_auto TY_ok hst rfl ?_
    refine h_op hst (.b (decide (W2.root = t'.root))) trivial rfl rfl rfl rfl (run_eqY rfl rfl rfl Tryd.underlying38 (by kernel_rfl) hWg2.root_len t'.root_len) ?_
    refine h_is 93 true rfl (by rw [hroot]; simp) ?_
    refine h_auto TY_ok hst rfl ?_
    refine h_callS (F' := TF t') (r := .v (.int .i64 (t'.len : Int))) hst [(eTr t' 0).den] rfl rfl rfl rfl own_tLen rfl rfl (fun _ => rfl) trivial (tLen_S t' 0) (fun _ _ _ hv => hv.fact.1) ?_
    refine h_auto TY_ok hst rfl ?_
    refine h_callS (F' := TF x.t) (r := .v (.int .i64 (x.t.len : Int))) hst [(eTr x.t 0).den] rfl rfl rfl rfl own_tLen rfl rfl (fun _ => rfl) trivial (tLen_S x.t 0) (fun _ _ _ hv => hv.fact.2.2.2.2.2.2.2.1) ?_
    refine h_auto TY_ok hst rfl ?_
    refine h_is 103 true rfl ?_ ?_
    · have e : IntKind.i64.wrap ((x.t.len : Int) + 1) = ((x.t.len + 1 : Nat) : Int) := wrapI rfl (by omega) (by omega)
      rw [e]
      exact decide_eq_true (by omega)
    refine h_auto TY_ok hst rfl ?_
    refine h_end hst ?_
    refine l_autoS TY_ok rfl ?_
    refine s_end (hK10 _ ?_)
    exact s_ret (k_ret TY_ok () rfl (by decide) rfl rfl rfl (fun _ _ _ => trivial) (fun _ _ => trivial))
end Go.Proofs.YtoecohpcnojokaaDoor
