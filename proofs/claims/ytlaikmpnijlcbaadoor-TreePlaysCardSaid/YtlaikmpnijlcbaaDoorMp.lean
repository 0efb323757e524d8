/-
  SEVERAL TEXTS IN ONE: TrV, Law, OpenR, LawW, OpenT.
-/
import Derived.Test.YtlaikmpnijlcbaaDoorMo
import Derived.Test.YtlaikmpnijlcbaaDoorRows
import Derived.Test.YtlaikmpnijlcbaaDoorMb
import Derived.ProofKit
import Derived.OpenShut
import Derived.SizedLaws
import Derived.Test.YtlaikmpnijlcbaaDoorMe
import Derived.LaidMore
import Derived.SevenTiedAt
import Derived.Stop.Joined
import Derived.Test.YtlaikmpnijlcbaaDoorMn
import Derived.Test.YtlaikmpnijlcbaaDoorMi
import Derived.Test.YtlaikmpnijlcbaaDoorMf
import Derived.Test.YtlaikmpnijlcbaaDoorCards
import Derived.Test.YtlaikmpnijlcbaaDoorTie
/-
  TREEPLAYS: trees answer every script of puts, each keeps its own pairs.
-/
namespace Go.Proofs.YtlaikmpnijlcbaaDoor
open Go.RowKit Go.IntWalk Nums

/-- A tree of before, and its pairs as they were listed. -/
abbrev HT := TA × Option Addr × Nat × List PairT
def feT (x : HT) : SQ := eTr x.1 0
def feL (x : HT) : SQ := .c (.v (.slice x.2.1 x.2.2.2.length x.2.2.1))
theorem feT_ok (x : HT) : OkP (feT x).parts1 ∧ (feT x).cl.length = 2 := ⟨trPs_ok x.1 0, by
  show (catP (trPs x.1 0)).toList.length = 2
  rw [Array.length_toList]
  unfold trPs
  rw [catP_cons, catP_cons]
  simp only [Pt.cells, SC.den]
  rfl⟩
theorem feL_ok (x : HT) : OkP (feL x).parts1 ∧ (feL x).cl.length = 1 := ⟨fun p hp => by rw [List.mem_singleton.1 hp]; exact ⟨trivial, rfl, rfl⟩, rfl⟩
def GoodT (x : HT) : Prop := TOk 256 x.2.2.2 x.1 ∧ SortT x.2.2.2 ∧ KeysT x.2.2.2 ∧ x.2.2.2.length ≤ 1000000
def FFT (A : Option Addr) (c : Nat) (ps : List PairT) (Aa : Option Addr) (ca : Nat) (asks : List (List UInt8)) (t : TA) (h : List HT) (w : World) : Prop := Tsh w ∧ Rd 64 eP A c ps w ∧ Rd 32 (eY 32) Aa ca asks w ∧ TF t w ∧ ∀ x ∈ h, TF x.1 w
def MMT (B : Option Addr) (e : Nat) (o : List PairT) (h : List HT) (w : World) : Prop := Rd 64 eP B e o w ∧ ∀ x ∈ h, Rd 64 eP x.2.1 x.2.2.1 x.2.2.2 w
theorem run_neqBool {N : Nat} {E : SE} {o : Oper} {x y : Operand} {t' : TypeId} {u v : SV} {p q : Bool} (ho : o.op = .binOp .neq 4 x y t') (hx : evS E x = some u) (hy : evS E y = some v) (hu : ∀ G, u.den G = .bool p) (hv : ∀ G, v.den G = .bool q) : ∀ (G : Nat → Nat) (a : Act) (w : World), Fr N (denE G E) a → (execOp a.eval o).run Tryd.prog w = .ok (.value ((SV.b (p != q)).den G)) w := fun G a w ha => by
  have h1 := ha.eval (evS_ok hx)
  have h2 := ha.eval (evS_ok hy)
  rw [hu G] at h1
  rw [hv G] at h2
  unfold execOp
  simp only [ho, h1, h2, SV.den, SQ.den, SC.den]
  cases p <;> cases q <;> go_simp
theorem own_tplays : Own 3 := fun _ _ => by go_simp
set_option maxRecDepth 100000 in
set_option maxHeartbeats 4000000 in
theorem tplays_S {A : Option Addr} {c : Nat} (l : List PairT) {Aa : Option Addr} {ca : Nat} (ks : List (List UInt8)) : Spec 3 [.slice A l.length c, .slice Aa ks.length ca] [] (fun w => Tsh w ∧ Rd 64 eP A c l w ∧ Rd 32 (eY 32) Aa ca ks w) (one (.v (.bool true))) := by
  refine spec_S [.c (.v (.slice A l.length c)), .c (.v (.slice Aa ks.length ca))] 101 Tryd.func3 rfl (by rw [Tryd.ntmps3]; rfl) (two_ok trivial trivial) fun b => ?_
  refine s_auto TY_ok rfl ?_
  refine s_seq fun K hK => ?_
  refine s_regA TY_ok rfl fun K1 hK1 => ?_
  refine l_call0 [] rfl rfl rfl own_tfirst rfl rfl (fun _ _ => rfl) tfirst_S (fun _ h _ => h.1) fun _ => ?_
  refine l_autoS TY_ok rfl ?_
  refine s_end (hK1 _ ?_)
  refine s_no rfl ?_
  refine s_skip (hK _ ?_)
  refine s_pure (l.length ≤ 9223372036854775807 ∧ (∀ x ∈ l, OkT2 x) ∧ ks.length ≤ ca ∧ (Aa = none → ca = 0) ∧ ∀ k ∈ ks, k.length = 32) (fun _ h _ => ⟨Nat.le_trans h.2.2.1.1 h.2.2.1.2.1, fun x hx => eP_len (h.2.2.1.2.2.2.1 x hx).1, h.2.2.2.1, h.2.2.2.2.2.1, fun k hk => by
    have := ((h.2.2.2.2.2.2.1 k hk).1 (.agg 32 (By k).toArray) (by simp [eY, SQ.parts1])).1
    rwa [List.size_toArray, By_len] at this⟩) fun ⟨hl, hok, hkc, hkA, hks⟩ => ?_
  refine s_auto TY_ok rfl ?_
  refine s_auto TY_ok rfl ?_
  refine s_auto TY_ok rfl ?_
  refine s_auto TY_ok rfl ?_
  refine s_nil0 b.B.heap.size 22 1 feL ?_
  refine s_nil0 b.B.heap.size 27 2 feT ?_
  refine s_seq fun K2 hK2 => ?_
  refine s_auto TY_ok rfl ?_
  refine s_block ?_
  let F : Nat × TA × List PairT × Option Addr × Nat × List HT × Option Addr × Nat × Option Addr × Nat → Env := fun ⟨i, t, o, B, e, h, A1, c1, A2, c2⟩ => ⟨[(22, .v (.int .i64 (i : Int))), (21, .v (.int .i64 (l.length : Int))), (20, .v (.slice A l.length c)), (6, .v (.slice B o.length e)), (7, .v (.slice A1 h.length c1)), (8, .v (.slice A2 h.length c2)), (1, .v (.slice Aa ks.length ca)), (5, .a 5 0)], [⟨5, none, 27, trPs t 0⟩], [OwnS b.B.heap.size 27 2 feT A1 c1 h, OwnS b.B.heap.size 22 1 feL A2 c2 h], FFT A c l Aa ca ks t h, MMT B e o h⟩
  let Iv : Nat × TA × List PairT × Option Addr × Nat × List HT × Option Addr × Nat × Option Addr × Nat → Prop := fun x => x.1 ≤ l.length ∧ x.1 ≤ 30 ∧ GoodT (x.2.1, x.2.2.2.1, x.2.2.2.2.1, x.2.2.1) ∧ (∀ y ∈ x.2.2.1, OkT2 y) ∧ x.2.2.1.length ≤ x.1 ∧ x.2.2.2.2.2.1.length = x.1 ∧ ∀ y ∈ x.2.2.2.2.2.1, GoodT y
  have hend : ∀ x, Iv x → kS b K2 101 (F x) := by
    rintro ⟨i, t, o, B, e, h, A1, c1, A2, c2⟩ ⟨hi, hi30, ⟨ht, hs, hkk, hol⟩, ho, hlo, hh, hgood⟩
    dsimp only at hi hi30 ht hs hkk hol ho hlo hh hgood
    refine hK2 _ ?_
    refine s_freeM 0 rfl (Nat.le_refl _) ?_
    refine s_freeM 0 rfl (Nat.le_refl _) ?_
    refine s_seq fun K20 hK20 => ?_
    refine s_auto TY_ok rfl ?_
    refine s_block ?_
    let F3 : Nat → Env := fun j => ⟨[(84, .v (.int .i64 (j : Int))), (83, .v (.int .i64 (h.length : Int))), (7, .v (.slice A1 h.length c1)), (8, .v (.slice A2 h.length c2)), (6, .v (.slice B o.length e)), (5, .a 5 0)], [⟨5, none, 27, trPs t 0⟩], [], FFT A c l Aa ca ks t h, fun w => Rd 1 feL A2 c2 h w ∧ Rd 2 feT A1 c1 h w ∧ MMT B e o h w⟩
    refine c_weak (e' := F3 0) ⟨⟨rfl, rfl, rfl, rfl, rfl, rfl, trivial⟩, ⟨rfl, rfl, trivial⟩, .refl _, fun _ h _ => h, fun _ h => h⟩ (s_loop (fun x => h.length - x) F3 (fun x => x ≤ h.length) ?_ 0 (Nat.zero_le _))
    intro j hj
    refine s_auto TY_ok rfl ?_
    refine s_seq fun K21 hK21 => ?_
    refine s_ifD ((j : Int) < (h.length : Int)) rfl (fun hlt => ?_) (fun hge => ?_)
    · have hlt : j < h.length := by omega
      obtain ⟨x, hx⟩ : ∃ x, h[j]? = some x := ⟨_, List.getElem?_eq_getElem hlt⟩
      have hxm := List.mem_of_getElem? hx
      obtain ⟨hx1, hx2, hx3, hx4⟩ := hgood x hxm
      refine s_skip (hK21 _ ?_)
      refine s_seq fun K22 hK22 => ?_
      refine s_block ?_
      refine s_auto TY_ok rfl ?_
      refine s_regH 10 (by decide) (by kernel_rfl) (by kernel_rfl) fun K24 hK24 G S w0 hst => ?_
      refine h_auto TY_ok hst rfl ?_
      refine g_elem (b := b) TY_ok hst rfl rfl rfl j rfl hx rfl rfl (rd_fact fun _ _ h => h.2.1) ?_
      refine h_auto (Fa := []) TY_ok hst rfl ?_
      refine g_elem (b := b) TY_ok hst rfl rfl rfl j rfl hx rfl rfl (rd_fact fun _ _ h => h.1) ?_
      refine h_callS (Fa := []) (F' := fun w => TF x.1 w ∧ Rd 64 eP x.2.1 x.2.2.1 x.2.2.2 w) (r := .v (.bool true)) hst [(eTr x.1 0).den, .slice x.2.1 x.2.2.2.length x.2.2.1] rfl rfl rfl rfl own_tsame rfl rfl (fun _ => rfl) trivial (tsame_S x.2.2.2 x.1 hx1 hx2 hx3 hx4) (fun _ _ _ hv => ⟨hv.fact.2.2.2.2 x hxm, hv.fresh.2.2.2 x hxm⟩) ?_
      refine h_auto TY_ok hst rfl ?_
      refine h_end hst ?_
      refine s_end (hK24 _ ?_)
      refine s_no rfl ?_
      refine s_skip (hK22 _ ?_)
      refine s_autoE TY_ok rfl ?_
      exact k_next (j + 1) hlt (by show h.length - (j + 1) < h.length - j; omega) ⟨⟨congrArg some (congrArg SV.v (congrArg (Value.int .i64) (wrapI rfl (by omega) (by omega)))), rfl, rfl, rfl, rfl, rfl, trivial⟩, ⟨rfl, rfl, trivial⟩, .refl _, fun _ h _ => h, fun _ h => h⟩
    · refine s_exit (k_pass (k_pass (k_out ?_)))
      refine hK20 _ ?_
      refine s_regA TY_ok rfl fun K25 hK25 => ?_
      refine l_call0 [(eTr t 0).den, .slice B o.length e] rfl rfl rfl own_tsame rfl rfl (fun _ _ => rfl) (tsame_S o t ht hs hkk hol) (fun _ h h' => ⟨h.2.2.2.1, h'.2.2.1⟩) fun _ => ?_
      refine l_autoS TY_ok rfl ?_
      refine s_end (hK25 _ ?_)
      exact s_ret (k_ret TY_ok () rfl (by decide) rfl rfl rfl (fun _ _ _ => trivial) (fun _ _ => trivial))
  refine c_weak (e' := F (0, .nil, [], none, 0, [], none, 0, none, 0)) ⟨⟨rfl, rfl, rfl, rfl, rfl, rfl, rfl, rfl, trivial⟩, ⟨rfl, rfl, trivial⟩, .refl _, fun _ h _ => ⟨h.2.1, h.2.2.1, h.2.2.2, trivial, fun _ h => by cases h⟩, fun _ _ => ⟨Rd.nil _ _ _, fun _ h => by cases h⟩⟩ (s_loop (fun x => l.length - x.1) F Iv ?_ (0, .nil, [], none, 0, [], none, 0, none, 0) ⟨Nat.zero_le _, Nat.zero_le _, ⟨TOk.nil rfl, List.Pairwise.nil, fun _ h => (by cases h), Nat.zero_le _⟩, fun _ h => (by cases h), Nat.zero_le _, rfl, fun _ h => (by cases h)⟩)
  rintro ⟨i, t, o, B, e, h, A1, c1, A2, c2⟩ ⟨hi, hi30, ⟨ht, hs, hkk, hol⟩, ho, hlo, hh, hgood⟩
  dsimp only at hi hi30 ht hs hkk hol ho hlo hh hgood
  refine s_auto TY_ok rfl ?_
  refine s_seq fun K3 hK3 => ?_
  refine s_ifD ((i : Int) < (l.length : Int)) rfl (fun hlt => ?_) (fun hge => ?_)
  · have hlt : i < l.length := by omega
    obtain ⟨p, hp0⟩ : ∃ x, l[i]? = some x := ⟨_, List.getElem?_eq_getElem hlt⟩
    have hp := hok p (List.mem_of_getElem? hp0)
    refine s_skip (hK3 _ ?_)
    refine s_seq fun K4 hK4 => ?_
    refine s_block ?_
    refine s_regA TY_ok rfl fun K5 hK5 => ?_
    refine l_elem TY_ok rfl rfl rfl i rfl hp0 rfl rfl (rd_fact fun _ h _ => h.2.1) ?_
    refine l_autoS TY_ok rfl ?_
    refine s_end (hK5 _ ?_)
    refine s_seq fun K6 hK6 => ?_
    refine s_auto TY_ok rfl ?_
    refine s_ifD ((i : Int) ≥ 30) rfl (fun hge => ?_) (fun hlt30 => ?_)
    · refine s_exit (k_pass (k_passB rfl (k_pass (k_pass (k_out ?_)))))
      exact k_weak (e' := F (i, t, o, B, e, h, A1, c1, A2, c2)) ⟨⟨rfl, rfl, rfl, rfl, rfl, rfl, rfl, rfl, trivial⟩, ⟨rfl, rfl, trivial⟩, .refl _, fun _ h _ => h, fun _ h => h⟩ (hend (i, t, o, B, e, h, A1, c1, A2, c2) ⟨hi, hi30, ⟨ht, hs, hkk, hol⟩, ho, hlo, hh, hgood⟩)
    have hlt30 : i < 30 := by omega
    refine s_skip (hK6 _ ?_)
    refine s_regA TY_ok rfl fun K7 hK7 => ?_
    refine l_push TY_ok 0 ((t, B, e, o) : HT) rfl rfl rfl rfl rfl rfl rfl (feT_ok _) (by decide) (by decide) (by show (_ + 1) * 16 ≤ _; omega) (by omega) (Nat.le_refl _) fun A1' c1' => ?_
    refine l_autoS TY_ok rfl ?_
    refine l_push TY_ok 1 ((t, B, e, o) : HT) rfl rfl rfl rfl rfl rfl rfl (feL_ok _) (by decide) (by decide) (by show (_ + 1) * 24 ≤ _; omega) (by omega) (Nat.le_refl _) fun A2' c2' => ?_
    refine l_autoS TY_ok rfl ?_
    refine s_end (hK7 _ ?_)
    have hput := tPut0 hp ht hs hkk (by omega)
    refine s_regA TY_ok rfl fun K8 hK8 => ?_
    refine l_call0 [(eTr t 0).den, (eY 32 p.1).den, (eY 32 p.2).den] rfl rfl rfl own_tPut rfl rfl (fun _ _ => rfl) hput (fun _ h _ => ⟨h.2.2.2.1, h.1⟩) fun ⟨t', ht'⟩ => ?_
    refine l_autoS TY_ok rfl ?_
    refine s_end (hK8 _ ?_)
    refine s_regA TY_ok rfl fun K9 hK9 => ?_
    refine l_call0 [.slice B o.length e, (eP p).den] rfl rfl rfl own_rput9 rfl rfl (fun _ _ => rfl) (rput_S o hp hol) (fun _ _ h => h.2.1) fun ⟨B', e'⟩ => ?_
    refine l_autoS TY_ok rfl ?_
    refine s_end (hK9 _ ?_)
    have hs' := putT_sort (p := p) hs hkk hp.1
    have ho' : ∀ y ∈ putT o p, OkT2 y := fun y hy => by
      rcases (putT_mem hs hkk hp.1 y).1 hy with rfl | h
      · exact hp
      · exact ho y h.1
    have hk' : KeysT (putT o p) := fun y hy => (ho' y hy).1
    have hlo' : (putT o p).length ≤ i + 1 := Nat.le_trans (putT_len o p).2 (Nat.succ_le_succ hlo)
    generalize putT o p = o' at *
    have hgood' : ∀ y ∈ h ++ [((t, B, e, o) : HT)], GoodT y := fun y hy => by
      rcases List.mem_append.1 hy with hy | hy
      · exact hgood y hy
      · rw [List.mem_singleton.1 hy]
        exact ⟨ht, hs, hkk, hol⟩
    have hh' : (h ++ [((t, B, e, o) : HT)]).length = i + 1 := by rw [List.length_append, hh]; rfl
    refine c_weak (e' := ⟨[(22, .v (.int .i64 (i : Int))), (21, .v (.int .i64 (l.length : Int))), (20, .v (.slice A l.length c)), (6, .v (.slice B' o'.length e')), (7, .v (.slice A1' (h ++ [((t, B, e, o) : HT)]).length c1')), (8, .v (.slice A2' (h ++ [((t, B, e, o) : HT)]).length c2')), (1, .v (.slice Aa ks.length ca)), (5, .a 5 0), (10, .a 10 0)], [⟨10, none, 32, (eP p).parts1⟩, ⟨5, none, 27, trPs t' 0⟩], [OwnS b.B.heap.size 27 2 feT A1' c1' (h ++ [((t, B, e, o) : HT)]), OwnS b.B.heap.size 22 1 feL A2' c2' (h ++ [((t, B, e, o) : HT)])], FFT A c l Aa ca ks t' (h ++ [((t, B, e, o) : HT)]), MMT B' e' o' (h ++ [((t, B, e, o) : HT)])⟩) ⟨⟨rfl, rfl, rfl, rfl, rfl, rfl, rfl, rfl, rfl, trivial⟩, ⟨rfl, rfl, rfl, rfl, trivial⟩, .refl _, fun _ h _ => ⟨h.2.2.1, h.2.2.2.1, h.2.2.2.2.1, h.2.1, fun y hy => (List.mem_append.1 hy).elim (h.2.2.2.2.2.2 y) fun hy => by rw [List.mem_singleton.1 hy]; exact h.2.2.2.2.2.1⟩, fun _ h => ⟨h.1, fun y hy => (List.mem_append.1 hy).elim (h.2.2.2 y) fun hy => by rw [List.mem_singleton.1 hy]; exact h.2.2.1⟩⟩ ?_
    generalize h ++ [((t, B, e, o) : HT)] = h' at *
    refine s_locs fun G => ?_
    have hsub : ∀ {us : List LV}, ∀ x ∈ [(⟨10, some (G 10), 32, (eP p).parts1⟩ : LV)], x ∈ (⟨10, some (G 10), 32, (eP p).parts1⟩ : LV) :: us ∧ x.g.isSome = true := fun x hx => by
      rw [List.mem_singleton.1 hx]
      exact ⟨List.mem_cons_self, rfl⟩
    have e5 : min ks.length 5 = (ks.take 5).length := by rw [List.length_take, Nat.min_comm]
    have hl5 : (ks.take 5).length ≤ ca := by rw [← e5]; exact Nat.le_trans (Nat.min_le_left _ _) hkc
    have hl5' : (ks.take 5).length ≤ 5 := by rw [← e5]; exact Nat.min_le_right _ _
    have hks5 : ∀ k ∈ ks.take 5, k.length = 32 := fun k hk => hks k (List.mem_of_mem_take hk)
    refine s_seq fun K10 hK10 => ?_
    have hloop : ∀ A3 c3, kS b K10 101 ⟨[(56, .v (.int .i64 0)), (55, .v (.int .i64 (([p.1] ++ ks.take 5).length : Int))), (54, .v (.slice A3 ([p.1] ++ ks.take 5).length c3)), (22, .v (.int .i64 (i : Int))), (21, .v (.int .i64 (l.length : Int))), (20, .v (.slice A l.length c)), (6, .v (.slice B' o'.length e')), (7, .v (.slice A1' h'.length c1')), (8, .v (.slice A2' h'.length c2')), (1, .v (.slice Aa ks.length ca)), (5, .a 5 0)], [⟨5, none, 27, trPs t' 0⟩], [OwnS b.B.heap.size 30 32 (eY 32) A3 c3 ([p.1] ++ ks.take 5), OwnS b.B.heap.size 27 2 feT A1' c1' h', OwnS b.B.heap.size 22 1 feL A2' c2' h'], FFT A c l Aa ca ks t' h', MMT B' e' o' h'⟩ := by
      intro A3 c3
      refine hK10 _ ?_
      have hjs : ∀ k ∈ [p.1] ++ ks.take 5, k.length = 32 := fun k hk => by
        rcases List.mem_append.1 hk with hk | hk
        · rw [List.mem_singleton.1 hk]
          exact hp.1
        · exact hks5 k hk
      have hjl : ([p.1] ++ ks.take 5).length ≤ 6 := by rw [List.length_append, List.length_singleton]; omega
      generalize [p.1] ++ ks.take 5 = js at *
      refine s_freeM 0 rfl (Nat.le_refl _) ?_
      refine s_block ?_
      let F2 : Nat → Env := fun k => ⟨[(56, .v (.int .i64 (k : Int))), (55, .v (.int .i64 (js.length : Int))), (54, .v (.slice A3 js.length c3)), (22, .v (.int .i64 (i : Int))), (21, .v (.int .i64 (l.length : Int))), (20, .v (.slice A l.length c)), (6, .v (.slice B' o'.length e')), (7, .v (.slice A1' h'.length c1')), (8, .v (.slice A2' h'.length c2')), (1, .v (.slice Aa ks.length ca)), (5, .a 5 0)], [⟨5, none, 27, trPs t' 0⟩], [OwnS b.B.heap.size 27 2 feT A1' c1' h', OwnS b.B.heap.size 22 1 feL A2' c2' h'], FFT A c l Aa ca ks t' h', fun w => Rd 32 (eY 32) A3 c3 js w ∧ MMT B' e' o' h' w⟩
      refine c_weak (e' := F2 0) ⟨⟨rfl, rfl, rfl, rfl, rfl, rfl, rfl, rfl, rfl, rfl, rfl, trivial⟩, ⟨rfl, rfl, trivial⟩, .refl _, fun _ h _ => h, fun _ h => h⟩ (s_loop (fun x => js.length - x) F2 (fun x => x ≤ js.length) ?_ 0 (Nat.zero_le _))
      intro k hk0
      refine s_auto TY_ok rfl ?_
      refine s_seq fun K11 hK11 => ?_
      refine s_ifD ((k : Int) < (js.length : Int)) rfl (fun hklt => ?_) (fun hkge => ?_)
      · have hklt : k < js.length := by omega
        obtain ⟨q, hq0⟩ : ∃ x, js[k]? = some x := ⟨_, List.getElem?_eq_getElem hklt⟩
        have hq := hjs q (List.mem_of_getElem? hq0)
        have hget := tGet_S 256 o' t' hq (Nat.le_refl _) ht' hs'
        have hrget := rget_S (A := B') (c := e') o' hq
        obtain ⟨v, y, hv, hy⟩ : ∃ (v : List UInt8) (y : Bool), v.length = 32 ∧ retG (getT o' q) = .t [eY 32 v, .c (.v (.bool y))] := by
          cases hg : getT o' q with
          | none => exact ⟨z32T, false, rfl, rfl⟩
          | some v => exact ⟨v, true, (ho' _ ((getT_some hs').1 hg)).2, rfl⟩
        rw [hy] at hget hrget
        refine s_skip (hK11 _ ?_)
        refine s_seq fun K12 hK12 => ?_
        refine s_block ?_
        refine s_regA TY_ok rfl fun K13 hK13 => ?_
        refine l_elem TY_ok rfl rfl rfl k rfl hq0 rfl rfl (rd_fact fun _ _ h => h.1) ?_
        refine l_autoS TY_ok rfl ?_
        refine s_end (hK13 _ ?_)
        refine s_regA TY_ok rfl fun K14 hK14 => ?_
        refine l_call0 [(eTr t' 0).den, (eY 32 q).den] rfl rfl rfl own_tGet rfl rfl (fun _ _ => rfl) hget (fun _ h _ => h.2.2.2.1) fun _ => ?_
        refine l_autoS TY_ok rfl ?_
        refine s_end (hK14 _ ?_)
        refine s_regA TY_ok rfl fun K15 hK15 => ?_
        refine l_call0 [.slice B' o'.length e', (eY 32 q).den] rfl rfl rfl own_rget9 rfl rfl (fun _ _ => rfl) hrget (fun _ _ h => h.2.2.1) fun _ => ?_
        refine l_autoS TY_ok rfl ?_
        refine s_end (hK15 _ ?_)
        refine s_regA TY_ok rfl fun K17 hK17 => ?_
        refine l_op (.b (!decide (v = v))) trivial rfl rfl rfl (run_neqY rfl rfl rfl Tryd.underlying30 (by kernel_rfl) hv hv) ?_
        refine l_is 74 false rfl (by simp) ?_
        refine l_autoS TY_ok rfl ?_
        refine l_op (.b (y != y)) trivial rfl rfl rfl (run_neqBool rfl rfl rfl (fun _ => rfl) (fun _ => rfl)) ?_
        refine l_is 78 false rfl (by simp) ?_
        refine l_autoS TY_ok rfl ?_
        refine s_end (hK17 _ ?_)
        refine s_no rfl ?_
        refine s_skip (hK12 _ ?_)
        refine s_autoE TY_ok rfl ?_
        exact k_next (k + 1) hklt (by show js.length - (k + 1) < js.length - k; omega) ⟨⟨congrArg some (congrArg SV.v (congrArg (Value.int .i64) (wrapI rfl (by omega) (by omega)))), rfl, rfl, rfl, rfl, rfl, rfl, rfl, rfl, rfl, rfl, trivial⟩, ⟨rfl, rfl, trivial⟩, .refl _, fun _ h _ => h.2.2, fun _ h => h.2.2⟩
      · refine s_exit (k_pass (k_pass (k_out ?_)))
        refine hK4 _ ?_
        refine s_autoE TY_ok rfl ?_
        exact k_next (i + 1, t', o', B', e', h', A1', c1', A2', c2') ⟨hlt, hlt30, ⟨ht', hs', hk', by show o'.length ≤ 1000000; omega⟩, ho', hlo', hh', hgood'⟩ (by show l.length - (i + 1) < l.length - i; omega) ⟨⟨congrArg some (congrArg SV.v (congrArg (Value.int .i64) (wrapI rfl (by omega) (by omega)))), rfl, rfl, rfl, rfl, rfl, rfl, rfl, trivial⟩, ⟨rfl, rfl, trivial⟩, .refl _, fun _ h _ => h, fun _ h => h.2⟩
    refine s_anyP [0, 1, 3, 4, 5, 7, 10] 11 0 (InvL [⟨10, some (G 10), 32, (eP p).parts1⟩]) (by kernel_rfl) rfl (inv_of hsub) ?_
    refine p_frontS TY_ok 0 (by kernel_rfl) rfl rfl rfl rfl rfl rfl (fun x hx => (hsub x hx).1) (fun _ h => h) ?_
    refine p_frontS TY_ok 1 (by kernel_rfl) rfl rfl rfl rfl rfl rfl (fun x hx => (hsub x hx).1) (fun _ h => h) ?_
    refine p_frontS TY_ok 3 (by kernel_rfl) rfl rfl rfl rfl rfl rfl (fun x hx => (hsub x hx).1) (fun _ h => h) ?_
    refine p_frontS TY_ok 4 (by kernel_rfl) rfl rfl rfl rfl rfl rfl (fun x hx => (hsub x hx).1) (fun _ h => h) ?_
    refine p_frontS TY_ok 5 (by kernel_rfl) rfl rfl rfl rfl rfl rfl (fun x hx => (hsub x hx).1) (fun _ h => h) ?_
    refine p_frontS TY_ok 10 (by kernel_rfl) rfl rfl rfl rfl rfl rfl (fun x hx => (hsub x hx).1) (fun _ h => h) ?_
    refine p_step2 2 6 (by kernel_rfl) rfl rfl (fun K11 hK11 => ?_) (fun K11 hK11 => ?_)
    · refine l_list TY_ok b.B.heap.size [p.1] (fe := eY 32) rfl rfl rfl rfl rfl (fun _ => rfl) rfl (by decide) (by decide) (fun x hx => by rw [List.mem_singleton.1 hx]; exact eY_ok hp.1) (Nat.le_refl _) fun A3 => ?_
      refine s_end (hK11 _ (inv_of hsub) ?_)
      refine p_step 6 (by kernel_rfl) rfl fun K12 hK12 => ?_
      refine l_op (.v (.int .i64 ((ks.take 5).length : Int))) trivial rfl rfl rfl (fun G a w ha => (run_min (p := ks.length) (q := 5) rfl rfl rfl G a w ha).trans (by rw [e5])) ?_
      refine s_end (hK12 _ (inv_of hsub) ?_)
      refine p_frontO (.v (.slice Aa (ks.take 5).length ca)) trivial 7 (by kernel_rfl) rfl rfl rfl rfl rfl (run_cutHi (sz := 32) rfl hl5 hkA rfl Tryd.underlying23 rfl rfl) ?_
      refine p_step 8 (by kernel_rfl) rfl fun K13 hK13 => ?_
      refine l_appY TY_ok 0 (ks.take 5) rfl rfl rfl rfl rfl rfl rfl rfl rfl (rd_fact fun w h _ => h.2.2.1.take 5) (by decide) (by show (1 + _) * 32 ≤ _; omega) (by show 1 + _ ≤ _; omega) (Nat.le_refl _) fun A3' c3' => ?_
      refine s_end (hK13 _ (inv_of hsub) ?_)
      refine p_step 9 (by kernel_rfl) rfl fun K14 hK14 => ?_
      refine l_autoS TY_ok rfl ?_
      refine s_end (hK14 _ (inv_of hsub) ?_)
      refine p_tail [] (by kernel_rfl) rfl ?_
      refine s_end (k_noloc ?_)
      refine k_weak ?_ (hloop A3' c3')
      exact ⟨⟨rfl, rfl, rfl, rfl, rfl, rfl, rfl, rfl, rfl, rfl, rfl, trivial⟩, ⟨rfl, rfl, trivial⟩, .refl _, fun _ h _ => h, fun _ h => h⟩
    · refine l_op (.v (.int .i64 ((ks.take 5).length : Int))) trivial rfl rfl rfl (fun G a w ha => (run_min (p := ks.length) (q := 5) rfl rfl rfl G a w ha).trans (by rw [e5])) ?_
      refine s_end (hK11 _ (inv_of hsub) ?_)
      refine p_frontO (.v (.slice Aa (ks.take 5).length ca)) trivial 7 (by kernel_rfl) rfl rfl rfl rfl rfl (run_cutHi (sz := 32) rfl hl5 hkA rfl Tryd.underlying23 rfl rfl) ?_
      refine p_step 2 (by kernel_rfl) rfl fun K12 hK12 => ?_
      refine l_list TY_ok b.B.heap.size [p.1] (fe := eY 32) rfl rfl rfl rfl rfl (fun _ => rfl) rfl (by decide) (by decide) (fun x hx => by rw [List.mem_singleton.1 hx]; exact eY_ok hp.1) (Nat.le_refl _) fun A3 => ?_
      refine s_end (hK12 _ (inv_of hsub) ?_)
      refine p_step 8 (by kernel_rfl) rfl fun K13 hK13 => ?_
      refine l_appY TY_ok 0 (ks.take 5) rfl rfl rfl rfl rfl rfl rfl rfl rfl (rd_fact fun w h _ => h.2.2.1.take 5) (by decide) (by show (1 + _) * 32 ≤ _; omega) (by show 1 + _ ≤ _; omega) (Nat.le_refl _) fun A3' c3' => ?_
      refine s_end (hK13 _ (inv_of hsub) ?_)
      refine p_step 9 (by kernel_rfl) rfl fun K14 hK14 => ?_
      refine l_autoS TY_ok rfl ?_
      refine s_end (hK14 _ (inv_of hsub) ?_)
      refine p_tail [] (by kernel_rfl) rfl ?_
      refine s_end (k_noloc ?_)
      refine k_weak ?_ (hloop A3' c3')
      exact ⟨⟨rfl, rfl, rfl, rfl, rfl, rfl, rfl, rfl, rfl, rfl, rfl, trivial⟩, ⟨rfl, rfl, trivial⟩, .refl _, fun _ h _ => h, fun _ h => h⟩
  · refine s_exit (k_pass (k_pass (k_out ?_)))
    exact k_weak (e' := F (i, t, o, B, e, h, A1, c1, A2, c2)) ⟨⟨rfl, rfl, rfl, rfl, rfl, rfl, rfl, rfl, trivial⟩, ⟨rfl, rfl, trivial⟩, .refl _, fun _ h _ => h, fun _ h => h⟩ (hend (i, t, o, B, e, h, A1, c1, A2, c2) ⟨hi, hi30, ⟨ht, hs, hkk, hol⟩, ho, hlo, hh, hgood⟩)
end Go.Proofs.YtlaikmpnijlcbaaDoor
/-
  FROM A WALK TO A LAW'S ROW: the arguments read behind the call as they read before; arrays of 32 bytes, opened.
-/
namespace Go.Proofs.YtlaikmpnijlcbaaDoor
open Go.ChangeShapes Go.WideShapes Go.ChangeAt Go.RowKit

theorem own : ownKnob Tryd.prog.godebug = none := by kernel_rfl
theorem laidOut : laidOutB Tryd.prog = true := by kernel_rfl

section
variable {H : Type} {enc : TypeId × Value → H} {W W' : World}

/-- All arguments at once. -/
theorem trodAll_below : ∀ {ts : List TypeId} {vs : List Value} {ds : List (DataW H)} {p : List MemPlace}, (∀ t ∈ ts, Tryd.prog.readableRec t = true ∧ t < Tryd.prog.types.size) →
    DataW.TrodAll enc Tryd.prog W 0 (fun _ => true) true ts vs ds p → Below W.heap.size W W' → (∀ x ∈ p, x.block < W.heap.size) → DataW.TrodAll enc Tryd.prog W' 0 (fun b => decide (b < W.heap.size)) true ts vs ds p
  | [], _, _, _, _, h, _, _ => by
    obtain ⟨rfl, rfl, rfl⟩ := trodAll_nil h
    exact trodAll_mk0
  | t :: ts, _, _, _, hts, h, hb, hlt => by
    obtain ⟨v, vs', d, ds', p, q, rfl, rfl, rfl, h0, h1⟩ := trodAll_cons h
    obtain ⟨hr, hz⟩ := hts t (by simp)
    exact trodAll_cons_mk (Below.trod laidOut hr hz h0 hb (fun x hx => hlt x (by simp [hx]))) (trodAll_below (fun u hu => hts u (by simp [hu])) h1 hb (fun x hx => hlt x (by simp [hx])))

theorem law_post {f : Func} {s : ChangeSpec} {args : Array Value} {ds gs : List (DataW H)} {before : List MemPlace} (hf : f.resultTypes = #[4]) (hvars : s.vars = [])
    (hts : ∀ t ∈ f.params.toList, Tryd.prog.readableRec t = true ∧ t < Tryd.prog.types.size)
    (hW : DataW.Whole enc Tryd.prog f.params.toList s.vars false W args.toList ds gs before) (hs : s.fn H (ds ++ gs) = { results := [.lit (.bool true)], args := ds }) (hb : Below W.heap.size W W') :
    s.post enc Tryd.prog f false true false false W args (.bool true) W' := by
  have hW' := hW
  obtain ⟨p, q, hA, hV, rfl, _, _⟩ := hW
  rw [hvars] at hV
  obtain ⟨rfl, rfl⟩ := trodVars_none hV
  have hlt : ∀ x ∈ p, x.block < W.heap.size := fun x hx => hW'.lt x (by simp [hx])
  refine ⟨ds, [], p ++ [], [], p, [], hW', ?_, ?_, ?_, hb.frame _, fun h => by cases h⟩
  · rw [hs, hf]
    exact trodAll_mk1 (shut_bool Tryd.underlying4 true)
  · rw [hs]
    exact trodAll_below hts hA hb hlt
  · rw [hs, hvars]
    rfl
end

theorem cells8 : Tryd.prog.cellsOf 5 = 1 := by kernel_rfl
theorem cells_h : Tryd.prog.cellsOf 30 = 32 := by kernel_rfl
theorem one_of {l : List Value} {i : Nat} {v : Value} (h : (l.drop (i * 1)).take 1 = [v]) : l[i]? = some v := by
  rw [Nat.mul_one] at h
  have h1 : ((l.drop i).take 1)[0]? = some v := by rw [h]; rfl
  rw [List.getElem?_take, if_pos (by omega), List.getElem?_drop] at h1
  simpa using h1

/-! ### Arrays of 32 bytes -/
theorem okWide_array {P : Program} {w : World} {r : Reach} {base n : Nat} {t e : TypeId} {v : Value} (ht : P.underlying t = some (.array n e)) (h : Value.okWide P w r base t v) : ∃ cs, v = .agg cs ∧ cs.size = P.cellsOf t := by
  simp only [Value.okWide, ht] at h
  obtain ⟨cs, h1, h2, _⟩ := h
  exact ⟨cs, h1, h2⟩

theorem by_of {cs : List Value} (hl : cs.length = 32) (h : ∀ i, i < 32 → ∃ n : Int, cs[i]? = some (.int .u8 n) ∧ 0 ≤ n ∧ n < 256) : ∃ l : List UInt8, l.length = 32 ∧ cs = By l := by
  refine ⟨cs.map fun v => match v with | .int _ n => UInt8.ofNat n.toNat | _ => 0, by simp [hl], ?_⟩
  apply List.ext_getElem (by simp [By])
  intro i h1 h2
  obtain ⟨n, hn, h0, h3⟩ := h i (by omega)
  have e : cs[i] = .int .u8 n := by
    have := List.getElem?_eq_getElem h1
    rw [hn] at this
    exact (Option.some.inj this).symm
  simp only [By, List.getElem_map, e]
  congr 1
  rw [UInt8.toNat_ofNat']
  omega

set_option maxRecDepth 20000 in
theorem open_hash {H : Type} {enc : TypeId × Value → H} {W : World} {base : Nat} {v : Value} {d : DataW H} {p : List MemPlace} (hv : Value.okWide Tryd.prog W .any base 30 v) (h : DataW.Trod enc Tryd.prog W 0 (fun _ => true) true 30 v d p) :
    ∃ l : List UInt8, l.length = 32 ∧ v = .agg (By l).toArray := by
  obtain ⟨cs, rfl, _⟩ := okWide_array Tryd.underlying30 hv
  obtain ⟨fuel, hf⟩ := h
  obtain ⟨xs, m, rfl, _, hlen, hn, hel⟩ := DataW.trod_array Tryd.underlying30 hf
  rw [cells_h] at hlen
  obtain ⟨l, hl, e⟩ := by_of hlen (fun i hi => by
    have h0 := hel i hi
    rw [cells8] at h0
    obtain ⟨x, hx⟩ : ∃ x, xs[i]? = some x := ⟨xs[i]'(by omega), List.getElem?_eq_getElem (by omega)⟩
    rw [hx] at h0
    obtain ⟨n, e1, _, hw⟩ := DataW.trod_int Tryd.underlying5 h0
    have hb := bounds_u8 hw
    exact ⟨n, one_of e1, by omega, by omega⟩)
  refine ⟨l, hl, ?_⟩
  congr 1
  apply Array.ext'
  exact e
end Go.Proofs.YtlaikmpnijlcbaaDoor
/-
  FROM A WALK TO A LAW'S ROW: slices of anything, opened; hashes.
-/
namespace Go.Proofs.YtlaikmpnijlcbaaDoor
open Go.RowKit Go.IntWalk
open Go.ChangeShapes Go.WideShapes Go.ChangeAt

set_option maxRecDepth 20000 in
theorem hash_cells {H : Type} {enc : TypeId × Value → H} {W : World} {held : Bool} {fuel : Nat} {cs : List Value} {x : DataW H × List MemPlace} (h : DataW.trod enc Tryd.prog W 0 (fun _ => true) held fuel 30 cs = some x) :
    ∃ l : List UInt8, l.length = 32 ∧ cs = By l := by
  obtain ⟨xs, m, rfl, _, hlen, hn, hel⟩ := DataW.trod_array Tryd.underlying30 h
  rw [cells_h] at hlen
  exact by_of hlen (fun i hi => by
    have h0 := hel i hi
    rw [cells8] at h0
    obtain ⟨x, hx⟩ : ∃ x, xs[i]? = some x := ⟨xs[i]'(by omega), List.getElem?_eq_getElem (by omega)⟩
    rw [hx] at h0
    obtain ⟨n, e1, _, hw⟩ := DataW.trod_int Tryd.underlying5 h0
    have hb := bounds_u8 hw
    exact ⟨n, one_of e1, by omega, by omega⟩)
theorem pick_list {α : Type} (P : Nat → α → Prop) : ∀ n, (∀ i, i < n → ∃ l, P i l) → ∃ ks : List α, ks.length = n ∧ ∀ i l, ks[i]? = some l → P i l
  | 0, _ => ⟨[], rfl, fun i l h => by simp at h⟩
  | n + 1, h => by
    obtain ⟨ks, hl, hk⟩ := pick_list P n fun i hi => h i (by omega)
    obtain ⟨l, hp⟩ := h n (by omega)
    refine ⟨ks ++ [l], by simp [hl], fun i x hx => ?_⟩
    by_cases hi : i < ks.length
    · rw [List.getElem?_append_left hi] at hx
      exact hk i x hx
    · rw [List.getElem?_append_right (by omega)] at hx
      have h0 : i - ks.length = 0 := by
        by_cases e : i - ks.length = 0
        · exact e
        · rw [List.getElem?_eq_none (by simp; omega)] at hx
          cases hx
      rw [h0] at hx
      obtain rfl : l = x := by simpa using hx
      obtain rfl : i = n := by omega
      exact hp
set_option maxRecDepth 20000 in
theorem open_rd {α H : Type} {enc : TypeId × Value → H} {W : World} {held : Bool} {fuel : Nat} {t e : TypeId} {k : Nat} {fe : α → SQ} {cs : List Value} {x : DataW H × List MemPlace} (ht : Tryd.prog.underlying t = some (.slice e)) (hk : Tryd.prog.cellsOf e = k) (hk0 : 0 < k)
    (hel : ∀ n cs x, DataW.trod enc Tryd.prog W 0 (fun _ => true) held n e cs = some x → ∃ a : α, cs = (fe a).cl ∧ OkP (fe a).parts1 ∧ (fe a).cl.length = k)
    (h : DataW.trod enc Tryd.prog W 0 (fun _ => true) held fuel t cs = some x) :
    ∃ (A : Option Addr) (l : List α) (c : Nat), cs = [.slice A l.length c] ∧ Rd k fe A c l W := by
  rcases DataW.trod_slice ht h with ⟨rfl, _⟩ | ⟨a, len, cap, elems, rest, n, rfl, rfl, rfl, _, hl, hm, hlen, hel2, _⟩
  · exact ⟨none, [], 0, rfl, Rd.nil _ _ _⟩
  · rw [hk] at hel2
    obtain ⟨ks, hk1, hk2⟩ := pick_list (fun i (y : α) => (OkP (fe y).parts1 ∧ (fe y).cl.length = k) ∧ W.cells? 0 (a.add (i * k)) k = some (fe y).cl) len fun i hi => by
      have h0 := hel2 i hi
      rw [List.getElem?_eq_getElem (by omega)] at h0
      cases hc : W.cells? 0 (a.add (i * k)) k with
      | none => rw [hc] at h0; cases h0
      | some cs =>
        rw [hc] at h0
        obtain ⟨y, rfl, h1⟩ := hel _ _ _ h0
        exact ⟨y, h1, rfl⟩
    subst hk1
    refine ⟨some a, ks, cap, rfl, hl, (by unfold maxLen at hm; omega), fun e => (by cases e), fun y hy => ?_, fun hpos => ?_⟩
    · obtain ⟨i, hi, rfl⟩ := List.getElem_of_mem hy
      exact (hk2 i _ (List.getElem?_eq_getElem hi)).1
    have hcell : ∀ i y, ks[i]? = some y → ∀ j v, (fe y).cl[j]? = some v → W.cell? (a.add (i * k + j)) = some v := fun i y hi j v hj => by
      obtain ⟨⟨_, hkl⟩, hc⟩ := hk2 i y hi
      obtain ⟨_, _, h3⟩ := World.cells?_some hc
      have hjk : j < k := by
        have := (List.getElem?_eq_some_iff.1 hj).1
        omega
      have := h3 j hjk
      rw [Addr.add_add, hj] at this
      exact this
    have h00 := hk2 0 _ (List.getElem?_eq_getElem hpos)
    have hb := World.cells?_block h00.2 hk0
    rw [Nat.zero_mul] at hb
    obtain ⟨b, o, sp⟩ := a
    have hsp0 : sp = none := by
      obtain ⟨v, hv⟩ : ∃ v, (fe ks[0]).cl[0]? = some v := ⟨_, List.getElem?_eq_getElem (by rw [h00.1.2]; exact hk0)⟩
      have := hcell 0 _ (List.getElem?_eq_getElem hpos) 0 v hv
      rw [Nat.zero_mul, show (⟨b, o, sp⟩ : Addr).add (0 + 0) = ⟨b, o, sp⟩ from rfl, World.cell?] at this
      cases sp with
      | none => rfl
      | some s =>
        exfalso
        dsimp only at this
        split at this
        · simp at this
        · cases this
    subst hsp0
    refine ⟨b, o, rfl, hb, fun i y hi j v hj => ?_⟩
    have := hcell i y hi j v hj
    rw [Addr.add_mid] at this
    rwa [Nat.add_assoc, Nat.mul_comm k i]
end Go.Proofs.YtlaikmpnijlcbaaDoor
/-
  FROM A WALK TO A LAW'S ROW: the cells of a table of words, from what the row lists.
-/
namespace Go.Proofs.YtlaikmpnijlcbaaDoor
open Go.ChangeShapes Go.WideShapes Go.ChangeAt Go.RowKit

theorem cells64 : Tryd.prog.cellsOf 83 = 1 := by kernel_rfl
set_option maxRecDepth 20000 in
/-- The cells of a table of words. -/
theorem table_cells {W : World} {nm : String} {g g0 t0 tid n fuel : Nat} {l : List Nat} {datum : DataW Unit} {cs : List Value} {p : List MemPlace} (hg : Tryd.prog.globalNamed nm = some g) (ht : (Tryd.prog.globals[g]?).map (·.type) = some tid) (hu : Tryd.prog.underlying tid = some (.array n 83))
    (hd : datum = .agg (l.map fun (x : Nat) => .lit (.int .u64 (x : Int)))) (hg0 : Tryd.prog.globalNamed nm = some g0) (ht0 : (Tryd.prog.globals[g0]?).map (·.type) = some t0) (hv0 : W.var? Tryd.prog nm = some cs.toArray) (hd0 : DataW.trod (fun _ => ()) Tryd.prog W 0 (fun _ => true) false fuel t0 cs = some (datum, p)) :
    ∀ i, i < n → W.cell? ⟨g, i, none⟩ = some (.int .u64 (l[i]! : Nat)) := by
  obtain rfl := Option.some.inj (hg.symm.trans hg0)
  obtain rfl := Option.some.inj (ht.symm.trans ht0)
  obtain ⟨xs, m1, rfl, hx1, hlen, hn5, hel⟩ := DataW.trod_array hu hd0
  have hx2 := congrArg Prod.fst hx1
  rw [hd] at hx2
  injection hx2 with hx2
  intro i hi
  have h0 := hel i hi
  rw [cells64] at h0
  obtain ⟨x, hxi⟩ : ∃ x, xs[i]? = some x := ⟨xs[i]'(by omega), List.getElem?_eq_getElem (by omega)⟩
  rw [hxi] at h0
  obtain ⟨n', e1, e2, _⟩ := DataW.trod_int Tryd.underlying83 h0
  have hll : l.length = n := by
    have := congrArg List.length hx2
    simp only [List.length_map] at this
    omega
  have h3 : (l.map fun (x : Nat) => (DataW.lit (.int .u64 (x : Int)) : DataW Unit))[i]? = (xs.map (·.1))[i]? := by rw [hx2]
  rw [List.getElem?_map, List.getElem?_map, hxi, List.getElem?_eq_getElem (by omega)] at h3
  simp only [Option.map_some, Option.some.injEq] at h3
  rw [e2] at h3
  have hn : n' = ((l[i]! : Nat) : Int) := by
    rw [getElem!_pos l i (by omega)]
    injection h3 with h3
    injection h3 with _ h3
    exact h3.symm
  subst hn
  have hcell := World.var?_cell hg hv0 i
  rw [hcell]
  have := one_of e1
  simpa using this
end Go.Proofs.YtlaikmpnijlcbaaDoor
/-
  FROM A WALK TO A LAW'S ROW: the two tables of the digests; slices of pairs and of hashes, opened.
-/
namespace Go.Proofs.YtlaikmpnijlcbaaDoor
open Go.ChangeShapes Go.WideShapes Go.ChangeAt Go.RowKit Nums

def laid2 : List (String × DataW Unit) := [("witan/sha.starts", Rows.laid_witan_sha_starts), ("witan/sha.steps", Rows.laid_witan_sha_steps)]
/-- The door's own heap meets the condition. -/
theorem door_met2 (os : Os) (args : Array Value) : laidMetH Tryd.prog laid2 ((World.doorLaid Tryd.prog 400 os).forCall (fun _ _ => 0) ⟨#[], args, []⟩).memory :=
  laidMetH_of_parts3 (fuel := 8) (laidMet_of_run' 8 (by kernel_rfl) (by kernel_rfl)) (by kernel_rfl) (by kernel_rfl)
set_option maxRecDepth 20000 in
/-- What the condition gives the walks. -/
theorem of_laid2 {W : World} (h : laidMetH Tryd.prog laid2 W) : Tsh W := by
  rw [MakeChecks.laidMetH_plain _ _ _ (by kernel_rfl)] at h
  obtain ⟨ps, ⟨g1, t1, cs1, f1, p1, q1, hg1, ht1, hv1, hd1, ⟨g2, t2, cs2, f2, p2, q2, hg2, ht2, hv2, hd2, _, _⟩, _⟩, _, _⟩ := h
  have c1 := table_cells (l := sqs) (n := 8) (g := 0) (tid := 84) (by kernel_rfl) (by kernel_rfl) Tryd.underlying84 (by kernel_rfl) hg1 ht1 hv1 hd1
  have c2 := table_cells (l := cbs) (n := 80) (g := 1) (tid := 89) (by kernel_rfl) (by kernel_rfl) Tryd.underlying89 (by kernel_rfl) hg2 ht2 hv2 hd2
  exact ⟨⟨c2, World.block_lt_of_cell? W ⟨1, 0, none⟩ (c2 0 (by omega))⟩, c1, World.block_lt_of_cell? W ⟨0, 0, none⟩ (c1 0 (by omega))⟩
set_option maxRecDepth 20000 in
theorem pair_cellsT {H : Type} {enc : TypeId × Value → H} {W : World} {held : Bool} (n : Nat) (cs : List Value) (x : DataW H × List MemPlace) (h : DataW.trod enc Tryd.prog W 0 (fun _ => true) held n 32 cs = some x) :
    ∃ p : PairT, cs = (eP p).cl ∧ OkP (eP p).parts1 ∧ (eP p).cl.length = 64 := by
  obtain ⟨xs, m, _, _, hl, hlen, hf⟩ := DataW.trod_struct Tryd.underlying32 h
  have hl64 : cs.length = 64 := hl.trans (by kernel_rfl)
  obtain ⟨x0, x1, rfl⟩ : ∃ a b, xs = [a, b] := by
    match xs, (show xs.length = 2 from hlen) with
    | [a, b], _ => exact ⟨a, b, rfl⟩
  have h0 : DataW.trod enc Tryd.prog W 0 (fun _ => true) held m 30 ((cs.drop 0).take (Tryd.prog.cellsOf 30)) = some x0 := hf 0 _ rfl
  have h1 : DataW.trod enc Tryd.prog W 0 (fun _ => true) held m 30 ((cs.drop 32).take (Tryd.prog.cellsOf 30)) = some x1 := hf 1 _ rfl
  rw [cells_h] at h0 h1
  obtain ⟨l0, k0, e0⟩ := hash_cells h0
  obtain ⟨l1, k1, e1⟩ := hash_cells h1
  refine ⟨(l0, l1), ?_, eP_ok ⟨k0, k1⟩⟩
  have e2 : (cs.drop 32).take 32 = cs.drop 32 := List.take_of_length_le (by rw [List.length_drop]; omega)
  rw [e2] at e1
  rw [List.drop_zero] at e0
  rw [← List.take_append_drop 32 cs, e0, e1]
  simp [SQ.cl, SQ.den, eP, Value.cells, catP, Pt.cells]
theorem hash_cellsT {H : Type} {enc : TypeId × Value → H} {W : World} {held : Bool} (n : Nat) (cs : List Value) (x : DataW H × List MemPlace) (h : DataW.trod enc Tryd.prog W 0 (fun _ => true) held n 30 cs = some x) :
    ∃ l : List UInt8, cs = (eY 32 l).cl ∧ OkP (eY 32 l).parts1 ∧ (eY 32 l).cl.length = 32 := by
  obtain ⟨l, hl, rfl⟩ := hash_cells h
  exact ⟨l, rfl, eY_ok hl⟩
end Go.Proofs.YtlaikmpnijlcbaaDoor
