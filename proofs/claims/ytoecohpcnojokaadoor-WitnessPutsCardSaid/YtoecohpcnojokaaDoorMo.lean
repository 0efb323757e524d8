/-
  SEVERAL TEXTS IN ONE: Nq.
-/
import Derived.Test.YtoecohpcnojokaaDoorMn
/-
  LAW WitnessEmpty: a part without keys hides all but nothing.
-/
namespace Go.Proofs.YtoecohpcnojokaaDoor
open Go.RowKit Go.IntWalk Nums

set_option maxRecDepth 100000 in
set_option maxHeartbeats 1000000 in
theorem wempty_S {A : Option Addr} {c : Nat} (l : List PairT) {k : List UInt8} (hk : k.length = 32) : Spec 7 [.slice A l.length c, (eY 32 k).den] [] (fun w => Tsh w ∧ Rd 64 eP A c l w) (one (.v (.bool true))) := by
  refine spec_S [.c (.v (.slice A l.length c)), eY 32 k] 98 Tryd.func7 rfl (by rw [Tryd.ntmps7]; rfl) (two_ok trivial (eY_ok hk).1) fun b => ?_
  refine s_auto TY_ok rfl ?_
  refine s_seq fun K hK => ?_
  refine s_regA TY_ok rfl fun K1 hK1 => ?_
  refine l_call0 [] rfl rfl rfl own_wfirst rfl rfl (fun _ _ => rfl) wfirst_S (fun _ h _ => h.1) fun _ => ?_
  refine l_autoS TY_ok rfl ?_
  refine s_end (hK1 _ ?_)
  refine s_no rfl ?_
  refine s_skip (hK _ ?_)
  refine s_regA TY_ok rfl fun K2 hK2 => ?_
  refine l_call0 [.slice A l.length c] rfl rfl rfl own_grown rfl rfl (fun _ _ => rfl) (grown_S l) (fun _ h _ => h.2) fun x => ?_
  obtain ⟨x, hx⟩ := x
  refine l_autoS TY_ok rfl ?_
  refine s_end (hK2 _ ?_)
  have hpt := partT_cut hx.sort hx.pairs []
  have hbl := hx.bytes []
  have hcut := wCut_S (A := none) (c := 0) x.o x.t [] hx.tree hx.sort hx.keys (by decide) (fun _ h => by cases h)
  have hroot := hpt.root hx.tree
  have hWg := hpt.good
  have hWr := hpt.right
  have hpb := PW.parse_bytes hWr
  have hE : x.o = [] → PW.cut 256 0 x.o [] = .empty := fun h => by rw [h, wcut_nil]
  have hH : x.o ≠ [] → ∃ h, PW.cut 256 0 x.o [] = .hid h := fun h => ⟨_, wcut_hid _ _ h⟩
  generalize PW.cut 256 0 x.o [] = W at *
  refine s_regA TY_ok rfl fun K3 hK3 => ?_
  refine l_call0 [(eTr x.t 0).den, .slice none 0 0] rfl rfl rfl own_wCut rfl rfl (fun _ _ => rfl) hcut (fun w h _ => ⟨h.1, Rd.nil _ _ _⟩) fun _ => ?_
  refine l_autoS TY_ok rfl ?_
  refine s_end (hK3 _ ?_)
  refine s_regA TY_ok rfl fun K4 hK4 => ?_
  refine l_call0 [(prQ W).den] rfl rfl rfl own_wBytes rfl rfl (fun _ _ => rfl) (wBytes_S hWg (by omega)).rd (fun _ _ _ => trivial) fun u => ?_
  have hparse := wParse_S (A := u.1) (c := u.2) W.bytes
  rw [hpb] at hparse
  refine l_call0 [.slice u.1 W.bytes.length u.2] rfl rfl rfl own_wParse rfl rfl (fun _ _ => rfl) hparse (fun w h m => ⟨m.1, h.2.2.2.2.1⟩) fun _ => ?_
  refine l_autoS TY_ok rfl ?_
  refine s_end (hK4 _ ?_)
  refine s_regA TY_ok rfl fun K5 hK5 => ?_
  refine l_call0 [(prQ W).den, (eY 32 k).den] rfl rfl rfl own_wGet rfl rfl (fun _ _ => rfl) (wGet_S hk W hWr) (fun _ _ _ => trivial) fun _ => ?_
  refine l_autoS TY_ok rfl ?_
  refine s_end (hK5 _ ?_)
  refine s_seq fun K6 hK6 => ?_
  refine s_auto TY_ok rfl ?_
  refine s_ifD ((x.o.length : Int) = 0) rfl (fun h0 => ?_) (fun h0 => ?_)
  · have h0 : x.o = [] := List.eq_nil_of_length_eq_zero (by omega)
    obtain rfl := hE h0
    refine s_keep [7, 8, 9, 11, 12] [7, 8] rfl rfl ?_
    refine s_regH 24 (by decide) (by kernel_rfl) (by kernel_rfl) fun K7 hK7 G S w0 hst => ?_
    refine h_auto TY_ok hst rfl ?_
    refine h_is 42 true rfl (by simp) ?_
    refine h_auto TY_ok hst rfl ?_
    refine h_callE (F' := fun _ => True) hst [(prQ .empty).den] rfl rfl rfl rfl own_wBytes rfl rfl (fun _ => rfl) (wBytes_S hWg (by omega)).rd.newP (fun _ _ _ => trivial) fun v _ => ?_
    refine h_auto TY_ok hst rfl ?_
    refine h_strU PW.empty.bytes hst rfl rfl rfl rfl rfl rfl (fun w _ hw => newP_rd (hw 4 _ rfl (by kernel_rfl))) ?_
    refine h_auto TY_ok hst rfl ?_
    refine h_lit TY_ok [(0 : UInt8)] rfl rfl rfl rfl rfl rfl (fun _ => rfl) rfl (by decide) (by decide) fun B => ?_
    refine h_auto TY_ok hst rfl ?_
    refine h_strU [(0 : UInt8)] hst rfl rfl rfl rfl rfl rfl (fun w _ hw => hw 6 _ rfl (by kernel_rfl)) ?_
    refine h_auto TY_ok hst rfl ?_
    refine h_op hst (.b (decide (PW.empty.bytes = [0]))) trivial rfl rfl rfl rfl (run_eqS rfl rfl rfl) ?_
    refine h_is 48 true rfl (by decide) ?_
    refine h_auto TY_ok hst rfl ?_
    refine h_is 58 true rfl (by simp [PW.tell, PW.find]) ?_
    refine h_auto TY_ok hst rfl ?_
    refine h_callS (F' := fun _ => True) (r := .q (eY 32 PW.empty.root)) hst [(prQ .empty).den] rfl rfl rfl rfl own_wRoot rfl rfl (fun _ => rfl) (eY_ok hWg.root_len).1 (wRoot_S hWg) (fun _ _ _ _ => trivial) ?_
    refine h_auto TY_ok hst rfl ?_
    refine h_op hst (.b (decide (z32T = z32T))) trivial rfl rfl rfl rfl (run_eqY rfl rfl rfl Tryd.underlying38 (by kernel_rfl) rfl rfl) ?_
    refine h_is 62 true rfl (by simp) ?_
    refine h_auto TY_ok hst rfl ?_
    refine h_end hst ?_
    refine l_autoS TY_ok rfl ?_
    refine s_end (hK7 _ ?_)
    exact s_ret (k_ret TY_ok () rfl (by decide) rfl rfl rfl (fun _ _ _ => trivial) (fun _ _ => trivial))
  · have h0 : x.o ≠ [] := fun h => h0 (by rw [h]; rfl)
    obtain ⟨h, rfl⟩ := hH h0
    refine s_skip (hK6 _ ?_)
    have hh : h.length = 32 := hWg
    have hb33 : (PW.hid h).bytes.length = 33 := by simp [PW.bytes, hh]
    have hput := wPut_S (p := (k, k)) ⟨hk, hk⟩ (.hid h) hWr
    refine s_regA TY_ok rfl fun K7 hK7 => ?_
    refine l_call0 [(prQ (.hid h)).den, (eY 32 k).den, (eY 32 k).den] rfl rfl rfl own_wPut rfl rfl (fun _ _ => rfl) hput (fun w h m => h.2.2.2.2.2.2.1) fun _ => ?_
    refine l_autoS TY_ok rfl ?_
    refine s_end (hK7 _ ?_)
    refine s_keep [5, 7, 8, 9, 11, 12, 14] [5, 7, 8] rfl rfl ?_
    refine s_regH 27 (by decide) (by kernel_rfl) (by kernel_rfl) fun K8 hK8 G S w0 hst => ?_
    refine h_auto TY_ok hst rfl ?_
    refine h_is 73 true rfl (by simp) ?_
    refine h_auto TY_ok hst rfl ?_
    refine h_callE (F' := fun _ => True) hst [(prQ (.hid h)).den] rfl rfl rfl rfl own_wBytes rfl rfl (fun _ => rfl) (wBytes_S hWg (by omega)).rd.newP (fun _ _ _ => trivial) fun v _ => ?_
    refine h_auto TY_ok hst rfl ?_
    refine h_is 79 true rfl (by rw [hb33]; rfl) ?_
    refine h_auto TY_ok hst rfl ?_
    refine h_is 87 true rfl (by simp [PW.tell, PW.find]) ?_
    refine h_auto TY_ok hst rfl ?_
    refine h_is 91 true rfl (by simp) ?_
    refine h_auto TY_ok hst rfl ?_
    refine h_callS (F' := fun _ => True) (r := .q (eY 32 (PW.hid h).root)) hst [(prQ (.hid h)).den] rfl rfl rfl rfl own_wRoot rfl rfl (fun _ => rfl) (eY_ok hWg.root_len).1 (wRoot_S hWg) (fun _ _ _ _ => trivial) ?_
    refine h_auto TY_ok hst rfl ?_
    refine h_callS (F' := TF x.t) (r := .q (eY 32 x.t.root)) hst [(eTr x.t 0).den] rfl rfl rfl rfl own_tRoot rfl rfl (fun _ => rfl) (eY_ok x.t.root_len).1 (tRoot_S x.t 0) (fun _ _ _ hv => hv.fact.2.2.2.2.2.1) ?_
    refine h_auto TY_ok hst rfl ?_
    refine h_op hst (.b (decide ((PW.hid h).root = x.t.root))) trivial rfl rfl rfl rfl (run_eqY rfl rfl rfl Tryd.underlying38 (by kernel_rfl) hWg.root_len x.t.root_len) ?_
    refine h_is 96 true rfl (by rw [hroot]; simp) ?_
    refine h_auto TY_ok hst rfl ?_
    refine h_end hst ?_
    refine l_autoS TY_ok rfl ?_
    refine s_end (hK8 _ ?_)
    exact s_ret (k_ret TY_ok () rfl (by decide) rfl rfl rfl (fun _ _ _ => trivial) (fun _ _ => trivial))
end Go.Proofs.YtoecohpcnojokaaDoor
