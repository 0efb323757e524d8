/-
  SEVERAL TEXTS IN ONE: Nt, Opens, OpenQ.
-/
import Derived.Test.YtoecohpcnojokaaDoorMq
import Derived.Laws.IdiomStrings
import Derived.Test.YtoecohpcnojokaaDoorMn
import Derived.Deep.Slices
/-
  LAW WitnessReads: which bytes are a part, and what it tells.
-/
namespace Go.Proofs.YtoecohpcnojokaaDoor
open Go.RowKit Go.IntWalk Nums

/-! ### A string's bytes -/
theorem rd_allocR {w : World} {m : Nat × Nat} {cs : Array Value} {c : Nat} (l : List UInt8) (hlc : l.length ≤ c) (hm : c ≤ 9223372036854775807) (hcs : ∀ (i : Nat) x, l[i]? = some x → cs[i]? = some (.int .u8 (x.toNat : Int))) : Rd 1 eB (some ⟨w.heap.size, 0, none⟩) c l (w.alloc (.cells cs 5 m)) := by
  have hc : (w.alloc (.cells cs 5 m)).heap[w.heap.size]? = some (.cells cs 5 m) := heap_alloc_new w _
  have hsz : (w.alloc (.cells cs 5 m)).heap.size = w.heap.size + 1 := World.size_alloc _ _
  refine ⟨hlc, hm, fun h => (by cases h), okF_B l, fun _ => ⟨w.heap.size, 0, rfl, by rw [hsz]; exact Nat.lt_succ_self _, fun i x hi j v hj => ?_⟩⟩
  cases j with
  | zero =>
    have e : v = .int .u8 (x.toNat : Int) := (Option.some.inj ((show (eB x).cl[0]? = some (.int .u8 (x.toNat : Int)) from rfl).symm.trans hj)).symm
    have h1 := hcs i x hi
    obtain ⟨h2, h3⟩ := Array.getElem?_eq_some_iff.1 h1
    rw [e]
    rw [show (0 + 1 * i + 0) = i by omega]
    rw [cell_of_row _ _ _ _ _ _ hc]
    exact h1
  | succ j => cases hj
section
variable {b : Base} {ops : Array Oper} {Q : Exit → Act → World → Prop} {N : Nat} {E : SE} {L : List LV} {R : List Res} {F M : World → Prop} {o : Oper} {rest : List Oper} {k : Nat} {x : Operand}
/-- []byte(s). -/
theorem l_bytesOf (l : List UInt8) (hg : o.guard = none) (hd : o.dst = some k) (hk : Nat.blt k N = true) (ho : o.op = .convert 9 35 x) (hx : evS E x = some (vS l)) (hl : l.length ≤ 1000000)
    (hc : ∀ g c, lS Tryd.prog b ops Q N rest ⟨(k, .v (.slice (some ⟨g, 0, none⟩) l.length c)) :: E, L, R, F, fun w => Rd 1 eB (some ⟨g, 0, none⟩) c l w ∧ M w⟩) : lS Tryd.prog b ops Q N (o :: rest) ⟨E, L, R, F, M⟩ := fun a w ⟨G, S, h1, h2, h3⟩ => by
  have e1 : a.eval x = .string ⟨l.toArray⟩ := h1.eval (evS_ok hx)
  have hr := run_bytes_of_string (P := Tryd.prog) w 9 35 5 ⟨l.toArray⟩ Tryd.underlying9 Tryd.underlying35 Tryd.underlying5
  have hs : (⟨l.toArray⟩ : ByteArray).size = l.length := rfl
  rw [hs] at hr
  have hge := grownCap_ge w l.length 0 5
  have hle := grownCap_le_maxLen w l.length 0 5 (by unfold maxLen; omega)
  unfold maxLen at hle
  generalize grownCap w l.length 0 5 = cap at *
  refine wpl_go (v := .slice (some ⟨w.heap.size, 0, none⟩) l.length cap) (w' := w.drew.alloc (.cells (bytesRow ⟨l.toArray⟩ cap) 5 ((bytesRow ⟨l.toArray⟩ cap).size, (bytesRow ⟨l.toArray⟩ cap).size + 1))) (oneS hg) (by
    unfold execOp
    simp only [ho, e1, Sem.run_bind, hr, Result.andThen_ok, Sem.run_pure]) ?_
  rw [hd]
  have h4 := rd_allocR (w := w.drew) (m := ((bytesRow ⟨l.toArray⟩ cap).size, (bytesRow ⟨l.toArray⟩ cap).size + 1)) (cs := bytesRow ⟨l.toArray⟩ cap) l hge (by omega) (fun i y hi => by
    unfold bytesRow
    have hlt := (List.getElem?_eq_some_iff.1 hi).1
    show (l.toArray.map (fun b => Value.int .u8 b.toNat) ++ _)[i]? = _
    rw [Array.getElem?_append_left (by simpa using hlt), Array.getElem?_map, List.getElem?_toArray, hi]
    rfl)
  have h5 := h3.drew.later ((Below.refl w.drew.heap.size w.drew).alloc (Nat.le_refl _) (.cells (bytesRow ⟨l.toArray⟩ cap) 5 ((bytesRow ⟨l.toArray⟩ cap).size, (bytesRow ⟨l.toArray⟩ cap).size + 1)))
  refine hc w.heap.size cap _ _ ⟨G, S, h1.put hk _, h2.cons trivial, h5.andM fun w2 hw2 => h4.keep hw2.size fun g e hlt => hw2.block g hlt fun hx => ?_⟩
  simp only [Option.map_some, Option.some.injEq] at e
  subst e
  rcases hx with hx | hx
  · exact Nat.lt_irrefl _ (Nat.lt_of_lt_of_le hx h3.chg.size)
  · exact Nat.lt_irrefl _ (h3.lt _ hx)
end
theorem read_err : ∀ (n : Nat) (way : List Nat) (b : List UInt8) (e : Nat), PW.read n way b = .error e → e ≠ 0
  | n, way, [], e, h => by
    rw [read_nil] at h
    injection h with h
    omega
  | n, way, x :: b, e, h => by
    rw [read_cons] at h
    by_cases h0 : x = 0
    · rw [if_pos h0] at h; cases h
    rw [if_neg h0] at h
    by_cases h1 : x = 1
    · rw [if_pos h1] at h
      unfold readLeaf at h
      split at h
      · injection h with h; omega
      · split at h
        · cases h
        · injection h with h; omega
    rw [if_neg h1] at h
    by_cases h2 : x = 2
    · rw [if_pos h2] at h
      cases n with
      | zero => injection h with h; omega
      | succ n =>
        unfold readIn at h
        dsimp only at h
        cases hr : PW.read n (way ++ [0]) b with
        | error e1 =>
          rw [hr] at h
          injection h with h
          subst h
          exact read_err n _ _ _ hr
        | ok u =>
          obtain ⟨y, b1⟩ := u
          rw [hr] at h
          dsimp only at h
          cases hr2 : PW.read n (way ++ [1]) b1 with
          | error e1 =>
            rw [hr2] at h
            injection h with h
            subst h
            exact read_err n _ _ _ hr2
          | ok u =>
            obtain ⟨z, b2⟩ := u
            rw [hr2] at h
            dsimp only at h
            split at h
            · injection h with h; omega
            · cases h
    rw [if_neg h2] at h
    by_cases h3 : x = 3
    · rw [if_pos h3] at h
      unfold readHid at h
      split at h
      · injection h with h; omega
      · cases h
    · rw [if_neg h3] at h
      injection h with h; omega
theorem parse_err {b : List UInt8} {e : Nat} (h : PW.parse b = .error e) : e ≠ 0 := by
  unfold PW.parse at h
  cases hr : PW.read 256 [] b with
  | error e1 =>
    rw [hr] at h
    injection h with h
    subst h
    exact read_err _ _ _ _ hr
  | ok u =>
    obtain ⟨w, r⟩ := u
    rw [hr] at h
    cases r with
    | nil => cases h
    | cons => injection h with h; omega
set_option maxRecDepth 100000 in
set_option maxHeartbeats 4000000 in
theorem wreadsL_S {A A2 : Option Addr} {c c2 : Nat} (B : List UInt8) (ks : List (List UInt8)) {q : PairT} (hq : OkT2 q) : Spec 4 [.slice A B.length c, .slice A2 ks.length c2, (eP q).den] [] (fun w => Tsh w ∧ Rd 1 eB A c B w ∧ Rd 32 (eY 32) A2 c2 ks w) (one (.v (.bool true))) := by
  refine spec_S [.c (.v (.slice A B.length c)), .c (.v (.slice A2 ks.length c2)), eP q] 178 Tryd.func4 rfl (by rw [Tryd.ntmps4]; rfl) (more_ok trivial (two_ok trivial (eP_ok hq).1)) fun b => ?_
  refine s_pure ((ks.length ≤ c2 ∧ (A2 = none → c2 = 0)) ∧ ∀ k ∈ ks, k.length = 32) (fun w h _ => ⟨⟨h.2.2.1, h.2.2.2.2.1⟩, fun k hk => wY_len (h.2.2.2.2.2.1 k hk).1⟩) fun ⟨⟨hlc, hA2⟩, hks⟩ => ?_
  refine s_auto TY_ok rfl ?_
  refine s_seq fun K hK => ?_
  refine s_regA TY_ok rfl fun K1 hK1 => ?_
  refine l_call0 [] rfl rfl rfl own_wfirst rfl rfl (fun _ _ => rfl) wfirst_S (fun _ h _ => h.1) fun _ => ?_
  refine l_autoS TY_ok rfl ?_
  refine s_end (hK1 _ ?_)
  refine s_no rfl ?_
  refine s_skip (hK _ ?_)
  refine s_seq fun K2 hK2 => ?_
  refine s_auto TY_ok rfl ?_
  refine s_ifD ((B.length : Int) > 20000) rfl (fun hbig => ?_) (fun hbig => ?_)
  · refine s_auto TY_ok rfl ?_
    exact s_ret (k_ret TY_ok () rfl (by decide) rfl rfl rfl (fun _ _ _ => trivial) (fun _ _ => trivial))
  have hB : B.length ≤ 20000 := by omega
  refine s_skip (hK2 _ ?_)
  refine s_regA TY_ok rfl fun K3 hK3 => ?_
  refine l_strB B rfl rfl rfl rfl rfl (rd_fact fun _ h _ => h.2.2.1) ?_
  refine l_autoS TY_ok rfl ?_
  refine s_end (hK3 _ ?_)
  have hparse := wParse_S (A := A) (c := c) B
  have hrparse := fun A c => rparse_S (A := A) (c := c) hB
  cases hr : PW.parse B with
  | error e =>
    have he0 := parse_err hr
    rw [hr] at hparse hrparse
    refine s_regA TY_ok rfl fun K4 hK4 => ?_
    refine l_call0 [.slice A B.length c] rfl rfl rfl own_wParse rfl rfl (fun _ _ => rfl) hparse (fun w h _ => ⟨h.2.2.1, h.2.1⟩) fun _ => ?_
    refine l_autoS TY_ok rfl ?_
    refine s_end (hK4 _ ?_)
    refine s_regA TY_ok rfl fun K5 hK5 => ?_
    refine l_bytesOf B rfl rfl rfl rfl rfl (by omega) fun g1 c1 => ?_
    refine l_call0 [.slice (some ⟨g1, 0, none⟩) B.length c1] rfl rfl rfl own_rparse rfl rfl (fun _ _ => rfl) (hrparse (some ⟨g1, 0, none⟩) c1) (fun w _ m => m.1) fun pr => ?_
    refine l_autoS TY_ok rfl ?_
    refine s_end (hK5 _ ?_)
    refine s_seq fun K6 hK6 => ?_
    refine s_regA TY_ok rfl fun K7 hK7 => ?_
    refine l_strB B rfl rfl rfl rfl rfl (rd_fact fun _ h _ => h.2.2.2.2.1) ?_
    refine l_autoS TY_ok rfl ?_
    refine l_op (.b (!decide (B = B))) trivial rfl rfl rfl (run_neqS rfl rfl rfl) ?_
    refine l_is 46 false rfl (by simp) ?_
    refine s_end (hK7 _ ?_)
    refine s_no rfl ?_
    refine s_skip (hK6 _ ?_)
    refine s_seq fun K8 hK8 => ?_
    refine s_auto TY_ok rfl ?_
    refine s_ifD ((e : Int) ≠ 0) rfl (fun _ => ?_) (fun h => absurd (by omega) h)
    refine s_keep [8, 9, 11] [8] rfl rfl ?_
    refine s_regH 17 (by decide) (by kernel_rfl) (by kernel_rfl) fun K9 hK9 G S w0 hst => ?_
    refine h_auto TY_ok hst rfl ?_
    refine h_is 52 true rfl (by simp) ?_
    refine h_auto TY_ok hst rfl ?_
    refine h_callS (F' := fun _ => True) (r := .q (eY 32 PW.empty.root)) hst [(prQ .empty).den] rfl rfl rfl rfl own_wRoot rfl rfl (fun _ => rfl) (eY_ok (n := 32) (show PW.empty.root.length = 32 from rfl)).1 (wRoot_S (w := .empty) trivial) (fun _ _ _ _ => trivial) ?_
    refine h_auto TY_ok hst rfl ?_
    refine h_op hst (.b (decide (z32T = z32T))) trivial rfl rfl rfl rfl (run_eqY rfl rfl rfl Tryd.underlying38 (by kernel_rfl) rfl rfl) ?_
    refine h_is 56 true rfl (by simp) ?_
    refine h_auto TY_ok hst rfl ?_
    refine h_callE (F' := fun _ => True) hst [(prQ .empty).den] rfl rfl rfl rfl own_wBytes rfl rfl (fun _ => rfl) (wBytes_S (w := .empty) trivial (by decide)).rd.newP (fun _ _ _ => trivial) fun v _ => ?_
    refine h_auto TY_ok hst rfl ?_
    refine h_strU PW.empty.bytes hst rfl rfl rfl rfl rfl rfl (fun w _ hw => newP_rd (hw 11 _ rfl (by kernel_rfl))) ?_
    refine h_auto TY_ok hst rfl ?_
    refine h_lit TY_ok [(0 : UInt8)] rfl rfl rfl rfl rfl rfl (fun _ => rfl) rfl (by decide) (by decide) fun C => ?_
    refine h_auto TY_ok hst rfl ?_
    refine h_strU [(0 : UInt8)] hst rfl rfl rfl rfl rfl rfl (fun w _ hw => hw 13 _ rfl (by kernel_rfl)) ?_
    refine h_auto TY_ok hst rfl ?_
    refine h_op hst (.b (decide (PW.empty.bytes = [0]))) trivial rfl rfl rfl rfl (run_eqS rfl rfl rfl) ?_
    refine h_is 64 true rfl (by decide) ?_
    refine h_auto TY_ok hst rfl ?_
    refine h_end hst ?_
    refine l_autoS TY_ok rfl ?_
    refine s_end (hK9 _ ?_)
    exact s_ret (k_ret TY_ok () rfl (by decide) rfl rfl rfl (fun _ _ _ => trivial) (fun _ _ => trivial))
  | ok W =>
    rw [hr] at hparse hrparse
    obtain ⟨hWr, hWb⟩ := PW.parse_ok hr
    have hWg := hWr.good
    have hbl : W.bytes.length ≤ 20000 := by rw [← hWb]; exact hB
    refine s_regA TY_ok rfl fun K4 hK4 => ?_
    refine l_call0 [.slice A B.length c] rfl rfl rfl own_wParse rfl rfl (fun _ _ => rfl) hparse (fun w h _ => ⟨h.2.2.1, h.2.1⟩) fun _ => ?_
    refine l_autoS TY_ok rfl ?_
    refine s_end (hK4 _ ?_)
    refine s_regA TY_ok rfl fun K5 hK5 => ?_
    refine l_bytesOf B rfl rfl rfl rfl rfl (by omega) fun g1 c1 => ?_
    refine l_call0 [.slice (some ⟨g1, 0, none⟩) B.length c1] rfl rfl rfl own_rparse rfl rfl (fun _ _ => rfl) (hrparse (some ⟨g1, 0, none⟩) c1) (fun w _ m => m.1) fun pr => ?_
    obtain ⟨g, PA, pc, ns⟩ := pr
    refine l_autoS TY_ok rfl ?_
    refine l_pure (At ns W 0) (fun w h _ => h.1.2) fun hat => ?_
    refine s_end (hK5 _ ?_)
    refine s_seq fun K6 hK6 => ?_
    refine s_regA TY_ok rfl fun K7 hK7 => ?_
    refine l_strB B rfl rfl rfl rfl rfl (rd_fact fun _ h _ => h.2.2.2.2.1) ?_
    refine l_autoS TY_ok rfl ?_
    refine l_op (.b (!decide (B = B))) trivial rfl rfl rfl (run_neqS rfl rfl rfl) ?_
    refine l_is 46 false rfl (by simp) ?_
    refine s_end (hK7 _ ?_)
    refine s_no rfl ?_
    refine s_skip (hK6 _ ?_)
    refine s_seq fun K8 hK8 => ?_
    refine s_auto TY_ok rfl ?_
    refine s_ifD ((0 : Int) ≠ 0) rfl (fun h => absurd rfl h) (fun _ => ?_)
    refine s_skip (hK8 _ ?_)
    refine s_seq fun K9 hK9 => ?_
    refine s_regA TY_ok rfl fun K10 hK10 => ?_
    refine l_is 68 false rfl (by simp) ?_
    refine l_autoS TY_ok rfl ?_
    refine l_call0 [(prQ W).den] rfl rfl rfl own_wBytes rfl rfl (fun _ _ => rfl) (wBytes_S hWg (by omega)).rd (fun _ _ _ => trivial) fun u => ?_
    refine l_autoS TY_ok rfl ?_
    refine l_strB W.bytes rfl rfl rfl rfl rfl (rd_fact fun _ _ m => m.1) ?_
    refine l_autoS TY_ok rfl ?_
    refine l_op (.b (!decide (W.bytes = B))) trivial rfl rfl rfl (run_neqS rfl rfl rfl) ?_
    refine l_is 73 false rfl (by rw [hWb]; simp) ?_
    refine l_autoS TY_ok rfl ?_
    refine l_call0 [(prQ W).den] rfl rfl rfl own_wRoot rfl rfl (fun _ _ => rfl) (wRoot_S hWg) (fun _ _ _ => trivial) fun _ => ?_
    refine l_autoS TY_ok rfl ?_
    refine l_call0 [.pointer (some ⟨g, 0, none⟩), .int .i64 0] rfl rfl rfl own_rproot rfl rfl (fun _ _ => rfl) (rproot_S (g := g) (B := PA) (c := pc) W 0 hat hWg) (fun _ h _ => h.2.2.1.1) fun _ => ?_
    refine l_autoS TY_ok rfl ?_
    refine l_op (.b (!decide (W.root = W.root))) trivial rfl rfl rfl (run_neqY rfl rfl rfl Tryd.underlying38 (by kernel_rfl) hWg.root_len hWg.root_len) ?_
    refine l_is 80 false rfl (by simp) ?_
    refine l_autoS TY_ok rfl ?_
    refine s_end (hK10 _ ?_)
    refine s_no rfl ?_
    refine s_skip (hK9 _ ?_)
    have hk8 : min ks.length 8 = (ks.take 8).length := by rw [List.length_take, Nat.min_comm]
    have hk88 : (ks.take 8).length ≤ 8 := by rw [← hk8]; omega
    have hrd8 : ∀ w, Rd 32 (eY 32) A2 c2 ks w → Rd 32 (eY 32) A2 c2 (ks.take 8) w := fun w h => h.take 8
    have hKok : ∀ k ∈ [q.1] ++ ks.take 8, k.length = 32 := fun k hk => by
      rcases List.mem_append.1 hk with h | h
      · rw [List.mem_singleton.1 h]; exact hq.1
      · exact hks k (List.mem_of_mem_take h)
    have hKl : ([q.1] ++ ks.take 8).length ≤ 9 := by rw [List.length_append, List.length_singleton]; omega
    refine s_keep [1, 5, 7, 8, 10] [5, 8] rfl rfl ?_
    refine s_seq fun K11 hK11 => ?_
    refine s_locs fun G => ?_
    refine s_seq fun K12 hK12 => ?_
    have hloop : ∀ (A9 : Option Addr) (c9 : Nat), ∀ en, Weak en ⟨[(92, .v (.int .i64 0)), (91, .v (.int .i64 (([q.1] ++ ks.take 8).length : Int))), (90, .v (.slice A9 ([q.1] ++ ks.take 8).length c9)), (5, .a 5 0), (7, vS B), (8, .a 8 0), (10, .v (.pointer (some ⟨g, 0, none⟩)))], [⟨8, none, 33, [.one (.v W.top)]⟩, ⟨5, none, 42, [.agg 32 (By q.1).toArray, .agg 32 (By q.2).toArray]⟩], [KyS A9 c9 ([q.1] ++ ks.take 8)], fun w => PartF g PA pc ns w ∧ Tsh w, fun _ => True⟩ → kS b K12 178 en := by
      intro A9 c9 en hw
      refine k_weak hw (hK12 _ ?_)
      refine s_free 0 rfl ?_
      generalize [q.1] ++ ks.take 8 = KS at *
      refine s_block ?_
      let F2 : Nat → Env := fun j => ⟨[(92, .v (.int .i64 (j : Int))), (91, .v (.int .i64 (KS.length : Int))), (90, .v (.slice A9 KS.length c9)), (5, .a 5 0), (7, vS B), (8, .a 8 0), (10, .v (.pointer (some ⟨g, 0, none⟩)))], [⟨8, none, 33, [.one (.v W.top)]⟩, ⟨5, none, 42, [.agg 32 (By q.1).toArray, .agg 32 (By q.2).toArray]⟩], [], fun w => Rd 32 (eY 32) A9 c9 KS w ∧ PartF g PA pc ns w ∧ Tsh w, fun _ => True⟩
      refine c_weak (e' := F2 0) ⟨⟨rfl, rfl, rfl, rfl, rfl, rfl, rfl, trivial⟩, ⟨rfl, rfl, rfl, rfl, trivial⟩, .refl _, fun _ h _ => h, fun _ _ => trivial⟩ (s_loop (fun j => KS.length - j) F2 (fun j => j ≤ KS.length) ?_ 0 (Nat.zero_le _))
      intro j hj
      refine s_auto TY_ok rfl ?_
      refine s_seq fun K14 hK14 => ?_
      refine s_ifD ((j : Int) < (KS.length : Int)) rfl (fun hlt => ?_) (fun hge => ?_)
      · have hlt : j < KS.length := by omega
        obtain ⟨k, hk0⟩ : ∃ y, KS[j]? = some y := ⟨_, List.getElem?_eq_getElem hlt⟩
        have hk := hKok k (List.mem_of_getElem? hk0)
        refine s_skip (hK14 _ ?_)
        refine s_seq fun K15 hK15 => ?_
        refine s_block ?_
        refine s_regA TY_ok rfl fun K16 hK16 => ?_
        refine l_elem TY_ok rfl rfl rfl j rfl hk0 rfl rfl (rd_fact fun _ h _ => h.1) ?_
        refine l_autoS TY_ok rfl ?_
        refine s_end (hK16 _ ?_)
        have hget1 := wGet_S hk W hWr
        have hget2 := rpget_S (g := g) (B := PA) (c := pc) hk W hat hWr
        have hvl := PW.tell_len (k := k) (d := 0) hWg
        generalize PW.tell k (PW.find k 0 W) = tl at *
        obtain ⟨v, is, unk⟩ := tl
        dsimp only at hvl hget2
        cases unk with
        | true =>
          refine s_regA TY_ok rfl fun K17 hK17 => ?_
          refine l_call0 [(prQ W).den, (eY 32 k).den] rfl rfl rfl own_wGet rfl rfl (fun _ _ => rfl) hget1 (fun _ _ _ => trivial) fun _ => ?_
          refine l_autoS TY_ok rfl ?_
          refine s_end (hK17 _ ?_)
          refine s_regA TY_ok rfl fun K18 hK18 => ?_
          refine l_call0 [.pointer (some ⟨g, 0, none⟩), (eY 32 k).den] rfl rfl rfl own_rpget rfl rfl (fun _ _ => rfl) hget2 (fun _ h _ => h.2.2.1) fun _ => ?_
          refine l_autoS TY_ok rfl ?_
          refine s_end (hK18 _ ?_)
          refine s_regA TY_ok rfl fun K19 hK19 => ?_
          refine l_op (.b (!decide (v = v))) trivial rfl rfl rfl (run_neqY rfl rfl rfl Tryd.underlying38 (by kernel_rfl) hvl hvl) ?_
          refine l_is 112 false rfl (by simp) ?_
          refine l_autoS TY_ok rfl ?_
          refine l_op (.b (!(is == is))) trivial rfl rfl rfl (run_neqBoolW rfl rfl rfl (fun _ => rfl) (fun _ => rfl)) ?_
          refine l_is 116 false rfl (by simp) ?_
          refine l_autoS TY_ok rfl ?_
          refine l_op (.b (!(true == decide ((if true = true then 100 else 0 : Int) = 100)))) trivial rfl rfl rfl (run_neqBoolW rfl rfl rfl (fun _ => rfl) (fun _ => rfl)) ?_
          refine l_is 122 false rfl (by simp) ?_
          refine l_autoS TY_ok rfl ?_
          refine s_end (hK19 _ ?_)
          refine s_no rfl ?_
          refine s_skip (hK15 _ ?_)
          refine s_autoE TY_ok rfl ?_
          exact k_next (j + 1) hlt (by show KS.length - (j + 1) < KS.length - j; omega) ⟨⟨congrArg some (congrArg SV.v (congrArg (Value.int .i64) (wrapI rfl (by omega) (by omega)))), rfl, rfl, rfl, rfl, rfl, rfl, trivial⟩, ⟨rfl, rfl, rfl, rfl, trivial⟩, .refl _, fun _ h _ => h.2.2, fun _ _ => trivial⟩
        | false =>
          refine s_regA TY_ok rfl fun K17 hK17 => ?_
          refine l_call0 [(prQ W).den, (eY 32 k).den] rfl rfl rfl own_wGet rfl rfl (fun _ _ => rfl) hget1 (fun _ _ _ => trivial) fun _ => ?_
          refine l_autoS TY_ok rfl ?_
          refine s_end (hK17 _ ?_)
          refine s_regA TY_ok rfl fun K18 hK18 => ?_
          refine l_call0 [.pointer (some ⟨g, 0, none⟩), (eY 32 k).den] rfl rfl rfl own_rpget rfl rfl (fun _ _ => rfl) hget2 (fun _ h _ => h.2.2.1) fun _ => ?_
          refine l_autoS TY_ok rfl ?_
          refine s_end (hK18 _ ?_)
          refine s_regA TY_ok rfl fun K19 hK19 => ?_
          refine l_op (.b (!decide (v = v))) trivial rfl rfl rfl (run_neqY rfl rfl rfl Tryd.underlying38 (by kernel_rfl) hvl hvl) ?_
          refine l_is 112 false rfl (by simp) ?_
          refine l_autoS TY_ok rfl ?_
          refine l_op (.b (!(is == is))) trivial rfl rfl rfl (run_neqBoolW rfl rfl rfl (fun _ => rfl) (fun _ => rfl)) ?_
          refine l_is 116 false rfl (by simp) ?_
          refine l_autoS TY_ok rfl ?_
          refine l_op (.b (!(false == decide ((if false = true then 100 else 0 : Int) = 100)))) trivial rfl rfl rfl (run_neqBoolW rfl rfl rfl (fun _ => rfl) (fun _ => rfl)) ?_
          refine l_is 122 false rfl (by simp) ?_
          refine l_autoS TY_ok rfl ?_
          refine l_is 131 false rfl (by simp) ?_
          refine s_end (hK19 _ ?_)
          refine s_no rfl ?_
          refine s_skip (hK15 _ ?_)
          refine s_autoE TY_ok rfl ?_
          exact k_next (j + 1) hlt (by show KS.length - (j + 1) < KS.length - j; omega) ⟨⟨congrArg some (congrArg SV.v (congrArg (Value.int .i64) (wrapI rfl (by omega) (by omega)))), rfl, rfl, rfl, rfl, rfl, rfl, trivial⟩, ⟨rfl, rfl, rfl, rfl, trivial⟩, .refl _, fun _ h _ => h.2.2, fun _ _ => trivial⟩
      refine s_exit (k_pass (k_pass (k_out ?_)))
      refine hK11 _ ?_
      have hget3 := rpget_S (g := g) (B := PA) (c := pc) hq.1 W hat hWr
      have hput := wPut_S hq W hWr
      have hunkv : (PW.tell q.1 (PW.find q.1 0 W)).2.2 = PW.unk q.1 0 W := rfl
      have hput2 := (PW.Right.put hq (n := 256) (way := []) rfl hWr (Leads.nil _)).1
      replace hput2 : PW.Right [] (PW.put q 0 W) := hput2
      have hple := PW.put_le hq (d := 0) hWg
      have hrb := rpbytes_S (g := g) (B := PA) (c := pc) hq W 0 [] true hat hWr (fun _ => Leads.nil _) (Nat.zero_le _) (by omega)
      replace hrb : Spec 21 [.pointer (some ⟨g, 0, none⟩), .int .i64 0, .int .i64 0, .bool true, (eP q).den] [] (PartF g PA pc ns) (newB (PW.put q 0 W).bytes) := hrb
      generalize PW.put q 0 W = W2 at *
      have hWg2 := hput2.good
      refine s_regA TY_ok rfl fun K20 hK20 => ?_
      refine l_call0 [.pointer (some ⟨g, 0, none⟩), (eY 32 q.1).den] rfl rfl rfl own_rpget rfl rfl (fun _ _ => rfl) hget3 (fun _ h _ => h.2.1) fun _ => ?_
      refine l_autoS TY_ok rfl ?_
      refine l_eq 22 (.v (.bool (PW.unk q.1 0 W))) rfl (congrArg (fun t => SV.v (.bool t)) hunkv) ?_
      refine s_end (hK20 _ ?_)
      refine s_keep [5, 7, 8, 10, 22] [5, 8] rfl rfl ?_
      refine s_regA TY_ok rfl fun K21 hK21 => ?_
      refine l_call0 [(prQ W).den, (eY 32 q.1).den, (eY 32 q.2).den] rfl rfl rfl own_wPut rfl rfl (fun _ _ => rfl) hput (fun _ h _ => h.2.2.2) fun _ => ?_
      cases hunk : PW.unk q.1 0 W with
      | true =>
        refine l_autoS TY_ok rfl ?_
        refine s_end (hK21 _ ?_)
        refine s_seq fun K22 hK22 => ?_
        refine s_auto TY_ok rfl ?_
        refine s_yes rfl ?_
        refine s_regA TY_ok rfl fun K23 hK23 => ?_
        refine l_is 153 true rfl (by simp) ?_
        refine l_autoS TY_ok rfl ?_
        refine l_call0 [(prQ .empty).den] rfl rfl rfl own_wRoot rfl rfl (fun _ _ => rfl) (wRoot_S (w := .empty) trivial) (fun _ _ _ => trivial) fun _ => ?_
        refine l_autoS TY_ok rfl ?_
        refine l_op (.b (decide (z32T = z32T))) trivial rfl rfl rfl (run_eqY rfl rfl rfl Tryd.underlying38 (by kernel_rfl) rfl rfl) ?_
        refine l_is 157 true rfl (by simp) ?_
        refine l_autoS TY_ok rfl ?_
        refine s_end (hK23 _ ?_)
        exact s_ret (k_ret TY_ok () rfl (by decide) rfl rfl rfl (fun _ _ _ => trivial) (fun _ _ => trivial))
      | false =>
        refine l_autoS TY_ok rfl ?_
        refine s_end (hK21 _ ?_)
        refine s_seq fun K22 hK22 => ?_
        refine s_auto TY_ok rfl ?_
        refine s_no rfl ?_
        refine s_skip (hK22 _ ?_)
        refine s_keep [5, 7, 8, 10, 23, 24] [5, 8, 23] rfl rfl ?_
        refine s_regH 19 (by decide) (by kernel_rfl) (by kernel_rfl) fun K23 hK23 G S w0 hst => ?_
        refine h_auto TY_ok hst rfl ?_
        refine h_is 161 true rfl (by simp) ?_
        refine h_auto TY_ok hst rfl ?_
        refine h_callE (F' := fun _ => True) hst [(prQ W2).den] rfl rfl rfl rfl own_wBytes rfl rfl (fun _ => rfl) (wBytes_S hWg2 (by omega)).rd.newP (fun _ _ _ => trivial) fun v1 _ => ?_
        refine h_auto TY_ok hst rfl ?_
        refine h_strU W2.bytes hst rfl rfl rfl rfl rfl rfl (fun w _ hw => newP_rd (hw 4 _ rfl (by kernel_rfl))) ?_
        refine h_auto TY_ok hst rfl ?_
        refine h_callE (F' := PartF g PA pc ns) hst [.pointer (some ⟨g, 0, none⟩), .int .i64 0, .int .i64 0, .bool true, (eP q).den] rfl rfl rfl rfl own_rpbytes rfl rfl (fun _ => rfl) hrb.newP (fun w hv _ => hv.fact.2.2.2.1) fun v2 _ => ?_
        refine h_auto TY_ok hst rfl ?_
        refine h_strU W2.bytes hst rfl rfl rfl rfl rfl rfl (fun w _ hw => newP_rd (hw 8 _ rfl (by kernel_rfl))) ?_
        refine h_auto TY_ok hst rfl ?_
        refine h_op hst (.b (decide (W2.bytes = W2.bytes))) trivial rfl rfl rfl rfl (run_eqS rfl rfl rfl) ?_
        refine h_is 169 true rfl (by simp) ?_
        refine h_auto TY_ok hst rfl ?_
        refine h_callE (F' := fun _ => True) hst [(prQ W).den] rfl rfl rfl rfl own_wBytes rfl rfl (fun _ => rfl) (wBytes_S hWg (by omega)).rd.newP (fun _ _ _ => trivial) fun v3 _ => ?_
        refine h_auto TY_ok hst rfl ?_
        refine h_strU W.bytes hst rfl rfl rfl rfl rfl rfl (fun w _ hw => newP_rd (hw 14 _ rfl (by kernel_rfl))) ?_
        refine h_auto TY_ok hst rfl ?_
        refine h_op hst (.b (decide (W.bytes = B))) trivial rfl rfl rfl rfl (run_eqS rfl rfl rfl) ?_
        refine h_is 176 true rfl (by rw [hWb]; simp) ?_
        refine h_auto TY_ok hst rfl ?_
        refine h_end hst ?_
        refine l_autoS TY_ok rfl ?_
        refine s_end (hK23 _ ?_)
        exact s_ret (k_ret TY_ok () rfl (by decide) rfl rfl rfl (fun _ _ _ => trivial) (fun _ _ => trivial))
    refine s_anyP [0, 1, 3, 4, 5, 7, 10] 11 0 (InvL (withG G [⟨8, none, 33, [.one (.v W.top)]⟩, ⟨5, none, 42, [.agg 32 (By q.1).toArray, .agg 32 (By q.2).toArray]⟩])) (by kernel_rfl) rfl (inv_of withG_some) ?_
    refine p_frontS TY_ok 0 (by kernel_rfl) rfl rfl rfl rfl rfl rfl (fun x hx => hx) (fun _ h => h) ?_
    refine p_frontS TY_ok 1 (by kernel_rfl) rfl rfl rfl rfl rfl rfl (fun x hx => hx) (fun _ h => h) ?_
    refine p_frontS TY_ok 3 (by kernel_rfl) rfl rfl rfl rfl rfl rfl (fun x hx => hx) (fun _ h => h) ?_
    refine p_frontS TY_ok 4 (by kernel_rfl) rfl rfl rfl rfl rfl rfl (fun x hx => hx) (fun _ h => h) ?_
    refine p_frontS TY_ok 5 (by kernel_rfl) rfl rfl rfl rfl rfl rfl (fun x hx => hx) (fun _ h => h) ?_
    refine p_frontS TY_ok 10 (by kernel_rfl) rfl rfl rfl rfl rfl rfl (fun x hx => hx) (fun _ h => h) ?_
    refine p_step2 2 6 (by kernel_rfl) rfl rfl (fun K13 hK13 => ?_) fun K13 hK13 => ?_
    · refine l_list (fe := eY 32) TY_ok 0 [q.1] rfl rfl rfl rfl rfl (fun _ => rfl) rfl (by decide) (by decide) (fun y hy => by rw [List.mem_singleton.1 hy]; exact eY_ok hq.1) (Nat.zero_le _) fun C => ?_
      refine s_end (hK13 _ (inv_of withG_some) ?_)
      refine p_step 6 (by kernel_rfl) rfl fun K14 hK14 => ?_
      refine l_op (.v (.int .i64 ((min ks.length 8 : Nat) : Int))) trivial rfl rfl rfl (run_min rfl rfl rfl) ?_
      refine s_end (hK14 _ (inv_of withG_some) ?_)
      refine p_frontO (.v (.slice A2 (min ks.length 8) c2)) trivial 7 (by kernel_rfl) rfl rfl rfl rfl rfl (run_cutHi (sz := 32) (by kernel_rfl) (by omega) hA2 rfl Tryd.underlying23 rfl rfl) ?_
      refine p_step 8 (by kernel_rfl) rfl fun K15 hK15 => ?_
      refine l_eq 89 (.v (.slice A2 (ks.take 8).length c2)) rfl (by rw [hk8]) ?_
      refine l_appY TY_ok 0 (ks.take 8) rfl rfl rfl rfl rfl rfl rfl rfl rfl (rd_fact fun w h _ => hrd8 w h.2.2.2.2.2.2.2.2) (by decide) (by show (1 + (ks.take 8).length) * 32 ≤ _; omega) (by show 1 + (ks.take 8).length ≤ _; omega) (Nat.zero_le _) fun A9 c9 => ?_
      refine s_end (hK15 _ (inv_of withG_some) ?_)
      refine p_step 9 (by kernel_rfl) rfl fun K16 hK16 => ?_
      refine l_autoS TY_ok rfl ?_
      refine s_end (hK16 _ (inv_of withG_some) ?_)
      refine p_tail [] (by kernel_rfl) rfl ?_
      exact s_end (k_noloc (hloop A9 c9 _ ⟨⟨rfl, rfl, rfl, rfl, rfl, rfl, rfl, trivial⟩, ⟨rfl, rfl, rfl, rfl, trivial⟩, .refl _, fun _ h _ => ⟨h.2.2.2.1.1, h.2.2.2.2.2.2.1⟩, fun _ _ => trivial⟩))
    · refine l_op (.v (.int .i64 ((min ks.length 8 : Nat) : Int))) trivial rfl rfl rfl (run_min rfl rfl rfl) ?_
      refine s_end (hK13 _ (inv_of withG_some) ?_)
      refine p_frontO (.v (.slice A2 (min ks.length 8) c2)) trivial 7 (by kernel_rfl) rfl rfl rfl rfl rfl (run_cutHi (sz := 32) (by kernel_rfl) (by omega) hA2 rfl Tryd.underlying23 rfl rfl) ?_
      refine p_step 2 (by kernel_rfl) rfl fun K14 hK14 => ?_
      refine l_list (fe := eY 32) TY_ok 0 [q.1] rfl rfl rfl rfl rfl (fun _ => rfl) rfl (by decide) (by decide) (fun y hy => by rw [List.mem_singleton.1 hy]; exact eY_ok hq.1) (Nat.zero_le _) fun C => ?_
      refine s_end (hK14 _ (inv_of withG_some) ?_)
      refine p_step 8 (by kernel_rfl) rfl fun K15 hK15 => ?_
      refine l_eq 89 (.v (.slice A2 (ks.take 8).length c2)) rfl (by rw [hk8]) ?_
      refine l_appY TY_ok 0 (ks.take 8) rfl rfl rfl rfl rfl rfl rfl rfl rfl (rd_fact fun w h _ => hrd8 w h.2.2.2.2.2.2.2.2) (by decide) (by show (1 + (ks.take 8).length) * 32 ≤ _; omega) (by show 1 + (ks.take 8).length ≤ _; omega) (Nat.zero_le _) fun A9 c9 => ?_
      refine s_end (hK15 _ (inv_of withG_some) ?_)
      refine p_step 9 (by kernel_rfl) rfl fun K16 hK16 => ?_
      refine l_autoS TY_ok rfl ?_
      refine s_end (hK16 _ (inv_of withG_some) ?_)
      refine p_tail [] (by kernel_rfl) rfl ?_
      exact s_end (k_noloc (hloop A9 c9 _ ⟨⟨rfl, rfl, rfl, rfl, rfl, rfl, rfl, trivial⟩, ⟨rfl, rfl, rfl, rfl, trivial⟩, .refl _, fun _ h _ => ⟨h.2.2.2.1.1, h.2.2.2.2.2.2.1⟩, fun _ _ => trivial⟩))
end Go.Proofs.YtoecohpcnojokaaDoor
/-
  FROM A WALK TO A LAW'S ROW: slices of bytes and arrays of 64 bytes, opened.
-/
namespace Go.Proofs.YtoecohpcnojokaaDoor
open Go.RowKit Go.IntWalk
open Go.ChangeShapes Go.WideShapes Go.ChangeAt

theorem open_bytes {H : Type} {enc : TypeId × Value → H} {W : World} {held : Bool} {fuel : Nat} {cs : List Value} {x : DataW H × List MemPlace} (h : DataW.trod enc Tryd.prog W 0 (fun _ => true) held fuel 35 cs = some x) :
    ∃ (A : Option Addr) (l : List UInt8) (c : Nat), cs = [.slice A l.length c] ∧ SL W 0 W.heap.size A l c := by
  rcases open_ints Tryd.underlying35 Tryd.underlying5 cells8 h with ⟨rfl, rfl⟩ | ⟨a, len, cap, zs, rfl, _, hl, hm, hz, rfl, hcell, hwz⟩
  · exact ⟨none, [], 0, rfl, SL.nil _ _ _⟩
  · have hz' : zs.length = cap := hz
    have hlen : ((zs.take len).map fun z => UInt8.ofNat z.toNat).length = len := by simp; omega
    refine ⟨some a, (zs.take len).map fun z => UInt8.ofNat z.toNat, cap, by rw [hlen], by rw [hlen]; exact hl, by unfold maxLen at hm; omega, fun h => (by cases h), fun hpos => ⟨a, rfl, Nat.zero_le _, ?_, fun j x hx => ?_⟩⟩
    · have h0 : 0 < zs.length := by rw [hlen] at hpos; omega
      have := World.block_lt_of_cell? W _ (hcell 0 h0)
      rwa [block_add] at this
    · simp only [List.getElem?_map, List.getElem?_take, Option.map_eq_some_iff] at hx
      obtain ⟨z, hz, rfl⟩ := hx
      split at hz
      · have hj := (List.getElem?_eq_some_iff.1 hz).1
        have hb := range_u8 hwz j
        have hg : zs.getD j 0 = z := by simp [List.getD, hz]
        rw [hz] at hb
        simp only [Option.getD_some] at hb
        rw [hcell j hj, hg]
        have e : (UInt8.ofNat z.toNat).toNat = z.toNat := by
          simp
          omega
        rw [e, Int.toNat_of_nonneg hb.1]
      · cases hz

end Go.Proofs.YtoecohpcnojokaaDoor
/-
  FROM A WALK TO A LAW'S ROW: an argument that is a pair.
-/
namespace Go.Proofs.YtoecohpcnojokaaDoor
open Go.RowKit Go.IntWalk Nums
open Go.ChangeShapes Go.WideShapes Go.ChangeAt

set_option maxRecDepth 20000 in
theorem open_pair {H : Type} {enc : TypeId × Value → H} {W : World} {base : Nat} {v : Value} {d : DataW H} {p : List MemPlace} (hv : Value.okWide Tryd.prog W .any base 42 v) (h : DataW.Trod enc Tryd.prog W 0 (fun _ => true) true 42 v d p) :
    ∃ q : PairT, OkT2 q ∧ v = (eP q).den := by
  obtain ⟨cs, rfl, _⟩ := okWide_struct Tryd.underlying42 hv
  obtain ⟨fuel, hf⟩ := h
  obtain ⟨q, h1, h2, _⟩ := pair_cellsT fuel _ _ hf
  refine ⟨q, eP_len h2, ?_⟩
  have e : cs.toList = (eP q).cl := h1
  show Value.agg cs = Value.agg (catP [Pt.agg 32 (By q.1).toArray, .agg 32 (By q.2).toArray])
  congr 1
  apply Array.toList_inj.1
  rw [e, SQ.cl_parts h2]
  rfl
end Go.Proofs.YtoecohpcnojokaaDoor
