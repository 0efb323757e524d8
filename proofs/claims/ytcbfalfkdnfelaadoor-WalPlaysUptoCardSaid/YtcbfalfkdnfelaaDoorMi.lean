/-
  SEVERAL TEXTS IN ONE: WlC, DkA, DkB, WlD, WlE, WlF, WlG, WlR, HiS, WlS, DkS, WlT.
-/
import Derived.Test.YtcbfalfkdnfelaaDoorMh
import Derived.Test.YtcbfalfkdnfelaaDoorMe
import Derived.Test.YtcbfalfkdnfelaaDoorMd
import Derived.Test.YtcbfalfkdnfelaaDoorMg
/-
  WHAT A DISK SAYS: all rows, one behind the other.
-/
namespace Go.Proofs.YtcbfalfkdnfelaaDoor
open Go.RowKit Go.IntWalk Nums

/-- A slice of slices of bytes: where it lies, where they lie, what they are. -/
structure SgX (rs : List (List UInt8)) where
  A : Option Addr
  c : Nat
  ss : List Seg
  is : ss.map Seg.l = rs
abbrev SgO (A : Option Addr) (c : Nat) (ss : List Seg) : Res := OwnS 0 33 1 eSeg A c ss
theorem own_wsaid : Own 23 := fun _ _ => by go_simp
theorem logD_ge : ∀ (i : Nat) (rs : List (List UInt8)), rs.length ≤ (logD i rs).length
  | _, [] => Nat.le_refl _
  | i, x :: r => by
    show r.length + 1 ≤ (rowD i x ++ logD (i + 1) r).length
    have := logD_ge (i + 1) r
    rw [List.length_append, rowD_len]
    omega
set_option maxRecDepth 100000 in
set_option maxHeartbeats 1000000 in
theorem wsaid_S {A : Option Addr} {c : Nat} (B : List UInt8) (hb : B.length ≤ 1073741824) : Spec 23 [.slice A B.length c] [] (fun w => Tsh w ∧ Rd 1 eB A c B w)
    { ret := fun x : SgX (saysD B) => .t [.c (.v (.slice x.A x.ss.length x.c)), .c (.v (.int .i64 ((logD 0 (saysD B)).length : Int)))], own := fun x => [SgO x.A x.c x.ss], n := fun x w => ∀ s ∈ x.ss, s.rd w } := by
  refine spec_S [.c (.v (.slice A B.length c))] 32 Tryd.func23 rfl (by rw [Tryd.ntmps23]; rfl) (one_ok trivial) fun b => ?_
  refine s_pure (B.length ≤ c ∧ (A = none → c = 0)) (fun w hw _ => ⟨hw.2.1, hw.2.2.2.1⟩) fun ⟨hlc, hA⟩ => ?_
  refine s_auto TY_ok rfl ?_
  refine s_nil0 0 33 1 eSeg ?_
  refine s_auto TY_ok rfl ?_
  refine s_auto TY_ok rfl ?_
  refine s_block ?_
  let V : Option Addr × Nat × List Seg × Nat → Env := fun s => ⟨[(5, .v (.int .i64 (s.2.2.2 : Int))), (4, .v (.slice s.1 s.2.2.1.length s.2.1)), (0, .v (.slice A B.length c))], [], [SgO s.1 s.2.1 s.2.2.1], fun w => Tsh w ∧ Rd 1 eB A c B w, fun w => ∀ x ∈ s.2.2.1, x.rd w⟩
  refine c_weak (e' := V (none, 0, [], 0)) ⟨⟨rfl, rfl, rfl, trivial⟩, trivial, .refl _, fun _ h _ => h, fun _ _ _ h => by cases h⟩ (s_loop (fun s => B.length - s.2.2.2) V (fun s => (∀ x ∈ s.2.2.1, x.l.length ≤ 1048576) ∧ (logD 0 (s.2.2.1.map Seg.l)).length = s.2.2.2 ∧ ∃ t, B = logD 0 (s.2.2.1.map Seg.l) ++ t) ?_ (none, 0, [], 0) ⟨fun _ h => (by cases h), rfl, B, rfl⟩)
  rintro ⟨P, pc, ss, e⟩ ⟨hsm, he, t, ht⟩
  dsimp only at hsm ht he
  have hBl : B.length = e + t.length := by rw [ht, List.length_append, he]
  have hdr : B.drop e = t := by rw [ht]; exact List.drop_left' he
  have hss : ss.length ≤ e := by rw [← he]; have := logD_ge 0 (ss.map Seg.l); rwa [List.length_map] at this
  refine s_block ?_
  refine s_regA TY_ok rfl fun K1 hK1 => ?_
  refine l_op (.v (.slice (cutA A c e) t.length (c - e))) trivial rfl rfl rfl (by rw [show t.length = B.length - e by omega]; exact run_cutLo (by omega) hlc hA rfl rfl rfl) ?_
  refine l_autoS TY_ok rfl ?_
  have hf := wfirst15_S (A := cutA A c e) (c := c - e) t ss.length (by omega) (by omega)
  have hrt : ∀ w, (Tsh w ∧ Rd 1 eB A c B w) → Tsh w ∧ Rd 1 eB (cutA A c e) (c - e) t w := fun w h => ⟨h.1, by rw [← hdr]; exact h.2.part (by omega)⟩
  cases hfi : firstD ss.length t with
  | none =>
    rw [hfi] at hf
    refine l_call0 [.slice (cutA A c e) t.length (c - e), .int .i64 (ss.length : Int)] rfl rfl rfl own_wfirst15 rfl rfl (fun _ _ => rfl) hf (fun w h _ => hrt w h) fun x => ?_
    refine l_autoS TY_ok rfl ?_
    refine s_end (hK1 _ ?_)
    have hsay : saysD B = ss.map Seg.l := saysD_of _ t ht (fun x hx => by
      obtain ⟨s, h1, rfl⟩ := List.mem_map.1 hx
      exact hsm s h1) (by rw [List.length_map]; exact hfi)
    refine s_seq fun K2 hK2 => ?_
    refine s_auto TY_ok rfl ?_
    refine s_yes rfl ?_
    refine s_auto TY_ok rfl ?_
    refine s_ret (k_ret TY_ok ⟨P, pc, ss, hsay.symm⟩ rfl (by decide) rfl (congrArg (fun n : Nat => RV.t [SQ.c (SC.v (.slice P ss.length pc)), SQ.c (SC.v (.int .i64 (n : Int)))]) (show (logD 0 (saysD B)).length = e by rw [hsay, he])) rfl (fun _ _ _ => trivial) (fun w h => h.2))
  | some y =>
    rw [hfi] at hf
    obtain ⟨hy1, hy2, hy3⟩ := firstD_some hfi
    refine l_call0 [.slice (cutA A c e) t.length (c - e), .int .i64 (ss.length : Int)] rfl rfl rfl own_wfirst15 rfl rfl (fun _ _ => rfl) hf (fun w h _ => hrt w h) fun ⟨Ay, cy⟩ => ?_
    refine l_autoS TY_ok rfl ?_
    refine s_end (hK1 _ ?_)
    refine s_seq fun K2 hK2 => ?_
    refine s_auto TY_ok rfl ?_
    refine s_no rfl ?_
    refine s_skip (hK2 _ ?_)
    refine s_regA TY_ok rfl fun K3 hK3 => ?_
    refine l_list TY_ok b.B.heap.size [⟨Ay, cy, y⟩] (fe := eSeg) rfl rfl rfl rfl rfl (fun _ => rfl) rfl (by decide) (by decide) (okF_seg _) (Nat.le_refl _) fun P1 => ?_
    refine l_free 0 rfl ?_
    have e0 : (List.map Seg.l [⟨Ay, cy, y⟩]).flatten = y := by simp
    have hj := join_S (A := P1) (c := 1) [⟨Ay, cy, y⟩] (by rw [e0]; omega)
    rw [e0] at hj
    refine l_call0 [.slice P1 1 1] rfl rfl rfl own_join rfl rfl (fun _ _ => rfl) hj (fun w hF _ => ⟨hF.1, fun s hs => by rw [List.mem_singleton.1 hs]; exact hF.2.1 y rfl⟩) fun g => ?_
    refine l_push TY_ok 0 (⟨some ⟨g, 0, none⟩, y.length, y⟩ : Seg) (fe := eSeg) rfl rfl rfl rfl rfl rfl rfl (eSeg_ok _) (by decide) (by decide) (by show (ss.length + 1) * 24 ≤ _; omega) (by show ss.length < _; omega) (Nat.zero_le _) fun P2 pc2 => ?_
    refine l_autoS TY_ok rfl ?_
    refine s_end (hK3 _ ?_)
    refine s_lit ?_
    refine l_autoS TY_ok rfl ?_
    have hmap : (ss ++ [⟨some ⟨g, 0, none⟩, y.length, y⟩] : List Seg).map Seg.l = ss.map Seg.l ++ [y] := by simp
    have hlog : logD 0 (ss.map Seg.l ++ [y]) = logD 0 (ss.map Seg.l) ++ rowD ss.length y := by rw [logD_app, Nat.zero_add, List.length_map, logD_one]
    have hll : (logD 0 (ss.map Seg.l ++ [y])).length = e + (16 + y.length) := by rw [hlog, List.length_append, he, rowD_len]
    have hw1 : IntKind.i64.wrap (16 + (y.length : Int)) = ((16 + y.length : Nat) : Int) := wrapI (by omega) (by omega) (by omega)
    refine l_num 5 ((logD 0 (ss.map Seg.l ++ [y])).length : Int) rfl (by rw [hll, hw1]; show IntKind.i64.wrap ((e : Int) + _) = _; exact wrapI (by omega) (by omega) (by omega)) ?_
    refine s_end ?_
    refine k_next (P2, pc2, ss ++ [⟨some ⟨g, 0, none⟩, y.length, y⟩], (logD 0 (ss.map Seg.l ++ [y])).length) ⟨fun s hs => ?_, congrArg (fun z => (logD 0 z).length) hmap, t.drop (16 + y.length), ?_⟩ ?_ ⟨⟨rfl, rfl, rfl, trivial⟩, trivial, .refl _, fun _ h _ => h.2.2.2, fun w h s hs => ?_⟩
    · rcases List.mem_append.1 hs with hs | hs
      · exact hsm s hs
      · rw [List.mem_singleton.1 hs]
        exact hy1
    · dsimp only
      rw [hmap, hlog, List.append_assoc, ← hy3]
      exact ht
    · show B.length - (logD 0 (ss.map Seg.l ++ [y])).length < B.length - e
      rw [hll]
      omega
    · rcases List.mem_append.1 hs with hs | hs
      · exact h.2.2 s hs
      · rw [List.mem_singleton.1 hs]
        exact h.1
end Go.Proofs.YtcbfalfkdnfelaaDoor
/-
  A DISK, as it lies: its size, its bytes, how many are safe.
-/
namespace Go.Proofs.YtcbfalfkdnfelaaDoor
open Go.RowKit Go.IntWalk

/-- What lies in a disk. -/
def dkP (size : Int) (A : Option Addr) (c : Nat) (l : List UInt8) (s : Int) : List Pt := [.one (.v (.int .i64 size)), .one (.v (.slice A l.length c)), .one (.v (.int .i64 s))]
abbrev pD (g : Nat) : Value := .pointer (some ⟨g, 0, none⟩)
abbrev DkO (g : Nat) (size : Int) (A : Option Addr) (c : Nat) (l : List UInt8) (s : Int) : Res := ObjS g 51 (dkP size A c l s)
abbrev DkB (A : Option Addr) (c : Nat) (l : List UInt8) : Res := OwnS 0 5 1 eB A c l
theorem own_dnew : Own 8 := fun _ _ => by go_simp
theorem own_dapp : Own 22 := fun _ _ => by go_simp
theorem own_dsync : Own 24 := fun _ _ => by go_simp
theorem own_dcrash : Own 12 := fun _ _ => by go_simp
theorem own_dcut : Own 13 := fun _ _ => by go_simp
theorem own_dbytes : Own 20 := fun _ _ => by go_simp
theorem own_dlen : Own 14 := fun _ _ => by go_simp
theorem own_dsafe : Own 21 := fun _ _ => by go_simp
theorem own_cloneB : Own 33 := fun _ _ => by go_simp
set_option maxRecDepth 100000 in
set_option maxHeartbeats 1000000 in
theorem dnew_S (size : Int) (h : 0 ≤ size) : Spec 8 [.int .i64 size] [] (fun _ => True) { ret := fun g : Nat => .t [.c (.v (pD g)), .c (.v (.int .i64 0))], own := fun g => [DkO g size none 0 [] 0, DkB none 0 []] } := by
  refine spec_S [.c (.v (.int .i64 size))] 9 Tryd.func8 rfl (by rw [Tryd.ntmps8]; rfl) (one_ok trivial) fun b => ?_
  refine s_nil0 0 5 1 eB ?_
  refine s_auto TY_ok rfl ?_
  refine s_seq fun K hK => ?_
  refine s_auto TY_ok rfl ?_
  refine s_ifD (size < 0) rfl (fun h0 => absurd h (by omega)) fun _ => ?_
  refine s_skip (hK _ ?_)
  refine s_auto TY_ok rfl ?_
  refine s_ret (k_give 2 rfl (E' := [(3, .v (.int .i64 0))]) ⟨rfl, trivial⟩ fun g => ?_)
  exact k_ret TY_ok g rfl (by decide) rfl rfl rfl (fun _ _ _ => trivial) (fun _ _ => trivial)
set_option maxRecDepth 100000 in
set_option maxHeartbeats 1000000 in
theorem dsync_S (g : Nat) (size : Int) (A : Option Addr) (c : Nat) (l : List UInt8) (s : Int) : Spec 24 [pD g] [DkO g size A c l s] (fun _ => True) { ret := fun _ : Unit => .t [], own := fun _ => [DkO g size A c l (l.length : Int)] } := by
  refine spec_S [.c (.v (pD g))] 12 Tryd.func24 rfl (by rw [Tryd.ntmps24]; rfl) (one_ok trivial) fun b => ?_
  refine s_auto TY_ok rfl ?_
  refine s_yes rfl ?_
  refine s_lit ?_
  refine l_autoS TY_ok rfl ?_
  refine l_ldO TY_ok rfl rfl rfl rfl rfl rfl (obj_own 0 rfl) ?_
  refine l_autoS TY_ok rfl ?_
  refine l_stO TY_ok 0 rfl rfl rfl rfl rfl rfl rfl ?_
  exact s_end (k_ret TY_ok () rfl (by decide) rfl rfl rfl (fun _ _ _ => trivial) (fun _ _ => trivial))
/-- What stays of a crash. -/
def crashN (keep : Int) (s n : Nat) : Nat := (s : Int).toNat + (min (max keep 0) ((n : Int) - s)).toNat
set_option maxRecDepth 100000 in
set_option maxHeartbeats 1000000 in
theorem dcrash_S (g : Nat) (size keep : Int) (A : Option Addr) (c : Nat) (l : List UInt8) (s : Nat) (hs : s ≤ l.length) (hl : l.length ≤ 9223372036854775807) : Spec 12 [pD g, .int .i64 keep] [DkO g size A c l s, DkB A c l] (fun _ => True) { ret := fun _ : Unit => .t [], own := fun _ => [DkO g size A c (l.take (crashN keep s l.length)) (crashN keep s l.length : Nat), DkB A c (l.take (crashN keep s l.length))] } := by
  refine spec_S [.c (.v (pD g)), .c (.v (.int .i64 keep))] 38 Tryd.func12 rfl (by rw [Tryd.ntmps12]; rfl) (two_ok trivial trivial) fun b => ?_
  refine s_own 1 rfl fun hok hlc hA => ?_
  refine s_seq fun K hK => ?_
  refine s_auto TY_ok rfl ?_
  refine s_no rfl ?_
  refine s_skip (hK _ ?_)
  refine s_regD 18 (by decide) (by kernel_rfl) (by kernel_rfl) fun K1 hK1 G S w0 hst => ?_
  refine g_autoS TY_ok hst rfl ?_
  refine g_ldO TY_ok hst rfl rfl rfl rfl rfl rfl (obj_own 0 rfl) ?_
  refine g_autoS TY_ok hst rfl ?_
  refine g_opS (.v (.int .i64 (max keep 0))) trivial rfl rfl rfl (run_maxI rfl rfl rfl) ?_
  refine g_autoS TY_ok hst rfl ?_
  refine g_ldO TY_ok hst rfl rfl rfl rfl rfl rfl (obj_own 0 rfl) ?_
  refine g_autoS TY_ok hst rfl ?_
  refine g_ldO TY_ok hst rfl rfl rfl rfl rfl rfl (obj_own 0 rfl) ?_
  refine g_autoS TY_ok hst rfl ?_
  refine g_num 21 ((l.length : Int) - s) rfl (wrapI rfl (by omega) (by omega)) ?_
  refine g_opS (.v (.int .i64 (min (max keep 0) ((l.length : Int) - s)))) trivial rfl rfl rfl (run_minI rfl rfl rfl) ?_
  refine g_autoS TY_ok hst rfl ?_
  have e1 : IntKind.i64.wrap ((s : Int) + min (max keep 0) ((l.length : Int) - s)) = (crashN keep s l.length : Nat) := wrapI (by unfold crashN; omega) (by omega) (by unfold crashN; omega)
  have e2 : crashN keep s l.length ≤ l.length := by unfold crashN; omega
  generalize crashN keep s l.length = m at *
  refine g_num 23 (m : Int) rfl e1 ?_
  refine g_endS hst ?_
  refine l_autoS TY_ok rfl ?_
  refine l_stO TY_ok 0 rfl rfl rfl rfl rfl rfl rfl ?_
  refine s_end (hK1 _ ?_)
  have e3 : (l.take m).length = m := by rw [List.length_take]; omega
  refine s_drawn 10 (by decide) (by kernel_rfl) (by kernel_rfl) fun G S w0 hst => ?_
  refine g_autoS TY_ok hst rfl ?_
  refine g_ldO TY_ok hst rfl rfl rfl rfl rfl rfl (obj_own 0 rfl) ?_
  refine g_autoS TY_ok hst rfl ?_
  refine g_ldO TY_ok hst rfl rfl rfl rfl rfl rfl (obj_own 0 rfl) ?_
  refine g_opS (.v (.slice A m c)) trivial rfl rfl rfl (run_cutHi (e := 5) (sz := 1) (by kernel_rfl) (by omega) hA rfl Tryd.underlying33 rfl rfl) ?_
  refine g_endS hst ?_
  refine l_autoS TY_ok rfl ?_
  refine l_stO TY_ok 0 rfl rfl rfl rfl rfl rfl rfl ?_
  refine l_cutR 1 m rfl ?_
  exact s_end (k_ret TY_ok () rfl (by decide) rfl rfl (by dsimp only [DkO, dkP]; rw [e3]; rfl) (fun _ _ _ => trivial) (fun _ _ => trivial))
set_option maxRecDepth 100000 in
set_option maxHeartbeats 1000000 in
theorem dcut_S (g : Nat) (size : Int) (n : Nat) (A : Option Addr) (c : Nat) (l : List UInt8) (s : Nat) (hn : n ≤ l.length) : Spec 13 [pD g, .int .i64 (n : Int)] [DkO g size A c l s, DkB A c l] (fun _ => True) { ret := fun _ : Unit => .v (.int .i64 0), own := fun _ => [DkO g size A c (l.take n) (min s n : Nat), DkB A c (l.take n)] } := by
  refine spec_S [.c (.v (pD g)), .c (.v (.int .i64 (n : Int)))] 36 Tryd.func13 rfl (by rw [Tryd.ntmps13]; rfl) (two_ok trivial trivial) fun b => ?_
  refine s_own 1 rfl fun hok hlc hA => ?_
  refine s_auto TY_ok rfl ?_
  refine s_seq fun K hK => ?_
  refine s_auto TY_ok rfl ?_
  refine s_no rfl ?_
  refine s_skip (hK _ ?_)
  refine s_seq fun K1 hK1 => ?_
  refine s_regA TY_ok rfl fun K2 hK2 => ?_
  refine l_is 9 false rfl (decide_eq_false (by omega)) ?_
  refine l_autoS TY_ok rfl ?_
  refine l_ldO TY_ok rfl rfl rfl rfl rfl rfl (obj_own 0 rfl) ?_
  refine l_autoS TY_ok rfl ?_
  refine s_end (hK2 _ ?_)
  refine s_ifD ((n : Int) > (l.length : Int)) rfl (fun h0 => absurd hn (by omega)) fun _ => ?_
  refine s_skip (hK1 _ ?_)
  refine s_regA TY_ok rfl fun K3 hK3 => ?_
  refine l_ldO TY_ok rfl rfl rfl rfl rfl rfl (obj_own 0 rfl) ?_
  refine l_autoS TY_ok rfl ?_
  refine l_op (.v (.slice A n c)) trivial rfl rfl rfl (run_cutHi (e := 5) (sz := 1) (by kernel_rfl) (by omega) hA rfl Tryd.underlying33 rfl rfl) ?_
  refine l_autoS TY_ok rfl ?_
  refine l_stO TY_ok 0 rfl rfl rfl rfl rfl rfl rfl ?_
  refine l_cutR 1 n rfl ?_
  refine s_end (hK3 _ ?_)
  refine s_regA TY_ok rfl fun K4 hK4 => ?_
  refine l_ldO TY_ok rfl rfl rfl rfl rfl rfl (obj_own 0 rfl) ?_
  refine l_autoS TY_ok rfl ?_
  refine l_op (.v (.int .i64 ((min s n : Nat) : Int))) trivial rfl rfl rfl (run_min rfl rfl rfl) ?_
  refine l_autoS TY_ok rfl ?_
  refine l_stO TY_ok 0 rfl rfl rfl rfl rfl rfl rfl ?_
  refine s_end (hK4 _ ?_)
  refine s_auto TY_ok rfl ?_
  have e3 : (l.take n).length = n := by rw [List.length_take]; omega
  exact s_ret (k_ret TY_ok () rfl (by decide) rfl rfl (by dsimp only [DkO, dkP]; rw [e3]; rfl) (fun _ _ _ => trivial) (fun _ _ => trivial))
set_option maxRecDepth 100000 in
set_option maxHeartbeats 1000000 in
theorem cloneB_S {A : Option Addr} {c : Nat} (l : List UInt8) (hl : l.length ≤ 140737488355328) : Spec 33 [.slice A l.length c] [] (Rd 1 eB A c l) { ret := fun x : Option Addr × Nat => .v (.slice x.1 l.length x.2), own := fun x => [DkB x.1 x.2 l] } := by
  refine spec_S [.c (.v (.slice A l.length c))] 8 Tryd.func33 rfl (by rw [Tryd.ntmps33]; rfl) (one_ok trivial) fun b => ?_
  refine s_pure (l.length ≤ c ∧ (A = none → c = 0)) (fun w hw _ => ⟨hw.1, hw.2.2.1⟩) fun ⟨hlc, hA⟩ => ?_
  refine s_auto TY_ok rfl ?_
  refine s_seq fun K hK => ?_
  refine s_regA TY_ok rfl fun K1 hK1 => ?_
  refine l_op (.v (.bool A.isNone)) trivial rfl rfl rfl (run_eqNilS rfl Tryd.underlying33 rfl) ?_
  refine s_end (hK1 _ ?_)
  cases A with
  | none =>
    obtain rfl : c = 0 := hA rfl
    obtain rfl : l = [] := List.eq_nil_of_length_eq_zero (by omega)
    refine s_yes rfl ?_
    refine s_nil0 0 5 1 eB ?_
    refine s_auto TY_ok rfl ?_
    exact s_ret (k_ret TY_ok (none, 0) rfl (by decide) rfl rfl rfl (fun _ _ _ => trivial) (fun _ _ => trivial))
  | some ad =>
    refine s_no rfl ?_
    refine s_skip (hK _ ?_)
    refine s_regA TY_ok rfl fun K2 hK2 => ?_
    refine l_list0 (e := 5) (sz := 1) 0 eB rfl rfl rfl rfl (Nat.zero_le _) (fun w => by go_simp) fun B => ?_
    refine l_autoS TY_ok rfl ?_
    refine l_appY TY_ok 0 l rfl rfl rfl rfl rfl rfl rfl rfl rfl (rd_fact fun _ h _ => h) (by decide) (by show (0 + l.length) * 1 ≤ _; omega) (by show 0 + l.length ≤ _; omega) (Nat.zero_le _) fun A1 c1 => ?_
    refine l_autoS TY_ok rfl ?_
    refine s_end (hK2 _ ?_)
    exact s_ret (k_ret TY_ok (A1, c1) rfl (by decide) rfl rfl rfl (fun _ _ _ => trivial) (fun _ _ => trivial))
set_option maxRecDepth 100000 in
set_option maxHeartbeats 1000000 in
theorem dbytes_S (g : Nat) (size : Int) (A : Option Addr) (c : Nat) (l : List UInt8) (s : Int) (hl : l.length ≤ 140737488355328) : Spec 20 [pD g] [DkO g size A c l s, DkB A c l] (fun _ => True) { ret := fun x : Option Addr × Nat => .v (.slice x.1 l.length x.2), own := fun x => [DkB x.1 x.2 l, DkO g size A c l s, DkB A c l] } := by
  refine spec_S [.c (.v (pD g))] 10 Tryd.func20 rfl (by rw [Tryd.ntmps20]; rfl) (one_ok trivial) fun b => ?_
  refine s_auto TY_ok rfl ?_
  refine s_seq fun K hK => ?_
  refine s_auto TY_ok rfl ?_
  refine s_no rfl ?_
  refine s_skip (hK _ ?_)
  refine s_regA TY_ok rfl fun K1 hK1 => ?_
  refine l_ldO TY_ok rfl rfl rfl rfl rfl rfl (obj_own 0 rfl) ?_
  refine l_callC (own := []) (R' := [DkO g size A c l s, DkB A c l]) (fun _ => [.slice A l.length c]) rfl rfl rfl own_cloneB rfl rfl (fun _ _ => rfl) (fun _ => Rd 1 eB A c l) (fun _ => cloneB_S l hl) (fun G S w hv => rd_own 1 rfl G S w hv) fun x => ?_
  refine l_autoS TY_ok rfl ?_
  refine s_end (hK1 _ ?_)
  exact s_ret (k_ret TY_ok x rfl (by decide) rfl rfl rfl (fun _ _ _ => trivial) (fun _ _ => trivial))
end Go.Proofs.YtcbfalfkdnfelaaDoor
/-
  A DISK: how much there is, and bytes laid behind the others.
-/
namespace Go.Proofs.YtcbfalfkdnfelaaDoor
open Go.RowKit Go.IntWalk

set_option maxRecDepth 100000 in
set_option maxHeartbeats 1000000 in
theorem dlen_S (g : Nat) (size : Int) (A : Option Addr) (c : Nat) (l : List UInt8) (s : Int) : Spec 14 [pD g] [DkO g size A c l s] (fun _ => True) { ret := fun _ : Unit => .v (.int .i64 (l.length : Int)), own := fun _ => [DkO g size A c l s] } := by
  refine spec_S [.c (.v (pD g))] 10 Tryd.func14 rfl (by rw [Tryd.ntmps14]; rfl) (one_ok trivial) fun b => ?_
  refine s_auto TY_ok rfl ?_
  refine s_seq fun K hK => ?_
  refine s_auto TY_ok rfl ?_
  refine s_no rfl ?_
  refine s_skip (hK _ ?_)
  refine s_regA TY_ok rfl fun K1 hK1 => ?_
  refine l_ldO TY_ok rfl rfl rfl rfl rfl rfl (obj_own 0 rfl) ?_
  refine l_autoS TY_ok rfl ?_
  refine s_end (hK1 _ ?_)
  exact s_ret (k_ret TY_ok () rfl (by decide) rfl rfl rfl (fun _ _ _ => trivial) (fun _ _ => trivial))
/-! ### Append -/
/-- The first parts, one behind the other. -/
def segs (ss : List Seg) : List UInt8 := (ss.map Seg.l).flatten
theorem segs_next {ss : List Seg} {i : Nat} {s : Seg} (h : ss[i]? = some s) : segs (ss.take (i + 1)) = segs (ss.take i) ++ s.l := by
  unfold segs
  rw [List.take_add_one, h, List.map_append, List.flatten_append]
  simp
theorem segs_le (ss : List Seg) (i : Nat) : (segs (ss.take i)).length ≤ (segs ss).length := by
  conv => rhs; rw [← List.take_append_drop i ss]
  unfold segs
  rw [List.map_append, List.flatten_append, List.length_append]
  exact Nat.le_add_right _ _
theorem segs_all (ss : List Seg) : segs (ss.take ss.length) = segs ss := by rw [List.take_length]
/-- What lies there behind an append, what it answers. -/
def apL (size : Int) (l m : List UInt8) : List UInt8 := if (l.length : Int) + m.length ≤ size then l ++ m else l
def apE (size : Int) (l m : List UInt8) : Nat := if (l.length : Int) + m.length ≤ size then 0 else 140
set_option maxRecDepth 100000 in
set_option maxHeartbeats 1000000 in
theorem dapp_S (g : Nat) (size : Int) (A : Option Addr) (c : Nat) (l : List UInt8) (s : Int) (B : Option Addr) (d : Nat) (ss : List Seg) (hsz : size ≤ 9223372036854775807) (hl : (l.length : Int) ≤ size) (hb : l.length + (segs ss).length ≤ 140737488355328) :
    Spec 22 [pD g, .slice B ss.length d] [DkO g size A c l s, DkB A c l] (fun w => Rd 1 eSeg B d ss w ∧ ∀ s ∈ ss, s.rd w)
    { ret := fun _ : Option Addr × Nat => .v (.int .i64 (apE size l (segs ss) : Int)), own := fun x => [DkO g size x.1 x.2 (apL size l (segs ss)) s, DkB x.1 x.2 (apL size l (segs ss))] } := by
  refine spec_S [.c (.v (pD g)), .c (.v (.slice B ss.length d))] 53 Tryd.func22 rfl (by rw [Tryd.ntmps22]; rfl) (two_ok trivial trivial) fun b => ?_
  refine s_pure (ss.length ≤ d ∧ d ≤ 9223372036854775807) (fun w hw _ => ⟨hw.1.1, hw.1.2.1⟩) fun ⟨hd1, hd2⟩ => ?_
  refine s_auto TY_ok rfl ?_
  refine s_seq fun K hK => ?_
  refine s_auto TY_ok rfl ?_
  refine s_no rfl ?_
  refine s_skip (hK _ ?_)
  refine s_regD 10 (by decide) (by kernel_rfl) (by kernel_rfl) fun K1 hK1 G S w0 hst => ?_
  refine g_autoS TY_ok hst rfl ?_
  refine g_ldO TY_ok hst rfl rfl rfl rfl rfl rfl (obj_own 0 rfl) ?_
  refine g_autoS TY_ok hst rfl ?_
  refine g_ldO TY_ok hst rfl rfl rfl rfl rfl rfl (obj_own 0 rfl) ?_
  refine g_autoS TY_ok hst rfl ?_
  refine g_num 21 (size - (l.length : Int)) rfl (wrapI rfl (by omega) (by omega)) ?_
  refine g_endS hst ?_
  refine l_autoS TY_ok rfl ?_
  refine s_end (hK1 _ ?_)
  refine s_seq fun K2 hK2 => ?_
  refine s_auto TY_ok rfl ?_
  refine s_block ?_
  let F : Nat → Env := fun i => ⟨[(24, .v (.int .i64 (i : Int))), (23, .v (.int .i64 (ss.length : Int))), (22, .v (.slice B ss.length d)), (5, .v (.int .i64 (size - (l.length : Int) - ((segs (ss.take i)).length : Int)))), (0, .v (pD g)), (1, .v (.slice B ss.length d))], [], [DkO g size A c l s, DkB A c l], fun w => Rd 1 eSeg B d ss w ∧ ∀ s ∈ ss, s.rd w, fun _ => True⟩
  refine c_weak (e' := F 0) ⟨⟨rfl, rfl, rfl, congrArg some (congrArg SV.v (congrArg (Value.int .i64) (by simp [segs]))), rfl, rfl, trivial⟩, trivial, .refl _, fun _ h _ => h, fun _ _ => trivial⟩ (s_loop (fun i => ss.length - i) F (fun i => i ≤ ss.length ∧ (segs (ss.take i)).length ≤ size - l.length) ?_ 0 ⟨Nat.zero_le _, by simp [segs]; omega⟩)
  intro i ⟨hi, hle⟩
  refine s_auto TY_ok rfl ?_
  refine s_seq fun K3 hK3 => ?_
  refine s_ifD ((i : Int) < (ss.length : Int)) rfl (fun hlt => ?_) (fun hge => ?_)
  · have hlt : i < ss.length := by omega
    obtain ⟨x, hx⟩ : ∃ x, ss[i]? = some x := ⟨_, List.getElem?_eq_getElem hlt⟩
    have hxm : x ∈ ss := List.mem_of_getElem? hx
    have hv := congrArg List.length (segs_next hx)
    rw [List.length_append] at hv
    have hall := segs_le ss (i + 1)
    refine s_skip (hK3 _ ?_)
    refine s_seq fun K4 hK4 => ?_
    refine s_block ?_
    refine s_regA TY_ok rfl fun K5 hK5 => ?_
    refine l_elem TY_ok rfl rfl rfl i rfl hx rfl rfl (rd_fact fun w h _ => h.1) ?_
    refine l_autoS TY_ok rfl ?_
    refine s_end (hK5 _ ?_)
    refine s_seq fun K6 hK6 => ?_
    refine s_auto TY_ok rfl ?_
    refine s_ifD ((x.l.length : Int) > size - (l.length : Int) - ((segs (ss.take i)).length : Int)) rfl (fun h0 => ?_) (fun h0 => ?_)
    · have e0 : ¬ ((l.length : Int) + (segs ss).length ≤ size) := by omega
      refine s_auto TY_ok rfl ?_
      exact s_ret (k_ret TY_ok (A, c) rfl (by decide) rfl (by unfold apE; rw [if_neg e0]; rfl) (by unfold apL; rw [if_neg e0]) (fun _ _ _ => trivial) (fun _ _ => trivial))
    · refine s_skip (hK6 _ ?_)
      refine s_lit ?_
      refine l_autoS TY_ok rfl ?_
      refine l_num 5 (size - (l.length : Int) - ((segs (ss.take (i + 1))).length : Int)) rfl (wrapI (by omega) (by omega) (by omega)) ?_
      refine s_end (hK4 _ ?_)
      refine s_autoE TY_ok rfl ?_
      exact k_next (i + 1) ⟨hlt, by omega⟩ (by omega) ⟨⟨congrArg some (congrArg SV.v (congrArg (Value.int .i64) (wrapI rfl (by omega) (by omega)))), rfl, rfl, rfl, rfl, rfl, trivial⟩, trivial, .refl _, fun _ h _ => h, fun _ h => h⟩
  · obtain rfl : ss.length = i := by omega
    rw [segs_all] at hle
    have e0 : (l.length : Int) + (segs ss).length ≤ size := by omega
    refine s_exit (k_pass (k_pass (k_out ?_)))
    refine hK2 _ ?_
    refine s_seq fun K7 hK7 => ?_
    refine s_auto TY_ok rfl ?_
    refine s_block ?_
    let F2 : Nat × Option Addr × Nat → Env := fun x => ⟨[(39, .v (.int .i64 (x.1 : Int))), (38, .v (.int .i64 (ss.length : Int))), (37, .v (.slice B ss.length d)), (0, .v (pD g))], [], [DkO g size x.2.1 x.2.2 (l ++ segs (ss.take x.1)) s, DkB x.2.1 x.2.2 (l ++ segs (ss.take x.1))], fun w => Rd 1 eSeg B d ss w ∧ ∀ s ∈ ss, s.rd w, fun _ => True⟩
    refine c_weak (e' := F2 (0, A, c)) ⟨⟨rfl, rfl, rfl, rfl, trivial⟩, trivial, by simp only [F2, List.take_zero, segs, List.map_nil, List.flatten_nil, List.append_nil]; exact .refl _, fun _ h _ => h, fun _ _ => trivial⟩ (s_loop (fun x => ss.length - x.1) F2 (fun x => x.1 ≤ ss.length) ?_ (0, A, c) (Nat.zero_le _))
    intro ⟨i, A1, c1⟩ hi
    refine s_auto TY_ok rfl ?_
    refine s_seq fun K8 hK8 => ?_
    refine s_ifD ((i : Int) < (ss.length : Int)) rfl (fun hlt => ?_) (fun hge => ?_)
    · have hlt : i < ss.length := by omega
      obtain ⟨x, hx⟩ : ∃ x, ss[i]? = some x := ⟨_, List.getElem?_eq_getElem hlt⟩
      have hxm : x ∈ ss := List.mem_of_getElem? hx
      have hv := segs_next hx
      have hvl := congrArg List.length hv
      rw [List.length_append] at hvl
      have hall := segs_le ss (i + 1)
      refine s_skip (hK8 _ ?_)
      refine s_seq fun K9 hK9 => ?_
      refine s_block ?_
      refine s_regA TY_ok rfl fun K10 hK10 => ?_
      refine l_elem TY_ok rfl rfl rfl i rfl hx rfl rfl (rd_fact fun w h _ => h.1) ?_
      refine l_autoS TY_ok rfl ?_
      refine s_end (hK10 _ ?_)
      refine s_lit ?_
      refine l_autoS TY_ok rfl ?_
      refine l_ldO TY_ok rfl rfl rfl rfl rfl rfl (obj_own 0 rfl) ?_
      refine l_autoS TY_ok rfl ?_
      refine l_appY TY_ok 1 x.l rfl rfl rfl rfl rfl rfl rfl rfl rfl (rd_fact fun w h _ => h.2 x hxm) (by decide) (by show ((l ++ segs (ss.take i)).length + x.l.length) * 1 ≤ _; rw [List.length_append]; omega) (by show (l ++ segs (ss.take i)).length + x.l.length ≤ _; rw [List.length_append]; omega) (Nat.zero_le _) fun A2 c2 => ?_
      refine l_autoS TY_ok rfl ?_
      refine l_stO TY_ok 0 rfl rfl rfl rfl rfl rfl rfl ?_
      refine s_end (hK9 _ ?_)
      refine s_autoE TY_ok rfl ?_
      refine k_next (i + 1, A2, c2) hlt (by show ss.length - (i + 1) < ss.length - i; omega) ⟨⟨congrArg some (congrArg SV.v (congrArg (Value.int .i64) (wrapI rfl (by omega) (by omega)))), rfl, rfl, rfl, trivial⟩, trivial, ?_, fun _ h _ => h, fun _ h => h⟩
      show List.Perm [_, _] [DkO g size A2 c2 (l ++ segs (ss.take (i + 1))) s, DkB A2 c2 (l ++ segs (ss.take (i + 1)))]
      rw [hv, ← List.append_assoc]
      exact .refl _
    · obtain rfl : ss.length = i := by omega
      refine s_exit (k_pass (k_pass (k_out ?_)))
      refine hK7 _ ?_
      refine s_auto TY_ok rfl ?_
      exact s_ret (k_ret TY_ok (A1, c1) rfl (by decide) rfl (by unfold apE; rw [if_pos e0]; rfl) (by unfold apL; rw [if_pos e0, segs_all]) (fun _ _ _ => trivial) (fun _ _ => trivial))
/-- Where there is room. -/
theorem dapp_fits (g : Nat) (size : Int) (A : Option Addr) (c : Nat) (l l' : List UInt8) (s : Int) (B : Option Addr) (d : Nat) (ss : List Seg) (hsz : size ≤ 9223372036854775807) (he : (l.length : Int) + (segs ss).length ≤ size) (hb : l.length + (segs ss).length ≤ 140737488355328) (hl' : l ++ segs ss = l') :
    Spec 22 [pD g, .slice B ss.length d] [DkO g size A c l s, DkB A c l] (fun w => Rd 1 eSeg B d ss w ∧ ∀ s ∈ ss, s.rd w)
    { ret := fun _ : Option Addr × Nat => .v (.int .i64 0), own := fun x => [DkO g size x.1 x.2 l' s, DkB x.1 x.2 l'] } := by
  have h := dapp_S g size A c l s B d ss hsz (by omega) hb
  unfold apE apL at h
  rw [if_pos he, if_pos he, hl'] at h
  exact h
/-- Where there is none. -/
theorem dapp_full (g : Nat) (size : Int) (A : Option Addr) (c : Nat) (l : List UInt8) (s : Int) (B : Option Addr) (d : Nat) (ss : List Seg) (hsz : size ≤ 9223372036854775807) (hl : (l.length : Int) ≤ size) (he : ¬ (l.length : Int) + (segs ss).length ≤ size) (hb : l.length + (segs ss).length ≤ 140737488355328) :
    Spec 22 [pD g, .slice B ss.length d] [DkO g size A c l s, DkB A c l] (fun w => Rd 1 eSeg B d ss w ∧ ∀ s ∈ ss, s.rd w)
    { ret := fun _ : Option Addr × Nat => .v (.int .i64 140), own := fun x => [DkO g size x.1 x.2 l s, DkB x.1 x.2 l] } := by
  have h := dapp_S g size A c l s B d ss hsz hl hb
  unfold apE apL at h
  rw [if_neg he, if_neg he] at h
  exact h
/-! ### Told -/
set_option maxRecDepth 100000 in
set_option maxHeartbeats 1000000 in
theorem dlen_T (g : Nat) (size : Int) (A : Option Addr) (c : Nat) (l : List UInt8) (s : Int) : Spec 14 [pD g] [] (ObjF g 51 (dkP size A c l s)) (one (.v (.int .i64 (l.length : Int)))) := by
  refine spec_S [.c (.v (pD g))] 10 Tryd.func14 rfl (by rw [Tryd.ntmps14]; rfl) (one_ok trivial) fun b => ?_
  refine s_auto TY_ok rfl ?_
  refine s_seq fun K hK => ?_
  refine s_auto TY_ok rfl ?_
  refine s_no rfl ?_
  refine s_skip (hK _ ?_)
  refine s_regA TY_ok rfl fun K1 hK1 => ?_
  refine l_ldO TY_ok rfl rfl rfl rfl rfl rfl (obj_fact fun _ h _ => h) ?_
  refine l_autoS TY_ok rfl ?_
  refine s_end (hK1 _ ?_)
  exact s_ret (k_ret TY_ok () rfl (by decide) rfl rfl rfl (fun _ _ _ => trivial) (fun _ _ => trivial))
set_option maxRecDepth 100000 in
set_option maxHeartbeats 1000000 in
theorem dsafe_T (g : Nat) (size : Int) (A : Option Addr) (c : Nat) (l : List UInt8) (s : Int) : Spec 21 [pD g] [] (ObjF g 51 (dkP size A c l s)) (one (.v (.int .i64 s))) := by
  refine spec_S [.c (.v (pD g))] 9 Tryd.func21 rfl (by rw [Tryd.ntmps21]; rfl) (one_ok trivial) fun b => ?_
  refine s_auto TY_ok rfl ?_
  refine s_seq fun K hK => ?_
  refine s_auto TY_ok rfl ?_
  refine s_no rfl ?_
  refine s_skip (hK _ ?_)
  refine s_regA TY_ok rfl fun K1 hK1 => ?_
  refine l_ldO TY_ok rfl rfl rfl rfl rfl rfl (obj_fact fun _ h _ => h) ?_
  refine l_autoS TY_ok rfl ?_
  refine s_end (hK1 _ ?_)
  exact s_ret (k_ret TY_ok () rfl (by decide) rfl rfl rfl (fun _ _ _ => trivial) (fun _ _ => trivial))
end Go.Proofs.YtcbfalfkdnfelaaDoor
/-
  A LOG, as it lies; opened.
-/
namespace Go.Proofs.YtcbfalfkdnfelaaDoor
open Go.RowKit Go.IntWalk Nums

section
variable {P : Program} {b : Base} {ops : Array Oper} {Q : Exit → Act → World → Prop} {N : Nat} {E : SE} {L : List LV} {R : List Res} {F M : World → Prop}
/-- What is owned, in another order. -/
theorem k_permR {K : Act → World → Prop} (R2 : List Res) (hp : R.Perm R2) (h : kS b K N ⟨E, L, R2, F, M⟩) : kS b K N ⟨E, L, R, F, M⟩ := fun a w ⟨G, S, h1, h2, h3⟩ => h a w ⟨G, S, h1, h2, { h3 with res := starL.perm hp h3.res }⟩
theorem l_permR {l : List Oper} (R2 : List Res) (hp : R.Perm R2) (h : lS P b ops Q N l ⟨E, L, R2, F, M⟩) : lS P b ops Q N l ⟨E, L, R, F, M⟩ := k_permR (K := fun a w => wpList P ops Q l a w) R2 hp h
theorem s_permR {y : Code} (R2 : List Res) (hp : R.Perm R2) (h : cS P b y Q N ⟨E, L, R2, F, M⟩) : cS P b y Q N ⟨E, L, R, F, M⟩ := k_permR (K := fun a w => y.wp P Q a w) R2 hp h
end
/-- What lies in a log: its disk, its rows, is it down? -/
def lgP (gd : Nat) (A : Option Addr) (n c : Nat) (dn : Bool) : List Pt := [.one (.v (pD gd)), .one (.v (.slice A n c)), .one (.v (.bool dn))]
theorem lgP_ok (gd : Nat) (A : Option Addr) (n c : Nat) (dn : Bool) : OkP (lgP gd A n c dn) := fun x hx => by
  rcases List.mem_cons.1 hx with rfl | hx
  · exact ⟨trivial, rfl, rfl⟩
  rcases List.mem_cons.1 hx with rfl | hx
  · exact ⟨trivial, rfl, rfl⟩
  rw [List.mem_singleton.1 hx]
  exact ⟨trivial, rfl, rfl⟩
abbrev LgO (h gd : Nat) (A : Option Addr) (n c : Nat) (dn : Bool) : Res := ObjS h 53 (lgP gd A n c dn)
theorem own_wopen : Own 9 := fun _ _ => by go_simp
theorem own_wlen : Own 18 := fun _ _ => by go_simp
theorem own_wdown : Own 19 := fun _ _ => by go_simp
set_option maxRecDepth 100000 in
set_option maxHeartbeats 1000000 in
theorem wopen_S (g : Nat) (size : Int) (A : Option Addr) (c : Nat) (B : List UInt8) (s : Nat) (hb : B.length ≤ 1073741824) : Spec 9 [pD g] [DkO g size A c B s, DkB A c B] Tsh
    { ret := fun x : Nat × SgX (saysD B) => .t [.c (.v (pD x.1)), .c (.v (.int .i64 0))], own := fun x => [DkO g size A c (logD 0 (saysD B)) ((logD 0 (saysD B)).length : Nat), DkB A c (logD 0 (saysD B)), LgO x.1 g x.2.A x.2.ss.length x.2.c false, SgO x.2.A x.2.c x.2.ss], n := fun x w => ∀ s ∈ x.2.ss, s.rd w } := by
  refine spec_S [.c (.v (pD g))] 23 Tryd.func9 rfl (by rw [Tryd.ntmps9]; rfl) (one_ok trivial) fun b => ?_
  refine s_auto TY_ok rfl ?_
  refine s_seq fun K hK => ?_
  refine s_auto TY_ok rfl ?_
  refine s_no rfl ?_
  refine s_skip (hK _ ?_)
  refine s_regA TY_ok rfl fun K1 hK1 => ?_
  refine l_callA [pD g] rfl rfl rfl own_dbytes rfl rfl (fun _ _ => rfl) (dbytes_S g size A c B s (by omega)) (fun _ _ _ => trivial) fun ⟨A4, c4⟩ => ?_
  refine l_R [DkB A4 c4 B, DkO g size A c B s, DkB A c B] rfl ?_
  refine l_free 0 rfl ?_
  refine l_call0 [.slice A4 B.length c4] rfl rfl rfl own_wsaid rfl rfl (fun _ _ => rfl) (wsaid_S B hb) (fun w h _ => ⟨h.2.2, h.1⟩) fun x => ?_
  have e1 := saysD_take B
  have e2 := saysD_le B
  obtain ⟨n, hn⟩ : ∃ n, (logD 0 (saysD B)).length = n := ⟨_, rfl⟩
  rw [hn] at e1 e2
  refine l_eq 11 (.t [.c (.v (.slice x.A x.ss.length x.c)), .c (.v (.int .i64 (n : Int)))]) rfl (congrArg (fun z : Nat => SV.t [.c (.v (.slice x.A x.ss.length x.c)), .c (.v (.int .i64 (z : Int)))]) hn) ?_
  refine l_autoS TY_ok rfl ?_
  refine s_end (k_permR [DkO g size A c B s, DkB A c B, SgO x.A x.c x.ss] (List.perm_append_comm (l₁ := [SgO x.A x.c x.ss])) (hK1 _ ?_))
  refine s_regA TY_ok rfl fun K2 hK2 => ?_
  refine l_callA [pD g, .int .i64 (n : Int)] rfl rfl rfl own_dcut rfl rfl (fun _ _ => rfl) (dcut_S g size n A c B s e2) (fun _ _ _ => trivial) fun _ => ?_
  refine l_R [DkO g size A c (B.take n) (min s n : Nat), DkB A c (B.take n), SgO x.A x.c x.ss] rfl ?_
  refine l_autoS TY_ok rfl ?_
  refine s_end (hK2 _ ?_)
  refine s_regA TY_ok rfl fun K3 hK3 => ?_
  refine l_callA [pD g] rfl rfl rfl own_dsync rfl rfl (fun _ _ => rfl) (dsync_S g size A c (B.take n) (min s n : Nat)) (fun _ _ _ => trivial) fun _ => ?_
  refine l_R [DkO g size A c (B.take n) ((B.take n).length : Nat), DkB A c (B.take n), SgO x.A x.c x.ss] rfl ?_
  rw [e1]
  refine l_autoS TY_ok rfl ?_
  refine s_end (hK3 _ ?_)
  refine s_auto TY_ok rfl ?_
  refine s_ret (k_give 2 rfl (E' := [(3, .v (.int .i64 0))]) ⟨rfl, trivial⟩ fun h => ?_)
  refine k_permR [DkO g size A c (logD 0 (saysD B)) ((logD 0 (saysD B)).length : Nat), DkB A c (logD 0 (saysD B)), LgO h g x.A x.ss.length x.c false, SgO x.A x.c x.ss] (List.perm_middle (a := LgO h g x.A x.ss.length x.c false) (l₁ := [DkO g size A c (logD 0 (saysD B)) ((logD 0 (saysD B)).length : Nat), DkB A c (logD 0 (saysD B))]) (l₂ := [SgO x.A x.c x.ss])).symm ?_
  exact k_ret TY_ok (h, x) rfl (by decide) rfl rfl rfl (fun _ _ _ => trivial) (fun w h => h.2.2.1)
set_option maxRecDepth 100000 in
theorem wopen_no : Spec 9 [.pointer none] [] (fun _ => True) (one (.t [.c (.v (.pointer none)), .c (.v (.int .i64 1))])) := by
  refine spec_S [.c (.v (.pointer none))] 23 Tryd.func9 rfl (by rw [Tryd.ntmps9]; rfl) (one_ok trivial) fun b => ?_
  refine s_auto TY_ok rfl ?_
  refine s_seq fun K hK => ?_
  refine s_auto TY_ok rfl ?_
  refine s_yes rfl ?_
  refine s_auto TY_ok rfl ?_
  exact s_ret (k_ret TY_ok () rfl (by decide) rfl rfl rfl (fun _ _ _ => trivial) (fun _ _ => trivial))
set_option maxRecDepth 100000 in
theorem wlen_no : Spec 18 [.pointer none] [] (fun _ => True) (one (.v (.int .i64 0))) := by
  refine spec_S [.c (.v (.pointer none))] 10 Tryd.func18 rfl (by rw [Tryd.ntmps18]; rfl) (one_ok trivial) fun b => ?_
  refine s_auto TY_ok rfl ?_
  refine s_seq fun K hK => ?_
  refine s_auto TY_ok rfl ?_
  refine s_yes rfl ?_
  refine s_auto TY_ok rfl ?_
  exact s_ret (k_ret TY_ok () rfl (by decide) rfl rfl rfl (fun _ _ _ => trivial) (fun _ _ => trivial))
set_option maxRecDepth 100000 in
theorem wdown_no : Spec 19 [.pointer none] [] (fun _ => True) (one (.v (.bool true))) := by
  refine spec_S [.c (.v (.pointer none))] 11 Tryd.func19 rfl (by rw [Tryd.ntmps19]; rfl) (one_ok trivial) fun b => ?_
  refine s_auto TY_ok rfl ?_
  refine s_auto TY_ok rfl ?_
  exact s_ret (k_ret TY_ok () rfl (by decide) rfl rfl rfl (fun _ _ _ => trivial) (fun _ _ => trivial))
end Go.Proofs.YtcbfalfkdnfelaaDoor
/-
  ROWS WRITTEN.
-/
namespace Go.Proofs.YtcbfalfkdnfelaaDoor
open Go.RowKit Go.IntWalk Nums

theorem own_wwrite : Own 11 := fun _ _ => by go_simp
/-- The rows of bodies, one by one. -/
noncomputable def rowsL : Nat → List (List UInt8) → List (List UInt8)
  | _, [] => []
  | i, x :: r => rowD i x :: rowsL (i + 1) r
theorem rowsL_flat : ∀ (i : Nat) (l : List (List UInt8)), (rowsL i l).flatten = logD i l
  | _, [] => rfl
  | i, x :: r => by
    show rowD i x ++ (rowsL (i + 1) r).flatten = rowD i x ++ logD (i + 1) r
    rw [rowsL_flat]
theorem rowsL_app : ∀ (i : Nat) (l m : List (List UInt8)), rowsL i (l ++ m) = rowsL i l ++ rowsL (i + l.length) m
  | _, [], _ => rfl
  | i, x :: r, m => by
    show rowD i x :: rowsL (i + 1) (r ++ m) = rowD i x :: (rowsL (i + 1) r ++ rowsL (i + (r.length + 1)) m)
    rw [rowsL_app, show i + 1 + r.length = i + (r.length + 1) by omega]
theorem rowsL_drop : ∀ (i : Nat) (l : List (List UInt8)), (rowsL i l).map (List.drop 16) = l
  | _, [] => rfl
  | i, x :: r => by
    show (rowD i x).drop 16 :: (rowsL (i + 1) r).map (List.drop 16) = x :: r
    have h := row_end i x []
    rw [List.append_nil, List.append_nil] at h
    rw [rowsL_drop, h]
theorem rowsL_len : ∀ (i : Nat) (l : List (List UInt8)), ∀ x ∈ rowsL i l, 16 ≤ x.length
  | _, [], _, h => by cases h
  | i, y :: r, x, h => by
    rcases List.mem_cons.1 h with rfl | h
    · rw [rowD_len]
      omega
    · exact rowsL_len (i + 1) r x h
/-- A row's body. -/
def cut16 (s : Seg) : Seg := ⟨cutA s.A s.c 16, s.c - 16, s.l.drop 16⟩
theorem cut16_rd {s : Seg} {w : World} (h : s.rd w) (hl : 16 ≤ s.l.length) : (cut16 s).rd w := Rd.part h hl
structure WrX (ls : List (List UInt8)) where
  dA : Option Addr
  dc : Nat
  A : Option Addr
  c : Nat
  ss : List Seg
  is : ss.map Seg.l = ls
set_option maxRecDepth 100000 in
set_option maxHeartbeats 1000000 in
theorem wwrite_S (h g : Nat) (size : Int) (A : Option Addr) (c : Nat) (L : List UInt8) (s : Int) (P : Option Addr) (pc : Nat) (ss : List Seg) (B : Option Addr) (d : Nat) (bs : List Seg) (LG : List UInt8) (hLG : logD ss.length (bs.map Seg.l) = LG) (fits : Bool) (hfits : fits = decide ((L.length : Int) + LG.length ≤ size))
    (hsz : size ≤ 9223372036854775807) (hL : (L.length : Int) ≤ size) (hss : ss.length ≤ 1073741824) (hbs : bs.length ≤ 1073741824) (hl : ∀ x ∈ bs, x.l.length ≤ 1048576) (hb : L.length + LG.length ≤ 140737488355328) :
    Spec 11 [pD h, .slice B bs.length d] [DkO g size A c L s, DkB A c L, LgO h g P ss.length pc false, SgO P pc ss] (fun w => Tsh w ∧ Rd 1 eSeg B d bs w ∧ ∀ x ∈ bs, x.rd w)
    { ret := fun _ : WrX (bif fits then bs.map Seg.l else []) => .v (.int .i64 (bif fits then 0 else 140)), own := fun x => [DkO g size x.dA x.dc (bif fits then L ++ LG else L) (bif fits then ((L ++ LG).length : Int) else s), DkB x.dA x.dc (bif fits then L ++ LG else L), LgO h g x.A (ss ++ x.ss).length x.c (!fits), SgO x.A x.c (ss ++ x.ss)], n := fun x w => ∀ s ∈ x.ss, s.rd w } := by
  refine spec_S [.c (.v (pD h)), .c (.v (.slice B bs.length d))] 80 Tryd.func11 rfl (by rw [Tryd.ntmps11]; rfl) (two_ok trivial trivial) fun b => ?_
  refine s_auto TY_ok rfl ?_
  refine s_seq fun K hK => ?_
  refine s_block ?_
  refine s_auto TY_ok rfl ?_
  refine s_no rfl ?_
  refine s_regA TY_ok rfl fun K1 hK1 => ?_
  refine l_ldO TY_ok rfl rfl rfl rfl rfl rfl (obj_own 2 rfl) ?_
  refine l_autoS TY_ok rfl ?_
  refine s_end (hK1 _ ?_)
  refine s_no rfl ?_
  refine s_regA TY_ok rfl fun K2 hK2 => ?_
  refine l_call0 [.slice B bs.length d, vBig] rfl rfl rfl own_whas rfl rfl (fun _ _ => rfl) (whas_S bs) (fun w h _ => h.2.1) fun t => ?_
  refine l_R [DkO g size A c L s, DkB A c L, LgO h g P ss.length pc false, SgO P pc ss] rfl ?_
  refine l_autoS TY_ok rfl ?_
  refine l_pure (t = false) (fun w hF _ => ?_) fun ht => ?_
  · cases t with
    | false => rfl
    | true =>
      obtain ⟨x, h1, h2⟩ := hF.1.1 rfl
      have := hl x h1
      omega
  subst ht
  refine s_end (hK2 _ ?_)
  refine s_if false rfl (fun h => by cases h) fun _ => ?_
  refine s_skip (hK _ ?_)
  refine s_regA TY_ok rfl fun K3 hK3 => ?_
  refine l_makeS TY_ok b.B.heap.size bs.length (⟨none, 0, []⟩ : Seg) (fe := eSeg) rfl rfl rfl rfl rfl rfl rfl rfl (eSeg_ok _) (by show 24 * bs.length ≤ _; omega) (by omega) (Nat.le_refl _) fun A1 => ?_
  refine l_autoS TY_ok rfl ?_
  refine s_end (hK3 _ ?_)
  refine s_seq fun K4 hK4 => ?_
  refine s_auto TY_ok rfl ?_
  refine s_block ?_
  let V : List Seg → Env := fun ms => ⟨[(27, .v (.int .i64 (ms.length : Int))), (26, .v (.int .i64 (bs.length : Int))), (25, .v (.slice B bs.length d)), (5, .v (.slice A1 bs.length bs.length)), (0, .v (pD h)), (1, .v (.slice B bs.length d))], [], [OwnS b.B.heap.size 33 1 eSeg A1 bs.length (ms ++ List.replicate (bs.length - ms.length) ⟨none, 0, []⟩), DkO g size A c L s, DkB A c L, LgO h g P ss.length pc false, SgO P pc ss], fun w => Tsh w ∧ Rd 1 eSeg B d bs w ∧ ∀ x ∈ bs, x.rd w, fun w => ∀ x ∈ ms, x.rd w⟩
  refine c_weak (e' := V []) ⟨⟨rfl, rfl, rfl, rfl, rfl, rfl, trivial⟩, trivial, .refl _, fun _ h _ => h.2, fun _ _ _ h => by cases h⟩ (s_loop (fun ms => bs.length - ms.length) V (fun ms => ms.length ≤ bs.length ∧ ms.map Seg.l = rowsL ss.length ((bs.take ms.length).map Seg.l)) ?_ [] ⟨Nat.zero_le _, rfl⟩)
  intro ms ⟨hi, hml⟩
  refine s_auto TY_ok rfl ?_
  refine s_seq fun K5 hK5 => ?_
  refine s_ifD ((ms.length : Int) < (bs.length : Int)) rfl (fun hlt => ?_) (fun hge => ?_)
  · have hlt : ms.length < bs.length := by omega
    obtain ⟨x, hx⟩ : ∃ x, bs[ms.length]? = some x := ⟨_, List.getElem?_eq_getElem hlt⟩
    have hxm := List.mem_of_getElem? hx
    have hxl := hl x hxm
    refine s_skip (hK5 _ ?_)
    refine s_seq fun K6 hK6 => ?_
    refine s_block ?_
    refine s_regA TY_ok rfl fun K7 hK7 => ?_
    refine l_elem TY_ok rfl rfl rfl ms.length rfl hx rfl rfl (rd_fact fun w h _ => h.2.1) ?_
    refine l_autoS TY_ok rfl ?_
    refine s_end (hK7 _ ?_)
    refine s_lit ?_
    refine l_autoS TY_ok rfl ?_
    refine l_ldO TY_ok rfl rfl rfl rfl rfl rfl (obj_own 3 rfl) ?_
    refine l_autoS TY_ok rfl ?_
    refine l_num 40 ((ss.length + ms.length : Nat) : Int) rfl (wrapI (by omega) (by omega) (by omega)) ?_
    refine l_call0 [.int .i64 ((ss.length + ms.length : Nat) : Int), .slice x.A x.l.length x.c] rfl rfl rfl own_wrow rfl rfl (fun _ _ => rfl) (wrow_S (ss.length + ms.length) x.l (by omega) (by omega)) (fun w h _ => ⟨h.1, h.2.2 x hxm⟩) fun g2 => ?_
    refine l_place TY_ok 0 (⟨some ⟨g2, 0, none⟩, (rowD (ss.length + ms.length) x.l).length, rowD (ss.length + ms.length) x.l⟩ : Seg) ms.length (l := ms ++ List.replicate (bs.length - ms.length) ⟨none, 0, []⟩) rfl rfl rfl rfl rfl rfl (by rw [List.length_append, List.length_replicate]; show bs.length = _; omega) rfl (by rw [List.length_append, List.length_replicate]; omega) (eSeg_ok _) ?_
    refine s_end (hK6 _ ?_)
    refine s_autoE TY_ok rfl ?_
    have hset : ∀ y : Seg, (ms ++ List.replicate (bs.length - ms.length) (⟨none, 0, []⟩ : Seg)).set ms.length y = (ms ++ [y]) ++ List.replicate (bs.length - (ms ++ [y]).length) ⟨none, 0, []⟩ := fun y => by
      obtain ⟨k, hk⟩ : ∃ k, bs.length - ms.length = k + 1 := ⟨bs.length - ms.length - 1, by omega⟩
      have hk2 : bs.length - (ms ++ [y]).length = k := by rw [List.length_append]; show bs.length - (ms.length + 1) = k; omega
      rw [hk, hk2, List.set_append_right _ _ (Nat.le_refl _), Nat.sub_self, List.replicate_succ, List.set_cons_zero, List.append_assoc]
      rfl
    have hln : ∀ y : Seg, (ms ++ [y]).length = ms.length + 1 := fun y => by rw [List.length_append]; rfl
    refine k_next (F := V) (s := ms) (m := fun ms => bs.length - ms.length) (I := fun ms => ms.length ≤ bs.length ∧ ms.map Seg.l = rowsL ss.length ((bs.take ms.length).map Seg.l)) (ms ++ [⟨some ⟨g2, 0, none⟩, (rowD (ss.length + ms.length) x.l).length, rowD (ss.length + ms.length) x.l⟩]) ⟨by rw [hln]; exact hlt, ?_⟩ (by rw [hln]; omega) ⟨⟨?_, rfl, rfl, rfl, rfl, rfl, trivial⟩, trivial, ?_, fun _ h _ => h.2, fun w h y hy => ?_⟩
    · rw [hln, List.take_add_one, hx, List.map_append, List.map_append, hml, rowsL_app, List.length_map, List.length_take, show min ms.length bs.length = ms.length by omega]
      rfl
    · rw [hln]
      exact congrArg some (congrArg SV.v (congrArg (Value.int .i64) (wrapI (by omega) (by omega) (by omega))))
    · show List.Perm [OwnS b.B.heap.size 33 1 eSeg A1 bs.length ((ms ++ List.replicate (bs.length - ms.length) (⟨none, 0, []⟩ : Seg)).set ms.length _), _, _, _, _] _
      rw [hset]
    · rcases List.mem_append.1 hy with hy | hy
      · exact h.2 y hy
      · rw [List.mem_singleton.1 hy]
        exact h.1
  have hge : ms.length = bs.length := by omega
  refine s_exit (k_pass (k_pass (k_out ?_)))
  have e9 : ms ++ List.replicate (bs.length - ms.length) (⟨none, 0, []⟩ : Seg) = ms := by rw [hge, Nat.sub_self]; simp
  rw [hge, List.take_length] at hml
  have hseg : segs ms = LG := by unfold segs; rw [hml, rowsL_flat, hLG]
  have hm16 : ∀ x ∈ ms, 16 ≤ x.l.length := fun x hx => rowsL_len ss.length (bs.map Seg.l) x.l (by rw [← hml]; exact List.mem_map.2 ⟨x, hx, rfl⟩)
  have hmap : (ms.map cut16).map Seg.l = bs.map Seg.l := by
    rw [List.map_map, ← rowsL_drop ss.length (bs.map Seg.l), ← hml, List.map_map]
    rfl
  clear hml
  refine k_permR [OwnS b.B.heap.size 33 1 eSeg A1 bs.length ms, DkO g size A c L s, DkB A c L, LgO h g P ss.length pc false, SgO P pc ss] (by rw [e9]) (hK4 _ ?_)
  refine s_free 0 rfl ?_
  refine s_seq fun K8 hK8 => ?_
  refine s_regA TY_ok rfl fun K9 hK9 => ?_
  refine l_ldO TY_ok rfl rfl rfl rfl rfl rfl (obj_own 2 rfl) ?_
  refine l_autoS TY_ok rfl ?_
  refine l_eq 49 (.v (.slice A1 ms.length bs.length)) rfl (by rw [hge]) ?_
  cases fits with
  | false =>
    have hno : ¬ (L.length : Int) + LG.length ≤ size := of_decide_eq_false hfits.symm
    refine l_callA [pD g, .slice A1 ms.length bs.length] rfl rfl rfl own_dapp rfl rfl (fun _ _ => rfl) (dapp_full g size A c L s A1 bs.length ms hsz hL (by rw [hseg]; exact hno) (by rw [hseg]; exact hb)) (fun w hF hM => ⟨hF.1, hM⟩) fun ⟨A2, c2⟩ => ?_
    refine l_R [DkO g size A2 c2 L s, DkB A2 c2 L, LgO h g P ss.length pc false, SgO P pc ss] rfl ?_
    refine l_autoS TY_ok rfl ?_
    refine s_end (hK9 _ ?_)
    refine s_auto TY_ok rfl ?_
    refine s_ifD ((140 : Int) ≠ 0) rfl (fun _ => ?_) fun h0 => absurd (by decide) h0
    refine s_regA TY_ok rfl fun K10 hK10 => ?_
    refine l_stO TY_ok 2 rfl rfl rfl rfl rfl rfl rfl ?_
    refine s_end (hK10 _ ?_)
    refine s_auto TY_ok rfl ?_
    exact s_ret (k_ret TY_ok ⟨A2, c2, P, pc, [], rfl⟩ rfl (by decide) rfl rfl (by dsimp only [cond_false]; rw [List.append_nil]; rfl) (fun _ _ _ => trivial) (fun _ _ _ hs => by cases hs))
  | true =>
    have hyes : (L.length : Int) + LG.length ≤ size := of_decide_eq_true hfits.symm
    refine l_callA [pD g, .slice A1 ms.length bs.length] rfl rfl rfl own_dapp rfl rfl (fun _ _ => rfl) (dapp_fits g size A c L (L ++ LG) s A1 bs.length ms hsz (by rw [hseg]; exact hyes) (by rw [hseg]; exact hb) (by rw [hseg])) (fun w hF hM => ⟨hF.1, hM⟩) fun ⟨A2, c2⟩ => ?_
    refine l_R [DkO g size A2 c2 (L ++ LG) s, DkB A2 c2 (L ++ LG), LgO h g P ss.length pc false, SgO P pc ss] rfl ?_
    refine l_autoS TY_ok rfl ?_
    refine s_end (hK9 _ ?_)
    refine s_auto TY_ok rfl ?_
    refine s_ifD ((0 : Int) ≠ 0) rfl (fun h0 => absurd rfl h0) fun _ => ?_
    refine s_skip (hK8 _ ?_)
    refine s_regA TY_ok rfl fun K10 hK10 => ?_
    refine l_ldO TY_ok rfl rfl rfl rfl rfl rfl (obj_own 2 rfl) ?_
    refine l_callA [pD g] rfl rfl rfl own_dsync rfl rfl (fun _ _ => rfl) (dsync_S g size A2 c2 (L ++ LG) s) (fun _ _ _ => trivial) fun _ => ?_
    refine l_R [DkO g size A2 c2 (L ++ LG) ((L ++ LG).length : Int), DkB A2 c2 (L ++ LG), LgO h g P ss.length pc false, SgO P pc ss] rfl ?_
    refine s_end (hK10 _ ?_)
    refine s_seq fun K11 hK11 => ?_
    refine s_auto TY_ok rfl ?_
    refine s_block ?_
    let W : Nat × Option Addr × Nat → Env := fun z => ⟨[(64, .v (.int .i64 (z.1 : Int))), (63, .v (.int .i64 (bs.length : Int))), (62, .v (.slice A1 bs.length bs.length)), (0, .v (pD h))], [], [DkO g size A2 c2 (L ++ LG) ((L ++ LG).length : Int), DkB A2 c2 (L ++ LG), LgO h g z.2.1 (ss ++ (ms.take z.1).map cut16).length z.2.2 false, SgO z.2.1 z.2.2 (ss ++ (ms.take z.1).map cut16)], Rd 1 eSeg A1 bs.length ms, fun w => ∀ x ∈ ms, x.rd w⟩
    refine c_weak (e' := W (0, P, pc)) ⟨⟨rfl, rfl, rfl, rfl, trivial⟩, trivial, by dsimp only [W]; rw [List.take_zero, List.map_nil, List.append_nil], fun _ h _ => h.2.2.1, fun _ h => h.2.2⟩ (s_loop (fun z => bs.length - z.1) W (fun z => z.1 ≤ bs.length) ?_ (0, P, pc) (Nat.zero_le _))
    rintro ⟨i, P1, pc1⟩ hi
    dsimp only at hi
    refine s_auto TY_ok rfl ?_
    refine s_seq fun K12 hK12 => ?_
    refine s_ifD ((i : Int) < (bs.length : Int)) rfl (fun hlt => ?_) (fun hge2 => ?_)
    · have hlt : i < ms.length := by omega
      obtain ⟨x, hx⟩ : ∃ x, ms[i]? = some x := ⟨_, List.getElem?_eq_getElem hlt⟩
      have hxm := List.mem_of_getElem? hx
      have hxl := hm16 x hxm
      refine s_skip (hK12 _ ?_)
      refine s_seq fun K13 hK13 => ?_
      refine s_block ?_
      refine s_regA TY_ok rfl fun K14 hK14 => ?_
      refine l_elem (fe := eSeg) (x := x) (l := ms) TY_ok rfl rfl rfl i rfl hx hge.symm rfl (rd_fact fun w h _ => h) ?_
      refine l_autoS TY_ok rfl ?_
      refine l_pure (x.l.length ≤ x.c ∧ (x.A = none → x.c = 0)) (fun w _ hM => ⟨(hM x hxm).1, (hM x hxm).2.2.1⟩) fun ⟨hxc, hxA⟩ => ?_
      refine s_end (hK14 _ ?_)
      have hcut : (cut16 x).l.length = x.l.length - 16 := List.length_drop
      obtain ⟨S0, hS0⟩ : ∃ S0, ss ++ (ms.take i).map cut16 = S0 := ⟨_, rfl⟩
      have hS1 : ss ++ (ms.take (i + 1)).map cut16 = S0 ++ [cut16 x] := by rw [List.take_add_one, hx, ← hS0, List.map_append, List.append_assoc]; rfl
      have hSl : S0.length ≤ 2147483648 := by rw [← hS0, List.length_append, List.length_map, List.length_take]; omega
      refine s_permR [DkO g size A2 c2 (L ++ LG) ((L ++ LG).length : Int), DkB A2 c2 (L ++ LG), LgO h g P1 S0.length pc1 false, SgO P1 pc1 S0] (by rw [← hS0]) ?_
      refine s_anyP [0, 1, 2, 3, 4, 5, 6] 9 3 (ObjF h 53 (lgP g P1 S0.length pc1 false)) (by kernel_rfl) rfl (fun a w ⟨G, S, hst⟩ => obj_own 2 rfl G S w hst.st.view) ?_
      refine p_frontS (L0 := []) TY_ok 0 (by kernel_rfl) rfl rfl rfl rfl rfl rfl (fun _ h => h) (fun _ _ _ hx => by cases hx) ?_
      refine p_frontS (L0 := []) TY_ok 1 (by kernel_rfl) rfl rfl rfl rfl rfl rfl (fun _ h => h) (fun _ _ _ hx => by cases hx) ?_
      refine p_frontS (L0 := []) TY_ok 2 (by kernel_rfl) rfl rfl rfl rfl rfl rfl (fun _ h => h) (fun _ _ _ hx => by cases hx) ?_
      refine p_frontS (L0 := []) TY_ok 3 (by kernel_rfl) rfl rfl rfl rfl rfl rfl (fun _ h => h) (fun _ _ _ hx => by cases hx) ?_
      refine p_ldO TY_ok 4 (by kernel_rfl) rfl rfl rfl rfl rfl rfl rfl (lgP_ok _ _ _ _ _) (fun _ h => h) ?_
      refine p_frontS (L0 := []) TY_ok 5 (by kernel_rfl) rfl rfl rfl rfl rfl rfl (fun _ h => h) (fun _ _ _ hx => by cases hx) ?_
      refine p_frontO (.v (.slice (cut16 x).A (cut16 x).l.length (cut16 x).c)) trivial 6 (by kernel_rfl) rfl rfl rfl rfl rfl (by rw [hcut]; exact run_cutLo hxl hxc hxA rfl rfl rfl) ?_
      refine p_step 7 (by kernel_rfl) rfl fun Ka hKa => ?_
      refine l_list TY_ok b.B.heap.size [cut16 x] (fe := eSeg) rfl rfl rfl rfl rfl (fun _ => rfl) rfl (by decide) (by decide) (okF_seg _) (Nat.le_refl _) fun P2 => ?_
      refine s_end (hKa _ (fun a w ⟨G, S, hst⟩ => obj_own 3 rfl G S w hst.st.view) ?_)
      refine p_step 8 (by kernel_rfl) rfl fun Kb hKb => ?_
      refine l_appY TY_ok 4 [cut16 x] rfl rfl rfl rfl rfl rfl rfl rfl rfl (rd_own 0 rfl) (by decide) (by show (S0.length + 1) * 24 ≤ _; omega) (by show S0.length + 1 ≤ _; omega) (Nat.zero_le _) fun P3 pc3 => ?_
      refine l_free 0 rfl ?_
      refine s_end (hKb _ (fun a w ⟨G, S, hst⟩ => obj_own 2 rfl G S w hst.st.view) ?_)
      refine p_tail [9, 10, 11] (by kernel_rfl) rfl ?_
      refine l_autoS TY_ok rfl ?_
      refine l_stO TY_ok 2 rfl rfl rfl rfl rfl rfl rfl ?_
      refine s_end (hK13 _ ?_)
      refine s_autoE TY_ok rfl ?_
      refine k_next (i + 1, P3, pc3) (by show i + 1 ≤ bs.length; omega) (by show bs.length - (i + 1) < bs.length - i; omega) ⟨⟨congrArg some (congrArg SV.v (congrArg (Value.int .i64) (wrapI (by omega) (by omega) (by omega)))), rfl, rfl, rfl, trivial⟩, trivial, ?_, fun _ h _ => h.2, fun _ h => h⟩
      dsimp only [W]
      rw [hS1]
      exact .refl _
    · obtain rfl : i = bs.length := by omega
      refine s_exit (k_pass (k_pass (k_out ?_)))
      refine k_permR [DkO g size A2 c2 (L ++ LG) ((L ++ LG).length : Int), DkB A2 c2 (L ++ LG), LgO h g P1 (ss ++ ms.map cut16).length pc1 false, SgO P1 pc1 (ss ++ ms.map cut16)] (by rw [← hge, List.take_length]) (hK11 _ ?_)
      refine s_auto TY_ok rfl ?_
      exact s_ret (k_ret TY_ok ⟨A2, c2, P1, pc1, ms.map cut16, hmap⟩ rfl (by decide) rfl rfl rfl (fun _ _ _ => trivial) (fun w hM y hy => by
        obtain ⟨z, h1, rfl⟩ := List.mem_map.1 hy
        exact cut16_rd (hM z h1) (hm16 z h1)))
end Go.Proofs.YtcbfalfkdnfelaaDoor
/-
  ROWS THAT CAN'T BE WRITTEN.
-/
namespace Go.Proofs.YtcbfalfkdnfelaaDoor
open Go.RowKit Go.IntWalk Nums

set_option maxRecDepth 100000 in
set_option maxHeartbeats 1000000 in
theorem wwrite_no (B : Option Addr) (n d : Nat) : Spec 11 [.pointer none, .slice B n d] [] (fun _ => True) (one (.v (.int .i64 1))) := by
  refine spec_S [.c (.v (.pointer none)), .c (.v (.slice B n d))] 80 Tryd.func11 rfl (by rw [Tryd.ntmps11]; rfl) (two_ok trivial trivial) fun b => ?_
  refine s_auto TY_ok rfl ?_
  refine s_seq fun K hK => ?_
  refine s_block ?_
  refine s_auto TY_ok rfl ?_
  refine s_yes rfl ?_
  refine s_auto TY_ok rfl ?_
  exact s_ret (k_ret TY_ok () rfl (by decide) rfl rfl rfl (fun _ _ _ => trivial) (fun _ _ => trivial))
set_option maxRecDepth 100000 in
set_option maxHeartbeats 1000000 in
theorem wwrite_down (h gd : Nat) (A : Option Addr) (n c : Nat) (B : Option Addr) (m d : Nat) : Spec 11 [pD h, .slice B m d] [LgO h gd A n c true] (fun _ => True) { ret := fun _ : Unit => .v (.int .i64 150), own := fun _ => [LgO h gd A n c true] } := by
  refine spec_S [.c (.v (pD h)), .c (.v (.slice B m d))] 80 Tryd.func11 rfl (by rw [Tryd.ntmps11]; rfl) (two_ok trivial trivial) fun b => ?_
  refine s_auto TY_ok rfl ?_
  refine s_seq fun K hK => ?_
  refine s_block ?_
  refine s_auto TY_ok rfl ?_
  refine s_no rfl ?_
  refine s_regA TY_ok rfl fun K1 hK1 => ?_
  refine l_ldO TY_ok rfl rfl rfl rfl rfl rfl (obj_own 0 rfl) ?_
  refine l_autoS TY_ok rfl ?_
  refine s_end (hK1 _ ?_)
  refine s_yes rfl ?_
  refine s_auto TY_ok rfl ?_
  exact s_ret (k_ret TY_ok () rfl (by decide) rfl rfl rfl (fun _ _ _ => trivial) (fun _ _ => trivial))
end Go.Proofs.YtcbfalfkdnfelaaDoor
/-
  SLICES OF BYTES OF ONE'S OWN, many at once; all rows of a log.
-/
namespace Go.Proofs.YtcbfalfkdnfelaaDoor
open Go.RowKit Go.IntWalk Nums

abbrev segR (s : Seg) : Res := DkB s.A s.c s.l
/-- They are owned, each apart. -/
def BagR (ss : List Seg) : Res where
  holds w S := starL (ss.map segR) w S
  keep := fun h hk => h.keep hk
  lt := fun h => h.lt
theorem bagR {ss : List Seg} {R : List Res} {w : World} {S : Nat → Prop} : starL (BagR ss :: R) w S ↔ starL (ss.map segR ++ R) w S := by
  rw [starL.app]
  rfl
section
variable {P : Program} {b : Base} {ops : Array Oper} {Q : Exit → Act → World → Prop} {N : Nat} {G : Nat → Nat} {S : Nat → Prop} {E : SE} {L : List LV} {R : List Res} {F M : World → Prop} {w : World} {ss : List Seg}
theorem k_bagO {K : Act → World → Prop} (h : kS b K N ⟨E, L, ss.map segR ++ R, F, M⟩) : kS b K N ⟨E, L, BagR ss :: R, F, M⟩ := fun a w ⟨G, S, h1, h2, h3⟩ => h a w ⟨G, S, h1, h2, { h3 with res := bagR.1 h3.res }⟩
theorem k_bagC {K : Act → World → Prop} (h : kS b K N ⟨E, L, BagR ss :: R, F, M⟩) : kS b K N ⟨E, L, ss.map segR ++ R, F, M⟩ := fun a w ⟨G, S, h1, h2, h3⟩ => h a w ⟨G, S, h1, h2, { h3 with res := bagR.2 h3.res }⟩
/-- One more. -/
theorem k_bagP {K : Act → World → Prop} (s : Seg) (h : kS b K N ⟨E, L, BagR (ss ++ [s]) :: R, F, M⟩) : kS b K N ⟨E, L, segR s :: BagR ss :: R, F, M⟩ :=
  k_permR (BagR ss :: segR s :: R) (List.Perm.swap _ _ _) (k_bagO (k_permR ((ss ++ [s]).map segR ++ R) (by rw [List.map_append, List.append_assoc]; exact .refl _) (k_bagC h)))
theorem l_bagP {l : List Oper} (s : Seg) (h : lS P b ops Q N l ⟨E, L, BagR (ss ++ [s]) :: R, F, M⟩) : lS P b ops Q N l ⟨E, L, segR s :: BagR ss :: R, F, M⟩ := k_bagP (K := fun a w => wpList P ops Q l a w) s h
theorem s_bag0 {y : Code} (h : cS P b y Q N ⟨E, L, BagR [] :: R, F, M⟩) : cS P b y Q N ⟨E, L, R, F, M⟩ := k_bagC (ss := []) (K := fun a w => y.wp P Q a w) h
end
/-- Join, the bytes one's own. -/
theorem join_O {A : Option Addr} {c : Nat} (ss : List Seg) (ht : (ss.map Seg.l).flatten.length ≤ 281474976710656) : Spec 32 [.slice A ss.length c] [] (fun w => Rd 1 eSeg A c ss w ∧ ∀ s ∈ ss, s.rd w)
    { ret := fun g : Nat => .v (.slice (some ⟨g, 0, none⟩) (ss.map Seg.l).flatten.length (ss.map Seg.l).flatten.length), own := fun g => [DkB (some ⟨g, 0, none⟩) (ss.map Seg.l).flatten.length (ss.map Seg.l).flatten] } := fun w S X hS _ hF => by
  obtain ⟨h1, h2⟩ := hF.now
  have hj := join_any A (ss.map Seg.l) c w.heap.size w (parts_of h1 h2) (Nat.le_refl _) (by rw [List.length_map]; exact h1.1) h1.2.1 ht
  rw [List.length_map] at hj
  refine hj.mono ?_
  rintro e w' ⟨he, ho, hb⟩
  have h3 : (OwnS w.heap.size 5 1 eB (some ⟨w.heap.size, 0, none⟩) (ss.map Seg.l).flatten.length (ss.map Seg.l).flatten).holds w' fun j => (some (⟨w.heap.size, 0, none⟩ : Addr)).map (·.block) = some j := ⟨okF_B _, by rw [flat_B]; exact ho, fun _ => Iff.rfl⟩
  have h4 : (DkB (some ⟨w.heap.size, 0, none⟩) (ss.map Seg.l).flatten.length (ss.map Seg.l).flatten).holds w' fun j => (some (⟨w.heap.size, 0, none⟩ : Addr)).map (·.block) = some j := ⟨okF_B _, by rw [flat_B]; exact own_base ho (Nat.zero_le _), fun _ => Iff.rfl⟩
  refine ⟨w.heap.size, fun j => (some (⟨w.heap.size, 0, none⟩ : Addr)).map (·.block) = some j, he, trivial, Chg.of_up hb, starL_one.2 h4, fun k hk hlt => ?_, fun _ _ => trivial, fun _ _ => trivial⟩
  simp only [Option.map_some, Option.some.injEq] at hk
  have := (OwnS.inb h3 _ rfl).1
  omega
theorem own_wrows : Own 16 := fun _ _ => by go_simp
theorem set_next {α : Type} (z : α) (ms : List α) (n : Nat) (hlt : ms.length < n) (y : α) : (ms ++ List.replicate (n - ms.length) z).set ms.length y = (ms ++ [y]) ++ List.replicate (n - (ms ++ [y]).length) z := by
  obtain ⟨k, hk⟩ : ∃ k, n - ms.length = k + 1 := ⟨n - ms.length - 1, by omega⟩
  have hk2 : n - (ms ++ [y]).length = k := by rw [List.length_append]; show n - (ms.length + 1) = k; omega
  rw [hk, hk2, List.set_append_right _ _ (Nat.le_refl _), Nat.sub_self, List.replicate_succ, List.set_cons_zero, List.append_assoc]
  rfl
set_option maxRecDepth 100000 in
set_option maxHeartbeats 1000000 in
theorem wrows_S (h g : Nat) (P : Option Addr) (pc : Nat) (ss : List Seg) (dn : Bool) (hss : ss.length ≤ 1073741824) (hl : ∀ x ∈ ss, x.l.length ≤ 1048576) :
    Spec 16 [pD h] [LgO h g P ss.length pc dn, SgO P pc ss] (fun w => ∀ x ∈ ss, x.rd w)
    { ret := fun x : SgX (ss.map Seg.l) => .v (.slice x.A x.ss.length x.c), own := fun x => [SgO x.A x.c x.ss, BagR x.ss, LgO h g P ss.length pc dn, SgO P pc ss] } := by
  refine spec_S [.c (.v (pD h))] 32 Tryd.func16 rfl (by rw [Tryd.ntmps16]; rfl) (one_ok trivial) fun b => ?_
  refine s_auto TY_ok rfl ?_
  refine s_seq fun K hK => ?_
  refine s_auto TY_ok rfl ?_
  refine s_no rfl ?_
  refine s_skip (hK _ ?_)
  refine s_regA TY_ok rfl fun K1 hK1 => ?_
  refine l_ldO TY_ok rfl rfl rfl rfl rfl rfl (obj_own 0 rfl) ?_
  refine l_autoS TY_ok rfl ?_
  refine l_makeS TY_ok 0 ss.length (⟨none, 0, []⟩ : Seg) (fe := eSeg) rfl rfl rfl rfl rfl rfl rfl rfl (eSeg_ok _) (by show 24 * ss.length ≤ _; omega) (by omega) (Nat.zero_le _) fun A1 => ?_
  refine l_autoS TY_ok rfl ?_
  refine s_end (hK1 _ ?_)
  refine s_seq fun K2 hK2 => ?_
  refine s_regA TY_ok rfl fun K3 hK3 => ?_
  refine l_ldO TY_ok rfl rfl rfl rfl rfl rfl (obj_own 1 rfl) ?_
  refine l_autoS TY_ok rfl ?_
  refine s_end (hK3 _ ?_)
  refine s_block ?_
  refine s_bag0 ?_
  let V : List Seg → Env := fun ms => ⟨[(19, .v (.int .i64 (ms.length : Int))), (18, .v (.int .i64 (ss.length : Int))), (17, .v (.slice P ss.length pc)), (3, .v (.slice A1 ss.length ss.length))], [], [BagR ms, SgO A1 ss.length (ms ++ List.replicate (ss.length - ms.length) ⟨none, 0, []⟩), LgO h g P ss.length pc dn, SgO P pc ss], fun w => ∀ x ∈ ss, x.rd w, fun _ => True⟩
  refine c_weak (e' := V []) ⟨⟨rfl, rfl, rfl, rfl, trivial⟩, trivial, .refl _, fun _ h _ => h, fun _ _ => trivial⟩ (s_loop (fun ms => ss.length - ms.length) V (fun ms => ms.length ≤ ss.length ∧ ms.map Seg.l = (ss.take ms.length).map Seg.l) ?_ [] ⟨Nat.zero_le _, rfl⟩)
  intro ms ⟨hi, hml⟩
  refine s_auto TY_ok rfl ?_
  refine s_seq fun K5 hK5 => ?_
  refine s_ifD ((ms.length : Int) < (ss.length : Int)) rfl (fun hlt => ?_) (fun hge => ?_)
  · have hlt : ms.length < ss.length := by omega
    obtain ⟨x, hx⟩ : ∃ x, ss[ms.length]? = some x := ⟨_, List.getElem?_eq_getElem hlt⟩
    have hxm := List.mem_of_getElem? hx
    have hxl := hl x hxm
    refine s_skip (hK5 _ ?_)
    refine s_seq fun K6 hK6 => ?_
    refine s_block ?_
    refine s_regA TY_ok rfl fun K7 hK7 => ?_
    refine l_elem TY_ok rfl rfl rfl ms.length rfl hx rfl rfl (rd_own 3 rfl) ?_
    refine l_autoS TY_ok rfl ?_
    refine s_end (hK7 _ ?_)
    refine s_lit ?_
    refine l_autoS TY_ok rfl ?_
    refine l_list TY_ok b.B.heap.size [x] (fe := eSeg) rfl rfl rfl rfl rfl (fun _ => rfl) rfl (by decide) (by decide) (okF_seg _) (Nat.le_refl _) fun P1 => ?_
    refine l_free 0 rfl ?_
    have e0 : (List.map Seg.l [x]).flatten = x.l := by simp
    have hj := join_O (A := P1) (c := 1) [x] (by rw [e0]; omega)
    rw [e0] at hj
    refine l_call0 [.slice P1 1 1] rfl rfl rfl own_join rfl rfl (fun _ _ => rfl) hj (fun w hF _ => ⟨hF.1, fun s hs => by rw [List.mem_singleton.1 hs]; exact hF.2 x hxm⟩) fun g2 => ?_
    refine l_place TY_ok 2 (⟨some ⟨g2, 0, none⟩, x.l.length, x.l⟩ : Seg) ms.length (l := ms ++ List.replicate (ss.length - ms.length) ⟨none, 0, []⟩) rfl rfl rfl rfl rfl rfl (by rw [List.length_append, List.length_replicate]; show ss.length = _; omega) rfl (by rw [List.length_append, List.length_replicate]; omega) (eSeg_ok _) ?_
    refine l_R [segR ⟨some ⟨g2, 0, none⟩, x.l.length, x.l⟩, BagR ms, SgO A1 ss.length ((ms ++ [(⟨some ⟨g2, 0, none⟩, x.l.length, x.l⟩ : Seg)]) ++ List.replicate (ss.length - (ms ++ [(⟨some ⟨g2, 0, none⟩, x.l.length, x.l⟩ : Seg)]).length) (⟨none, 0, []⟩ : Seg)), LgO h g P ss.length pc dn, SgO P pc ss] (by rw [← set_next _ _ _ hlt]; rfl) ?_
    refine l_bagP _ ?_
    refine s_end (hK6 _ ?_)
    refine s_autoE TY_ok rfl ?_
    have hln : ∀ y : Seg, (ms ++ [y]).length = ms.length + 1 := fun y => by rw [List.length_append]; rfl
    refine k_next (ms ++ [⟨some ⟨g2, 0, none⟩, x.l.length, x.l⟩]) ⟨by rw [hln]; exact hlt, ?_⟩ (by rw [hln]; omega) ⟨⟨?_, rfl, rfl, rfl, trivial⟩, trivial, .refl _, fun _ h _ => h.2.2, fun _ _ => trivial⟩
    · rw [hln, List.take_add_one, hx, List.map_append, List.map_append, hml]
      rfl
    · rw [hln]
      exact congrArg some (congrArg SV.v (congrArg (Value.int .i64) (wrapI (by omega) (by omega) (by omega))))
  · have hge : ms.length = ss.length := by omega
    rw [hge, List.take_length] at hml
    refine s_exit (k_pass (k_pass (k_out ?_)))
    refine k_permR [SgO A1 ss.length ms, BagR ms, LgO h g P ss.length pc dn, SgO P pc ss] (by rw [hge, Nat.sub_self, List.replicate_zero, List.append_nil]; exact List.Perm.swap _ _ _) (hK2 _ ?_)
    refine s_regA TY_ok rfl fun K8 hK8 => ?_
    refine s_end (hK8 _ ?_)
    exact s_ret (k_ret TY_ok ⟨A1, ss.length, ms, hml⟩ rfl (by decide) rfl (by dsimp only; rw [hge]; rfl) rfl (fun _ _ _ => trivial) (fun _ _ => trivial))
set_option maxRecDepth 100000 in
theorem wrows_no : Spec 16 [.pointer none] [] (fun _ => True) (one (.v (.slice none 0 0))) := by
  refine spec_S [.c (.v (.pointer none))] 32 Tryd.func16 rfl (by rw [Tryd.ntmps16]; rfl) (one_ok trivial) fun b => ?_
  refine s_auto TY_ok rfl ?_
  refine s_seq fun K hK => ?_
  refine s_auto TY_ok rfl ?_
  refine s_yes rfl ?_
  refine s_auto TY_ok rfl ?_
  exact s_ret (k_ret TY_ok () rfl (by decide) rfl rfl rfl (fun _ _ _ => trivial) (fun _ _ => trivial))
end Go.Proofs.YtcbfalfkdnfelaaDoor
/-
  THE DOCUMENT'S ROWS.
-/
namespace Go.Proofs.YtcbfalfkdnfelaaDoor
open Go.RowKit Go.IntWalk Nums

theorem own_rfrow : Own 10 := fun _ _ => by go_simp
theorem own_rfsum : Own 25 := fun _ _ => by go_simp
theorem own_rfsame15 : Own 17 := fun _ _ => by go_simp
theorem rfnum_O (v : Nat) (hv : v < 18446744073709551616) : Spec 26 [.int .u64 (v : Int)] [] (fun _ => True)
    { ret := fun x : Option Addr × Nat => .v (.slice x.1 (be8 v).length x.2), own := fun x => [DkB x.1 x.2 (be8 v)] } :=
  Spec.madeC fun w _ => (refnum_any v w hv).mono fun _ _ ⟨g, he, ho, hb⟩ => ⟨some ⟨g, 0, none⟩, (be8 v).length, he, ho, hb⟩
set_option maxRecDepth 100000 in
set_option maxHeartbeats 1000000 in
theorem rfrow_S {A : Option Addr} {c : Nat} (i : Nat) (x : List UInt8) (hi : i ≤ 9223372036854775807) (hx : x.length ≤ 35184372088832) : Spec 10 [.int .i64 (i : Int), .slice A x.length c] [] (Rd 1 eB A c x)
    { ret := fun y : Option Addr × Nat => .v (.slice y.1 (rowD i x).length y.2), p := fun y => Rd 1 eB y.1 y.2 (rowD i x) } := by
  refine spec_S [.c (.v (.int .i64 (i : Int))), .c (.v (.slice A x.length c))] 23 Tryd.func10 rfl (by rw [Tryd.ntmps10]; rfl) (two_ok trivial trivial) fun b => ?_
  refine s_auto TY_ok rfl ?_
  refine s_regA TY_ok rfl fun K1 hK1 => ?_
  refine l_list TY_ok b.B.heap.size [(6 : UInt8)] (fe := eB) rfl rfl rfl rfl rfl (fun _ => rfl) rfl (by decide) (by decide) (okF_B _) (Nat.le_refl _) fun B1 => ?_
  refine l_free 0 rfl ?_
  refine l_autoS TY_ok rfl ?_
  refine l_num 9 (i : Int) rfl (wrapU rfl (by omega) (by omega)) ?_
  refine l_call0 [.int .u64 (i : Int)] rfl rfl rfl own_rfnum rfl rfl (fun _ _ => rfl) (rfnum_S i (by omega)) (fun _ _ _ => trivial) fun g1 => ?_
  refine l_autoS TY_ok rfl ?_
  refine l_list TY_ok b.B.heap.size [⟨B1, 1, [6]⟩, ⟨some ⟨g1, 0, none⟩, (be8 i).length, be8 i⟩, ⟨A, c, x⟩] (fe := eSeg) rfl rfl rfl rfl rfl (fun _ => rfl) rfl (by decide) (by decide) (okF_seg _) (Nat.le_refl _) fun P => ?_
  refine l_free 0 rfl ?_
  have e0 : (List.map Seg.l [⟨B1, 1, [6]⟩, ⟨some ⟨g1, 0, none⟩, (be8 i).length, be8 i⟩, ⟨A, c, x⟩]).flatten = [6] ++ be8 i ++ x := by simp only [List.map_cons, List.map_nil, List.flatten_cons, List.flatten_nil, List.append_nil, List.append_assoc]
  obtain ⟨H, hH, hl, ht⟩ : ∃ H, digest s256 (List.map Seg.l [⟨B1, 1, [6]⟩, ⟨some ⟨g1, 0, none⟩, (be8 i).length, be8 i⟩, ⟨A, c, x⟩]).flatten = H ∧ H.length = 32 ∧ H.take 8 = sumD i x := ⟨_, rfl, digest256_len _, by rw [sumD_is, e0]⟩
  have hs := (rsum_C (P := P) (pc := 3) (ss := [⟨B1, 1, [6]⟩, ⟨some ⟨g1, 0, none⟩, (be8 i).length, be8 i⟩, ⟨A, c, x⟩]) (show (3 : Nat) ≤ 9223372036854775807 by decide) (by rw [e0, List.length_append, List.length_append, be8_len]; show 1 + 8 + x.length ≤ _; omega)).spec
  rw [hH] at hs
  refine l_call0 [.slice P 3 3] rfl rfl rfl own_rfsum rfl rfl (fun _ _ => rfl) hs (fun w hF hM => ⟨fun _ => hF.1, fun s hs => ?_⟩) fun _ => ?_
  · rcases List.mem_cons.1 hs with rfl | hs
    · exact hF.2.2.1
    rcases List.mem_cons.1 hs with rfl | hs
    · exact hM.1
    · rw [List.mem_singleton.1 hs]
      exact hF.2.2.2
  refine l_autoS TY_ok rfl ?_
  refine s_end (k_give 5 rfl (E' := [(1, .v (.slice A x.length c))]) ⟨rfl, trivial⟩ fun g => hK1 _ ?_)
  refine s_freeO 0 rfl ?_
  have hsl := sumD_len i x
  refine s_seq fun K2 hK2 => ?_
  refine s_anyP [0, 1, 2, 4] 5 2 (InvL []) (by kernel_rfl) rfl (fun _ _ _ x hx => by cases hx) ?_
  refine p_front TY_ok 0 (by kernel_rfl) rfl rfl rfl rfl rfl rfl (fun _ h => (by cases h)) ?_
  refine p_front TY_ok 1 (by kernel_rfl) rfl rfl rfl rfl rfl rfl (fun _ h => (by cases h)) ?_
  refine p_front TY_ok 2 (by kernel_rfl) rfl rfl rfl rfl rfl rfl (fun _ h => (by cases h)) ?_
  refine p_frontO (.v (.slice (some ⟨g, 0, none⟩) (sumD i x).length 32)) trivial 4 (by kernel_rfl) rfl rfl rfl rfl rfl (by rw [hsl]; exact runO_hiP rfl Tryd.underlying54 (by kernel_rfl) rfl rfl (by decide) (by decide)) ?_
  refine p_step 3 (by kernel_rfl) rfl fun Kd hKd => ?_
  refine l_num 16 (x.length : Int) rfl (wrapU rfl (by omega) (by omega)) ?_
  refine l_call0 [.int .u64 (x.length : Int)] rfl rfl rfl own_rfnum rfl rfl (fun _ _ => rfl) (rfnum_O x.length (by omega)) (fun _ _ _ => trivial) fun ⟨A1, c1⟩ => ?_
  refine s_end (hKd _ (fun _ _ _ x hx => by cases hx) ?_)
  refine p_tail [5, 6] (by kernel_rfl) rfl ?_
  refine l_appY TY_ok 0 (sumD i x) rfl rfl rfl rfl rfl rfl rfl rfl rfl (rd_fact fun w h _ => by rw [← ht]; exact (obj_rd (n := 32) h.2.1 (by decide)).take 8) (by decide) (by show ((be8 x.length).length + (sumD i x).length) * 1 ≤ _; rw [be8_len, hsl]; decide) (by show (be8 x.length).length + (sumD i x).length ≤ _; rw [be8_len, hsl]; decide) (Nat.zero_le _) fun A2 c2 => ?_
  refine l_autoS TY_ok rfl ?_
  refine s_end (hK2 _ ?_)
  refine s_regA TY_ok rfl fun K3 hK3 => ?_
  have h16 : (be8 x.length ++ sumD i x).length = 16 := by rw [List.length_append, be8_len, hsl]
  refine l_appY TY_ok 0 x rfl rfl rfl rfl rfl rfl rfl rfl rfl (rd_fact fun w h _ => h.2.2.2.2.2.2) (by decide) (by show ((be8 x.length ++ sumD i x).length + x.length) * 1 ≤ _; omega) (by show (be8 x.length ++ sumD i x).length + x.length ≤ _; omega) (Nat.zero_le _) fun A3 c3 => ?_
  refine l_free 0 rfl ?_
  refine l_autoS TY_ok rfl ?_
  refine s_end (hK3 _ ?_)
  have er : be8 x.length ++ sumD i x ++ x = rowD i x := by unfold rowD; rw [List.append_assoc]
  exact s_ret (k_ret TY_ok (A3, c3) rfl (by decide) rfl (by rw [← er]; rfl) rfl (fun w h _ => by rw [← er]; exact h.1) (fun _ _ => trivial))
set_option maxRecDepth 100000 in
set_option maxHeartbeats 1000000 in
/-- Lists of bytes compared. -/
theorem rfsame15_S {A B : Option Addr} {c d : Nat} (l m : List Seg) : Spec 17 [.slice A l.length c, .slice B m.length d] [] (fun w => Rd 1 eSeg A c l w ∧ Rd 1 eSeg B d m w ∧ (∀ s ∈ l, s.rd w) ∧ ∀ s ∈ m, s.rd w)
    (one (.q (eT (decide (l.map Seg.l = m.map Seg.l))))) := by
  refine spec_S [.c (.v (.slice A l.length c)), .c (.v (.slice B m.length d))] 28 Tryd.func17 rfl (by rw [Tryd.ntmps17]; rfl) (two_ok trivial trivial) fun b => ?_
  refine s_pure (l.length ≤ c ∧ c ≤ 9223372036854775807) (fun w hw _ => ⟨hw.1.1, hw.1.2.1⟩) fun ⟨hd1, hd2⟩ => ?_
  refine s_auto TY_ok rfl ?_
  refine s_seq fun K0 hK0 => ?_
  refine s_auto TY_ok rfl ?_
  refine s_ifD ((l.length : Int) ≠ (m.length : Int)) rfl (fun h => ?_) (fun h => ?_)
  · refine s_auto TY_ok rfl ?_
    have hne : ¬ l.map Seg.l = m.map Seg.l := fun e => h (by have := congrArg List.length e; rw [List.length_map, List.length_map] at this; omega)
    exact s_ret (k_retD TY_ok () rfl (by decide) rfl (congrArg Value.bool (decide_eq_false hne)) trivial rfl (fun _ _ _ => trivial) (fun _ _ => trivial))
  have hlm : l.length = m.length := by omega
  refine s_skip (hK0 _ ?_)
  refine s_seq fun K hK => ?_
  refine s_auto TY_ok rfl ?_
  refine s_block ?_
  let V : Nat → Env := fun i => ⟨[(13, .v (.int .i64 (i : Int))), (12, .v (.int .i64 (l.length : Int))), (0, .v (.slice A l.length c)), (1, .v (.slice B m.length d))], [], [], fun w => Rd 1 eSeg A c l w ∧ Rd 1 eSeg B d m w ∧ (∀ s ∈ l, s.rd w) ∧ ∀ s ∈ m, s.rd w, fun _ => True⟩
  refine c_weak (e' := V 0) ⟨⟨rfl, rfl, rfl, rfl, trivial⟩, trivial, .refl _, fun _ h _ => h, fun _ _ => trivial⟩ (s_loop (fun i => l.length - i) V (fun i => i ≤ l.length ∧ (l.take i).map Seg.l = (m.take i).map Seg.l) ?_ 0 ⟨Nat.zero_le _, rfl⟩)
  intro i ⟨hi, heq⟩
  refine s_auto TY_ok rfl ?_
  refine s_seq fun K1 hK1 => ?_
  refine s_ifD ((i : Int) < (l.length : Int)) rfl (fun hlt => ?_) (fun hge => ?_)
  · have hlt : i < l.length := by omega
    obtain ⟨x, hx⟩ : ∃ x, l[i]? = some x := ⟨_, List.getElem?_eq_getElem hlt⟩
    obtain ⟨y, hy⟩ : ∃ y, m[i]? = some y := ⟨_, List.getElem?_eq_getElem (hlm ▸ hlt)⟩
    refine s_skip (hK1 _ ?_)
    refine s_seq fun K2 hK2 => ?_
    refine s_block ?_
    refine s_auto TY_ok rfl ?_
    refine s_regH 11 (by decide) (by kernel_rfl) (by kernel_rfl) fun K4 hK4 G S w0 hst => ?_
    refine h_auto TY_ok hst rfl ?_
    refine g_elem (b := b) (fe := eSeg) TY_ok hst rfl rfl rfl i rfl hx rfl rfl (rd_fact fun _ h _ => h.1) ?_
    refine h_strU (Fa := []) x.l hst rfl rfl rfl rfl rfl rfl (fun w hv _ => hv.fact.2.2.1 x (List.mem_of_getElem? hx)) ?_
    refine h_auto TY_ok hst rfl ?_
    refine g_elem (b := b) (fe := eSeg) TY_ok hst rfl rfl rfl i rfl hy rfl rfl (rd_fact fun _ h _ => h.2.1) ?_
    refine h_strU (Fa := []) y.l hst rfl rfl rfl rfl rfl rfl (fun w hv _ => hv.fact.2.2.2 y (List.mem_of_getElem? hy)) ?_
    refine h_op hst (.b (!decide (x.l = y.l))) trivial rfl rfl rfl rfl (run_neqS rfl rfl rfl) ?_
    refine h_end hst ?_
    refine s_end (hK4 _ ?_)
    refine s_if (!decide (x.l = y.l)) rfl (fun h => ?_) (fun h => ?_)
    · have hne : ¬ l.map Seg.l = m.map Seg.l := fun e => by
        have e2 := congrArg (fun z => z[i]?) e
        simp only [List.getElem?_map, hx, hy, Option.map_some, Option.some.injEq] at e2
        rw [e2] at h
        simp at h
      refine s_auto TY_ok rfl ?_
      exact s_ret (k_retD TY_ok () rfl (by decide) rfl (congrArg Value.bool (decide_eq_false hne)) trivial rfl (fun _ _ _ => trivial) (fun _ _ => trivial))
    · have he : x.l = y.l := by simpa using h
      refine s_skip (hK2 _ ?_)
      refine s_autoE TY_ok rfl ?_
      refine k_next (i + 1) ⟨hlt, ?_⟩ (by omega) ⟨⟨congrArg some (congrArg SV.v (congrArg (Value.int .i64) (wrapI (by omega) (by omega) (by omega)))), rfl, rfl, rfl, trivial⟩, trivial, .refl _, fun _ h _ => h, fun _ h => h⟩
      rw [List.take_add_one, List.take_add_one, hx, hy, List.map_append, List.map_append, heq]
      simp [he]
  · obtain rfl : i = l.length := by omega
    have he : l.map Seg.l = m.map Seg.l := by rwa [List.take_length, hlm, List.take_length] at heq
    refine s_exit (k_pass (k_pass (k_out (hK _ ?_))))
    refine s_auto TY_ok rfl ?_
    exact s_ret (k_retD TY_ok () rfl (by decide) rfl (congrArg Value.bool (decide_eq_true he)) trivial rfl (fun _ _ _ => trivial) (fun _ _ => trivial))
end Go.Proofs.YtcbfalfkdnfelaaDoor
/-
  NEW VARIABLES IN DRAWN REGIONS, over states: they come at any time, what they hold is stored behind all; contracts that tell of new bytes.
-/
namespace Go.Proofs.YtcbfalfkdnfelaaDoor
open Go.RowKit Go.IntWalk

/-- New bytes, told. -/
abbrev madeP (l : List UInt8) : Post Nat := { ret := fun g => .v (.slice (some ⟨g, 0, none⟩) l.length l.length), p := fun g => Rd 1 eB (some ⟨g, 0, none⟩) l.length l }
instance {l : List UInt8} {g : Nat} : Pst ((madeP l).p g) := inferInstanceAs (Pst (Rd 1 eB (some ⟨g, 0, none⟩) l.length l))
instance pst_true : Pst (fun _ : World => True) := ⟨fun _ _ _ _ => trivial⟩
instance {r : RV} {x : Unit} : Pst ((one r).p x) := ⟨fun _ _ _ _ => trivial⟩
/-- Bytes that are told, wherever they lie. -/
abbrev tellP (l : List UInt8) : Post (Option Addr × Nat) := { ret := fun x => .v (.slice x.1 l.length x.2), p := fun x => Rd 1 eB x.1 x.2 l }
instance {l : List UInt8} {x : Option Addr × Nat} : Pst ((tellP l).p x) := inferInstanceAs (Pst (Rd 1 eB x.1 x.2 l))
theorem tellP_rd {l : List UInt8} {x : Option Addr × Nat} {w : World} (h : ∃ y, ((tellP l).ret x).den = ((tellP l).ret y).den ∧ (tellP l).p y w) : Rd 1 eB x.1 x.2 l w := by
  obtain ⟨y, e, hy⟩ := h
  have e : Value.slice x.1 l.length x.2 = .slice y.1 l.length y.2 := e
  injection e with e1 _ e2
  rw [e1, e2]
  exact hy
end Go.Proofs.YtcbfalfkdnfelaaDoor
/-
  WHAT BYTES SAY, as the document reads them.
-/
namespace Go.Proofs.YtcbfalfkdnfelaaDoor
open Go.RowKit Go.IntWalk Nums

theorem own_rfsays : Own 15 := fun _ _ => by go_simp
theorem row_split {i : Nat} {h x r : List UInt8} (h8 : h.length = 8) (hx : x.length ≤ 1048576) : firstD i (be8 x.length ++ (h ++ (x ++ r))) = if h = sumD i x then some x else none := by
  have h1 : (be8 x.length ++ (h ++ (x ++ r))).take 8 = be8 x.length := List.take_left' (be8_len _)
  have h2 : (be8 x.length ++ (h ++ (x ++ r))).drop 8 = h ++ (x ++ r) := List.drop_left' (be8_len _)
  have h3 : (be8 x.length ++ (h ++ (x ++ r))).drop 16 = x ++ r := by rw [show 16 = 8 + 8 from rfl, ← List.drop_drop, h2]; exact List.drop_left' h8
  have h4 : (be8 x.length ++ (h ++ (x ++ r))).length = 16 + x.length + r.length := by rw [List.length_append, List.length_append, List.length_append, be8_len, h8]; omega
  have h5 : (x ++ r).take x.length = x := List.take_left
  have h6 : (h ++ (x ++ r)).take 8 = h := List.take_left' h8
  unfold firstD
  rw [h1, h2, h3, h4, val_be8 _ (by omega), h5, h6, if_neg (by omega), if_neg (by omega)]
/-- A row read by a tape. -/
def rwN (t : List UInt8) : Nat := moO 1048576 (t, 0)
def rw1 (t : List UInt8) : Rds := moS 1048576 (t, 0)
def rw2 (t : List UInt8) : Rds := tkS 8 (rw1 t)
def rw3 (t : List UInt8) : Rds := tkS (rwN t) (rw2 t)
def rwX (t : List UInt8) : List UInt8 := tkO (rwN t) (rw2 t)
theorem rw_yes {t : List UInt8} (h : (rw3 t).2 = 0) : ∃ z, z.length = 8 ∧ (rwX t).length ≤ 1048576 ∧ t = be8 (rwX t).length ++ (z ++ (rwX t ++ (rw3 t).1)) := by
  obtain ⟨h1, h2, h3⟩ := tk_yes h
  obtain ⟨g1, g2, g3⟩ := tk_yes h1
  obtain ⟨_, k2, k3, k4⟩ := mo_yes g1
  refine ⟨tkO 8 (rw1 t), g2, ?_, ?_⟩
  · show (tkO (rwN t) (rw2 t)).length ≤ _
    rw [h2]
    exact k3
  · show t = be8 (tkO (rwN t) (rw2 t)).length ++ _
    rw [h2]
    have e1 : t = be8 (rwN t) ++ (rw1 t).1 := k4
    have e2 : (rw1 t).1 = tkO 8 (rw1 t) ++ (rw2 t).1 := g3
    have e3 : (rw2 t).1 = rwX t ++ (rw3 t).1 := h3
    rw [← e3, ← e2]
    exact e1
theorem rw_no {i : Nat} {t : List UInt8} (h : (rw3 t).2 ≠ 0) : firstD i t = none := by
  cases hf : firstD i t with
  | none => rfl
  | some x =>
    exfalso
    obtain ⟨h1, _, h3⟩ := firstD_some hf
    generalize t.drop (16 + x.length) = r at h3
    have e : t = be8 x.length ++ (sumD i x ++ (x ++ r)) := by rw [h3]; unfold rowD; rw [List.append_assoc, List.append_assoc]
    subst e
    obtain ⟨m1, m2⟩ := mo_fwd (m := 1048576) (r := sumD i x ++ (x ++ r)) h1 (by decide)
    obtain ⟨_, m4⟩ := tk_fwd (k := 8) (x := sumD i x) (r := x ++ r) (sumD_len i x)
    obtain ⟨_, m6⟩ := tk_fwd (k := x.length) (x := x) (r := r) rfl
    apply h
    unfold rw3 rw2 rw1 rwN
    rw [m1, m2, m4, m6]
set_option maxRecDepth 100000 in
set_option maxHeartbeats 1000000 in
theorem rfsays_S {A : Option Addr} {c : Nat} (B : List UInt8) (hb : B.length ≤ 1073741824) : Spec 15 [.slice A B.length c] [] (Rd 1 eB A c B)
    { ret := fun x : SgX (saysD B) => .t [.c (.v (.slice x.A x.ss.length x.c)), .c (.v (.int .i64 ((logD 0 (saysD B)).length : Int)))], own := fun x => [SgO x.A x.c x.ss], n := fun x w => ∀ s ∈ x.ss, s.rd w } := by
  refine spec_S [.c (.v (.slice A B.length c))] 53 Tryd.func15 rfl (by rw [Tryd.ntmps15]; rfl) (one_ok trivial) fun b => ?_
  refine s_pure (B.length ≤ c ∧ (A = none → c = 0)) (fun w hw _ => ⟨hw.1, hw.2.2.1⟩) fun ⟨hlc, hA⟩ => ?_
  refine s_auto TY_ok rfl ?_
  refine s_nil0 0 33 1 eSeg ?_
  refine s_auto TY_ok rfl ?_
  refine s_auto TY_ok rfl ?_
  refine s_block ?_
  let V : Option Addr × Nat × List Seg × Nat → Env := fun s => ⟨[(5, .v (.int .i64 (s.2.2.2 : Int))), (4, .v (.slice s.1 s.2.2.1.length s.2.1)), (0, .v (.slice A B.length c))], [], [SgO s.1 s.2.1 s.2.2.1], Rd 1 eB A c B, fun w => ∀ x ∈ s.2.2.1, x.rd w⟩
  refine c_weak (e' := V (none, 0, [], 0)) ⟨⟨rfl, rfl, rfl, trivial⟩, trivial, .refl _, fun _ h _ => h, fun _ _ _ h => by cases h⟩ (s_loop (fun s => B.length - s.2.2.2) V (fun s => (∀ x ∈ s.2.2.1, x.l.length ≤ 1048576) ∧ (logD 0 (s.2.2.1.map Seg.l)).length = s.2.2.2 ∧ ∃ t, B = logD 0 (s.2.2.1.map Seg.l) ++ t) ?_ (none, 0, [], 0) ⟨fun _ h => (by cases h), rfl, B, rfl⟩)
  rintro ⟨P, pc, ss, e⟩ ⟨hsm, he, t, ht⟩
  dsimp only at hsm ht he
  have hBl : B.length = e + t.length := by rw [ht, List.length_append, he]
  have hdr : B.drop e = t := by rw [ht]; exact List.drop_left' he
  have hss : ss.length ≤ e := by rw [← he]; have := logD_ge 0 (ss.map Seg.l); rwa [List.length_map] at this
  have hend : firstD ss.length t = none → saysD B = ss.map Seg.l := fun hfi => saysD_of _ t ht (fun x hx => by
    obtain ⟨s, h1, rfl⟩ := List.mem_map.1 hx
    exact hsm s h1) (by rw [List.length_map]; exact hfi)
  refine s_block ?_
  refine s_regA TY_ok rfl fun K1 hK1 => ?_
  refine s_end (k_give 6 rfl (E' := [(5, .v (.int .i64 (e : Int))), (4, .v (.slice P ss.length pc)), (0, .v (.slice A B.length c))]) ⟨rfl, rfl, rfl, trivial⟩ fun g => hK1 _ ?_)
  refine s_regA TY_ok rfl fun K2 hK2 => ?_
  refine l_callA (own := [TapS g A c B e 0]) (R' := [SgO P pc ss]) [ptr g, .int .u64 ((1048576 : Nat) : Int)] rfl rfl rfl own_tupto rfl rfl (fun _ _ => rfl) (tupto_S g (t, 0) 1048576 (by decide) (by omega) hdr) (fun _ h _ => h) fun p1 => ?_
  refine l_pure (p1 ≤ B.length ∧ B.drop p1 = (rw1 t).1) (fun w h _ => h.1) fun ⟨q1, q2⟩ => ?_
  refine l_R [TapS g A c B p1 (rw1 t).2, SgO P pc ss] rfl ?_
  refine l_autoS TY_ok rfl ?_
  refine s_end (hK2 _ ?_)
  refine s_regA TY_ok rfl fun K3 hK3 => ?_
  refine l_callA (own := [TapS g A c B p1 (rw1 t).2]) (R' := [SgO P pc ss]) [ptr g, .int .i64 ((8 : Nat) : Int)] rfl rfl rfl own_ttake rfl rfl (fun _ _ => rfl) (ttake_S g (rw1 t) 8 q1 q2) (fun _ h _ => h.2) fun ⟨A2, c2, p2⟩ => ?_
  refine l_pure (p2 ≤ B.length ∧ B.drop p2 = (rw2 t).1) (fun w h _ => h.1.1) fun ⟨q3, q4⟩ => ?_
  refine l_R [TapS g A c B p2 (rw2 t).2, SgO P pc ss] rfl ?_
  refine s_end (hK3 _ ?_)
  refine s_regA TY_ok rfl fun K4 hK4 => ?_
  refine l_callA (own := [TapS g A c B p2 (rw2 t).2]) (R' := [SgO P pc ss]) [ptr g, .int .i64 (rwN t : Int)] rfl rfl rfl own_ttake rfl rfl (fun _ _ => rfl) (ttake_S g (rw2 t) (rwN t) q3 q4) (fun _ h _ => h.2.2) fun ⟨A3, c3, p3⟩ => ?_
  refine l_pure (p3 ≤ B.length ∧ B.drop p3 = (rw3 t).1) (fun w h _ => h.1.1) fun ⟨q5, q6⟩ => ?_
  refine l_R [TapS g A c B p3 (rw3 t).2, SgO P pc ss] rfl ?_
  refine l_eq 19 (.v (.slice A3 (rwX t).length c3)) rfl rfl ?_
  refine l_autoS TY_ok rfl ?_
  refine s_end (hK4 _ ?_)
  refine s_seq fun K5 hK5 => ?_
  have stop : ∀ {E : SE} {F M : World → Prop}, (∀ w, M w → ∀ s ∈ ss, s.rd w) → firstD ss.length t = none → lookS E 2 = some (.v (.slice P ss.length pc)) → lookS E 3 = some (.v (.int .i64 (e : Int))) → kS b (bodyPost Tryd.prog Tryd.f15 (endS b { ret := fun x : SgX (saysD B) => .t [.c (.v (.slice x.A x.ss.length x.c)), .c (.v (.int .i64 ((logD 0 (saysD B)).length : Int)))], own := fun x => [SgO x.A x.c x.ss], n := fun x w => ∀ s ∈ x.ss, s.rd w }) .ret) 53 ⟨E, [], [TapS g A c B p3 (rw3 t).2, SgO P pc ss], F, M⟩ := by
    intro E F M hM hfi h2 h3
    refine k_weak (e' := ⟨[(2, .v (.slice P ss.length pc)), (3, .v (.int .i64 (e : Int)))], [], [TapS g A c B p3 (rw3 t).2, SgO P pc ss], F, M⟩) ⟨⟨h2, h3, trivial⟩, trivial, .refl _, fun _ h _ => h, fun _ h => h⟩ (k_drop 0 rfl ?_)
    have hsay := hend hfi
    exact k_ret TY_ok ⟨P, pc, ss, hsay.symm⟩ rfl (by decide) rfl (congrArg (fun n : Nat => RV.t [SQ.c (SC.v (.slice P ss.length pc)), SQ.c (SC.v (.int .i64 (n : Int)))]) (show (logD 0 (saysD B)).length = e by rw [hsay, he])) rfl (fun _ _ _ => trivial) hM
  by_cases h3 : (rw3 t).2 = 0
  · obtain ⟨z, hz8, hxl, hte⟩ := rw_yes h3
    obtain ⟨x, hx⟩ : ∃ x, rwX t = x := ⟨_, rfl⟩
    obtain ⟨r, hr⟩ : ∃ r, (rw3 t).1 = r := ⟨_, rfl⟩
    have htl : t.length = 16 + x.length + r.length := by
      have := congrArg List.length hte
      rw [hx, hr, List.length_append, List.length_append, List.length_append, be8_len, hz8] at this
      omega
    have hp3 : p3 = e + (16 + x.length) := by
      have := congrArg List.length q6
      rw [hr, List.length_drop] at this
      omega
    rw [hx] at hxl
    obtain ⟨y, hy⟩ : ∃ y, be8 x.length ++ (z ++ x) = y := ⟨_, rfl⟩
    have hyl : y.length = p3 - e := by rw [← hy, List.length_append, List.length_append, be8_len, hz8]; omega
    have hyt : t.take (16 + x.length) = y := by
      rw [hte, hx, hr, ← List.append_assoc z, ← List.append_assoc, hy]
      exact List.take_left' (by omega)
    have hry : ∀ w, Rd 1 eB A c B w → Rd 1 eB (cutA A c e) (c - e) y w := fun w h => by rw [← hyt, ← hdr]; exact (h.part (by omega)).take _
    have hfd : firstD ss.length t = if rowD ss.length x = y then some x else none := by
      conv => lhs; rw [hte, hx, hr]
      rw [row_split hz8 hxl]
      have hiff : z = sumD ss.length x ↔ rowD ss.length x = y := by
        rw [← hy]
        unfold rowD
        constructor
        · rintro rfl
          rfl
        · intro h
          exact (List.append_cancel_right (List.append_cancel_left h)).symm
      by_cases hq : z = sumD ss.length x
      · rw [if_pos hq, if_pos (hiff.1 hq)]
      · rw [if_neg hq, if_neg fun h => hq (hiff.2 h)]
    rw [hx]
    refine s_regH 21 (by decide) (by kernel_rfl) (by kernel_rfl) fun K6 hK6 G S w0 hst => ?_
    refine h_auto TY_ok hst rfl ?_
    refine g_ldO TY_ok hst rfl rfl rfl rfl rfl rfl (obj_own 0 rfl) ?_
    refine h_auto (Fa := []) TY_ok hst rfl ?_
    refine h_is 25 false rfl (decide_eq_false (by omega)) ?_
    refine h_auto TY_ok hst rfl ?_
    refine h_callE (F' := Rd 1 eB A3 c3 x) hst [.int .i64 (ss.length : Int), .slice A3 x.length c3] rfl rfl rfl rfl own_rfrow rfl rfl (fun _ => rfl) (rfrow_S ss.length x (by omega) (by omega)) (fun w hv _ => by rw [← hx]; exact hv.fact.1.2) fun v _ => ?_
    refine h_auto TY_ok hst rfl ?_
    refine h_strU (rowD ss.length x) hst rfl rfl rfl rfl rfl rfl (fun w hv hu => tellP_rd (hu 9 _ rfl (by kernel_rfl))) ?_
    refine h_auto TY_ok hst rfl ?_
    refine h_opV hst (.v (.int .i64 (p3 : Int))) trivial rfl rfl rfl rfl (fun G S a w ha hv => (load_obj (q := .c (.v (.int .i64 (p3 : Int)))) TY_ok rfl rfl rfl ha (obj_own 0 rfl G S w hv)).2) ?_
    refine h_auto TY_ok hst rfl ?_
    refine h_op hst (.v (.slice (cutA A c e) y.length (c - e))) trivial rfl rfl rfl rfl (by rw [hyl]; exact run_cut2 (by omega) (by omega) hA rfl rfl rfl rfl) ?_
    refine h_auto TY_ok hst rfl ?_
    refine h_strU y hst rfl rfl rfl rfl rfl rfl (fun w hv _ => hry w hv.fact.2.2.2) ?_
    refine h_auto TY_ok hst rfl ?_
    refine h_op hst (.b (!decide (rowD ss.length x = y))) trivial rfl rfl rfl rfl (run_neqS rfl rfl rfl) ?_
    refine h_auto TY_ok hst rfl ?_
    refine h_end hst ?_
    refine s_end (hK6 _ ?_)
    refine s_if (!decide (rowD ss.length x = y)) rfl (fun hne => ?_) (fun heq => ?_)
    · have hne : ¬ rowD ss.length x = y := by simpa using hne
      rw [if_neg hne] at hfd
      refine s_auto TY_ok rfl ?_
      exact s_ret (stop (fun w hM => hM.2.2.2) hfd rfl rfl)
    · have heq : rowD ss.length x = y := by simpa using heq
      rw [if_pos heq] at hfd
      refine s_skip (hK5 _ ?_)
      refine s_regA TY_ok rfl fun K7 hK7 => ?_
      refine l_list0 (e := 5) (sz := 1) b.B.heap.size eB rfl rfl rfl rfl (Nat.le_refl _) (fun w => by go_simp) fun A4 => ?_
      refine l_autoS TY_ok rfl ?_
      refine l_appY TY_ok 0 x rfl rfl rfl rfl rfl rfl rfl rfl rfl (rd_fact fun w h _ => by rw [← hx]; exact h.1.2) (by decide) (by show (0 + x.length) * 1 ≤ _; omega) (by show 0 + x.length ≤ _; omega) (Nat.le_refl _) fun A5 c5 => ?_
      refine l_freeM 0 rfl (Nat.le_refl _) ?_
      refine l_push TY_ok 1 (⟨A5, c5, x⟩ : Seg) (fe := eSeg) rfl rfl rfl rfl rfl rfl rfl (eSeg_ok _) (by decide) (by decide) (by show (ss.length + 1) * 24 ≤ _; omega) (by show ss.length < _; omega) (Nat.zero_le _) fun P2 pc2 => ?_
      refine l_autoS TY_ok rfl ?_
      refine s_end (hK7 _ ?_)
      refine s_lit ?_
      refine l_autoS TY_ok rfl ?_
      refine l_ldO TY_ok rfl rfl rfl rfl rfl rfl (obj_own 0 rfl) ?_
      refine l_autoS TY_ok rfl ?_
      refine s_end (k_drop 0 rfl ?_)
      have hmap : (ss ++ [⟨A5, c5, x⟩] : List Seg).map Seg.l = ss.map Seg.l ++ [x] := by simp
      have hlog : logD 0 (ss.map Seg.l ++ [x]) = logD 0 (ss.map Seg.l) ++ rowD ss.length x := by rw [logD_app, Nat.zero_add, List.length_map, logD_one]
      refine k_next (P2, pc2, ss ++ [⟨A5, c5, x⟩], p3) ⟨fun s hs => ?_, ?_, r, ?_⟩ (by show B.length - p3 < B.length - e; omega) ⟨⟨rfl, rfl, rfl, trivial⟩, trivial, .refl _, fun _ h _ => h.2.2.2, fun w h s hs => ?_⟩
      · rcases List.mem_append.1 hs with hs | hs
        · exact hsm s hs
        · rw [List.mem_singleton.1 hs]
          exact hxl
      · dsimp only
        rw [hmap, hlog, List.length_append, he, rowD_len, hp3]
      · dsimp only
        rw [hmap, hlog, heq, List.append_assoc, ← hy, List.append_assoc, List.append_assoc]
        rw [hx, hr] at hte
        rw [← hte]
        exact ht
      · rcases List.mem_append.1 hs with hs | hs
        · exact h.2.2.2.2 s hs
        · rw [List.mem_singleton.1 hs]
          exact h.1
  · refine s_regH 21 (by decide) (by kernel_rfl) (by kernel_rfl) fun K6 hK6 G S w0 hst => ?_
    refine h_auto TY_ok hst rfl ?_
    refine g_ldO TY_ok hst rfl rfl rfl rfl rfl rfl (obj_own 0 rfl) ?_
    refine h_auto (Fa := []) TY_ok hst rfl ?_
    refine h_is 25 true rfl (decide_eq_true (by omega)) ?_
    refine h_auto TY_ok hst rfl ?_
    refine h_end hst ?_
    refine s_end (hK6 _ ?_)
    refine s_yes rfl ?_
    refine s_auto TY_ok rfl ?_
    exact s_ret (stop (fun w hM => hM.2.2.2) (rw_no h3) rfl rfl)
end Go.Proofs.YtcbfalfkdnfelaaDoor
/-
  STRINGS: joined, cut, how long.
-/
namespace Go.Proofs.YtcbfalfkdnfelaaDoor
open Go.RowKit Go.IntWalk

end Go.Proofs.YtcbfalfkdnfelaaDoor
/-
  LOGS, told: what only reads.
-/
namespace Go.Proofs.YtcbfalfkdnfelaaDoor
open Go.RowKit Go.IntWalk Nums

set_option maxRecDepth 100000 in
theorem wlen_T (h gd : Nat) (A : Option Addr) (n c : Nat) (dn : Bool) : Spec 18 [pD h] [] (ObjF h 53 (lgP gd A n c dn)) (one (.v (.int .i64 (n : Int)))) := by
  refine spec_S [.c (.v (pD h))] 10 Tryd.func18 rfl (by rw [Tryd.ntmps18]; rfl) (one_ok trivial) fun b => ?_
  refine s_auto TY_ok rfl ?_
  refine s_seq fun K hK => ?_
  refine s_auto TY_ok rfl ?_
  refine s_no rfl ?_
  refine s_skip (hK _ ?_)
  refine s_regA TY_ok rfl fun K1 hK1 => ?_
  refine l_ldO TY_ok rfl rfl rfl rfl rfl rfl (obj_fact fun _ h _ => h) ?_
  refine l_autoS TY_ok rfl ?_
  refine s_end (hK1 _ ?_)
  exact s_ret (k_ret TY_ok () rfl (by decide) rfl rfl rfl (fun _ _ _ => trivial) (fun _ _ => trivial))
set_option maxRecDepth 100000 in
theorem wdown_T (h gd : Nat) (A : Option Addr) (n c : Nat) (dn : Bool) : Spec 19 [pD h] [] (ObjF h 53 (lgP gd A n c dn)) (one (.v (.bool dn))) := by
  refine spec_S [.c (.v (pD h))] 11 Tryd.func19 rfl (by rw [Tryd.ntmps19]; rfl) (one_ok trivial) fun b => ?_
  refine s_auto TY_ok rfl ?_
  refine s_regA TY_ok rfl fun K1 hK1 => ?_
  refine l_ldO TY_ok rfl rfl rfl rfl rfl rfl (obj_fact fun _ h _ => h) ?_
  refine l_autoS TY_ok rfl ?_
  refine s_end (hK1 _ ?_)
  exact s_ret (k_ret TY_ok () rfl (by decide) rfl rfl rfl (fun _ _ _ => trivial) (fun _ _ => trivial))
set_option maxRecDepth 100000 in
set_option maxHeartbeats 1000000 in
theorem wrows_T (h g : Nat) (P : Option Addr) (pc : Nat) (ss : List Seg) (dn : Bool) (hss : ss.length ≤ 1073741824) (hl : ∀ x ∈ ss, x.l.length ≤ 1048576) :
    Spec 16 [pD h] [] (fun w => ObjF h 53 (lgP g P ss.length pc dn) w ∧ Rd 1 eSeg P pc ss w ∧ ∀ x ∈ ss, x.rd w)
    { ret := fun x : SgX (ss.map Seg.l) => .v (.slice x.A x.ss.length x.c), p := fun x w => Rd 1 eSeg x.A x.c x.ss w ∧ ∀ s ∈ x.ss, s.rd w } := by
  refine spec_S [.c (.v (pD h))] 32 Tryd.func16 rfl (by rw [Tryd.ntmps16]; rfl) (one_ok trivial) fun b => ?_
  refine s_auto TY_ok rfl ?_
  refine s_seq fun K hK => ?_
  refine s_auto TY_ok rfl ?_
  refine s_no rfl ?_
  refine s_skip (hK _ ?_)
  refine s_regA TY_ok rfl fun K1 hK1 => ?_
  refine l_ldO TY_ok rfl rfl rfl rfl rfl rfl (obj_fact fun _ h _ => h.1) ?_
  refine l_autoS TY_ok rfl ?_
  refine l_makeS TY_ok 0 ss.length (⟨none, 0, []⟩ : Seg) (fe := eSeg) rfl rfl rfl rfl rfl rfl rfl rfl (eSeg_ok _) (by show 24 * ss.length ≤ _; omega) (by omega) (Nat.zero_le _) fun A1 => ?_
  refine l_autoS TY_ok rfl ?_
  refine s_end (hK1 _ ?_)
  refine s_seq fun K2 hK2 => ?_
  refine s_regA TY_ok rfl fun K3 hK3 => ?_
  refine l_ldO TY_ok rfl rfl rfl rfl rfl rfl (obj_fact fun _ h _ => h.1) ?_
  refine l_autoS TY_ok rfl ?_
  refine s_end (hK3 _ ?_)
  refine s_block ?_
  let V : List Seg → Env := fun ms => ⟨[(19, .v (.int .i64 (ms.length : Int))), (18, .v (.int .i64 (ss.length : Int))), (17, .v (.slice P ss.length pc)), (3, .v (.slice A1 ss.length ss.length))], [], [SgO A1 ss.length (ms ++ List.replicate (ss.length - ms.length) ⟨none, 0, []⟩)], fun w => Rd 1 eSeg P pc ss w ∧ ∀ x ∈ ss, x.rd w, fun w => ∀ x ∈ ms, x.rd w⟩
  refine c_weak (e' := V []) ⟨⟨rfl, rfl, rfl, rfl, trivial⟩, trivial, .refl _, fun _ h _ => h.2, fun _ _ _ h => by cases h⟩ (s_loop (fun ms => ss.length - ms.length) V (fun ms => ms.length ≤ ss.length ∧ ms.map Seg.l = (ss.take ms.length).map Seg.l) ?_ [] ⟨Nat.zero_le _, rfl⟩)
  intro ms ⟨hi, hml⟩
  refine s_auto TY_ok rfl ?_
  refine s_seq fun K5 hK5 => ?_
  refine s_ifD ((ms.length : Int) < (ss.length : Int)) rfl (fun hlt => ?_) (fun hge => ?_)
  · have hlt : ms.length < ss.length := by omega
    obtain ⟨x, hx⟩ : ∃ x, ss[ms.length]? = some x := ⟨_, List.getElem?_eq_getElem hlt⟩
    have hxm := List.mem_of_getElem? hx
    have hxl := hl x hxm
    refine s_skip (hK5 _ ?_)
    refine s_seq fun K6 hK6 => ?_
    refine s_block ?_
    refine s_regA TY_ok rfl fun K7 hK7 => ?_
    refine l_elem TY_ok rfl rfl rfl ms.length rfl hx rfl rfl (rd_fact fun _ h _ => h.1) ?_
    refine l_autoS TY_ok rfl ?_
    refine s_end (hK7 _ ?_)
    refine s_lit ?_
    refine l_autoS TY_ok rfl ?_
    refine l_list TY_ok b.B.heap.size [x] (fe := eSeg) rfl rfl rfl rfl rfl (fun _ => rfl) rfl (by decide) (by decide) (okF_seg _) (Nat.le_refl _) fun P1 => ?_
    refine l_free 0 rfl ?_
    have e0 : (List.map Seg.l [x]).flatten = x.l := by simp
    have hj := join_S (A := P1) (c := 1) [x] (by rw [e0]; omega)
    rw [e0] at hj
    refine l_call0 [.slice P1 1 1] rfl rfl rfl own_join rfl rfl (fun _ _ => rfl) hj (fun w hF _ => ⟨hF.1, fun s hs => by rw [List.mem_singleton.1 hs]; exact hF.2.2 x hxm⟩) fun g2 => ?_
    refine l_place TY_ok 0 (⟨some ⟨g2, 0, none⟩, x.l.length, x.l⟩ : Seg) ms.length (l := ms ++ List.replicate (ss.length - ms.length) ⟨none, 0, []⟩) rfl rfl rfl rfl rfl rfl (by rw [List.length_append, List.length_replicate]; show ss.length = _; omega) rfl (by rw [List.length_append, List.length_replicate]; omega) (eSeg_ok _) ?_
    refine s_end (hK6 _ ?_)
    refine s_autoE TY_ok rfl ?_
    have hln : ∀ y : Seg, (ms ++ [y]).length = ms.length + 1 := fun y => by rw [List.length_append]; rfl
    refine k_next (ms ++ [⟨some ⟨g2, 0, none⟩, x.l.length, x.l⟩]) ⟨by rw [hln]; exact hlt, ?_⟩ (by rw [hln]; omega) ⟨⟨?_, rfl, rfl, rfl, trivial⟩, trivial, ?_, fun _ h _ => h.2.2, fun w h y hy => ?_⟩
    · rw [hln, List.take_add_one, hx, List.map_append, List.map_append, hml]
      rfl
    · rw [hln]
      exact congrArg some (congrArg SV.v (congrArg (Value.int .i64) (wrapI (by omega) (by omega) (by omega))))
    · show List.Perm [OwnS _ _ _ _ _ _ ((ms ++ List.replicate (ss.length - ms.length) (⟨none, 0, []⟩ : Seg)).set ms.length _)] _
      rw [set_next _ _ _ hlt]
      exact .refl _
    · rcases List.mem_append.1 hy with hy | hy
      · exact h.2 y hy
      · rw [List.mem_singleton.1 hy]
        exact h.1
  · have hge : ms.length = ss.length := by omega
    rw [hge, List.take_length] at hml
    refine s_exit (k_pass (k_pass (k_out ?_)))
    refine k_permR [SgO A1 ss.length ms] (by rw [hge, Nat.sub_self, List.replicate_zero, List.append_nil]) (hK2 _ ?_)
    refine s_free 0 rfl ?_
    refine s_regA TY_ok rfl fun K8 hK8 => ?_
    refine s_end (hK8 _ ?_)
    exact s_ret (k_ret TY_ok ⟨A1, ss.length, ms, hml⟩ rfl (by decide) rfl (by dsimp only; rw [hge]; rfl) rfl (fun _ h hM => ⟨h.1, hM⟩) (fun _ _ => trivial))
end Go.Proofs.YtcbfalfkdnfelaaDoor
