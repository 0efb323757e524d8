/-
  SEVERAL TEXTS IN ONE: Ng, Wu, Wv, Ww, Nh.
-/
import Derived.Test.YtoecohpcnojokaaDoorMk
/-
  THE PROGRAM'S PARTS, read: the reader, its steps.
-/
namespace Go.Proofs.YtoecohpcnojokaaDoor
open Go.RowKit Go.IntWalk Nums

/-- A reader: where what is left lies, its room, it; the fault. -/
structure RSw where
  A : Option Addr
  c : Nat
  l : List UInt8
  e : Nat
namespace RSw
def ps (s : RSw) : List Pt := [.one (.v (.slice s.A s.l.length s.c)), .one (.v (.int .i64 (s.e : Int)))]
def rd (s : RSw) (w : World) : Prop := Rd 1 eB s.A s.c s.l w
instance {s : RSw} : Pst s.rd := ⟨fun _ _ h hb => Rd.later h hb⟩
def fail (s : RSw) (x : Nat) : RSw := ⟨s.A, s.c, s.l, if s.e = 0 then x else s.e⟩
def cut (s : RSw) (n : Nat) : RSw := ⟨cutA s.A s.c n, s.c - n, s.l.drop n, s.e⟩
theorem rd_cut {s : RSw} {n : Nat} {w : World} (h : s.rd w) (hn : n ≤ s.l.length) : (s.cut n).rd w := Rd.part h hn
theorem fail_e {s : RSw} {x : Nat} (h : s.e ≠ 0) : s.fail x = s := by
  unfold fail
  rw [if_neg h]
theorem fail_0 {s : RSw} {x : Nat} (h : s.e = 0) : s.fail x = ⟨s.A, s.c, s.l, x⟩ := by
  unfold fail
  rw [if_pos h]
end RSw
abbrev RdQ (g : Nat) (s : RSw) : Res := ObjS g 73 s.ps
abbrev ptV (g : Nat) : Value := .pointer (some ⟨g, 0, none⟩)
theorem own_wfails : Own 34 := fun _ _ => by go_simp
theorem own_wtake : Own 61 := fun _ _ => by go_simp
theorem own_wkind : Own 48 := fun _ _ => by go_simp
theorem own_whash : Own 51 := fun _ _ => by go_simp
set_option maxRecDepth 100000 in
set_option maxHeartbeats 1000000 in
theorem wfails_S (g : Nat) (s : RSw) (x : Nat) : Spec 34 [ptV g, .int .i64 (x : Int)] [RdQ g s] (fun _ => True) { ret := fun _ : Unit => .t [], own := fun _ => [RdQ g (s.fail x)] } := by
  refine spec_S [.c (.v (ptV g)), .c (.v (.int .i64 (x : Int)))] 13 Tryd.func34 rfl (by rw [Tryd.ntmps34]; rfl) (two_ok trivial trivial) fun b => ?_
  refine s_regA TY_ok rfl fun K hK => ?_
  refine l_ldO TY_ok rfl rfl rfl rfl rfl rfl (obj_own 0 rfl) ?_
  refine l_autoS TY_ok rfl ?_
  refine s_end (hK _ ?_)
  refine s_ifD ((s.e : Int) = 0) rfl (fun h0 => ?_) (fun h0 => ?_)
  · refine s_lit ?_
    refine l_autoS TY_ok rfl ?_
    refine l_stO TY_ok 0 rfl rfl rfl rfl rfl rfl rfl ?_
    exact s_end (k_ret TY_ok () rfl (by decide) rfl rfl (by rw [RSw.fail_0 (by omega)]; rfl) (fun _ _ _ => trivial) (fun _ _ => trivial))
  · exact s_skip (k_ret TY_ok () rfl (by decide) rfl rfl (by rw [RSw.fail_e (by omega)]) (fun _ _ _ => trivial) (fun _ _ => trivial))
/-- So many bytes may be taken. -/
def RSw.can (s : RSw) (n : Nat) : Prop := s.e = 0 ∧ n ≤ s.l.length
set_option maxRecDepth 100000 in
set_option maxHeartbeats 1000000 in
theorem wtake_yes (g : Nat) (s : RSw) (n : Nat) (h : s.can n) : Spec 61 [ptV g, .int .i64 (n : Int)] [RdQ g s] s.rd { ret := fun _ : Unit => .v (.slice s.A n s.c), own := fun _ => [RdQ g (s.cut n)] } := by
  obtain ⟨A, c, l, e⟩ := s
  obtain ⟨he, hn⟩ := h
  dsimp only at he hn
  subst he
  refine spec_S [.c (.v (ptV g)), .c (.v (.int .i64 (n : Int)))] 36 Tryd.func61 rfl (by rw [Tryd.ntmps61]; rfl) (two_ok trivial trivial) fun b => ?_
  refine s_pure (l.length ≤ c ∧ (A = none → c = 0)) (fun w hw _ => ⟨hw.1, hw.2.2.1⟩) fun ⟨hlc, hA⟩ => ?_
  refine s_auto TY_ok rfl ?_
  refine s_seq fun K hK => ?_
  refine s_regA TY_ok rfl fun K1 hK1 => ?_
  refine l_ldO TY_ok rfl rfl rfl rfl rfl rfl (obj_own 0 rfl) ?_
  refine l_autoS TY_ok rfl ?_
  refine s_end (hK1 _ ?_)
  refine s_ifD ((l.length : Int) < (n : Int)) rfl (fun h0 => absurd h0 (by omega)) (fun _ => ?_)
  refine s_skip (hK _ ?_)
  refine s_seq fun K2 hK2 => ?_
  refine s_regA TY_ok rfl fun K3 hK3 => ?_
  refine l_ldO TY_ok rfl rfl rfl rfl rfl rfl (obj_own 0 rfl) ?_
  refine l_autoS TY_ok rfl ?_
  refine s_end (hK3 _ ?_)
  refine s_ifD (((0 : Nat) : Int) ≠ 0) rfl (fun h0 => absurd rfl h0) (fun _ => ?_)
  refine s_skip (hK2 _ ?_)
  refine s_regA TY_ok rfl fun K4 hK4 => ?_
  refine l_ldO TY_ok rfl rfl rfl rfl rfl rfl (obj_own 0 rfl) ?_
  refine l_autoS TY_ok rfl ?_
  refine l_op (.v (.slice A n c)) trivial rfl rfl rfl (run_cutHi (sz := 1) (by kernel_rfl) (by omega) hA rfl Tryd.underlying35 rfl rfl) ?_
  refine l_autoS TY_ok rfl ?_
  refine s_end (hK4 _ ?_)
  refine s_regA TY_ok rfl fun K5 hK5 => ?_
  refine l_ldO TY_ok rfl rfl rfl rfl rfl rfl (obj_own 0 rfl) ?_
  refine l_autoS TY_ok rfl ?_
  refine l_op (.v (.slice (cutA A c n) (l.length - n) (c - n))) trivial rfl rfl rfl (run_cutLo hn hlc hA rfl rfl rfl) ?_
  refine l_autoS TY_ok rfl ?_
  refine l_stO TY_ok 0 rfl rfl rfl rfl rfl rfl rfl ?_
  refine s_end (hK5 _ ?_)
  refine s_auto TY_ok rfl ?_
  exact s_ret (k_ret TY_ok () rfl (by decide) rfl rfl (by show [ObjS g _ [.one (.v (.slice (cutA A c n) (l.drop n).length (c - n))), _]] = _; rw [List.length_drop]; rfl) (fun _ _ _ => trivial) (fun _ _ => trivial))
set_option maxRecDepth 100000 in
set_option maxHeartbeats 1000000 in
theorem wtake_no (g : Nat) (s : RSw) (n : Nat) (h : ¬ s.can n) : Spec 61 [ptV g, .int .i64 (n : Int)] [RdQ g s] (fun _ => True) { ret := fun _ : Unit => .v (.slice none 0 0), own := fun _ => [RdQ g (s.fail 10)] } := by
  refine spec_S [.c (.v (ptV g)), .c (.v (.int .i64 (n : Int)))] 36 Tryd.func61 rfl (by rw [Tryd.ntmps61]; rfl) (two_ok trivial trivial) fun b => ?_
  refine s_auto TY_ok rfl ?_
  refine s_seq fun K hK => ?_
  refine s_regA TY_ok rfl fun K1 hK1 => ?_
  refine l_ldO TY_ok rfl rfl rfl rfl rfl rfl (obj_own 0 rfl) ?_
  refine l_autoS TY_ok rfl ?_
  refine s_end (hK1 _ ?_)
  have hne : (s.fail 10).e ≠ 0 := by
    show (if s.e = 0 then 10 else s.e) ≠ 0
    split
    · decide
    · assumption
  have hrest : ∀ en, Weak en ⟨[(0, .v (ptV g)), (4, .v (.slice none 0 0))], [], [RdQ g (s.fail 10)], fun _ => True, fun _ => True⟩ → kS b K 36 en := by
    intro en hw
    refine k_weak hw (hK _ ?_)
    refine s_seq fun K2 hK2 => ?_
    refine s_regA TY_ok rfl fun K3 hK3 => ?_
    refine l_ldO TY_ok rfl rfl rfl rfl rfl rfl (obj_own 0 rfl) ?_
    refine l_autoS TY_ok rfl ?_
    refine s_end (hK3 _ ?_)
    refine s_ifD (((s.fail 10).e : Int) ≠ 0) rfl (fun h0 => ?_) (fun h0 => absurd (by omega) h0)
    refine s_auto TY_ok rfl ?_
    exact s_ret (k_ret TY_ok () rfl (by decide) rfl rfl rfl (fun _ _ _ => trivial) (fun _ _ => trivial))
  refine s_ifD ((s.l.length : Int) < (n : Int)) rfl (fun h0 => ?_) (fun h0 => ?_)
  · refine s_lit ?_
    refine l_autoS TY_ok rfl ?_
    refine l_R ([RdQ g s] ++ []) rfl ?_
    refine l_callA [ptV g, .int .i64 10] rfl rfl rfl own_wfails rfl rfl (fun _ _ => rfl) (wfails_S g s 10) (fun _ _ _ => trivial) fun _ => ?_
    exact s_end (hrest _ ⟨⟨rfl, rfl, trivial⟩, trivial, .refl _, fun _ _ _ => trivial, fun _ _ => trivial⟩)
  · have he : s.e ≠ 0 := fun e => h ⟨e, by omega⟩
    exact s_skip (hrest _ ⟨⟨rfl, rfl, trivial⟩, trivial, by rw [RSw.fail_e he], fun _ _ _ => trivial, fun _ _ => trivial⟩)
theorem RSw.can_cons {s : RSw} (h : s.can 1) : ∃ x r, s.l = x :: r := by
  obtain ⟨_, h⟩ := h
  cases hl : s.l with
  | nil => rw [hl] at h; exact absurd h (by decide)
  | cons x r => exact ⟨x, r, rfl⟩
set_option maxRecDepth 100000 in
set_option maxHeartbeats 1000000 in
theorem wkind_yes (g : Nat) (s : RSw) {x : UInt8} {r : List UInt8} (h : s.can 1) (hx : s.l = x :: r) : Spec 48 [ptV g] [RdQ g s] s.rd { ret := fun _ : Unit => .v (.int .u8 (x.toNat : Int)), own := fun _ => [RdQ g (s.cut 1)] } := by
  refine spec_S [.c (.v (ptV g))] 10 Tryd.func48 rfl (by rw [Tryd.ntmps48]; rfl) (one_ok trivial) fun b => ?_
  refine s_auto TY_ok rfl ?_
  refine s_auto TY_ok rfl ?_
  refine s_seq fun K hK => ?_
  refine s_anyP [0, 1] 3 1 (fun _ => True) (by kernel_rfl) rfl (fun _ _ _ => trivial) ?_
  refine p_frontO (.s 3 0 1 1) trivial 0 (by kernel_rfl) rfl rfl rfl rfl rfl (runO_all rfl Tryd.underlying128 rfl rfl) ?_
  refine p_frontS (L0 := []) TY_ok 1 (by kernel_rfl) rfl rfl rfl rfl rfl rfl (fun _ h => by cases h) (fun _ _ _ h => by cases h) ?_
  refine p_step 2 (by kernel_rfl) rfl fun K1 hK1 => ?_
  refine l_R ([RdQ g s] ++ []) rfl ?_
  refine l_callA [ptV g, .int .i64 1] rfl rfl rfl own_wtake rfl rfl (fun _ _ => rfl) (wtake_yes g s 1 h) (fun _ h _ => h) fun _ => ?_
  refine s_end (hK1 _ (fun _ _ _ => trivial) ?_)
  refine p_tail [3] (by kernel_rfl) rfl ?_
  refine l_copyV (A := s.A) (c := s.c) (z := [0]) (l := [x]) rfl rfl rfl rfl rfl rfl rfl rfl (Nat.le_refl 1) (rd_fact fun w h _ => ?_) ?_
  · have h2 : s.rd w := h.2
    have := h2.take 1
    rw [hx] at this
    exact this
  refine s_end (hK _ ?_)
  refine s_regA TY_ok rfl fun K2 hK2 => ?_
  refine l_op (.a 3 (0 + 1 * 0)) trivial rfl rfl rfl (runO_ixA 0 rfl Tryd.underlying128 rfl rfl rfl (by decide)) ?_
  refine l_opV (.v (.int .u8 (x.toNat : Int))) trivial rfl rfl rfl (runO_ldA _ rfl rfl rfl rfl Tryd.underlying5 rfl) ?_
  refine l_autoS TY_ok rfl ?_
  refine s_end (hK2 _ ?_)
  exact s_ret (k_ret TY_ok () rfl (by decide) rfl rfl rfl (fun _ _ _ => trivial) (fun _ _ => trivial))
set_option maxRecDepth 100000 in
set_option maxHeartbeats 1000000 in
theorem wkind_no (g : Nat) (s : RSw) (h : ¬ s.can 1) : Spec 48 [ptV g] [RdQ g s] (fun _ => True) { ret := fun _ : Unit => .v (.int .u8 0), own := fun _ => [RdQ g (s.fail 10)] } := by
  refine spec_S [.c (.v (ptV g))] 10 Tryd.func48 rfl (by rw [Tryd.ntmps48]; rfl) (one_ok trivial) fun b => ?_
  refine s_auto TY_ok rfl ?_
  refine s_auto TY_ok rfl ?_
  refine s_seq fun K hK => ?_
  refine s_anyP [0, 1] 3 1 (fun _ => True) (by kernel_rfl) rfl (fun _ _ _ => trivial) ?_
  refine p_frontO (.s 3 0 1 1) trivial 0 (by kernel_rfl) rfl rfl rfl rfl rfl (runO_all rfl Tryd.underlying128 rfl rfl) ?_
  refine p_frontS (L0 := []) TY_ok 1 (by kernel_rfl) rfl rfl rfl rfl rfl rfl (fun _ h => by cases h) (fun _ _ _ h => by cases h) ?_
  refine p_step 2 (by kernel_rfl) rfl fun K1 hK1 => ?_
  refine l_R ([RdQ g s] ++ []) rfl ?_
  refine l_callA [ptV g, .int .i64 1] rfl rfl rfl own_wtake rfl rfl (fun _ _ => rfl) (wtake_no g s 1 h) (fun _ _ _ => trivial) fun _ => ?_
  refine s_end (hK1 _ (fun _ _ _ => trivial) ?_)
  refine p_tail [3] (by kernel_rfl) rfl ?_
  refine l_copyV (A := none) (c := 0) (z := [0]) (l := []) rfl rfl rfl rfl rfl rfl rfl rfl (by decide) (rd_fact fun w _ _ => Rd.nil _ _ _) ?_
  refine s_end (hK _ ?_)
  refine s_regA TY_ok rfl fun K2 hK2 => ?_
  refine l_op (.a 3 (0 + 1 * 0)) trivial rfl rfl rfl (runO_ixA 0 rfl Tryd.underlying128 rfl rfl rfl (by decide)) ?_
  refine l_opV (.v (.int .u8 0)) trivial rfl rfl rfl (runO_ldA _ rfl rfl rfl rfl Tryd.underlying5 rfl) ?_
  refine l_autoS TY_ok rfl ?_
  refine s_end (hK2 _ ?_)
  exact s_ret (k_ret TY_ok () rfl (by decide) rfl rfl rfl (fun _ _ _ => trivial) (fun _ _ => trivial))
set_option maxRecDepth 100000 in
set_option maxHeartbeats 1000000 in
theorem whash_yes (g : Nat) (s : RSw) (h : s.can 32) : Spec 51 [ptV g] [RdQ g s] s.rd { ret := fun _ : Unit => .q (eY 32 (s.l.take 32)), own := fun _ => [RdQ g (s.cut 32)] } := by
  refine spec_S [.c (.v (ptV g))] 9 Tryd.func51 rfl (by rw [Tryd.ntmps51]; rfl) (one_ok trivial) fun b => ?_
  have hl : (s.l.take 32).length = 32 := by rw [List.length_take]; have := h.2; omega
  refine s_auto TY_ok rfl ?_
  refine s_auto TY_ok rfl ?_
  refine s_seq fun K hK => ?_
  refine s_anyP [0, 1] 3 1 (fun _ => True) (by kernel_rfl) rfl (fun _ _ _ => trivial) ?_
  refine p_frontO (.s 3 0 32 32) trivial 0 (by kernel_rfl) rfl rfl rfl rfl rfl (runO_all rfl Tryd.underlying38 rfl rfl) ?_
  refine p_frontS (L0 := []) TY_ok 1 (by kernel_rfl) rfl rfl rfl rfl rfl rfl (fun _ h => by cases h) (fun _ _ _ h => by cases h) ?_
  refine p_step 2 (by kernel_rfl) rfl fun K1 hK1 => ?_
  refine l_R ([RdQ g s] ++ []) rfl ?_
  refine l_callA [ptV g, .int .i64 32] rfl rfl rfl own_wtake rfl rfl (fun _ _ => rfl) (wtake_yes g s 32 h) (fun _ h _ => h) fun _ => ?_
  refine s_end (hK1 _ (fun _ _ _ => trivial) ?_)
  refine p_tail [3] (by kernel_rfl) rfl ?_
  refine l_copyV (A := s.A) (c := s.c) (z := z32T) (l := s.l.take 32) rfl rfl rfl rfl rfl (by rw [hl]; rfl) rfl rfl (by rw [hl]; exact Nat.le_refl _) (rd_fact fun w h _ => ?_) ?_
  · have h2 : s.rd w := h.2
    exact h2.take 32
  rw [hl, show z32T.drop 32 = [] from rfl, List.append_nil]
  refine s_end (hK _ ?_)
  refine s_auto TY_ok rfl ?_
  exact s_ret (k_ret TY_ok () rfl (by decide) rfl rfl rfl (fun _ _ _ => trivial) (fun _ _ => trivial))
set_option maxRecDepth 100000 in
set_option maxHeartbeats 1000000 in
theorem whash_no (g : Nat) (s : RSw) (h : ¬ s.can 32) : Spec 51 [ptV g] [RdQ g s] (fun _ => True) { ret := fun _ : Unit => .q (eY 32 z32T), own := fun _ => [RdQ g (s.fail 10)] } := by
  refine spec_S [.c (.v (ptV g))] 9 Tryd.func51 rfl (by rw [Tryd.ntmps51]; rfl) (one_ok trivial) fun b => ?_
  refine s_auto TY_ok rfl ?_
  refine s_auto TY_ok rfl ?_
  refine s_seq fun K hK => ?_
  refine s_anyP [0, 1] 3 1 (fun _ => True) (by kernel_rfl) rfl (fun _ _ _ => trivial) ?_
  refine p_frontO (.s 3 0 32 32) trivial 0 (by kernel_rfl) rfl rfl rfl rfl rfl (runO_all rfl Tryd.underlying38 rfl rfl) ?_
  refine p_frontS (L0 := []) TY_ok 1 (by kernel_rfl) rfl rfl rfl rfl rfl rfl (fun _ h => by cases h) (fun _ _ _ h => by cases h) ?_
  refine p_step 2 (by kernel_rfl) rfl fun K1 hK1 => ?_
  refine l_R ([RdQ g s] ++ []) rfl ?_
  refine l_callA [ptV g, .int .i64 32] rfl rfl rfl own_wtake rfl rfl (fun _ _ => rfl) (wtake_no g s 32 h) (fun _ _ _ => trivial) fun _ => ?_
  refine s_end (hK1 _ (fun _ _ _ => trivial) ?_)
  refine p_tail [3] (by kernel_rfl) rfl ?_
  refine l_copyV (A := none) (c := 0) (z := z32T) (l := []) rfl rfl rfl rfl rfl rfl rfl rfl (by decide) (rd_fact fun w _ _ => Rd.nil _ _ _) ?_
  refine s_end (hK _ ?_)
  refine s_auto TY_ok rfl ?_
  exact s_ret (k_ret TY_ok () rfl (by decide) rfl rfl rfl (fun _ _ _ => trivial) (fun _ _ => trivial))
end Go.Proofs.YtoecohpcnojokaaDoor
/-
  THE DOCUMENT'S PARTS: their bytes, a pair put.
-/
namespace Go.Proofs.YtoecohpcnojokaaDoor
open Go.RowKit Go.IntWalk Nums

def PW.outB (po : Bool) (q : PairT) (d : Nat) (w : PW) : List UInt8 := if po then (PW.put q d w).bytes else w.bytes
theorem PW.put_le {q : PairT} (hq : OkT2 q) : ∀ {d : Nat} {w : PW}, w.Good → (PW.put q d w).bytes.length ≤ w.bytes.length + 650
  | _, .empty, _ => by
    show (1 :: (q.1 ++ q.2)).length ≤ _
    rw [List.length_cons, List.length_append, hq.1, hq.2]
    omega
  | d, .leaf p, h => by
    show (if p.1 = q.1 then PW.leaf q else PW.two (256 - d) d p q).bytes.length ≤ _
    split
    · show (1 :: (q.1 ++ q.2)).length ≤ _
      rw [List.length_cons, List.length_append, hq.1, hq.2]
      omega
    · have := two_bytes_le (256 - d) (d := d) h hq
      omega
  | d, .inner a b, h => by
    show (if bitT q.1 d = 0 then PW.inner (PW.put q (d + 1) a) b else PW.inner a (PW.put q (d + 1) b)).bytes.length ≤ _
    have h1 := put_le hq (d := d + 1) h.1
    have h2 := put_le hq (d := d + 1) h.2
    split <;> simp only [PW.bytes, List.length_cons, List.length_append] <;> omega
  | _, .hid h, _ => Nat.le_add_right _ _
theorem PW.outB_le {q : PairT} (hq : OkT2 q) {po : Bool} {d : Nat} {w : PW} (h : w.Good) : (PW.outB po q d w).length ≤ w.bytes.length + 650 := by
  unfold PW.outB
  split
  · exact put_le hq h
  · omega
theorem PW.outB_inner {q : PairT} {po : Bool} {d : Nat} {a b : PW} : PW.outB po q d (.inner a b) = [2] ++ PW.outB (po && !(po && decide (bitT q.1 d = 1))) q (d + 1) a ++ PW.outB (po && decide (bitT q.1 d = 1)) q (d + 1) b := by
  have hb := bitT_lt q.1 d
  cases po with
  | false => rfl
  | true =>
    show (if bitT q.1 d = 0 then PW.inner (PW.put q (d + 1) a) b else PW.inner a (PW.put q (d + 1) b)).bytes = _
    by_cases h : bitT q.1 d = 0
    · rw [if_pos h]
      simp [PW.outB, h, PW.bytes]
    · rw [if_neg h]
      have h1 : bitT q.1 d = 1 := by omega
      simp [PW.outB, h1, PW.bytes]
theorem own_rpbytes : Own 21 := fun _ _ => by go_simp
set_option maxRecDepth 100000 in
set_option maxHeartbeats 4000000 in
theorem rpbytes_S {g : Nat} {B : Option Addr} {c : Nat} {ns : List ND} {q : PairT} (hq : OkT2 q) : ∀ (w : PW) (n : Nat) (way : List Nat) (po : Bool), At ns w n → w.Right way → (po = true → Leads way q.1) → way.length ≤ 256 → w.bytes.length ≤ 1000000 → Spec 21 [.pointer (some ⟨g, 0, none⟩), .int .i64 (n : Int), .int .i64 (way.length : Int), .bool po, (eP q).den] [] (PartF g B c ns) (newB (PW.outB po q way.length w)) := by
  intro w
  induction w with
  | empty =>
    intro n way po hat hr hq2 hd256 hsz
    obtain ⟨d, hd⟩ : ∃ d, way.length = d := ⟨_, rfl⟩
    rw [hd]
    obtain ⟨res, hres⟩ : ∃ r, PW.outB po q d .empty = r := ⟨_, rfl⟩
    rw [hres]
    refine spec_S [.c (.v (.pointer (some ⟨g, 0, none⟩))), .c (.v (.int .i64 (n : Int))), .c (.v (.int .i64 (d : Int))), .c (.v (.bool po)), eP q] 101 Tryd.func21 rfl (by rw [Tryd.ntmps21]; rfl) (more_ok trivial (more_ok trivial (more_ok trivial (two_ok trivial (eP_ok hq).1)))) fun b => ?_
    refine s_auto TY_ok rfl ?_
    refine s_regA TY_ok rfl fun K hK => ?_
    refine l_ldO TY_ok rfl rfl rfl rfl rfl rfl (obj_fact fun _ h _ => h.1) ?_
    refine l_autoS TY_ok rfl ?_
    refine l_elem TY_ok rfl rfl rfl n rfl hat rfl rfl (rd_fact fun _ h _ => h.2) ?_
    refine l_autoS TY_ok rfl ?_
    refine s_end (hK _ ?_)
    refine s_seq fun K1 hK1 => ?_
    refine s_auto TY_ok rfl ?_
    refine s_block ?_
    refine s_auto TY_ok rfl ?_
    refine s_ifD (((0 : Nat) : Int) = 0) rfl (fun _ => ?_) (fun h => absurd rfl h)
    refine s_seq fun K2 hK2 => ?_
    cases po with
    | true =>
      refine s_auto TY_ok rfl ?_
      refine s_yes rfl ?_
      obtain rfl : res = [1] ++ q.1 ++ q.2 := by rw [← hres]; simp [PW.outB, PW.put, PW.bytes]
      refine s_seq fun K5 hK5 => ?_
      refine s_any 6 [] (by kernel_rfl) (by decide) (fun _ _ _ _ h => by cases h) ?_
      refine a_front TY_ok 1 (by kernel_rfl) rfl rfl rfl rfl rfl rfl (fun _ h => by cases h) ?_
      refine a_frontO (.s 9 0 32 32) trivial 2 (by kernel_rfl) rfl rfl rfl rfl rfl (runO_all rfl Tryd.underlying38 rfl rfl) ?_
      refine a_front TY_ok 4 (by kernel_rfl) rfl rfl rfl rfl rfl rfl (fun _ h => by cases h) ?_
      refine a_frontO (.s 9 32 32 32) trivial 5 (by kernel_rfl) rfl rfl rfl rfl rfl (runO_all rfl Tryd.underlying38 rfl rfl) ?_
      refine a_step 0 (by kernel_rfl) rfl fun K8 hK8 => ?_
      refine l_list TY_ok b.B.heap.size [(1 : UInt8)] rfl rfl rfl rfl rfl (fun _ => rfl) rfl (by decide) (by decide) (okF_B _) (Nat.le_refl _) fun A1 => ?_
      refine s_end (hK8 _ (fun _ _ _ _ h => by cases h) ?_)
      refine a_step 3 (by kernel_rfl) rfl fun K9 hK9 => ?_
      refine l_appZ (u := .s 9 0 32 32) TY_ok 0 q.1 rfl rfl rfl rfl rfl rfl rfl (fun G => by rw [hq.1]; rfl) rfl rfl (rd_part _ rfl rfl hq.1 (by decide)) (by decide) (by simp [hq.1]) (by simp [hq.1]) (Nat.le_refl _) fun A2 c2 => ?_
      refine s_end (hK9 _ (fun _ _ _ _ h => by cases h) ?_)
      refine a_tail (by kernel_rfl) ?_
      refine l_appZ (u := .s 9 32 32 32) TY_ok 0 q.2 rfl rfl rfl rfl rfl rfl rfl (fun G => by rw [hq.2]; rfl) rfl rfl (rd_part _ rfl rfl hq.2 (by decide)) (by decide) (by simp [hq.1, hq.2]) (by simp [hq.1, hq.2]) (Nat.le_refl _) fun A3 c3 => ?_
      refine l_autoS TY_ok rfl ?_
      refine s_end (hK5 _ ?_)
      refine s_freeM 0 rfl (Nat.le_refl _) ?_
      exact s_ret (k_ret TY_ok (A3, c3) rfl (by decide) rfl rfl rfl (fun _ _ _ => trivial) (fun _ h => h.1))
    | false =>
      obtain rfl : res = [0] := by rw [← hres]; rfl
      refine s_auto TY_ok rfl ?_
      refine s_no rfl ?_
      refine s_skip (hK2 _ ?_)
      refine s_regA TY_ok rfl fun K5 hK5 => ?_
      refine l_list TY_ok b.B.heap.size [(0 : UInt8)] rfl rfl rfl rfl rfl (fun _ => rfl) rfl (by decide) (by decide) (okF_B _) (Nat.le_refl _) fun A1 => ?_
      refine l_autoS TY_ok rfl ?_
      refine s_end (hK5 _ ?_)
      refine s_freeM 0 rfl (Nat.le_refl _) ?_
      exact s_ret (k_ret TY_ok (A1, 1) rfl (by decide) rfl rfl rfl (fun _ _ _ => trivial) (fun _ h => h.1))
  | leaf p =>
    intro n way po hat hr hq2 hd256 hsz
    obtain ⟨d, hd⟩ : ∃ d, way.length = d := ⟨_, rfl⟩
    have hp : OkT2 p := ⟨hr.1, hr.2.1⟩
    have hled := hr.2.2
    rw [hd]
    obtain ⟨res, hres⟩ : ∃ r, PW.outB po q d (.leaf p) = r := ⟨_, rfl⟩
    rw [hres]
    refine spec_S [.c (.v (.pointer (some ⟨g, 0, none⟩))), .c (.v (.int .i64 (n : Int))), .c (.v (.int .i64 (d : Int))), .c (.v (.bool po)), eP q] 101 Tryd.func21 rfl (by rw [Tryd.ntmps21]; rfl) (more_ok trivial (more_ok trivial (more_ok trivial (two_ok trivial (eP_ok hq).1)))) fun b => ?_
    refine s_auto TY_ok rfl ?_
    refine s_regA TY_ok rfl fun K hK => ?_
    refine l_ldO TY_ok rfl rfl rfl rfl rfl rfl (obj_fact fun _ h _ => h.1) ?_
    refine l_autoS TY_ok rfl ?_
    refine l_elem TY_ok rfl rfl rfl n rfl hat rfl rfl (rd_fact fun _ h _ => h.2) ?_
    refine l_autoS TY_ok rfl ?_
    refine s_end (hK _ ?_)
    refine s_seq fun K1 hK1 => ?_
    refine s_auto TY_ok rfl ?_
    refine s_block ?_
    refine s_auto TY_ok rfl ?_
    refine s_ifD (((1 : Nat) : Int) = 0) rfl (fun h => absurd h (by decide)) (fun _ => ?_)
    refine s_auto TY_ok rfl ?_
    refine s_ifD (((1 : Nat) : Int) = 1) rfl (fun _ => ?_) (fun h => absurd rfl h)
    refine s_seq fun K2 hK2 => ?_
    cases po with
    | true =>
      refine s_regA TY_ok rfl fun K3 hK3 => ?_
      refine l_op (.b (!decide (p.1 = q.1))) trivial rfl rfl rfl (run_neqY rfl rfl rfl Tryd.underlying38 (by kernel_rfl) hp.1 hq.1) ?_
      by_cases he : p.1 = q.1
      · refine l_is 42 false rfl (by simp [he]) ?_
        refine l_autoS TY_ok rfl ?_
        refine s_end (hK3 _ ?_)
        refine s_no rfl ?_
        refine s_skip (hK2 _ ?_)
        refine s_seq fun K4 hK4 => ?_
        refine s_auto TY_ok rfl ?_
        refine s_yes rfl ?_
        refine s_lit ?_
        refine l_autoS TY_ok rfl ?_
        refine s_end (hK4 _ ?_)
        obtain rfl : res = [1] ++ p.1 ++ q.2 := by rw [← hres]; simp [PW.outB, PW.put, he, PW.bytes]
        refine s_seq fun K5 hK5 => ?_
        refine s_any 6 [] (by kernel_rfl) (by decide) (fun _ _ _ _ h => by cases h) ?_
        refine a_front TY_ok 1 (by kernel_rfl) rfl rfl rfl rfl rfl rfl (fun _ h => by cases h) ?_
        refine a_frontO (.s 11 1 32 32) trivial 2 (by kernel_rfl) rfl rfl rfl rfl rfl (runO_all rfl Tryd.underlying38 rfl rfl) ?_
        refine a_front TY_ok 4 (by kernel_rfl) rfl rfl rfl rfl rfl rfl (fun _ h => by cases h) ?_
        refine a_frontO (.s 11 33 32 32) trivial 5 (by kernel_rfl) rfl rfl rfl rfl rfl (runO_all rfl Tryd.underlying38 rfl rfl) ?_
        refine a_step 0 (by kernel_rfl) rfl fun K8 hK8 => ?_
        refine l_list TY_ok b.B.heap.size [(1 : UInt8)] rfl rfl rfl rfl rfl (fun _ => rfl) rfl (by decide) (by decide) (okF_B _) (Nat.le_refl _) fun A1 => ?_
        refine s_end (hK8 _ (fun _ _ _ _ h => by cases h) ?_)
        refine a_step 3 (by kernel_rfl) rfl fun K9 hK9 => ?_
        refine l_appZ (u := .s 11 1 32 32) TY_ok 0 p.1 rfl rfl rfl rfl rfl rfl rfl (fun G => by rw [hp.1]; rfl) rfl rfl (rd_part _ rfl rfl hp.1 (by decide)) (by decide) (by simp [hp.1]) (by simp [hp.1]) (Nat.le_refl _) fun A2 c2 => ?_
        refine s_end (hK9 _ (fun _ _ _ _ h => by cases h) ?_)
        refine a_tail (by kernel_rfl) ?_
        refine l_appZ (u := .s 11 33 32 32) TY_ok 0 q.2 rfl rfl rfl rfl rfl rfl rfl (fun G => by rw [hq.2]; rfl) rfl rfl (rd_part _ rfl rfl hq.2 (by decide)) (by decide) (by simp [hp.1, hq.2]) (by simp [hp.1, hq.2]) (Nat.le_refl _) fun A3 c3 => ?_
        refine l_autoS TY_ok rfl ?_
        refine s_end (hK5 _ ?_)
        refine s_freeM 0 rfl (Nat.le_refl _) ?_
        exact s_ret (k_ret TY_ok (A3, c3) rfl (by decide) rfl rfl rfl (fun _ _ _ => trivial) (fun _ h => h.1))
      · refine l_is 42 true rfl (by simp [he]) ?_
        refine l_autoS TY_ok rfl ?_
        refine s_end (hK3 _ ?_)
        refine s_yes rfl ?_
        have htwo := rtwo_S (256 - d) (d := d) (q := p) (p := q) (by omega) hp hq he (by rw [← hd]; exact hled.share (hq2 rfl))
        obtain rfl : res = (PW.two (256 - d) d p q).bytes := by rw [← hres]; simp [PW.outB, PW.put, he]
        refine s_regA TY_ok rfl fun K4 hK4 => ?_
        refine l_call0 [(eP p).den, (eP q).den, .int .i64 (d : Int)] rfl rfl rfl own_rtwo rfl rfl (fun _ _ => rfl) htwo (fun _ _ _ => trivial) fun ⟨A3, c3⟩ => ?_
        refine l_autoS TY_ok rfl ?_
        refine s_end (hK4 _ ?_)
        exact s_ret (k_ret TY_ok (A3, c3) rfl (by decide) rfl rfl rfl (fun _ _ _ => trivial) (fun _ h => h.1))
    | false =>
      refine s_auto TY_ok rfl ?_
      refine s_no rfl ?_
      refine s_skip (hK2 _ ?_)
      refine s_seq fun K4 hK4 => ?_
      refine s_auto TY_ok rfl ?_
      refine s_no rfl ?_
      refine s_skip (hK4 _ ?_)
      obtain rfl : res = [1] ++ p.1 ++ p.2 := by rw [← hres]; simp [PW.outB, PW.bytes]
      refine s_seq fun K5 hK5 => ?_
      refine s_any 6 [] (by kernel_rfl) (by decide) (fun _ _ _ _ h => by cases h) ?_
      refine a_front TY_ok 1 (by kernel_rfl) rfl rfl rfl rfl rfl rfl (fun _ h => by cases h) ?_
      refine a_frontO (.s 11 1 32 32) trivial 2 (by kernel_rfl) rfl rfl rfl rfl rfl (runO_all rfl Tryd.underlying38 rfl rfl) ?_
      refine a_front TY_ok 4 (by kernel_rfl) rfl rfl rfl rfl rfl rfl (fun _ h => by cases h) ?_
      refine a_frontO (.s 11 33 32 32) trivial 5 (by kernel_rfl) rfl rfl rfl rfl rfl (runO_all rfl Tryd.underlying38 rfl rfl) ?_
      refine a_step 0 (by kernel_rfl) rfl fun K8 hK8 => ?_
      refine l_list TY_ok b.B.heap.size [(1 : UInt8)] rfl rfl rfl rfl rfl (fun _ => rfl) rfl (by decide) (by decide) (okF_B _) (Nat.le_refl _) fun A1 => ?_
      refine s_end (hK8 _ (fun _ _ _ _ h => by cases h) ?_)
      refine a_step 3 (by kernel_rfl) rfl fun K9 hK9 => ?_
      refine l_appZ (u := .s 11 1 32 32) TY_ok 0 p.1 rfl rfl rfl rfl rfl rfl rfl (fun G => by rw [hp.1]; rfl) rfl rfl (rd_part _ rfl rfl hp.1 (by decide)) (by decide) (by simp [hp.1]) (by simp [hp.1]) (Nat.le_refl _) fun A2 c2 => ?_
      refine s_end (hK9 _ (fun _ _ _ _ h => by cases h) ?_)
      refine a_tail (by kernel_rfl) ?_
      refine l_appZ (u := .s 11 33 32 32) TY_ok 0 p.2 rfl rfl rfl rfl rfl rfl rfl (fun G => by rw [hp.2]; rfl) rfl rfl (rd_part _ rfl rfl hp.2 (by decide)) (by decide) (by simp [hp.1, hp.2]) (by simp [hp.1, hp.2]) (Nat.le_refl _) fun A3 c3 => ?_
      refine l_autoS TY_ok rfl ?_
      refine s_end (hK5 _ ?_)
      refine s_freeM 0 rfl (Nat.le_refl _) ?_
      exact s_ret (k_ret TY_ok (A3, c3) rfl (by decide) rfl rfl rfl (fun _ _ _ => trivial) (fun _ h => h.1))
  | hid h =>
    intro n way po hat hr hq2 hd256 hsz
    obtain ⟨d, hd⟩ : ∃ d, way.length = d := ⟨_, rfl⟩
    rw [hd]
    obtain ⟨res, hres⟩ : ∃ r, PW.outB po q d (.hid h) = r := ⟨_, rfl⟩
    rw [hres]
    refine spec_S [.c (.v (.pointer (some ⟨g, 0, none⟩))), .c (.v (.int .i64 (n : Int))), .c (.v (.int .i64 (d : Int))), .c (.v (.bool po)), eP q] 101 Tryd.func21 rfl (by rw [Tryd.ntmps21]; rfl) (more_ok trivial (more_ok trivial (more_ok trivial (two_ok trivial (eP_ok hq).1)))) fun b => ?_
    refine s_auto TY_ok rfl ?_
    refine s_regA TY_ok rfl fun K hK => ?_
    refine l_ldO TY_ok rfl rfl rfl rfl rfl rfl (obj_fact fun _ h _ => h.1) ?_
    refine l_autoS TY_ok rfl ?_
    refine l_elem TY_ok rfl rfl rfl n rfl hat rfl rfl (rd_fact fun _ h _ => h.2) ?_
    refine l_autoS TY_ok rfl ?_
    refine s_end (hK _ ?_)
    refine s_seq fun K1 hK1 => ?_
    refine s_auto TY_ok rfl ?_
    refine s_block ?_
    refine s_auto TY_ok rfl ?_
    refine s_ifD (((3 : Nat) : Int) = 0) rfl (fun h => absurd h (by decide)) (fun _ => ?_)
    refine s_auto TY_ok rfl ?_
    refine s_ifD (((3 : Nat) : Int) = 1) rfl (fun h => absurd h (by decide)) (fun _ => ?_)
    refine s_auto TY_ok rfl ?_
    refine s_ifD (((3 : Nat) : Int) = 2) rfl (fun h => absurd h (by decide)) (fun _ => ?_)
    have hr : h.length = 32 := hr
    obtain rfl : res = [3] ++ h := by rw [← hres]; cases po <;> rfl
    refine s_skip (hK1 _ ?_)
    refine s_regA TY_ok rfl fun K5 hK5 => ?_
    refine l_list TY_ok b.B.heap.size [(3 : UInt8)] rfl rfl rfl rfl rfl (fun _ => rfl) rfl (by decide) (by decide) (okF_B _) (Nat.le_refl _) fun A1 => ?_
    refine l_autoS TY_ok rfl ?_
    refine l_op (.s 11 33 32 32) trivial rfl rfl rfl (runO_all rfl Tryd.underlying38 rfl rfl) ?_
    refine l_appZ (u := .s 11 33 32 32) TY_ok 0 h rfl rfl rfl rfl rfl rfl rfl (fun G => by rw [hr]; rfl) rfl rfl (rd_part _ rfl rfl hr (by decide)) (by decide) (by simp [hr]) (by simp [hr]) (Nat.le_refl _) fun A2 c2 => ?_
    refine l_autoS TY_ok rfl ?_
    refine s_end (hK5 _ ?_)
    refine s_freeM 0 rfl (Nat.le_refl _) ?_
    exact s_ret (k_ret TY_ok (A2, c2) rfl (by decide) rfl rfl rfl (fun _ _ _ => trivial) (fun _ h => h.1))
  | inner y z ihy ihz =>
    intro n way po hat hr hq2 hd256 hsz
    obtain ⟨d, hd⟩ : ∃ d, way.length = d := ⟨_, rfl⟩
    obtain ⟨i, j, hat, hi, hj⟩ := hat
    obtain ⟨hw256, hry, hrz, _⟩ := hr
    have hszs : y.bytes.length + z.bytes.length + 1 ≤ 1000000 := by
      simp only [PW.bytes, List.length_cons, List.length_append] at hsz
      omega
    have ihy := fun po h => ihy i (way ++ [0]) po hi hry h (by rw [List.length_append]; exact hw256) (by omega)
    have ihz := fun po h => ihz j (way ++ [1]) po hj hrz h (by rw [List.length_append]; exact hw256) (by omega)
    have hwl : ∀ x : Nat, ((way ++ [x]).length : Int) = ((way.length + 1 : Nat) : Int) := fun x => by rw [List.length_append, List.length_singleton]
    have hwl2 : ∀ x : Nat, (way ++ [x]).length = way.length + 1 := fun x => by rw [List.length_append, List.length_singleton]
    rw [hwl2] at ihy ihz
    have hly := fun po => PW.outB_le hq (po := po) (d := way.length + 1) hry.good
    have hlz := fun po => PW.outB_le hq (po := po) (d := way.length + 1) hrz.good
    have hmore := fun x => @Leads.more way q.1 x
    rw [hd] at ihy ihz hly hlz hmore hw256 ⊢
    obtain ⟨res, hres⟩ : ∃ r, PW.outB po q d (.inner y z) = r := ⟨_, rfl⟩
    rw [hres]
    refine spec_S [.c (.v (.pointer (some ⟨g, 0, none⟩))), .c (.v (.int .i64 (n : Int))), .c (.v (.int .i64 (d : Int))), .c (.v (.bool po)), eP q] 101 Tryd.func21 rfl (by rw [Tryd.ntmps21]; rfl) (more_ok trivial (more_ok trivial (more_ok trivial (two_ok trivial (eP_ok hq).1)))) fun b => ?_
    refine s_auto TY_ok rfl ?_
    refine s_regA TY_ok rfl fun K hK => ?_
    refine l_ldO TY_ok rfl rfl rfl rfl rfl rfl (obj_fact fun _ h _ => h.1) ?_
    refine l_autoS TY_ok rfl ?_
    refine l_elem TY_ok rfl rfl rfl n rfl hat rfl rfl (rd_fact fun _ h _ => h.2) ?_
    refine l_autoS TY_ok rfl ?_
    refine s_end (hK _ ?_)
    refine s_seq fun K1 hK1 => ?_
    refine s_auto TY_ok rfl ?_
    refine s_block ?_
    refine s_auto TY_ok rfl ?_
    refine s_ifD (((2 : Nat) : Int) = 0) rfl (fun h => absurd h (by decide)) (fun _ => ?_)
    refine s_auto TY_ok rfl ?_
    refine s_ifD (((2 : Nat) : Int) = 1) rfl (fun h => absurd h (by decide)) (fun _ => ?_)
    refine s_auto TY_ok rfl ?_
    refine s_ifD (((2 : Nat) : Int) = 2) rfl (fun _ => ?_) (fun h => absurd rfl h)
    have hb2 := bitT_lt q.1 d
    cases po with
    | true =>
      refine s_regA TY_ok rfl fun K3 hK3 => ?_
      refine l_call0 [.agg (By q.1).toArray, .int .i64 (d : Int)] rfl rfl rfl own_rbit9 rfl rfl (fun _ _ => rfl) (rbit_S hq.1 d hw256) (fun _ _ _ => trivial) fun _ => ?_
      by_cases h1 : bitT q.1 d = 1
      · refine l_num 70 1 rfl (by rw [h1]; rfl) ?_
        refine l_autoS TY_ok rfl ?_
        refine l_is 72 true rfl (by decide) ?_
        refine s_end (hK3 _ ?_)
        have ihy := ihy false (fun h => by cases h)
        have ihz := ihz true (fun _ => (hmore 1).2 ⟨hq2 rfl, by omega⟩)
        have hly := hly false
        have hlz := hlz true
        obtain ⟨ba, hba⟩ : ∃ x, PW.outB false q (d + 1) y = x := ⟨_, rfl⟩
        obtain ⟨bb, hbb⟩ : ∃ x, PW.outB true q (d + 1) z = x := ⟨_, rfl⟩
        obtain rfl : res = [2] ++ ba ++ bb := by rw [← hres, PW.outB_inner, ← hba, ← hbb]; simp [h1]
        rw [hba] at ihy hly
        rw [hbb] at ihz hlz
        refine s_regA TY_ok rfl fun K4 hK4 => ?_
        refine l_list TY_ok b.B.heap.size [(2 : UInt8)] rfl rfl rfl rfl rfl (fun _ => rfl) rfl (by decide) (by decide) (okF_B _) (Nat.le_refl _) fun A1 => ?_
        refine l_autoS TY_ok rfl ?_
        refine l_num 78 ((d + 1 : Nat) : Int) rfl (wrapI (by omega) (by omega) (by omega)) ?_
        refine l_call0 [.pointer (some ⟨g, 0, none⟩), .int .i64 (i : Int), .int .i64 ((d + 1 : Nat) : Int), .bool false, (eP q).den] rfl rfl rfl own_rpbytes rfl rfl (fun _ _ => rfl) ihy (fun _ h _ => h.2) fun ⟨X1, e1⟩ => ?_
        refine l_appY TY_ok 0 ba rfl rfl rfl rfl rfl rfl rfl rfl rfl (rd_fact fun _ _ h => h.1) (by decide) (by show (1 + ba.length) * 1 ≤ _; omega) (by show 1 + ba.length ≤ _; omega) (Nat.le_refl _) fun A2 c2 => ?_
        refine l_autoS TY_ok rfl ?_
        refine s_end (hK4 _ ?_)
        refine s_regA TY_ok rfl fun K5 hK5 => ?_
        refine l_num 92 ((d + 1 : Nat) : Int) rfl (wrapI (by omega) (by omega) (by omega)) ?_
        refine l_call0 [.pointer (some ⟨g, 0, none⟩), .int .i64 (j : Int), .int .i64 ((d + 1 : Nat) : Int), .bool true, (eP q).den] rfl rfl rfl own_rpbytes rfl rfl (fun _ _ => rfl) ihz (fun _ h _ => h.2.2) fun ⟨X2, e2⟩ => ?_
        refine l_appY TY_ok 0 bb rfl rfl rfl rfl rfl rfl rfl rfl rfl (rd_fact fun _ _ h => h.1) (by decide) (by rw [List.length_append]; show (1 + ba.length + bb.length) * 1 ≤ _; omega) (by rw [List.length_append]; show 1 + ba.length + bb.length ≤ _; omega) (Nat.le_refl _) fun A3 c3 => ?_
        refine l_autoS TY_ok rfl ?_
        refine s_end (hK5 _ ?_)
        refine s_freeM 0 rfl (Nat.le_refl _) ?_
        exact s_ret (k_ret TY_ok (A3, c3) rfl (by decide) rfl rfl rfl (fun _ _ _ => trivial) (fun _ h => h.1))
      · refine l_num 70 0 rfl (by rw [show bitT q.1 d = 0 by omega]; rfl) ?_
        refine l_autoS TY_ok rfl ?_
        refine l_is 72 false rfl (by decide) ?_
        refine s_end (hK3 _ ?_)
        have ihy := ihy true (fun _ => (hmore 0).2 ⟨hq2 rfl, by omega⟩)
        have ihz := ihz false (fun h => by cases h)
        have hly := hly true
        have hlz := hlz false
        obtain ⟨ba, hba⟩ : ∃ x, PW.outB true q (d + 1) y = x := ⟨_, rfl⟩
        obtain ⟨bb, hbb⟩ : ∃ x, PW.outB false q (d + 1) z = x := ⟨_, rfl⟩
        obtain rfl : res = [2] ++ ba ++ bb := by rw [← hres, PW.outB_inner, ← hba, ← hbb]; simp [h1]
        rw [hba] at ihy hly
        rw [hbb] at ihz hlz
        refine s_regA TY_ok rfl fun K4 hK4 => ?_
        refine l_list TY_ok b.B.heap.size [(2 : UInt8)] rfl rfl rfl rfl rfl (fun _ => rfl) rfl (by decide) (by decide) (okF_B _) (Nat.le_refl _) fun A1 => ?_
        refine l_autoS TY_ok rfl ?_
        refine l_num 78 ((d + 1 : Nat) : Int) rfl (wrapI (by omega) (by omega) (by omega)) ?_
        refine l_call0 [.pointer (some ⟨g, 0, none⟩), .int .i64 (i : Int), .int .i64 ((d + 1 : Nat) : Int), .bool true, (eP q).den] rfl rfl rfl own_rpbytes rfl rfl (fun _ _ => rfl) ihy (fun _ h _ => h.2) fun ⟨X1, e1⟩ => ?_
        refine l_appY TY_ok 0 ba rfl rfl rfl rfl rfl rfl rfl rfl rfl (rd_fact fun _ _ h => h.1) (by decide) (by show (1 + ba.length) * 1 ≤ _; omega) (by show 1 + ba.length ≤ _; omega) (Nat.le_refl _) fun A2 c2 => ?_
        refine l_autoS TY_ok rfl ?_
        refine s_end (hK4 _ ?_)
        refine s_regA TY_ok rfl fun K5 hK5 => ?_
        refine l_num 92 ((d + 1 : Nat) : Int) rfl (wrapI (by omega) (by omega) (by omega)) ?_
        refine l_call0 [.pointer (some ⟨g, 0, none⟩), .int .i64 (j : Int), .int .i64 ((d + 1 : Nat) : Int), .bool false, (eP q).den] rfl rfl rfl own_rpbytes rfl rfl (fun _ _ => rfl) ihz (fun _ h _ => h.2.2) fun ⟨X2, e2⟩ => ?_
        refine l_appY TY_ok 0 bb rfl rfl rfl rfl rfl rfl rfl rfl rfl (rd_fact fun _ _ h => h.1) (by decide) (by rw [List.length_append]; show (1 + ba.length + bb.length) * 1 ≤ _; omega) (by rw [List.length_append]; show 1 + ba.length + bb.length ≤ _; omega) (Nat.le_refl _) fun A3 c3 => ?_
        refine l_autoS TY_ok rfl ?_
        refine s_end (hK5 _ ?_)
        refine s_freeM 0 rfl (Nat.le_refl _) ?_
        exact s_ret (k_ret TY_ok (A3, c3) rfl (by decide) rfl rfl rfl (fun _ _ _ => trivial) (fun _ h => h.1))
    | false =>
      refine s_auto TY_ok rfl ?_
      have ihy := ihy false (fun h => by cases h)
      have ihz := ihz false (fun h => by cases h)
      have hly := hly false
      have hlz := hlz false
      obtain ⟨ba, hba⟩ : ∃ x, PW.outB false q (d + 1) y = x := ⟨_, rfl⟩
      obtain ⟨bb, hbb⟩ : ∃ x, PW.outB false q (d + 1) z = x := ⟨_, rfl⟩
      obtain rfl : res = [2] ++ ba ++ bb := by rw [← hres, PW.outB_inner, ← hba, ← hbb]; simp
      rw [hba] at ihy hly
      rw [hbb] at ihz hlz
      refine s_regA TY_ok rfl fun K4 hK4 => ?_
      refine l_list TY_ok b.B.heap.size [(2 : UInt8)] rfl rfl rfl rfl rfl (fun _ => rfl) rfl (by decide) (by decide) (okF_B _) (Nat.le_refl _) fun A1 => ?_
      refine l_autoS TY_ok rfl ?_
      refine l_num 78 ((d + 1 : Nat) : Int) rfl (wrapI (by omega) (by omega) (by omega)) ?_
      refine l_call0 [.pointer (some ⟨g, 0, none⟩), .int .i64 (i : Int), .int .i64 ((d + 1 : Nat) : Int), .bool false, (eP q).den] rfl rfl rfl own_rpbytes rfl rfl (fun _ _ => rfl) ihy (fun _ h _ => h) fun ⟨X1, e1⟩ => ?_
      refine l_appY TY_ok 0 ba rfl rfl rfl rfl rfl rfl rfl rfl rfl (rd_fact fun _ _ h => h.1) (by decide) (by show (1 + ba.length) * 1 ≤ _; omega) (by show 1 + ba.length ≤ _; omega) (Nat.le_refl _) fun A2 c2 => ?_
      refine l_autoS TY_ok rfl ?_
      refine s_end (hK4 _ ?_)
      refine s_regA TY_ok rfl fun K5 hK5 => ?_
      refine l_num 92 ((d + 1 : Nat) : Int) rfl (wrapI (by omega) (by omega) (by omega)) ?_
      refine l_call0 [.pointer (some ⟨g, 0, none⟩), .int .i64 (j : Int), .int .i64 ((d + 1 : Nat) : Int), .bool false, (eP q).den] rfl rfl rfl own_rpbytes rfl rfl (fun _ _ => rfl) ihz (fun _ h _ => h.2) fun ⟨X2, e2⟩ => ?_
      refine l_appY TY_ok 0 bb rfl rfl rfl rfl rfl rfl rfl rfl rfl (rd_fact fun _ _ h => h.1) (by decide) (by rw [List.length_append]; show (1 + ba.length + bb.length) * 1 ≤ _; omega) (by rw [List.length_append]; show 1 + ba.length + bb.length ≤ _; omega) (Nat.le_refl _) fun A3 c3 => ?_
      refine l_autoS TY_ok rfl ?_
      refine s_end (hK5 _ ?_)
      refine s_freeM 0 rfl (Nat.le_refl _) ?_
      exact s_ret (k_ret TY_ok (A3, c3) rfl (by decide) rfl rfl rfl (fun _ _ _ => trivial) (fun _ h => h.1))
end Go.Proofs.YtoecohpcnojokaaDoor
/-
  THE DOCUMENT'S PARTS: what is cut for keys.
-/
namespace Go.Proofs.YtoecohpcnojokaaDoor
open Go.RowKit Go.IntWalk Nums

def sdP (s d : Nat) (l : List PairT) : List PairT := l.filter fun x => bitT x.1 d == s
def sdK (s d : Nat) (l : List (List UInt8)) : List (List UInt8) := l.filter fun x => bitT x d == s
theorem sdP_one (d : Nat) (l : List PairT) : sdP 1 d l = rightT d l := List.filter_congr fun x _ => by
  have := bitT_lt x.1 d
  rcases Nat.lt_or_ge (bitT x.1 d) 1 with h | h
  · simp [show bitT x.1 d = 0 by omega]
  · simp [show bitT x.1 d = 1 by omega]
theorem sdK_one (d : Nat) (l : List (List UInt8)) : sdK 1 d l = PW.keyR d l := List.filter_congr fun x _ => by
  have := bitT_lt x d
  rcases Nat.lt_or_ge (bitT x d) 1 with h | h
  · simp [show bitT x d = 0 by omega]
  · simp [show bitT x d = 1 by omega]
theorem PW.cut_le : ∀ (n : Nat) {d : Nat} {l : List PairT} {ks : List (List UInt8)}, (∀ p ∈ l, OkT2 p) → (PW.cut n d l ks).bytes.length ≤ (70 + 2 * n) * l.length + 1
  | n, d, [], _, _ => by
    cases n <;> exact Nat.le_add_left _ _
  | n, d, p :: l, [], _ => by
    have e : (PW.cut n d (p :: l) []).bytes.length = 33 := by
      cases n <;> (show (rootT _ _).length + 1 = 33; rw [rootT_len])
    rw [e, List.length_cons, Nat.mul_succ]
    omega
  | n, d, [p], k :: ks, h => by
    have hp := h p List.mem_cons_self
    have e : (PW.cut n d [p] (k :: ks)).bytes.length = 65 := by
      cases n <;> (show (1 :: (p.1 ++ p.2)).length = 65; rw [List.length_cons, List.length_append, hp.1, hp.2])
    rw [e]
    show 65 ≤ (70 + 2 * n) * 1 + 1
    omega
  | 0, d, p :: q :: l, k :: ks, _ => by
    show 1 ≤ _
    omega
  | n + 1, d, p :: q :: l, k :: ks, h => by
    have h1 := cut_le n (d := d + 1) (l := leftT d (p :: q :: l)) (ks := PW.keyL d (k :: ks)) fun x hx => h x (leftT_mem.1 hx).1
    have h2 := cut_le n (d := d + 1) (l := rightT d (p :: q :: l)) (ks := PW.keyR d (k :: ks)) fun x hx => h x (rightT_mem.1 hx).1
    have h3 := PW.halves d (p :: q :: l)
    show (2 :: ((PW.cut n (d + 1) (leftT d (p :: q :: l)) (PW.keyL d (k :: ks))).bytes ++ (PW.cut n (d + 1) (rightT d (p :: q :: l)) (PW.keyR d (k :: ks))).bytes)).length ≤ _
    rw [List.length_cons, List.length_append, ← h3]
    have h4 : 2 ≤ (leftT d (p :: q :: l)).length + (rightT d (p :: q :: l)).length := by rw [h3]; simp
    generalize (leftT d (p :: q :: l)).length = a at *
    generalize (rightT d (p :: q :: l)).length = b at *
    have e : (70 + 2 * (n + 1)) * (a + b) = (70 + 2 * n) * a + (70 + 2 * n) * b + 2 * (a + b) := by
      rw [show 70 + 2 * (n + 1) = (70 + 2 * n) + 2 by omega, Nat.add_mul, Nat.mul_add]
    rw [e]
    omega
theorem cut_inner {n d : Nat} {l : List PairT} {ks : List (List UInt8)} (h : 2 ≤ l.length) (hk : ks ≠ []) : PW.cut (n + 1) d l ks = .inner (PW.cut n (d + 1) (sdP 0 d l) (sdK 0 d ks)) (PW.cut n (d + 1) (sdP 1 d l) (sdK 1 d ks)) := by
  rw [sdP_one, sdK_one]
  match l, ks, h, hk with
  | p :: q :: l, k :: ks, _, _ => rfl
theorem own_rcut10 : Own 12 := fun _ _ => by go_simp
/-- A pair's key and value as bytes that are read. -/
theorem rd_key2 {g o c i : Nat} {l : List PairT} {p : PairT} {w : World} (h : Rd 64 eP (some ⟨g, o, none⟩) c l w) (hi : l[i]? = some p) (hp : OkT2 p) : Rd 1 eB (some ⟨g, o + 64 * i + 0, none⟩) 32 p.1 w ∧ Rd 1 eB (some ⟨g, o + 64 * i + 32, none⟩) 32 p.2 w := by
  obtain ⟨_, _, _, _, h5⟩ := h
  obtain ⟨b', o', e, hb, hr⟩ := h5 (Nat.lt_of_le_of_lt (Nat.zero_le _) (List.getElem?_eq_some_iff.1 hi).1)
  injection e with e
  injection e with e1 e2
  subst e1 e2
  have hr := hr i p hi
  rw [eP_cl] at hr
  have hl1 : (By p.1).length = 32 := by rw [By_len]; exact hp.1
  have key : ∀ (m : List UInt8) (a : Nat), w.rangeAt g a (By m) → m.length = 32 → Rd 1 eB (some ⟨g, a, none⟩) 32 m w := fun m a hm hl => by
    refine ⟨Nat.le_of_eq hl, by decide, fun h => (by cases h), okF_B m, fun _ => ⟨g, a, rfl, hb, fun i x hi j v hj => ?_⟩⟩
    cases j with
    | zero =>
      have e : v = .int .u8 (x.toNat : Int) := (Option.some.inj ((show (eB x).cl[0]? = some (.int .u8 (x.toNat : Int)) from rfl).symm.trans hj)).symm
      obtain ⟨h2, h3⟩ := List.getElem?_eq_some_iff.1 hi
      have h4 := By_at? h2
      rw [getElem!_pos m i h2, h3] at h4
      have h5 := hm i (.int .u8 (x.toNat : Int)) (by simpa using h4)
      rw [e, Nat.one_mul, Nat.add_zero]
      exact h5
    | succ j =>
      have : (eB x).cl[j + 1]? = none := rfl
      rw [this] at hj
      cases hj
  refine ⟨key _ _ (range_in (A := []) (B := By p.1) (Z := By p.2) hr rfl) hp.1, ?_⟩
  have := range_in (A := By p.1) (B := By p.2) (Z := []) hr (by simp)
  rw [hl1] at this
  exact key _ _ this hp.2
set_option maxRecDepth 100000 in
set_option maxHeartbeats 4000000 in
/-- One step, the sides' cuts being told. -/
theorem rcut_step {n d : Nat} {l : List PairT} {ks : List (List UInt8)} {A : Option Addr} {c : Nat} {A2 : Option Addr} {c2 : Nat} (hd : d ≤ 256) (hl : l.length ≤ 1000) (hkl : ks.length ≤ 1000) (hs : SortT l) (hsh : SharesT d l) (hn : n + d = 256)
    (ih : 0 < n → ∀ (l : List PairT) (ks : List (List UInt8)) (A : Option Addr) (c : Nat) (A2 : Option Addr) (c2 : Nat), l.length ≤ 1000 → ks.length ≤ 1000 → SortT l → SharesT (d + 1) l → Spec 12 [.slice A l.length c, .slice A2 ks.length c2, .int .i64 ((d + 1 : Nat) : Int)] [] (fun w => Rd 64 eP A c l w ∧ Rd 32 (eY 32) A2 c2 ks w) (newB (PW.cut (n - 1) (d + 1) l ks).bytes)) :
    Spec 12 [.slice A l.length c, .slice A2 ks.length c2, .int .i64 (d : Int)] [] (fun w => Rd 64 eP A c l w ∧ Rd 32 (eY 32) A2 c2 ks w) (newB (PW.cut n d l ks).bytes) := by
  obtain ⟨res, hres⟩ : ∃ r, (PW.cut n d l ks).bytes = r := ⟨_, rfl⟩
  rw [hres]
  refine spec_S [.c (.v (.slice A l.length c)), .c (.v (.slice A2 ks.length c2)), .c (.v (.int .i64 (d : Int)))] 91 Tryd.func12 rfl (by rw [Tryd.ntmps12]; rfl) (more_ok trivial (two_ok trivial trivial)) fun b => ?_
  refine s_pure ((∀ x ∈ l, OkT2 x) ∧ ∀ k ∈ ks, k.length = 32) (fun _ h _ => ⟨fun x hx => eP_len (h.1.2.2.2.1 x hx).1, fun k hk => by
    have := ((h.2.2.2.2.1 k hk).1 (.agg 32 (By k).toArray) (by simp [eY, SQ.parts1])).1
    rwa [List.size_toArray, By_len] at this⟩) fun ⟨hok, hks⟩ => ?_
  have hk : KeysT l := fun x hx => (hok x hx).1
  refine s_auto TY_ok rfl ?_
  refine s_seq fun K hK => ?_
  refine s_auto TY_ok rfl ?_
  refine s_ifD ((l.length : Int) = 0) rfl (fun h0 => ?_) (fun h0 => ?_)
  · obtain rfl : l = [] := List.eq_nil_of_length_eq_zero (by omega)
    obtain rfl : res = [0] := by rw [← hres]; cases n <;> rfl
    refine s_regA TY_ok rfl fun K5 hK5 => ?_
    refine l_list TY_ok b.B.heap.size [(0 : UInt8)] rfl rfl rfl rfl rfl (fun _ => rfl) rfl (by decide) (by decide) (okF_B _) (Nat.le_refl _) fun A1 => ?_
    refine l_autoS TY_ok rfl ?_
    refine s_end (hK5 _ ?_)
    refine s_freeM 0 rfl (Nat.le_refl _) ?_
    exact s_ret (k_ret TY_ok (A1, 1) rfl (by decide) rfl rfl rfl (fun _ _ _ => trivial) (fun _ h => h.1))
  refine s_skip (hK _ ?_)
  refine s_seq fun K1 hK1 => ?_
  refine s_auto TY_ok rfl ?_
  refine s_ifD ((ks.length : Int) = 0) rfl (fun h1 => ?_) (fun h1 => ?_)
  · obtain rfl : ks = [] := List.eq_nil_of_length_eq_zero (by omega)
    obtain ⟨rt, hrt⟩ : ∃ x, rootT (256 - d) l = x := ⟨_, rfl⟩
    have hrt32 : rt.length = 32 := by rw [← hrt]; exact rootT_len _ _
    obtain rfl : res = [3] ++ rt := by
      rw [← hres, ← hrt]
      cases l with
      | nil => exact absurd rfl h0
      | cons p l => cases n <;> rfl
    have hroot := rroot_S (256 - d) l A c (by omega) (by omega) hs (by rw [show 256 - (256 - d) = d by omega]; exact hsh)
    rw [hrt, show 256 - (256 - d) = d by omega] at hroot
    refine s_regA TY_ok rfl fun K5 hK5 => ?_
    refine l_call0 [.slice A l.length c, .int .i64 (d : Int)] rfl rfl rfl own_rroot9 rfl rfl (fun _ _ => rfl) hroot (fun _ h _ => h.1) fun _ => ?_
    refine l_autoS TY_ok rfl ?_
    refine s_end (hK5 _ ?_)
    refine s_regA TY_ok rfl fun K6 hK6 => ?_
    refine l_list TY_ok b.B.heap.size [(3 : UInt8)] rfl rfl rfl rfl rfl (fun _ => rfl) rfl (by decide) (by decide) (okF_B _) (Nat.le_refl _) fun A1 => ?_
    refine l_autoS TY_ok rfl ?_
    refine l_op (.s 7 0 32 32) trivial rfl rfl rfl (runO_all rfl Tryd.underlying38 rfl rfl) ?_
    refine l_appZ (u := .s 7 0 32 32) TY_ok 0 rt rfl rfl rfl rfl rfl rfl rfl (fun G => by rw [hrt32]; rfl) rfl rfl (rd_part _ rfl rfl hrt32 (by decide)) (by decide) (by simp [hrt32]) (by simp [hrt32]) (Nat.le_refl _) fun A3 c3 => ?_
    refine l_autoS TY_ok rfl ?_
    refine s_end (hK6 _ ?_)
    refine s_freeM 0 rfl (Nat.le_refl _) ?_
    exact s_ret (k_ret TY_ok (A3, c3) rfl (by decide) rfl rfl rfl (fun _ _ _ => trivial) (fun _ h => h.1))
  refine s_skip (hK1 _ ?_)
  have hkne : ks ≠ [] := fun e => h1 (by rw [e]; rfl)
  refine s_seq fun K2 hK2 => ?_
  refine s_auto TY_ok rfl ?_
  refine s_ifD ((l.length : Int) = 1) rfl (fun h2 => ?_) (fun h2 => ?_)
  · obtain ⟨p, rfl⟩ : ∃ p, l = [p] := List.length_eq_one_iff.1 (by omega)
    have hp : OkT2 p := hok p List.mem_cons_self
    obtain rfl : res = [1] ++ p.1 ++ p.2 := by
      rw [← hres]
      cases ks with
      | nil => exact absurd rfl hkne
      | cons k ks => cases n <;> simp [PW.cut, PW.bytes]
    refine s_pure (∃ g o, A = some ⟨g, o, none⟩) (fun _ h _ => by obtain ⟨g, o, e, _⟩ := h.1.2.2.2.2 (by simp); exact ⟨g, o, e⟩) fun ⟨g, o, hA⟩ => ?_
    subst hA
    refine s_regA TY_ok rfl fun K5 hK5 => ?_
    refine l_list TY_ok b.B.heap.size [(1 : UInt8)] rfl rfl rfl rfl rfl (fun _ => rfl) rfl (by decide) (by decide) (okF_B _) (Nat.le_refl _) fun A1 => ?_
    refine l_autoS TY_ok rfl ?_
    refine l_op (.v (.pointer (some ⟨g, o + 64 * 0, none⟩))) trivial rfl rfl rfl (runO_ixS 0 rfl Tryd.underlying22 rfl rfl rfl Nat.zero_lt_one) ?_
    refine l_autoS TY_ok rfl ?_
    refine l_op (.v (.slice (some ⟨g, o + 64 * 0 + 0, none⟩) 32 32)) trivial rfl rfl rfl (runO_allQ rfl Tryd.underlying38 rfl rfl) ?_
    refine l_appZ (A2' := fun _ => some ⟨g, o + 64 * 0 + 0, none⟩) (u := .v (.slice (some ⟨g, o + 64 * 0 + 0, none⟩) 32 32)) TY_ok 0 p.1 rfl rfl rfl rfl rfl rfl rfl (fun G => by rw [hp.1]; rfl) rfl rfl (fun G S w hv => (rd_key2 (i := 0) hv.fact.1 rfl hp).1) (by decide) (by simp [hp.1]) (by simp [hp.1]) (Nat.le_refl _) fun A3 c3 => ?_
    refine l_autoS TY_ok rfl ?_
    refine s_end (hK5 _ ?_)
    refine s_regA TY_ok rfl fun K6 hK6 => ?_
    refine l_op (.v (.pointer (some ⟨g, o + 64 * 0, none⟩))) trivial rfl rfl rfl (runO_ixS 0 rfl Tryd.underlying22 rfl rfl rfl Nat.zero_lt_one) ?_
    refine l_autoS TY_ok rfl ?_
    refine l_op (.v (.slice (some ⟨g, o + 64 * 0 + 32, none⟩) 32 32)) trivial rfl rfl rfl (runO_allQ rfl Tryd.underlying38 rfl rfl) ?_
    refine l_appZ (A2' := fun _ => some ⟨g, o + 64 * 0 + 32, none⟩) (u := .v (.slice (some ⟨g, o + 64 * 0 + 32, none⟩) 32 32)) TY_ok 0 p.2 rfl rfl rfl rfl rfl rfl rfl (fun G => by rw [hp.2]; rfl) rfl rfl (fun G S w hv => (rd_key2 (i := 0) hv.fact.1 rfl hp).2) (by decide) (by simp [hp.1, hp.2]) (by simp [hp.1, hp.2]) (Nat.le_refl _) fun A4 c4 => ?_
    refine l_autoS TY_ok rfl ?_
    refine s_end (hK6 _ ?_)
    refine s_freeM 0 rfl (Nat.le_refl _) ?_
    exact s_ret (k_ret TY_ok (A4, c4) rfl (by decide) rfl rfl rfl (fun _ _ _ => trivial) (fun _ h => h.1))
  refine s_skip (hK2 _ ?_)
  have hl2 : 2 ≤ l.length := by omega
  have hd2 : d < 256 := by
    by_cases e : d = 256
    · subst e
      have := hsh.one hs hk
      omega
    · omega
  obtain ⟨m, rfl⟩ : ∃ m, n = m + 1 := ⟨n - 1, by omega⟩
  have ih := ih (Nat.succ_pos _)
  rw [Nat.add_sub_cancel] at ih
  have hsub : ∀ s, (sdP s d l).length ≤ 1000 := fun s => Nat.le_trans (List.length_filter_le _ _) hl
  have hsubk : ∀ s, (sdK s d ks).length ≤ 1000 := fun s => Nat.le_trans (List.length_filter_le _ _) hkl
  have hss : ∀ s, SortT (sdP s d l) := fun s => hs.filter _
  have hshs : ∀ s, s < 2 → SharesT (d + 1) (sdP s d l) := fun s h => by
    have : s = 0 ∨ s = 1 := by omega
    rcases this with rfl | rfl
    · exact hsh.left
    · rw [sdP_one]
      exact hsh.right
  have hoks : ∀ s, ∀ p ∈ sdP s d l, OkT2 p := fun s p hp => hok p (List.mem_filter.1 hp).1
  let cb : Nat → List UInt8 := fun s => (PW.cut m (d + 1) (sdP s d l) (sdK s d ks)).bytes
  have hcb : ∀ s, (cb s).length ≤ 600000 := fun s => by
    refine Nat.le_trans (PW.cut_le m (hoks s)) ?_
    have h1 := hsub s
    have h2 : (70 + 2 * m) * (sdP s d l).length ≤ 582 * 1000 := Nat.mul_le_mul (by omega) h1
    omega
  let out : Nat → List UInt8 := fun s => [2] ++ (if 1 ≤ s then cb 0 else []) ++ (if 2 ≤ s then cb 1 else [])
  have hout : ∀ s, s < 2 → out s ++ cb s = out (s + 1) := fun s h => by
    have : s = 0 ∨ s = 1 := by omega
    rcases this with rfl | rfl <;> simp [out]
  have houtl : ∀ s, (out s).length ≤ 1200001 := fun s => by
    have h1 := hcb 0
    have h2 := hcb 1
    show ([2] ++ (if 1 ≤ s then cb 0 else []) ++ (if 2 ≤ s then cb 1 else [])).length ≤ _
    rw [List.length_append, List.length_append, List.length_singleton]
    have h3 : (if 1 ≤ s then cb 0 else []).length ≤ 600000 := by split; exact h1; exact Nat.zero_le _
    have h4 : (if 2 ≤ s then cb 1 else []).length ≤ 600000 := by split; exact h2; exact Nat.zero_le _
    omega
  obtain rfl : res = out 2 := by
    rw [← hres, cut_inner hl2 hkne]
    simp [out, cb, PW.bytes]
  have ih2 : ∀ s, s < 2 → ∀ A c A2 c2, Spec 12 [.slice A (sdP s d l).length c, .slice A2 (sdK s d ks).length c2, .int .i64 ((d + 1 : Nat) : Int)] [] (fun w => Rd 64 eP A c (sdP s d l) w ∧ Rd 32 (eY 32) A2 c2 (sdK s d ks) w) (newB (cb s)) := fun s h A c A2 c2 => ih _ _ A c A2 c2 (hsub s) (hsubk s) (hss s) (hshs s h)
  clear ih
  refine s_regA TY_ok rfl fun K5 hK5 => ?_
  refine l_list TY_ok b.B.heap.size [(2 : UInt8)] rfl rfl rfl rfl rfl (fun _ => rfl) rfl (by decide) (by decide) (okF_B _) (Nat.le_refl _) fun A1 => ?_
  refine l_autoS TY_ok rfl ?_
  refine s_end (hK5 _ ?_)
  refine s_seq fun K6 hK6 => ?_
  refine s_auto TY_ok rfl ?_
  refine s_block ?_
  let F : Nat × Option Addr × Nat → Env := fun ⟨s, B, e⟩ => ⟨[(10, .v (.int .i64 (s : Int))), (9, .v (.slice B (out s).length e)), (0, .v (.slice A l.length c)), (1, .v (.slice A2 ks.length c2)), (2, .v (.int .i64 (d : Int)))], [], [OwnS b.B.heap.size 5 1 eB B e (out s)], fun w => Rd 64 eP A c l w ∧ Rd 32 (eY 32) A2 c2 ks w, fun _ => True⟩
  refine c_weak (e' := F (0, A1, 1)) ⟨⟨rfl, rfl, rfl, rfl, rfl, trivial⟩, trivial, .refl _, fun _ h _ => h, fun _ _ => trivial⟩ (s_loop (fun y => 2 - y.1) F (fun y => y.1 ≤ 2) ?_ (0, A1, 1) (Nat.zero_le _))
  rintro ⟨s, B, e⟩ hs2
  dsimp only at hs2
  refine s_seq fun K7 hK7 => ?_
  refine s_auto TY_ok rfl ?_
  refine s_ifD ((s : Int) < 2) rfl (fun hlt => ?_) (fun hge => ?_)
  · have hlt : s < 2 := by omega
    have ho1 := houtl s
    refine s_skip (hK7 _ ?_)
    refine s_seq fun K8 hK8 => ?_
    refine s_block ?_
    refine s_auto TY_ok rfl ?_
    refine s_auto TY_ok rfl ?_
    refine s_nil0 b.B.heap.size 42 64 eP ?_
    refine s_seq fun K9 hK9 => ?_
    refine s_auto TY_ok rfl ?_
    refine s_block ?_
    let F2 : Nat × Option Addr × Nat → Env := fun ⟨j, X, x⟩ => ⟨[(52, .v (.int .i64 (j : Int))), (51, .v (.int .i64 (l.length : Int))), (50, .v (.slice A l.length c)), (11, .v (.slice X (sdP s d (l.take j)).length x)), (12, .v (.slice none 0 0)), (10, .v (.int .i64 (s : Int))), (9, .v (.slice B (out s).length e)), (0, .v (.slice A l.length c)), (1, .v (.slice A2 ks.length c2)), (2, .v (.int .i64 (d : Int)))], [], [OwnS b.B.heap.size 42 64 eP X x (sdP s d (l.take j)), OwnS b.B.heap.size 5 1 eB B e (out s)], fun w => Rd 64 eP A c l w ∧ Rd 32 (eY 32) A2 c2 ks w, fun _ => True⟩
    refine c_weak (e' := F2 (0, none, 0)) ⟨⟨rfl, rfl, rfl, rfl, rfl, rfl, rfl, rfl, rfl, rfl, trivial⟩, trivial, .refl _, fun _ h _ => h, fun _ _ => trivial⟩ (s_loop (fun y => l.length - y.1) F2 (fun y => y.1 ≤ l.length) ?_ (0, none, 0) (Nat.zero_le _))
    rintro ⟨j, X, x⟩ hj
    dsimp only at hj
    refine s_auto TY_ok rfl ?_
    refine s_seq fun K10 hK10 => ?_
    refine s_ifD ((j : Int) < (l.length : Int)) rfl (fun hjl => ?_) (fun hjl => ?_)
    · have hjl : j < l.length := by omega
      obtain ⟨p, hp0⟩ : ∃ y, l[j]? = some y := ⟨_, List.getElem?_eq_getElem hjl⟩
      have hp := hok p (List.mem_of_getElem? hp0)
      have hT := take_filter (fun x : PairT => bitT x.1 d == s) hp0
      have lT : (sdP s d (l.take j)).length ≤ 1000 := Nat.le_trans (List.length_filter_le _ _) (by rw [List.length_take]; omega)
      refine s_skip (hK10 _ ?_)
      refine s_seq fun K11 hK11 => ?_
      refine s_block ?_
      refine s_regA TY_ok rfl fun K12 hK12 => ?_
      refine l_elem TY_ok rfl rfl rfl j rfl hp0 rfl rfl (rd_fact fun _ h _ => h.1) ?_
      refine l_autoS TY_ok rfl ?_
      refine s_end (hK12 _ ?_)
      refine s_regA TY_ok rfl fun K13 hK13 => ?_
      refine l_call0 [.agg (By p.1).toArray, .int .i64 (d : Int)] rfl rfl rfl own_rbit9 rfl rfl (fun _ _ => rfl) (rbit_S hp.1 d hd2) (fun _ _ _ => trivial) fun _ => ?_
      refine l_autoS TY_ok rfl ?_
      refine s_end (hK13 _ ?_)
      refine s_ifD (((bitT p.1 d : Nat) : Int) = (s : Int)) rfl (fun hb => ?_) (fun hb => ?_)
      · have hb : bitT p.1 d = s := by omega
        have eT : sdP s d (l.take (j + 1)) = sdP s d (l.take j) ++ [p] := by simpa [hb, sdP] using hT
        refine s_lit ?_
        refine l_autoS TY_ok rfl ?_
        refine l_push TY_ok 0 p rfl rfl rfl rfl rfl rfl rfl (eP_ok hp) (by decide) (by decide) (by show (_ + 1) * 64 ≤ _; omega) (by omega) (Nat.le_refl _) fun X2 x2 => ?_
        rw [← eT]
        refine l_autoS TY_ok rfl ?_
        refine s_end (hK11 _ ?_)
        refine s_autoE TY_ok rfl ?_
        exact k_next (j + 1, X2, x2) hjl (by show l.length - (j + 1) < l.length - j; omega) ⟨⟨congrArg some (congrArg SV.v (congrArg (Value.int .i64) (wrapI rfl (by omega) (by omega)))), rfl, rfl, rfl, rfl, rfl, rfl, rfl, rfl, rfl, trivial⟩, trivial, .refl _, fun _ h _ => h.2, fun _ _ => trivial⟩
      · have hb : bitT p.1 d ≠ s := by omega
        have eT : sdP s d (l.take (j + 1)) = sdP s d (l.take j) := by simpa [hb, sdP] using hT
        refine s_skip (hK11 _ ?_)
        rw [← eT]
        refine s_autoE TY_ok rfl ?_
        exact k_next (j + 1, X, x) hjl (by show l.length - (j + 1) < l.length - j; omega) ⟨⟨congrArg some (congrArg SV.v (congrArg (Value.int .i64) (wrapI rfl (by omega) (by omega)))), rfl, rfl, rfl, rfl, rfl, rfl, rfl, rfl, rfl, trivial⟩, trivial, .refl _, fun _ h _ => h.2, fun _ _ => trivial⟩
    obtain rfl : j = l.length := by omega
    refine s_exit (k_pass (k_pass (k_out ?_)))
    refine hK9 _ ?_
    rw [List.take_length]
    refine s_free 0 rfl ?_
    refine s_nil0 b.B.heap.size 38 32 (eY 32) ?_
    refine s_seq fun K14 hK14 => ?_
    refine s_auto TY_ok rfl ?_
    refine s_block ?_
    let F4 : Nat × Option Addr × Nat → Env := fun ⟨j, Y, y⟩ => ⟨[(69, .v (.int .i64 (j : Int))), (68, .v (.int .i64 (ks.length : Int))), (67, .v (.slice A2 ks.length c2)), (12, .v (.slice Y (sdK s d (ks.take j)).length y)), (11, .v (.slice X (sdP s d l).length x)), (10, .v (.int .i64 (s : Int))), (9, .v (.slice B (out s).length e)), (0, .v (.slice A l.length c)), (1, .v (.slice A2 ks.length c2)), (2, .v (.int .i64 (d : Int)))], [], [OwnS b.B.heap.size 38 32 (eY 32) Y y (sdK s d (ks.take j)), OwnS b.B.heap.size 5 1 eB B e (out s)], fun w => Rd 64 eP X x (sdP s d l) w ∧ Rd 64 eP A c l w ∧ Rd 32 (eY 32) A2 c2 ks w, fun _ => True⟩
    refine c_weak (e' := F4 (0, none, 0)) ⟨⟨rfl, rfl, rfl, rfl, rfl, rfl, rfl, rfl, rfl, rfl, trivial⟩, trivial, .refl _, fun _ h _ => h, fun _ _ => trivial⟩ (s_loop (fun y => ks.length - y.1) F4 (fun y => y.1 ≤ ks.length) ?_ (0, none, 0) (Nat.zero_le _))
    rintro ⟨j, Y, y⟩ hj2
    dsimp only at hj2
    refine s_auto TY_ok rfl ?_
    refine s_seq fun K15 hK15 => ?_
    refine s_ifD ((j : Int) < (ks.length : Int)) rfl (fun hjk => ?_) (fun hjk => ?_)
    · have hjk : j < ks.length := by omega
      obtain ⟨k, hk0⟩ : ∃ y, ks[j]? = some y := ⟨_, List.getElem?_eq_getElem hjk⟩
      have hk32 := hks k (List.mem_of_getElem? hk0)
      have hT := take_filter (fun x : List UInt8 => bitT x d == s) hk0
      have lT : (sdK s d (ks.take j)).length ≤ 1000 := Nat.le_trans (List.length_filter_le _ _) (by rw [List.length_take]; omega)
      refine s_skip (hK15 _ ?_)
      refine s_seq fun K16 hK16 => ?_
      refine s_block ?_
      refine s_regA TY_ok rfl fun K17 hK17 => ?_
      refine l_elem TY_ok rfl rfl rfl j rfl hk0 rfl rfl (rd_fact fun _ h _ => h.2.2) ?_
      refine l_autoS TY_ok rfl ?_
      refine s_end (hK17 _ ?_)
      refine s_regA TY_ok rfl fun K18 hK18 => ?_
      refine l_call0 [.agg (By k).toArray, .int .i64 (d : Int)] rfl rfl rfl own_rbit9 rfl rfl (fun _ _ => rfl) (rbit_S hk32 d hd2) (fun _ _ _ => trivial) fun _ => ?_
      refine l_autoS TY_ok rfl ?_
      refine s_end (hK18 _ ?_)
      refine s_ifD (((bitT k d : Nat) : Int) = (s : Int)) rfl (fun hb => ?_) (fun hb => ?_)
      · have hb : bitT k d = s := by omega
        have eT : sdK s d (ks.take (j + 1)) = sdK s d (ks.take j) ++ [k] := by simpa [hb, sdK] using hT
        refine s_lit ?_
        refine l_autoS TY_ok rfl ?_
        refine l_push TY_ok 0 k rfl rfl rfl rfl rfl rfl rfl (eY_ok hk32) (by decide) (by decide) (by show (_ + 1) * 32 ≤ _; omega) (by omega) (Nat.le_refl _) fun Y2 y2 => ?_
        rw [← eT]
        refine l_autoS TY_ok rfl ?_
        refine s_end (hK16 _ ?_)
        refine s_autoE TY_ok rfl ?_
        exact k_next (j + 1, Y2, y2) hjk (by show ks.length - (j + 1) < ks.length - j; omega) ⟨⟨congrArg some (congrArg SV.v (congrArg (Value.int .i64) (wrapI rfl (by omega) (by omega)))), rfl, rfl, rfl, rfl, rfl, rfl, rfl, rfl, rfl, trivial⟩, trivial, .refl _, fun _ h _ => h.2, fun _ _ => trivial⟩
      · have hb : bitT k d ≠ s := by omega
        have eT : sdK s d (ks.take (j + 1)) = sdK s d (ks.take j) := by simpa [hb, sdK] using hT
        refine s_skip (hK16 _ ?_)
        rw [← eT]
        refine s_autoE TY_ok rfl ?_
        exact k_next (j + 1, Y, y) hjk (by show ks.length - (j + 1) < ks.length - j; omega) ⟨⟨congrArg some (congrArg SV.v (congrArg (Value.int .i64) (wrapI rfl (by omega) (by omega)))), rfl, rfl, rfl, rfl, rfl, rfl, rfl, rfl, rfl, trivial⟩, trivial, .refl _, fun _ h _ => h.2, fun _ _ => trivial⟩
    obtain rfl : j = ks.length := by omega
    refine s_exit (k_pass (k_pass (k_out ?_)))
    refine hK14 _ ?_
    rw [List.take_length]
    refine s_free 0 rfl ?_
    refine s_lit ?_
    refine l_autoS TY_ok rfl ?_
    refine l_num 87 ((d + 1 : Nat) : Int) rfl (wrapI (by omega) (by omega) (by omega)) ?_
    refine l_call0 [.slice X (sdP s d l).length x, .slice Y (sdK s d ks).length y, .int .i64 ((d + 1 : Nat) : Int)] rfl rfl rfl own_rcut10 rfl rfl (fun _ _ => rfl) (ih2 s hlt X x Y y) (fun _ h _ => ⟨h.2.1, h.1⟩) fun ⟨Z, z⟩ => ?_
    have hcs := hcb s
    obtain ⟨cs, hcs2⟩ : ∃ q, cb s = q := ⟨_, rfl⟩
    have hos := hout s hlt
    rw [hcs2] at hcs hos
    simp only [hcs2]
    refine l_appY TY_ok 0 cs rfl rfl rfl rfl rfl rfl rfl rfl rfl (rd_fact fun _ _ h => h.1) (by decide) (by show ((out s).length + cs.length) * 1 ≤ _; omega) (by show (out s).length + cs.length ≤ _; omega) (Nat.le_refl _) fun B2 e2 => ?_
    rw [hos]
    refine l_autoS TY_ok rfl ?_
    refine s_end (hK8 _ ?_)
    refine s_autoE TY_ok rfl ?_
    exact k_next (s + 1, B2, e2) hlt (by show 2 - (s + 1) < 2 - s; omega) ⟨⟨congrArg some (congrArg SV.v (congrArg (Value.int .i64) (wrapI rfl (by omega) (by omega)))), rfl, rfl, rfl, rfl, trivial⟩, trivial, .refl _, fun _ h _ => h.2.2.2, fun _ _ => trivial⟩
  obtain rfl : s = 2 := by omega
  refine s_exit (k_pass (k_pass (k_out ?_)))
  refine hK6 _ ?_
  refine s_auto TY_ok rfl ?_
  refine s_freeM 0 rfl (Nat.le_refl _) ?_
  exact s_ret (k_ret TY_ok (B, e) rfl (by decide) rfl rfl rfl (fun _ _ _ => trivial) (fun _ h => h.1))
theorem rcut_S : ∀ (n : Nat) (d : Nat) (l : List PairT) (ks : List (List UInt8)) (A : Option Addr) (c : Nat) (A2 : Option Addr) (c2 : Nat), n + d = 256 → l.length ≤ 1000 → ks.length ≤ 1000 → SortT l → SharesT d l →
    Spec 12 [.slice A l.length c, .slice A2 ks.length c2, .int .i64 (d : Int)] [] (fun w => Rd 64 eP A c l w ∧ Rd 32 (eY 32) A2 c2 ks w) (newB (PW.cut n d l ks).bytes) := by
  intro n
  induction n with
  | zero => exact fun d l ks A c A2 c2 hn hl hkl hs hsh => rcut_step (by omega) hl hkl hs hsh hn fun h => absurd h (Nat.lt_irrefl _)
  | succ n ih => exact fun d l ks A c A2 c2 hn hl hkl hs hsh => rcut_step (by omega) hl hkl hs hsh hn fun _ l ks A c A2 c2 => ih (d + 1) l ks A c A2 c2 (by omega)
end Go.Proofs.YtoecohpcnojokaaDoor
/-
  THE DOCUMENT'S PARTS: what bytes are read as: steps, the tape.
-/
namespace Go.Proofs.YtoecohpcnojokaaDoor
open Go.RowKit Go.IntWalk Nums

section
variable {α : Type} {fe : α → SQ} {l : List α} {P : Program} {T : List TyR} {b : Base} {ops : Array Oper} {Q : Exit → Act → World → Prop} {N : Nat} {E : SE} {L : List LV} {R : List Res} {F M : World → Prop} {o : Oper} {rest : List Oper} {k : Nat} {t e : TypeId} {x z : Operand} {lo c sz g : Nat}
/-- A part of an element of a slice of one's own is written. -/
theorem l_stF {q : SQ} (i j off n : Nat) (u u' : α) (hi : R[i]? = some (OwnS lo e sz fe (some ⟨g, 0, none⟩) c l)) (hg : o.guard = none) (hd : o.dst = none) (ho : o.op = .store t x z) (hx : evS E x = some (.v (.pointer (some ⟨g, sz * j + off, none⟩)))) (hz : evS E z = some (.q q)) (hj : l[j]? = some u) (ht : (P.info? t).map (·.size) = some n) (hn : q.cl.length = n) (hone : ∀ v ∈ q.cl, v.oneCell' = true)
    (hcl : (fe u').cl = (fe u).cl.take off ++ q.cl ++ (fe u).cl.drop (off + n)) (hfit : off + n ≤ sz) (hok' : OkP (fe u').parts1 ∧ (fe u').cl.length = sz)
    (hc : lS P b ops Q N rest ⟨E, L, R.set i (OwnS lo e sz fe (some ⟨g, 0, none⟩) c (l.set j u')), F, M⟩) : lS P b ops Q N (o :: rest) ⟨E, L, R, F, M⟩ := fun a w ⟨G, S, f1, f2, f3⟩ => by
  obtain ⟨S1, ⟨hokl, hrow, hS1⟩, hput⟩ := f3.put hi
  rcases hrow.2 with ⟨h6, h7⟩ | ⟨g', cap, cur, hv, hb, hg', hnc, hmx, hcs, htk⟩
  · injection h6 with h6
    cases h6
  injection hv with v1 _ v2
  injection v1 with v1
  injection v1 with v1
  subst v1
  have hB : Blk w g e cur := hg'
  have e1 : a.eval x = .pointer (some ⟨g, sz * j + off, none⟩) := f1.eval (evS_ok hx)
  have e2 : a.eval z = q.den := f1.eval (evS_ok hz)
  obtain ⟨B, Z, s1, s2, s3⟩ := flatF_split hokl hj
  have hul := (hokl u (List.mem_of_getElem? hj)).2
  have hfl : (flatF fe l).length = B.length + (sz + Z.length) := by rw [s1, List.length_append, List.length_append, hul]
  have hmc : sz * j + off + n ≤ cur.size := by
    have h1 : (flatF fe l).length ≤ cur.size := by
      rw [← htk, List.length_take, ← Array.length_toList]
      exact Nat.min_le_right _ _
    omega
  have hqs : q.den.cells.size = n := by rw [← hn]; exact (Array.length_toList).symm
  have hst := run_store_part (P := P) (t := t) (v := q.den) (off := sz * j + off) hB (by rw [ht, hqs]) (by rw [hqs]; exact hmc) hone
  rw [hqs] at hst
  have hB' := hB.row (cur.toList.take (sz * j + off) ++ q.den.cells.toList ++ cur.toList.drop (sz * j + off + n)).toArray
  have hok2 : OkF sz fe (l.set j u') := fun y hy => by
    rcases List.mem_or_eq_of_mem_set hy with h | rfl
    · exact hokl y h
    · exact hok'
  have hll : (l.set j u').length = l.length := List.length_set
  have hnew : flatF fe (l.set j u') = (flatF fe l).take (sz * j + off) ++ q.cl ++ (flatF fe l).drop (sz * j + off + n) := by
    rw [s3, s1, hcl, ← s2]
    have t1 : (B ++ ((fe u).cl ++ Z)).take (B.length + off) = B ++ (fe u).cl.take off := by
      rw [List.take_append, List.take_of_length_le (by omega), Nat.add_sub_cancel_left, List.take_append_of_le_length (by omega)]
    have t2 : (B ++ ((fe u).cl ++ Z)).drop (B.length + off + n) = (fe u).cl.drop (off + n) ++ Z := by
      rw [List.drop_append, List.drop_of_length_le (by omega), List.nil_append, show B.length + off + n - B.length = off + n by omega, List.drop_append_of_le_length (by omega)]
    rw [t1, t2]
    simp only [List.append_assoc]
  obtain ⟨S'', h12⟩ := hput (OwnS lo e sz fe (some ⟨g, 0, none⟩) c (l.set j u')) (w.setRow g (cur.toList.take (sz * j + off) ++ q.den.cells.toList ++ cur.toList.drop (sz * j + off + n)).toArray) S1 ((Chg.row w g _).mono fun k _ hk => (hS1 k).2 (by rw [hk]; rfl))
    ⟨hok2, ⟨by rw [flatF_len hok2], .inr ⟨g, cap, _, by rw [hll, v2], hb, hB', by rw [hll]; exact hnc, hmx, by
      have h1 : cur.toList.length = cur.size := Array.length_toList
      have h2 : q.den.cells.toList.length = n := by rw [Array.length_toList, hqs]
      rw [List.size_toArray, List.length_append, List.length_append, List.length_take, List.length_drop, h2, h1, ← hcs]
      omega, by
      have h1 : cur.toList.length = cur.size := Array.length_toList
      have h2 : q.den.cells.toList.length = n := by rw [Array.length_toList, hqs]
      have h3 : l.length * sz = (flatF fe l).length := (flatF_len hokl).symm
      rw [hll, hnew, h3]
      rw [h3] at htk
      show List.take _ (cur.toList.take (sz * j + off) ++ q.den.cells.toList ++ cur.toList.drop (sz * j + off + n)) = _
      rw [List.take_append, List.take_of_length_le (by rw [List.length_append, List.length_take, h2]; omega), List.length_append, List.length_take, h2, Nat.min_eq_left (by omega)]
      conv => rhs; rw [← htk]
      rw [List.take_take, Nat.min_eq_left (by omega), List.drop_take]
      rfl⟩⟩, hS1⟩ (fun k hk _ => hk)
  refine wpl_skip (w' := w.setRow g (cur.toList.take (sz * j + off) ++ q.den.cells.toList ++ cur.toList.drop (sz * j + off + n)).toArray) (oneS hg) (by
    unfold execOp
    simp only [ho, e1, e2, hst, Sem.run_bind, Sem.run_pure, Result.andThen_ok]) ?_
  rw [hd]
  exact hc _ _ ⟨G, S'', f1, f2, h12⟩
end
/-- What lies behind a pointer is read, the order drawn. -/
theorem h_ldO {T : List TyR} {b : Base} {ops : Array Oper} {Q : Exit → Act → World → Prop} {N : Nat} {G : Nat → Nat} {S : Nat → Prop} {E : SE} {L : List LV} {R : List Res} {F M : World → Prop} {w0 : World} {T' : List Oper} {Fa : Told} {i k : Nat} {o : Oper} {rest : List (Nat × Oper)} {t ty : TypeId} {x : Operand} {g off : Nat} {ps : List Pt} {q : SQ} (hT : OkT Tryd.prog T) (hst : StW b G S L R F M w0) (hf : farP i Fa = true) (hg : o.guard = none) (hd : o.dst = some k) (hk : Nat.blt k N = true) (ho : o.op = .load t x) (hx : evS E x = some (.v (.pointer (some ⟨g, off, none⟩)))) (hl : loadS T ps t off = some q) (hok : OkP ps) (h : ∀ G S w, View G S L R F M w → ObjF g ty ps w)
    (hn : hS Tryd.prog ops Q N T' G w0 rest ((k, .q q) :: E) Fa) : hS Tryd.prog ops Q N T' G w0 ((i, o) :: rest) E Fa :=
  h_opV hst (.q q) (loadS_ok hT hok hl).1 hf hg hd hk (fun G S _ w ha hv => (load_obj hT ho hx hl ha (h G S w hv)).2) hn
/-- What lies in a tape: its bytes, how far they are read, the error. -/
def tapP (A : Option Addr) (c : Nat) (B : List UInt8) (p e : Nat) : List Pt := [.one (.v (.slice A B.length c)), .one (.v (.int .i64 (p : Int))), .one (.v (.int .i64 (e : Int)))]
theorem tapP_ok (A : Option Addr) (c : Nat) (B : List UInt8) (p e : Nat) : OkP (tapP A c B p e) := fun x hx => by
  rcases List.mem_cons.1 hx with rfl | hx
  · exact ⟨trivial, rfl, rfl⟩
  rcases List.mem_cons.1 hx with rfl | hx
  · exact ⟨trivial, rfl, rfl⟩
  rw [List.mem_singleton.1 hx]
  exact ⟨trivial, rfl, rfl⟩
abbrev TapQ (g : Nat) (A : Option Addr) (c : Nat) (B : List UInt8) (p e : Nat) : Res := ObjS g 80 (tapP A c B p e)
def formQ (is : Bool) (e : Nat) : Nat := if is = true ∧ e = 0 then 13 else e
/-- A hash is read: it, how far, the error. -/
def hashQ (B : List UInt8) (p e : Nat) : List UInt8 × Nat × Nat := if e ≠ 0 then (z32T, p, e) else if B.length < p + 32 then (z32T, p, 10) else ((B.drop p).take 32, p + 32, 0)
theorem hashQ_len (B : List UInt8) (p e : Nat) : (hashQ B p e).1.length = 32 := by
  unfold hashQ
  split
  · rfl
  · split
    · rfl
    · rw [List.length_take, List.length_drop]
      omega
theorem own_rform : Own 53 := fun _ _ => by go_simp
theorem own_rhash : Own 52 := fun _ _ => by go_simp
set_option maxRecDepth 100000 in
set_option maxHeartbeats 1000000 in
theorem rform_S (g : Nat) (A : Option Addr) (c : Nat) (B : List UInt8) (p e : Nat) (is : Bool) : Spec 53 [.pointer (some ⟨g, 0, none⟩), .bool is] [TapQ g A c B p e] (fun _ => True) { ret := fun _ : Unit => .t [], own := fun _ => [TapQ g A c B p (formQ is e)] } := by
  refine spec_S [.c (.v (.pointer (some ⟨g, 0, none⟩))), .c (.v (.bool is))] 15 Tryd.func53 rfl (by rw [Tryd.ntmps53]; rfl) (two_ok trivial trivial) fun b => ?_
  cases is with
  | false =>
    refine s_auto TY_ok rfl ?_
    refine s_no rfl ?_
    exact s_skip (k_ret TY_ok () rfl (by decide) rfl rfl rfl (fun _ _ _ => trivial) (fun _ _ => trivial))
  | true =>
    refine s_regA TY_ok rfl fun K hK => ?_
    refine l_ldO TY_ok rfl rfl rfl rfl rfl rfl (obj_own 0 rfl) ?_
    refine l_autoS TY_ok rfl ?_
    refine s_end (hK _ ?_)
    refine s_ifD ((e : Int) = 0) rfl (fun h0 => ?_) (fun h0 => ?_)
    · have e1 : formQ true e = 13 := if_pos ⟨rfl, by omega⟩
      refine s_lit ?_
      refine l_autoS TY_ok rfl ?_
      refine l_stO TY_ok 0 rfl rfl rfl rfl rfl rfl rfl ?_
      exact s_end (k_ret TY_ok () rfl (by decide) rfl rfl (by rw [e1]; rfl) (fun _ _ _ => trivial) (fun _ _ => trivial))
    · have e1 : formQ true e = e := if_neg fun h => h0 (by rw [h.2]; rfl)
      exact s_skip (k_ret TY_ok () rfl (by decide) rfl rfl (by rw [e1]) (fun _ _ _ => trivial) (fun _ _ => trivial))
/-- What has been copied of 32 bytes. -/
def cpH (l : List UInt8) (i : Nat) : List UInt8 := l.take i ++ (List.replicate 32 0).drop i
theorem cpH_next {l : List UInt8} {i : Nat} {x : UInt8} (hl : l.length = 32) (h : l[i]? = some x) : cpH l (i + 1) = (cpH l i).set i x := by
  have hi := (List.getElem?_eq_some_iff.1 h).1
  have e : (l.take i).length = i := by rw [List.length_take]; omega
  unfold cpH
  rw [List.take_add_one, h, List.set_append_right _ _ (by omega), e, Nat.sub_self, List.drop_replicate, List.drop_replicate, show 32 - i = (32 - (i + 1)) + 1 by omega, List.replicate_succ]
  simp
theorem cpH_len {l : List UInt8} {i : Nat} (hl : l.length = 32) (hi : i ≤ 32) : (cpH l i).length = 32 := by
  unfold cpH
  rw [List.length_append, List.length_take, List.length_drop, List.length_replicate]
  omega
theorem By_setH (l : List UInt8) (i : Nat) (y : UInt8) : By (l.set i y) = (By l).set i (.int .u8 (y.toNat : Int)) := List.map_set
set_option maxRecDepth 100000 in
set_option maxHeartbeats 2000000 in
theorem rhash_S (g : Nat) (A : Option Addr) (c : Nat) (B : List UInt8) (p e : Nat) (hp : p ≤ B.length) (hB : B.length ≤ 1000000) : Spec 52 [.pointer (some ⟨g, 0, none⟩)] [TapQ g A c B p e] (Rd 1 eB A c B) { ret := fun _ : Unit => .q (eY 32 (hashQ B p e).1), own := fun _ => [TapQ g A c B (hashQ B p e).2.1 (hashQ B p e).2.2] } := by
  obtain ⟨hq, hhq⟩ : ∃ x, hashQ B p e = x := ⟨_, rfl⟩
  rw [hhq]
  refine spec_S [.c (.v (.pointer (some ⟨g, 0, none⟩)))] 58 Tryd.func52 rfl (by rw [Tryd.ntmps52]; rfl) (one_ok trivial) fun b => ?_
  refine s_auto TY_ok rfl ?_
  refine s_auto TY_ok rfl ?_
  refine s_seq fun K hK => ?_
  have hok := tapP_ok A c B p e
  have hlate : ∀ e', (e' = 0 → p + 32 ≤ B.length ∧ e = 0) → (e' ≠ 0 → hq = (z32T, p, e')) → ∀ en, Weak en ⟨[(0, .v (.pointer (some ⟨g, 0, none⟩))), (2, .a 2 0), (3, .a 3 0)], [⟨3, none, 38, [.agg 32 (By z32T).toArray]⟩, ⟨2, none, 38, [.agg 32 (By z32T).toArray]⟩], [TapQ g A c B p e'], Rd 1 eB A c B, fun _ => True⟩ → kS b K 58 en := by
    intro e' h1 h2 en hw
    refine k_weak hw (hK _ ?_)
    refine s_seq fun K2 hK2 => ?_
    refine s_regA TY_ok rfl fun K3 hK3 => ?_
    refine l_ldO TY_ok rfl rfl rfl rfl rfl rfl (obj_own 0 rfl) ?_
    refine l_autoS TY_ok rfl ?_
    refine s_end (hK3 _ ?_)
    refine s_ifD ((e' : Int) ≠ 0) rfl (fun h0 => ?_) (fun h0 => ?_)
    · have h0 : e' ≠ 0 := by omega
      obtain rfl := h2 h0
      refine s_auto TY_ok rfl ?_
      exact s_ret (k_ret TY_ok () rfl (by decide) rfl rfl rfl (fun _ _ _ => trivial) (fun _ _ => trivial))
    have h0 : e' = 0 := by omega
    subst h0
    obtain ⟨h3, rfl⟩ := h1 rfl
    refine s_skip (hK2 _ ?_)
    obtain ⟨m, hm⟩ : ∃ m, (B.drop p).take 32 = m := ⟨_, rfl⟩
    have hml : m.length = 32 := by rw [← hm, List.length_take, List.length_drop]; omega
    obtain rfl : hq = (m, p + 32, 0) := by
      rw [← hhq, ← hm]
      unfold hashQ
      rw [if_neg (fun h => h rfl), if_neg (by omega)]
    refine s_seq fun K4 hK4 => ?_
    refine s_auto TY_ok rfl ?_
    refine s_block ?_
    let F : Nat → Env := fun i => ⟨[(32, .v (.int .i64 (i : Int))), (0, .v (.pointer (some ⟨g, 0, none⟩))), (2, .a 2 0), (3, .a 3 0)], [⟨3, none, 38, [.agg 32 (By (cpH m i)).toArray]⟩, ⟨2, none, 38, [.agg 32 (By z32T).toArray]⟩], [TapQ g A c B p 0], Rd 1 eB A c B, fun _ => True⟩
    refine c_weak (e' := F 0) ⟨⟨rfl, rfl, rfl, rfl, trivial⟩, ⟨rfl, rfl, rfl, rfl, trivial⟩, .refl _, fun _ h _ => h, fun _ _ => trivial⟩ (s_loop (fun i => 32 - i) F (fun i => i ≤ 32) ?_ 0 (Nat.zero_le _))
    intro i hi
    refine s_auto TY_ok rfl ?_
    refine s_seq fun K5 hK5 => ?_
    refine s_ifD ((i : Int) < 32) rfl (fun hlt => ?_) (fun hge => ?_)
    · have hlt : i < 32 := by omega
      obtain ⟨x, hx⟩ : ∃ x, m[i]? = some x := ⟨_, List.getElem?_eq_getElem (by omega)⟩
      have hxB : B[p + i]? = some x := by
        rw [← hm, List.getElem?_take_of_lt hlt, List.getElem?_drop] at hx
        exact hx
      have hn := cpH_next hml hx
      have h32 := cpH_len hml (show i ≤ 32 by omega)
      have h33 := cpH_len hml (show i + 1 ≤ 32 by omega)
      refine s_skip (hK5 _ ?_)
      refine s_seq fun K6 hK6 => ?_
      refine s_block ?_
      refine s_auto TY_ok rfl ?_
      refine s_drawn 13 (by decide) (by kernel_rfl) (by kernel_rfl) fun G S w0 hst => ?_
      refine h_auto (Fa := []) TY_ok hst rfl ?_
      refine h_ldO TY_ok hst rfl rfl rfl rfl rfl rfl rfl (tapP_ok A c B p 0) (obj_own 0 rfl) ?_
      refine h_auto (Fa := []) TY_ok hst rfl ?_
      refine h_ldO TY_ok hst rfl rfl rfl rfl rfl rfl rfl (tapP_ok A c B p 0) (obj_own 0 rfl) ?_
      refine h_auto (Fa := []) TY_ok hst rfl ?_
      refine h_num 45 ((p + i : Nat) : Int) rfl (wrapI (by omega) (by omega) (by omega)) ?_
      refine g_elem (b := b) TY_ok hst rfl rfl rfl (p + i) rfl hxB rfl rfl (rd_fact fun _ h _ => h) ?_
      refine h_end (Fa := []) hst ?_
      refine l_op (.a 3 (0 + 1 * i)) trivial rfl rfl rfl (runO_ixA i rfl Tryd.underlying38 rfl rfl rfl (by omega)) ?_
      refine l_stA [.agg 32 (By (cpH m (i + 1))).toArray] rfl rfl rfl rfl rfl rfl rfl rfl rfl (by show 0 + 1 * i < (By (cpH m i)).toArray.size; rw [List.size_toArray, By_len]; omega) (eY_ok h33).1 (by show By (cpH m (i + 1)) = (By (cpH m i)).set (0 + 1 * i) _; rw [hn, By_setH, Nat.one_mul, Nat.zero_add]) ?_
      refine s_end (hK6 _ ?_)
      refine s_autoE TY_ok rfl ?_
      exact k_next (i + 1) hlt (by show 32 - (i + 1) < 32 - i; omega) ⟨⟨congrArg some (congrArg SV.v (congrArg (Value.int .i64) (wrapI rfl (by omega) (by omega)))), rfl, rfl, rfl, trivial⟩, ⟨rfl, rfl, rfl, rfl, trivial⟩, .refl _, fun _ h _ => h, fun _ h => h⟩
    obtain rfl : i = 32 := by omega
    refine s_exit (k_pass (k_pass (k_out ?_)))
    refine hK4 _ ?_
    have hcp : cpH m 32 = m := by
      unfold cpH
      rw [List.take_of_length_le (by omega), List.drop_of_length_le (by simp), List.append_nil]
    rw [hcp]
    refine s_regA TY_ok rfl fun K7 hK7 => ?_
    refine l_ldO TY_ok rfl rfl rfl rfl rfl rfl (obj_own 0 rfl) ?_
    refine l_autoS TY_ok rfl ?_
    refine l_num 54 ((p + 32 : Nat) : Int) rfl (wrapI (by omega) (by omega) (by omega)) ?_
    refine l_stO TY_ok 0 rfl rfl rfl rfl rfl rfl rfl ?_
    refine s_end (hK7 _ ?_)
    refine s_auto TY_ok rfl ?_
    exact s_ret (k_ret TY_ok () rfl (by decide) rfl rfl rfl (fun _ _ _ => trivial) (fun _ _ => trivial))
  refine s_regH 17 (by decide) (by kernel_rfl) (by kernel_rfl) fun K1 hK1 G S w0 hst => ?_
  refine h_auto TY_ok hst rfl ?_
  refine h_ldO TY_ok hst rfl rfl rfl rfl rfl rfl rfl hok (obj_own 0 rfl) ?_
  refine h_auto TY_ok hst rfl ?_
  by_cases he : e = 0
  · subst he
    refine h_is 10 true rfl (by simp) ?_
    refine h_auto TY_ok hst rfl ?_
    refine h_ldO TY_ok hst rfl rfl rfl rfl rfl rfl rfl hok (obj_own 0 rfl) ?_
    refine h_auto TY_ok hst rfl ?_
    refine h_num 15 ((p + 32 : Nat) : Int) rfl (wrapI (by omega) (by omega) (by omega)) ?_
    refine h_ldO TY_ok hst rfl rfl rfl rfl rfl rfl rfl hok (obj_own 0 rfl) ?_
    refine h_auto TY_ok hst rfl ?_
    refine h_end hst ?_
    refine l_autoS TY_ok rfl ?_
    refine s_end (hK1 _ ?_)
    refine s_ifD (((p + 32 : Nat) : Int) > (B.length : Int)) rfl (fun h1 => ?_) (fun h1 => ?_)
    · refine s_lit ?_
      refine l_autoS TY_ok rfl ?_
      refine l_stO TY_ok 0 rfl rfl rfl rfl rfl rfl rfl ?_
      refine s_end (hlate 10 (fun h => by cases h) (fun _ => ?_) _ ⟨⟨rfl, rfl, rfl, trivial⟩, ⟨rfl, rfl, rfl, rfl, trivial⟩, .refl _, fun _ h _ => h, fun _ h => h⟩)
      rw [← hhq]
      unfold hashQ
      rw [if_neg (fun h => h rfl), if_pos (by omega)]
    · exact s_skip (hlate 0 (fun _ => ⟨by omega, rfl⟩) (fun h => absurd rfl h) _ ⟨⟨rfl, rfl, rfl, trivial⟩, ⟨rfl, rfl, rfl, rfl, trivial⟩, .refl _, fun _ h _ => h, fun _ h => h⟩)
  · refine h_is 10 false rfl (by simp; omega) ?_
    refine h_auto TY_ok hst rfl ?_
    refine h_end hst ?_
    refine l_autoS TY_ok rfl ?_
    refine s_end (hK1 _ ?_)
    refine s_no rfl ?_
    refine s_skip (hlate e (fun h => absurd h he) (fun _ => ?_) _ ⟨⟨rfl, rfl, rfl, trivial⟩, ⟨rfl, rfl, rfl, rfl, trivial⟩, .refl _, fun _ h _ => h, fun _ h => h⟩)
    rw [← hhq]
    exact if_pos he
end Go.Proofs.YtoecohpcnojokaaDoor
/-
  THE PROGRAM'S PARTS, read: where a node stands; whether a key leads there; how many pairs there are at least.
-/
namespace Go.Proofs.YtoecohpcnojokaaDoor
open Go.RowKit Go.IntWalk Nums

/-- Bytes that say a way: its bits, then noughts. -/
def WayB (wy : List UInt8) (way : List Nat) : Prop := wy.length = 32 ∧ way.length ≤ 256 ∧ (∀ i, i < way.length → bitT wy i = way[i]!) ∧ ∀ i, way.length ≤ i → i < 256 → bitT wy i = 0
def plQ (wy : List UInt8) (d : Nat) : SQ := .p [.agg 32 (By wy).toArray, .one (.v (.int .i64 (d : Int)))]
theorem plQ_ok {wy : List UInt8} (h : wy.length = 32) (d : Nat) : (plQ wy d).Ok := fun p hp => by
  rcases List.mem_cons.1 hp with rfl | hp
  · exact agg_ok h
  · rw [List.mem_singleton.1 hp]
    exact ⟨trivial, rfl, rfl⟩
theorem bitT_zero (i : Nat) : bitT z32T i = 0 := by
  unfold bitT
  have : (z32T[i / 8]!) = 0 := by
    by_cases h : i / 8 < 32
    · rw [getElem!_pos z32T (i / 8) h]
      show (List.replicate 32 (0 : UInt8))[i / 8] = 0
      exact List.getElem_replicate ..
    · rw [getElem!_neg z32T (i / 8) (by show ¬ i / 8 < 32; exact h)]
      rfl
  rw [this]
  simp
theorem WayB.nil : WayB z32T [] := ⟨rfl, Nat.zero_le _, fun _ h => absurd h (Nat.not_lt_zero _), fun i _ _ => bitT_zero i⟩
theorem or_bit : ∀ k : Nat, k < 256 → ∀ j : Nat, j < 8 → ∀ b : Nat, b < 2 → k / 2 ^ j % 2 = 0 → bits .or .u8 (k : Int) ((b * 2 ^ j : Nat) : Int) = ((k + b * 2 ^ j : Nat) : Int) := by
  have key : ∀ k : Nat, k < 256 → ∀ j : Nat, j < 8 → ∀ b : Nat, b < 2 → k / 2 ^ j % 2 = 0 → bits .or .u8 (k : Int) ((b * 2 ^ j : Nat) : Int) = ((k + b * 2 ^ j : Nat) : Int) := by decide +kernel
  exact key
theorem set_bit : ∀ k : Nat, k < 256 → ∀ j : Nat, j < 8 → ∀ b : Nat, b < 2 → k / 2 ^ j % 2 = 0 → k + b * 2 ^ j < 256 ∧ ∀ i, i < 8 → (k + b * 2 ^ j) / 2 ^ i % 2 = if i = j then b else k / 2 ^ i % 2 := by
  decide +kernel
/-- The way goes on. -/
def wayS (wy : List UInt8) (d b : Nat) : List UInt8 := wy.set (d / 8) (UInt8.ofNat ((wy[d / 8]!).toNat + b * 2 ^ (7 - d % 8)))
theorem bitT_set {wy : List UInt8} (hl : wy.length = 32) {d b : Nat} (hd : d < 256) (hb : b < 2) (h0 : bitT wy d = 0) : (wayS wy d b).length = 32 ∧ ∀ i, i < 256 → bitT (wayS wy d b) i = if i = d then b else bitT wy i := by
  refine ⟨by rw [wayS, List.length_set]; exact hl, fun i hi => ?_⟩
  have hk := (wy[d / 8]!).toNat_lt
  obtain ⟨h1, h2⟩ := set_bit _ hk (7 - d % 8) (by omega) b hb h0
  unfold wayS bitT
  by_cases e : i / 8 = d / 8
  · rw [e, getElem!_pos _ (d / 8) (by rw [List.length_set]; omega), List.getElem_set_self, UInt8.toNat_ofNat', (Nat.mod_eq_of_lt h1 : (_ + b * 2 ^ (7 - d % 8)) % 2 ^ 8 = _), h2 (7 - i % 8) (by omega)]
    by_cases e2 : i = d
    · rw [if_pos e2, if_pos (by rw [e2])]
    · rw [if_neg e2, if_neg (by omega)]
  · rw [if_neg (fun h => e (by rw [h])), getElem!_pos _ (i / 8) (by rw [List.length_set]; omega), List.getElem_set_ne (by omega), ← getElem!_pos wy (i / 8) (by omega)]
theorem WayB.more {wy : List UInt8} {way : List Nat} (h : WayB wy way) (hlt : way.length < 256) {b : Nat} (hb : b < 2) : WayB (wayS wy way.length b) (way ++ [b]) := by
  obtain ⟨h1, h2, h3, h4⟩ := h
  obtain ⟨k1, k2⟩ := bitT_set h1 hlt hb (h4 _ (Nat.le_refl _) hlt)
  have elen : (way ++ [b]).length = way.length + 1 := by rw [List.length_append, List.length_singleton]
  refine ⟨k1, by rw [elen]; exact hlt, fun i hi => ?_, fun i hi hi2 => ?_⟩
  · rw [elen] at hi
    rw [k2 i (by omega)]
    by_cases e : i = way.length
    · subst e
      rw [if_pos rfl, getElem!_pos _ _ (by rw [elen]; omega), List.getElem_append_right (Nat.le_refl _)]
      simp
    · rw [if_neg e, h3 i (by omega), getElem!_pos way i (by omega), getElem!_pos _ i (by rw [elen]; omega), List.getElem_append_left (by omega)]
  · rw [elen] at hi
    rw [k2 i hi2, if_neg (by omega), h4 i (by omega) hi2]
section
variable {N : Nat} {E : SE} {o : Oper} {x y : Operand} {t' : TypeId}
theorem run_shlW {m n : Nat} (hn : n ≤ 7) (hm : m * 2 ^ n < 256) (ho : o.op = .binOp .shl 5 x y t') (hx : evS E x = some (.v (.int .u8 (m : Int)))) (hy : evS E y = some (.v (.int .i64 (n : Int)))) :
    ∀ (G : Nat → Nat) (a : Act) (w : World), Fr N (denE G E) a → (execOp a.eval o).run Tryd.prog w = .ok (.value ((SV.v (.int .u8 ((m * 2 ^ n : Nat) : Int))).den G)) w := fun G a w ha => by
  have h1 : a.eval x = .int .u8 (m : Int) := ha.eval (evS_ok hx)
  have h2 : a.eval y = .int .i64 (n : Int) := ha.eval (evS_ok hy)
  unfold execOp
  simp only [ho, h1, h2]
  go_simp
  have h4 : 0 ≤ ((m * 2 ^ n : Nat) : Int) := Int.natCast_nonneg _
  have h5 : ((m * 2 ^ n : Nat) : Int) < 256 := Int.ofNat_lt.2 hm
  rw [Int.natCast_mul, Int.natCast_pow] at h4 h5
  exact congrArg (Value.int .u8) (wrapB rfl h4 h5)
theorem run_or8 {m n : Int} (ho : o.op = .binOp .or 5 x y t') (hx : evS E x = some (.v (.int .u8 m))) (hy : evS E y = some (.v (.int .u8 n))) :
    ∀ (G : Nat → Nat) (a : Act) (w : World), Fr N (denE G E) a → (execOp a.eval o).run Tryd.prog w = .ok (.value ((SV.v (.int .u8 (bits .or .u8 m n))).den G)) w := fun G a w ha => by
  have h1 : a.eval x = .int .u8 m := ha.eval (evS_ok hx)
  have h2 : a.eval y = .int .u8 n := ha.eval (evS_ok hy)
  unfold execOp
  simp only [ho, h1, h2]
  go_simp
  rfl
end
theorem pl_at {wy : List UInt8} (h : wy.length = 32) {s : SC} {j : Nat} (hj : j < 32) : (catP [.agg 32 (By wy).toArray, .one s])[j]? = some (.int .u8 ((wy[j]!).toNat : Int)) := by
  have h2 := row32 h
  show ((By wy).toArray ++ #[s.den])[j]? = _
  rw [Array.getElem?_append_left (by omega)]
  exact By_get (by omega)
theorem pl_set {wy : List UInt8} {s : SC} {j : Nat} (y : UInt8) (hj : j < wy.length) : (catP [.agg 32 (By (wy.set j y)).toArray, .one s]).toList = (catP [.agg 32 (By wy).toArray, .one s]).toList.set j (.int .u8 (y.toNat : Int)) := by
  show ((By (wy.set j y)).toArray ++ #[s.den]).toList = ((By wy).toArray ++ #[s.den]).toList.set j _
  rw [Array.toList_append, Array.toList_append, List.set_append_left _ _ (by rw [By_len]; exact hj), By_setH]
theorem own_wside : Own 63 := fun _ _ => by go_simp
theorem own_wleads : Own 62 := fun _ _ => by go_simp
theorem own_wleast : Own 64 := fun _ _ => by go_simp
set_option maxRecDepth 100000 in
set_option maxHeartbeats 1000000 in
theorem wside_S {wy : List UInt8} {way : List Nat} (h : WayB wy way) (hlt : way.length < 256) {b : Nat} (hb : b < 2) : Spec 63 [(plQ wy way.length).den, .int .u8 (b : Int)] [] (fun _ => True) (one (.q (plQ (wayS wy way.length b) (way.length + 1)))) := by
  obtain ⟨h1, h2, h3, h4⟩ := h
  have hz := h4 _ (Nat.le_refl _) hlt
  obtain ⟨d, hd⟩ : ∃ d, way.length = d := ⟨_, rfl⟩
  rw [hd] at hlt hz ⊢
  clear h2 h3 h4
  refine spec_S [plQ wy d, .c (.v (.int .u8 (b : Int)))] 25 Tryd.func63 rfl (by rw [Tryd.ntmps63]; rfl) (two_ok (plQ_ok h1 d) trivial) fun bb => ?_
  have hk := (wy[d / 8]!).toNat_lt
  have hkz : (wy[d / 8]!).toNat / 2 ^ (7 - d % 8) % 2 = 0 := hz
  have hsb := (set_bit _ hk (7 - d % 8) (by omega) b hb hkz).1
  have hor := or_bit _ hk (7 - d % 8) (by omega) b hb hkz
  have hsh : b * 2 ^ (7 - d % 8) < 256 := by omega
  have hw : (UInt8.ofNat ((wy[d / 8]!).toNat + b * 2 ^ (7 - d % 8))).toNat = (wy[d / 8]!).toNat + b * 2 ^ (7 - d % 8) := by rw [UInt8.toNat_ofNat']; exact Nat.mod_eq_of_lt hsb
  have hws : wayS wy d b = wy.set (d / 8) (UInt8.ofNat ((wy[d / 8]!).toNat + b * 2 ^ (7 - d % 8))) := rfl
  have hat := pl_at h1 (s := .v (.int .i64 (d : Int))) (j := d / 8) (by omega)
  have hwl : (wayS wy d b).length = 32 := by rw [hws, List.length_set]; exact h1
  have hset := pl_set (wy := wy) (s := .v (.int .i64 (d : Int))) (j := d / 8) (UInt8.ofNat ((wy[d / 8]!).toNat + b * 2 ^ (7 - d % 8))) (by omega)
  rw [← hws, hw] at hset
  generalize (wy[d / 8]!).toNat = k at *
  generalize wayS wy d b = wy' at *
  refine s_auto TY_ok rfl ?_
  refine s_regD 14 (by decide) (by kernel_rfl) (by kernel_rfl) fun K1 hK1 G S w0 hst => ?_
  refine g_autoS TY_ok hst rfl ?_
  refine g_num 7 ((d / 8 : Nat) : Int) rfl (wrapQ d 8 (by omega)) ?_
  refine g_autoS TY_ok hst rfl ?_
  refine g_opS (.a 2 (0 + 0 + 1 * (d / 8))) trivial rfl rfl rfl (runO_ixA (d / 8) rfl Tryd.underlying38 rfl rfl rfl (by omega)) ?_
  refine g_opV hst (.v (.int .u8 (k : Int))) trivial rfl rfl rfl (runO_ldA _ rfl rfl rfl (by simpa using hat) Tryd.underlying5 rfl) ?_
  refine g_autoS TY_ok hst rfl ?_
  refine g_num 15 ((7 - d % 8 : Nat) : Int) rfl (wrapI (by rw [Int.tmod_eq_emod_of_nonneg (by omega)]; omega) (by omega) (by omega)) ?_
  refine g_opS (.v (.int .u8 ((b * 2 ^ (7 - d % 8) : Nat) : Int))) trivial rfl rfl rfl (run_shlW (by omega) hsh rfl rfl rfl) ?_
  refine g_opS (.v (.int .u8 (bits .or .u8 (k : Int) ((b * 2 ^ (7 - d % 8) : Nat) : Int)))) trivial rfl rfl rfl (run_or8 rfl rfl rfl) ?_
  refine g_num 17 ((k + b * 2 ^ (7 - d % 8) : Nat) : Int) rfl hor ?_
  refine g_autoS TY_ok hst rfl ?_
  refine g_endS hst ?_
  refine l_op (.a 2 (0 + 0 + 1 * (d / 8))) trivial rfl rfl rfl (runO_ixA (d / 8) rfl Tryd.underlying38 rfl rfl rfl (by omega)) ?_
  refine l_stA [.agg 32 (By wy').toArray, .one (.v (.int .i64 (d : Int)))] rfl rfl rfl rfl rfl rfl rfl rfl rfl (by
    have e := OkP.size (plQ_ok h1 d)
    show _ < (catP [.agg 32 (By wy).toArray, .one (.v (.int .i64 (d : Int)))]).size
    rw [e]
    show 0 + 0 + 1 * (d / 8) < 33
    omega) (plQ_ok hwl d) (by simpa using hset) ?_
  refine s_end (hK1 _ ?_)
  refine s_auto TY_ok rfl ?_
  refine s_auto TY_ok rfl ?_
  exact s_ret (k_ret TY_ok () rfl (by decide) rfl (congrArg (fun z : Int => RV.q (.p [.agg 32 (By wy').toArray, .one (.v (.int .i64 z))])) (wrapI (m := (d : Int) + 1) (r := ((d + 1 : Nat) : Int)) rfl (by omega) (by omega)).symm) rfl (fun _ _ _ => trivial) (fun _ _ => trivial))
theorem wrap_byte {i : Nat} (h : i < 256) : IntKind.u8.wrap (i : Int) = (i : Int) := wrapB rfl (Int.natCast_nonneg _) (by omega)
set_option maxRecDepth 100000 in
set_option maxHeartbeats 1000000 in
theorem wleads_S {wy k : List UInt8} {way : List Nat} (h : WayB wy way) (hk : k.length = 32) : Spec 62 [(plQ wy way.length).den, (eY 32 k).den] [] (fun _ => True) (one (.v (.bool (decide (Leads way k))))) := by
  obtain ⟨h1, h2, h3, -⟩ := h
  refine spec_S [plQ wy way.length, eY 32 k] 22 Tryd.func62 rfl (by rw [Tryd.ntmps62]; rfl) (two_ok (plQ_ok h1 _) (eY_ok hk).1) fun b => ?_
  refine s_auto TY_ok rfl ?_
  refine s_seq fun K hK => ?_
  refine s_auto TY_ok rfl ?_
  refine s_block ?_
  let F : Nat → Env := fun i => ⟨[(8, .v (.int .i64 (i : Int))), (7, .v (.int .i64 (way.length : Int))), (3, .a 3 0), (2, .a 2 0)], [⟨3, none, 38, [.agg 32 (By k).toArray]⟩, ⟨2, none, 76, [.agg 32 (By wy).toArray, .one (.v (.int .i64 (way.length : Int)))]⟩], [], fun _ => True, fun _ => True⟩
  refine c_weak (e' := F 0) ⟨⟨rfl, rfl, rfl, rfl, trivial⟩, ⟨rfl, rfl, rfl, rfl, trivial⟩, .refl _, fun _ _ _ => trivial, fun _ _ => trivial⟩ (s_loop (fun i => way.length - i) F (fun i => i ≤ way.length ∧ ∀ j, j < i → bitT k j = way[j]!) ?_ 0 ⟨Nat.zero_le _, fun _ h => absurd h (Nat.not_lt_zero _)⟩)
  rintro i ⟨hi, ht⟩
  refine s_auto TY_ok rfl ?_
  refine s_seq fun K1 hK1 => ?_
  refine s_ifD ((i : Int) < (way.length : Int)) rfl (fun hlt => ?_) (fun hge => ?_)
  · have hil : i < way.length := by omega
    have hi256 : i < 256 := by omega
    refine s_skip (hK1 _ ?_)
    refine s_seq fun K2 hK2 => ?_
    refine s_block ?_
    refine s_auto TY_ok rfl ?_
    refine s_regD 10 (by decide) (by kernel_rfl) (by kernel_rfl) fun K3 hK3 G S w0 hst => ?_
    refine g_autoS TY_ok hst rfl ?_
    refine g_num 13 (i : Int) rfl (wrap_byte hi256) ?_
    refine g_callS (F' := fun _ => True) hst [(eY 32 k).den, .int .u8 (i : Int)] rfl rfl rfl own_wbit rfl rfl (fun _ => rfl) (wbit_S hk i hi256) trivial (fun _ _ _ _ => trivial) ?_
    refine g_autoS TY_ok hst rfl ?_
    refine g_num 18 (i : Int) rfl (wrap_byte hi256) ?_
    refine g_callS (F' := fun _ => True) hst [(eY 32 wy).den, .int .u8 (i : Int)] rfl rfl rfl own_wbit rfl rfl (fun _ => rfl) (wbit_S h1 i hi256) trivial (fun _ _ _ _ => trivial) ?_
    refine g_autoS TY_ok hst rfl ?_
    refine g_endS hst ?_
    refine s_end (hK3 _ ?_)
    have hwi := h3 i hil
    refine s_ifD (((bitT k i : Nat) : Int) ≠ ((bitT wy i : Nat) : Int)) rfl (fun hne => ?_) (fun he => ?_)
    · refine s_auto TY_ok rfl ?_
      exact s_ret (k_ret TY_ok () rfl (by decide) rfl (congrArg (fun t => RV.v (.bool t)) (decide_eq_false fun hl => hne (by rw [hl i hil, hwi]))) rfl (fun _ _ _ => trivial) (fun _ _ => trivial))
    · refine s_skip (hK2 _ ?_)
      refine s_autoE TY_ok rfl ?_
      exact k_next (i + 1) ⟨hil, fun j hj => by
        by_cases e : j = i
        · subst e
          rw [← hwi]
          omega
        · exact ht j (by omega)⟩ (by show way.length - (i + 1) < way.length - i; omega) ⟨⟨congrArg some (congrArg SV.v (congrArg (Value.int .i64) (wrapI rfl (by omega) (by omega)))), rfl, rfl, rfl, trivial⟩, ⟨rfl, rfl, rfl, rfl, trivial⟩, .refl _, fun _ _ _ => trivial, fun _ _ => trivial⟩
  · refine s_exit (k_pass (k_pass (k_out ?_)))
    refine hK _ ?_
    refine s_auto TY_ok rfl ?_
    exact s_ret (k_ret TY_ok () rfl (by decide) rfl (congrArg (fun t => RV.v (.bool t)) (decide_eq_true fun j hj => ht j (by omega))) rfl (fun _ _ _ => trivial) (fun _ _ => trivial))
set_option maxRecDepth 100000 in
set_option maxHeartbeats 1000000 in
theorem wleast_S {w : PW} (h : w.Good) : Spec 64 [w.val] [] (fun _ => True) (one (.v (.int .i64 ((min w.kind 2 : Nat) : Int)))) := by
  refine spec_S [.c (.v w.val)] 10 Tryd.func64 rfl (by rw [Tryd.ntmps64]; rfl) (one_ok trivial) fun b => ?_
  refine s_auto TY_ok rfl ?_
  refine s_seq fun K hK => ?_
  refine s_auto TY_ok rfl ?_
  refine s_block ?_
  refine s_regA TY_ok rfl fun K1 hK1 => ?_
  refine l_kind 0 h (by decide) rfl rfl rfl rfl rfl ?_
  refine l_autoS TY_ok rfl ?_
  refine s_end (hK1 _ ?_)
  cases w with
  | empty =>
    refine s_yes rfl ?_
    refine s_auto TY_ok rfl ?_
    exact s_ret (k_ret TY_ok () rfl (by decide) rfl rfl rfl (fun _ _ _ => trivial) (fun _ _ => trivial))
  | leaf p =>
    refine s_no rfl ?_
    refine s_regA TY_ok rfl fun K2 hK2 => ?_
    refine l_kind (W := .leaf p) 1 h (by decide) rfl rfl rfl rfl rfl ?_
    refine l_autoS TY_ok rfl ?_
    refine s_end (hK2 _ ?_)
    refine s_yes rfl ?_
    refine s_auto TY_ok rfl ?_
    exact s_ret (k_ret TY_ok () rfl (by decide) rfl rfl rfl (fun _ _ _ => trivial) (fun _ _ => trivial))
  | inner x y =>
    refine s_no rfl ?_
    refine s_regA TY_ok rfl fun K2 hK2 => ?_
    refine l_kind (W := .inner x y) 1 h (by decide) rfl rfl rfl rfl rfl ?_
    refine l_autoS TY_ok rfl ?_
    refine s_end (hK2 _ ?_)
    refine s_no rfl ?_
    refine s_skip (hK _ ?_)
    refine s_auto TY_ok rfl ?_
    exact s_ret (k_ret TY_ok () rfl (by decide) rfl rfl rfl (fun _ _ _ => trivial) (fun _ _ => trivial))
  | hid l =>
    refine s_no rfl ?_
    refine s_regA TY_ok rfl fun K2 hK2 => ?_
    refine l_kind (W := .hid l) 1 h (by decide) rfl rfl rfl rfl rfl ?_
    refine l_autoS TY_ok rfl ?_
    refine s_end (hK2 _ ?_)
    refine s_no rfl ?_
    refine s_skip (hK _ ?_)
    refine s_auto TY_ok rfl ?_
    exact s_ret (k_ret TY_ok () rfl (by decide) rfl rfl rfl (fun _ _ _ => trivial) (fun _ _ => trivial))
end Go.Proofs.YtoecohpcnojokaaDoor
