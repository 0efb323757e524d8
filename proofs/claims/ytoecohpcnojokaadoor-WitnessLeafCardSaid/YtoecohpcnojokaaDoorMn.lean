/-
  SEVERAL TEXTS IN ONE: Wy, Wz, Nn, Np, Law, OpenR, LawW, OpenT.
-/
import Derived.Test.YtoecohpcnojokaaDoorMm
import Derived.Test.YtoecohpcnojokaaDoorRows
import Derived.Test.YtoecohpcnojokaaDoorMa
import Derived.ProofKit
import Derived.OpenShut
import Derived.SizedLaws
import Derived.Test.YtoecohpcnojokaaDoorMd
import Derived.LaidMore
import Derived.SevenTiedAt
import Derived.Stop.Joined
import Derived.Test.YtoecohpcnojokaaDoorMi
import Derived.Test.YtoecohpcnojokaaDoorMe
import Derived.Test.YtoecohpcnojokaaDoorCards
import Derived.Test.YtoecohpcnojokaaDoorTie
/-
  THE DOCUMENT'S PARTS: a node is read.
-/
namespace Go.Proofs.YtoecohpcnojokaaDoor
open Go.RowKit Go.IntWalk Nums

def eNat (i : Nat) : SQ := .c (.v (.int .i64 (i : Int)))
theorem eND_cl (x : ND) : (eND x).cl = .int .i64 (x.k : Int) :: (By x.key ++ (By x.val ++ [.int .i64 x.l, .int .i64 x.r])) := by
  simp only [eND, nwPs, SQ.cl, SQ.den, Value.cells, catP_cons, Pt.cells, SC.den]
  simp [catP]
theorem ndOk {x : ND} (hk : x.key.length = 32) (hv : x.val.length = 32) : OkP (eND x).parts1 ∧ (eND x).cl.length = 67 := by
  refine ⟨fun p hp => ?_, ?_⟩
  · have h1 := (eY_ok hk).1 (.agg 32 (By x.key).toArray) List.mem_cons_self
    have h2 := (eY_ok hv).1 (.agg 32 (By x.val).toArray) List.mem_cons_self
    rcases List.mem_cons.1 hp with rfl | hp
    · exact ⟨trivial, rfl, rfl⟩
    rcases List.mem_cons.1 hp with rfl | hp
    · exact h1
    rcases List.mem_cons.1 hp with rfl | hp
    · exact h2
    rcases List.mem_cons.1 hp with rfl | hp
    · exact ⟨trivial, rfl, rfl⟩
    rw [List.mem_singleton.1 hp]
    exact ⟨trivial, rfl, rfl⟩
  · rw [eND_cl]
    simp [By_len, hk, hv]
theorem cl_kind (k' : Nat) (x : ND) : (eND { x with k := k' }).cl = (eND x).cl.take 0 ++ (SQ.c (.v (.int .i64 (k' : Int)))).cl ++ (eND x).cl.drop (0 + 1) := by
  rw [eND_cl, eND_cl]
  rfl
theorem cl_key {h : List UInt8} {x : ND} (hk : x.key.length = 32) : (eND { x with key := h }).cl = (eND x).cl.take 1 ++ (eY 32 h).cl ++ (eND x).cl.drop (1 + 32) := by
  have e : (By x.key).length = 32 := by rw [By_len]; exact hk
  rw [eND_cl, eND_cl, show (eY 32 h).cl = By h from rfl, show 1 + 32 = 32 + 1 from rfl, List.drop_succ_cons, List.drop_append_of_le_length (by omega), List.drop_of_length_le (by omega)]
  simp
theorem cl_val {h : List UInt8} {x : ND} (hk : x.key.length = 32) (hv : x.val.length = 32) : (eND { x with val := h }).cl = (eND x).cl.take 33 ++ (eY 32 h).cl ++ (eND x).cl.drop (33 + 32) := by
  have e : (By x.key).length = 32 := by rw [By_len]; exact hk
  have e2 : (By x.val).length = 32 := by rw [By_len]; exact hv
  rw [eND_cl, eND_cl, show (eY 32 h).cl = By h from rfl, show 33 + 32 = 64 + 1 from rfl, show 33 = 32 + 1 from rfl, List.drop_succ_cons, List.take_succ_cons, List.take_append_of_le_length (by omega), List.take_of_length_le (by omega), List.drop_append, List.drop_of_length_le (by omega), e, List.nil_append, List.drop_append_of_le_length (by omega), List.drop_of_length_le (by omega)]
  simp
theorem cl_l {i : Int} {x : ND} (hk : x.key.length = 32) (hv : x.val.length = 32) : (eND { x with l := i }).cl = (eND x).cl.take 65 ++ (SQ.c (.v (.int .i64 i))).cl ++ (eND x).cl.drop (65 + 1) := by
  have e : (By x.key).length = 32 := by rw [By_len]; exact hk
  have e2 : (By x.val).length = 32 := by rw [By_len]; exact hv
  have e3 : (eND x).cl = (.int .i64 (x.k : Int) :: (By x.key ++ By x.val)) ++ [.int .i64 x.l, .int .i64 x.r] := by rw [eND_cl]; simp
  have e4 : (.int .i64 (x.k : Int) :: (By x.key ++ By x.val) : List Value).length = 65 := by rw [List.length_cons, List.length_append, e, e2]
  rw [e3, List.take_append_of_le_length (by omega), List.take_of_length_le (by omega), List.drop_append, List.drop_of_length_le (by omega), e4, eND_cl]
  simp
  rfl
theorem cl_r {i : Int} {x : ND} (hk : x.key.length = 32) (hv : x.val.length = 32) : (eND { x with r := i }).cl = (eND x).cl.take 66 ++ (SQ.c (.v (.int .i64 i))).cl ++ (eND x).cl.drop (66 + 1) := by
  have e : (By x.key).length = 32 := by rw [By_len]; exact hk
  have e2 : (By x.val).length = 32 := by rw [By_len]; exact hv
  have e3 : (eND x).cl = (.int .i64 (x.k : Int) :: (By x.key ++ (By x.val ++ [.int .i64 x.l]))) ++ [.int .i64 x.r] := by rw [eND_cl]; simp
  have e4 : (.int .i64 (x.k : Int) :: (By x.key ++ (By x.val ++ [.int .i64 x.l])) : List Value).length = 66 := by rw [List.length_cons, List.length_append, List.length_append, e, e2]; rfl
  rw [e3, List.take_append_of_le_length (by omega), List.take_of_length_le (by omega), List.drop_append, List.drop_of_length_le (by omega), e4, eND_cl]
  simp
  rfl
theorem set_new (ns m : List ND) (r r' : ND) : (ns ++ r :: m).set ns.length r' = ns ++ r' :: m := by
  rw [List.set_append_right _ _ (Nat.le_refl _), Nat.sub_self]
  rfl
theorem get_new (ns m : List ND) (r : ND) : (ns ++ r :: m)[ns.length]? = some r := by
  rw [List.getElem?_append_right (Nat.le_refl _), Nat.sub_self]
  rfl
/-- An element's address where the slice begins its block. -/
theorem run_ix0 {P : Program} {N : Nat} {E : SE} {o : Oper} {x y : Operand} {t e : TypeId} {K : IntKind} {g n c sz : Nat} (i : Nat) (ho : o.op = .indexAddr t x y) (ht : P.underlying t = some (.slice e)) (he : (P.info? e).map (·.size) = some sz) (hx : evS E x = some (.v (.slice (some ⟨g, 0, none⟩) n c))) (hy : evS E y = some (.v (.int K (i : Int)))) (hi : i < n) :
    ∀ (G : Nat → Nat) (a : Act) (w : World), Fr N (denE G E) a → (execOp a.eval o).run P w = .ok (.value ((SV.v (.pointer (some ⟨g, sz * i, none⟩))).den G)) w := by
  have h := runO_ixS (P := P) (N := N) (E := E) i ho ht he hx hy hi
  rw [Nat.zero_add] at h
  exact h
theorem okF_N (l : List Nat) : OkF 1 eNat l := fun x _ => ⟨fun p hp => by rw [List.mem_singleton.1 hp]; exact ⟨trivial, rfl, rfl⟩, rfl⟩
theorem run_ints0 (w : World) : (Instr.buildSlice 119 0 #[]).run Tryd.prog w = .ok (.slice (some ⟨w.heap.size, 0, none⟩) 0 0) (w.alloc (.cells #[] 3)) := by go_simp
theorem hashQ_le {B : List UInt8} {p e : Nat} (hp : p ≤ B.length) : (hashQ B p e).2.1 ≤ B.length := by
  unfold hashQ
  split
  · exact hp
  · split
    · exact hp
    · show p + 32 ≤ _
      omega
theorem eY_cl32 {h : List UInt8} (hh : h.length = 32) : (eY 32 h).cl.length = 32 := (By_len h).trans hh
abbrev PartS (g : Nat) (X : Option Addr) (c : Nat) (ns : List ND) : Res := ObjS g 83 [.one (.v (.slice X ns.length c))]
abbrev NodS (X : Option Addr) (c : Nat) (ns : List ND) : Res := OwnS 0 86 67 eND X c ns
theorem partP_ok (X : Option Addr) (n c : Nat) : OkP [.one (.v (.slice X n c))] := fun x hx => by
  rw [List.mem_singleton.1 hx]
  exact ⟨trivial, rfl, rfl⟩
theorem part_same (gt gp : Nat) (A : Option Addr) (c : Nat) (B : List UInt8) (p e : Nat) (X : Option Addr) (c1 : Nat) (ns m : List ND) (r r' : ND) : [TapQ gt A c B p e, PartS gp X c1 (ns ++ r :: m), NodS X c1 (ns ++ r' :: m)] = [TapQ gt A c B p e, PartS gp X c1 (ns ++ r' :: m), NodS X c1 (ns ++ r' :: m)] := by
  have h : (ns ++ r :: m).length = (ns ++ r' :: m).length := by simp
  exact congrArg (fun z => [TapQ gt A c B p e, ObjS gp 83 [.one (.v (.slice X z c1))], NodS X c1 (ns ++ r' :: m)]) h
/-- What a reading leaves. -/
structure RdX where
  more : List ND
  p : Nat
  e : Nat
  A : Option Addr
  c : Nat
abbrev rdPost (n : Nat) (way : List Nat) (B : List UInt8) (p e : Nat) (gt gp : Nat) (A : Option Addr) (c : Nat) (ns : List ND) : Post { x : RdX // RdR n way B p e ns.length x.more x.p x.e } :=
  { ret := fun _ => .v (.int .i64 (ns.length : Int)), own := fun x => [TapQ gt A c B x.1.p x.1.e, PartS gp x.1.A x.1.c (ns ++ x.1.more), NodS x.1.A x.1.c (ns ++ x.1.more)] }
theorem own_rread : Own 35 := fun _ _ => by go_simp
theorem ledQ_next {way : List Nat} {key : List UInt8} {e i b : Nat} (hi : way[i]? = some b) : ledQ (way.take (i + 1)) key e = formQ (!decide (bitT key i = b)) (ledQ (way.take i) key e) := by
  have hlt := (List.getElem?_eq_some_iff.1 hi).1
  have e1 : way.take (i + 1) = way.take i ++ [b] := by rw [List.take_add_one, hi]; rfl
  have e2 : (way.take i).length = i := by rw [List.length_take]; omega
  have h : Leads (way.take (i + 1)) key ↔ Leads (way.take i) key ∧ bitT key i = b := by rw [e1, Leads.more, e2]
  unfold ledQ formQ
  by_cases he : e = 0
  · by_cases h1 : Leads (way.take i) key
    · by_cases h2 : bitT key i = b
      · simp [h, h1, h2, he]
      · simp [h, h1, h2, he]
    · simp [h, h1, he]
  · simp [he]
set_option maxRecDepth 100000 in
set_option maxHeartbeats 1000000 in
theorem rread_S {gt gp : Nat} {A : Option Addr} {c : Nat} {B : List UInt8} (hB : B.length ≤ 20000) : ∀ (n : Nat) (way : List Nat) (Aw : Option Addr) (cw : Nat) (ns : List ND) (X : Option Addr) (xc p e : Nat), n + way.length = 256 → p ≤ B.length → ns.length + 2 * (B.length - p) ≤ 200000 →
    Spec 35 [.pointer (some ⟨gp, 0, none⟩), .pointer (some ⟨gt, 0, none⟩), .slice Aw way.length cw] [TapQ gt A c B p e, PartS gp X xc ns, NodS X xc ns] (fun w => Rd 1 eB A c B w ∧ Rd 1 eNat Aw cw way w) (rdPost n way B p e gt gp A c ns) := by
  intro n
  induction n using Nat.strongRecOn with
  | ind n ih =>
  intro way Aw cw ns X xc p e hn hp hsz
  refine spec_S [.c (.v (.pointer (some ⟨gp, 0, none⟩))), .c (.v (.pointer (some ⟨gt, 0, none⟩))), .c (.v (.slice Aw way.length cw))] 225 Tryd.func35 rfl (by rw [Tryd.ntmps35]; rfl) (more_ok trivial (two_ok trivial trivial)) fun b => ?_
  have h0 : OkP (eND ⟨0, z32T, z32T, -1, -1⟩).parts1 ∧ (eND ⟨0, z32T, z32T, -1, -1⟩).cl.length = 67 := ndOk rfl rfl
  refine s_auto TY_ok rfl ?_
  refine s_regA TY_ok rfl fun K1 hK1 => ?_
  refine l_ldO TY_ok rfl rfl rfl rfl rfl rfl (obj_own 1 rfl) ?_
  refine l_autoS TY_ok rfl ?_
  refine s_end (hK1 _ ?_)
  refine s_regA TY_ok rfl fun K2 hK2 => ?_
  refine l_ldO TY_ok rfl rfl rfl rfl rfl rfl (obj_own 1 rfl) ?_
  refine l_autoS TY_ok rfl ?_
  refine l_push TY_ok 2 (⟨0, z32T, z32T, -1, -1⟩ : ND) rfl rfl rfl rfl rfl rfl rfl h0 (by decide) (by decide) (by show (ns.length + 1) * 88 ≤ _; omega) (by show ns.length < _; omega) (Nat.zero_le _) fun X1 c1 => ?_
  refine l_autoS TY_ok rfl ?_
  refine l_stO TY_ok 1 rfl rfl rfl rfl rfl rfl rfl ?_
  refine s_end (hK2 _ ?_)
  refine s_seq fun K3 hK3 => ?_
  have hN : (ns ++ [(⟨0, z32T, z32T, -1, -1⟩ : ND)]).length = ns.length + 1 := by rw [List.length_append]; rfl
  have hlate : ∀ e1, (e1 = 0 → p < B.length ∧ e = 0) → (e1 ≠ 0 → RdR n way B p e ns.length [⟨0, z32T, z32T, -1, -1⟩] p e1) → ∀ en, Weak en ⟨[(0, .v (.pointer (some ⟨gp, 0, none⟩))), (1, .v (.pointer (some ⟨gt, 0, none⟩))), (2, .v (.slice Aw way.length cw)), (7, .v (.int .i64 (ns.length : Int)))], [], [TapQ gt A c B p e1, PartS gp X1 c1 (ns ++ [⟨0, z32T, z32T, -1, -1⟩]), NodS X1 c1 (ns ++ [⟨0, z32T, z32T, -1, -1⟩])], fun w => Rd 1 eB A c B w ∧ Rd 1 eNat Aw cw way w, fun _ => True⟩ → kS b K3 225 en := by
    intro e1 hh1 hh2 en hw
    refine k_weak hw (hK3 _ ?_)
    refine s_seq fun K4 hK4 => ?_
    refine s_regA TY_ok rfl fun K5 hK5 => ?_
    refine l_ldO TY_ok rfl rfl rfl rfl rfl rfl (obj_own 0 rfl) ?_
    refine l_autoS TY_ok rfl ?_
    refine s_end (hK5 _ ?_)
    refine s_ifD ((e1 : Int) ≠ 0) rfl (fun hz => ?_) (fun hz => ?_)
    · have hz : e1 ≠ 0 := by omega
      refine s_auto TY_ok rfl ?_
      exact s_ret (k_ret TY_ok ⟨⟨[⟨0, z32T, z32T, -1, -1⟩], p, e1, X1, c1⟩, hh2 hz⟩ rfl (by decide) rfl rfl rfl (fun _ _ _ => trivial) (fun _ _ => trivial))
    have hz : e1 = 0 := by omega
    subst hz
    obtain ⟨hpl, rfl⟩ := hh1 rfl
    obtain ⟨x, hx⟩ : ∃ x, B[p]? = some x := ⟨_, List.getElem?_eq_getElem hpl⟩
    have hx256 := x.toNat_lt
    refine s_skip (hK4 _ ?_)
    refine s_regH 11 (by decide) (by kernel_rfl) (by kernel_rfl) fun K6 hK6 G S w0 hst => ?_
    refine h_auto TY_ok hst rfl ?_
    refine h_ldO TY_ok hst rfl rfl rfl rfl rfl rfl rfl (tapP_ok A c B p 0) (obj_own 0 rfl) ?_
    refine h_auto TY_ok hst rfl ?_
    refine h_ldO TY_ok hst rfl rfl rfl rfl rfl rfl rfl (tapP_ok A c B p 0) (obj_own 0 rfl) ?_
    refine g_elem (b := b) TY_ok hst rfl rfl rfl p rfl hx rfl rfl (rd_fact fun _ h _ => h.1) ?_
    refine h_auto (Fa := []) TY_ok hst rfl ?_
    refine h_num (Fa := []) 69 ((x.toNat : Nat) : Int) rfl (wrapI rfl (by omega) (by omega)) ?_
    refine h_end (Fa := []) hst ?_
    refine l_autoS TY_ok rfl ?_
    refine s_end (hK6 _ ?_)
    clear hst
    refine s_regA TY_ok rfl fun K7 hK7 => ?_
    refine l_ldO TY_ok rfl rfl rfl rfl rfl rfl (obj_own 0 rfl) ?_
    refine l_autoS TY_ok rfl ?_
    refine l_num 74 ((p + 1 : Nat) : Int) rfl (wrapI (by omega) (by omega) (by omega)) ?_
    refine l_stO TY_ok 0 rfl rfl rfl rfl rfl rfl rfl ?_
    refine s_end (hK7 _ ?_)
    obtain ⟨k, hk⟩ : ∃ k, x.toNat = k := ⟨_, rfl⟩
    refine c_weak (e' := ⟨[(0, .v (.pointer (some ⟨gp, 0, none⟩))), (1, .v (.pointer (some ⟨gt, 0, none⟩))), (2, .v (.slice Aw way.length cw)), (7, .v (.int .i64 (ns.length : Int))), (8, .v (.int .i64 (x.toNat : Int)))], [], [TapQ gt A c B (p + 1) 0, PartS gp X1 c1 (ns ++ [⟨0, z32T, z32T, -1, -1⟩]), NodS X1 c1 (ns ++ [⟨0, z32T, z32T, -1, -1⟩])], fun w => Rd 1 eB A c B w ∧ Rd 1 eNat Aw cw way w, fun _ => True⟩) ⟨⟨rfl, rfl, rfl, rfl, rfl, trivial⟩, trivial, .refl _, fun _ h _ => h, fun _ h => h⟩ ?_
    rw [hk]
    rw [hk] at hx256
    refine s_regA TY_ok rfl fun K8 hK8 => ?_
    refine l_ldO TY_ok rfl rfl rfl rfl rfl rfl (obj_own 1 rfl) ?_
    refine l_autoS TY_ok rfl ?_
    refine l_where 2 rfl (by rw [hN]; exact Nat.succ_pos _) fun gX hX => ?_
    subst hX
    refine l_op (.v (.pointer (some ⟨gX, 67 * ns.length, none⟩))) trivial rfl rfl rfl (run_ix0 ns.length rfl Tryd.underlying81 rfl rfl rfl (by rw [hN]; exact Nat.lt_succ_self _)) ?_
    refine l_autoS TY_ok rfl ?_
    have hk1 : OkP (eND ⟨k, z32T, z32T, -1, -1⟩).parts1 ∧ (eND ⟨k, z32T, z32T, -1, -1⟩).cl.length = 67 := ndOk rfl rfl
    have hcl1 : (eND ⟨k, z32T, z32T, -1, -1⟩).cl = (eND ⟨0, z32T, z32T, -1, -1⟩).cl.take 0 ++ (SQ.c (.v (.int .i64 (k : Int)))).cl ++ (eND ⟨0, z32T, z32T, -1, -1⟩).cl.drop (0 + 1) := cl_kind k ⟨0, z32T, z32T, -1, -1⟩
    refine l_stF (q := .c (.v (.int .i64 (k : Int)))) 2 ns.length 0 1 (⟨0, z32T, z32T, -1, -1⟩ : ND) ⟨k, z32T, z32T, -1, -1⟩ rfl rfl rfl rfl rfl rfl (get_new ns [] _) rfl rfl (fun v hv => by rw [List.mem_singleton.1 hv]; rfl) hcl1 (by decide) hk1 ?_
    refine l_R [TapQ gt A c B (p + 1) 0, PartS gp (some ⟨gX, 0, none⟩) c1 (ns ++ [⟨k, z32T, z32T, -1, -1⟩]), NodS (some ⟨gX, 0, none⟩) c1 (ns ++ [⟨k, z32T, z32T, -1, -1⟩])] ?_ ?_
    · show [_, _, _] = _
      rw [set_new]
      exact part_same gt gp A c B (p + 1) 0 _ c1 ns [] _ _
    refine s_end (hK8 _ ?_)
    refine s_seq fun K9 hK9 => ?_
    have hp1 : p + 1 ≤ B.length := hpl
    have hB2 : B.length ≤ 1000000 := Nat.le_trans hB (by decide)
    have hfin : ∀ (y : RdX), RdR n way B p 0 ns.length y.more y.p y.e → ∀ en, Weak en ⟨[(7, .v (.int .i64 (ns.length : Int)))], [], [TapQ gt A c B y.p y.e, PartS gp y.A y.c (ns ++ y.more), NodS y.A y.c (ns ++ y.more)], fun _ => True, fun _ => True⟩ → kS b K9 225 en := by
      intro y hy en hw
      refine k_weak hw (hK9 _ ?_)
      refine s_auto TY_ok rfl ?_
      exact s_ret (k_ret TY_ok ⟨y, hy⟩ rfl (by decide) rfl rfl rfl (fun _ _ _ => trivial) (fun _ _ => trivial))
    refine c_weak (e' := ⟨[(0, .v (.pointer (some ⟨gp, 0, none⟩))), (1, .v (.pointer (some ⟨gt, 0, none⟩))), (2, .v (.slice Aw way.length cw)), (7, .v (.int .i64 (ns.length : Int))), (8, .v (.int .i64 (k : Int)))], [], [TapQ gt A c B (p + 1) 0, PartS gp (some ⟨gX, 0, none⟩) c1 (ns ++ [⟨k, z32T, z32T, -1, -1⟩]), NodS (some ⟨gX, 0, none⟩) c1 (ns ++ [⟨k, z32T, z32T, -1, -1⟩])], fun w => Rd 1 eB A c B w ∧ Rd 1 eNat Aw cw way w, fun _ => True⟩) ⟨⟨rfl, rfl, rfl, rfl, rfl, trivial⟩, trivial, .refl _, fun _ h _ => h, fun _ h => h⟩ ?_
    refine s_auto TY_ok rfl ?_
    refine s_block ?_
    refine s_auto TY_ok rfl ?_
    refine s_ifD ((k : Int) = 0) rfl (fun hk0 => ?_) (fun hk0 => ?_)
    · obtain rfl : k = 0 := by omega
      exact s_skip (hfin ⟨[⟨0, z32T, z32T, -1, -1⟩], p + 1, 0, some ⟨gX, 0, none⟩, c1⟩ (RdR.noug hx hk) _ ⟨⟨rfl, trivial⟩, trivial, .refl _, fun _ _ _ => trivial, fun _ _ => trivial⟩)
    refine s_auto TY_ok rfl ?_
    refine s_ifD ((k : Int) = 1) rfl (fun hk1' => ?_) (fun hk1' => ?_)
    · obtain rfl : k = 1 := by omega
      obtain ⟨q, hq⟩ : ∃ q, hashQ B (p + 1) 0 = q := ⟨_, rfl⟩
      have hq32 : q.1.length = 32 := by rw [← hq]; exact hashQ_len _ _ _
      have hqle : q.2.1 ≤ B.length := by rw [← hq]; exact hashQ_le hp1
      have qS := rhash_S gt A c B (p + 1) 0 hp1 hB2
      rw [hq] at qS
      obtain ⟨q2, hq2⟩ : ∃ q2, hashQ B q.2.1 q.2.2 = q2 := ⟨_, rfl⟩
      have hq232 : q2.1.length = 32 := by rw [← hq2]; exact hashQ_len _ _ _
      have q2S := rhash_S gt A c B q.2.1 q.2.2 hqle hB2
      rw [hq2] at q2S
      refine s_regA TY_ok rfl fun K20 hK20 => ?_
      refine l_callA [.pointer (some ⟨gt, 0, none⟩)] rfl rfl rfl own_rhash rfl rfl (fun _ _ => rfl) qS (fun _ h _ => h.1) fun _ => ?_
      refine l_autoS TY_ok rfl ?_
      refine s_end (hK20 _ ?_)
      refine s_regA TY_ok rfl fun K21 hK21 => ?_
      refine l_callA [.pointer (some ⟨gt, 0, none⟩)] rfl rfl rfl own_rhash rfl rfl (fun _ _ => rfl) q2S (fun _ h _ => h.2.1) fun _ => ?_
      refine l_autoS TY_ok rfl ?_
      refine s_end (hK21 _ ?_)
      refine s_regH 6 (by decide) (by kernel_rfl) (by kernel_rfl) fun K22 hK22 G S w0 hst => ?_
      refine h_auto TY_ok hst rfl ?_
      refine h_ldO TY_ok hst rfl rfl rfl rfl rfl rfl rfl (partP_ok _ _ _) (obj_own 1 rfl) ?_
      refine h_auto TY_ok hst rfl ?_
      refine h_end hst ?_
      have hclk : (eND ⟨1, q.1, z32T, -1, -1⟩).cl = (eND ⟨1, z32T, z32T, -1, -1⟩).cl.take 1 ++ (eY 32 q.1).cl ++ (eND ⟨1, z32T, z32T, -1, -1⟩).cl.drop (1 + 32) := cl_key (x := ⟨1, z32T, z32T, -1, -1⟩) rfl
      have hokk : OkP (eND ⟨1, q.1, z32T, -1, -1⟩).parts1 ∧ (eND ⟨1, q.1, z32T, -1, -1⟩).cl.length = 67 := ndOk hq32 rfl
      refine l_op (.v (.pointer (some ⟨gX, 67 * ns.length, none⟩))) trivial rfl rfl rfl (run_ix0 ns.length rfl Tryd.underlying81 rfl rfl rfl (by rw [List.length_append]; exact Nat.lt_add_of_pos_right (Nat.succ_pos _))) ?_
      refine l_autoS TY_ok rfl ?_
      refine l_stF (q := eY 32 q.1) 2 ns.length 1 32 (⟨1, z32T, z32T, -1, -1⟩ : ND) ⟨1, q.1, z32T, -1, -1⟩ rfl rfl rfl rfl rfl rfl (get_new ns [] _) rfl (eY_cl32 (h := q.1) hq32) (fun v hv => By_one _ v hv) hclk (by decide) hokk ?_
      refine l_R [TapQ gt A c B q2.2.1 q2.2.2, PartS gp (some ⟨gX, 0, none⟩) c1 (ns ++ ⟨1, q.1, z32T, -1, -1⟩ :: []), NodS (some ⟨gX, 0, none⟩) c1 (ns ++ ⟨1, q.1, z32T, -1, -1⟩ :: [])] ?_ ?_
      · show [_, _, _] = _
        rw [set_new]
        exact part_same gt gp A c B q2.2.1 q2.2.2 _ c1 ns [] _ _
      refine s_end (hK22 _ ?_)
      clear hst
      refine s_regH 6 (by decide) (by kernel_rfl) (by kernel_rfl) fun K23 hK23 G S w0 hst => ?_
      refine h_auto TY_ok hst rfl ?_
      refine h_ldO TY_ok hst rfl rfl rfl rfl rfl rfl rfl (partP_ok _ _ _) (obj_own 1 rfl) ?_
      refine h_auto TY_ok hst rfl ?_
      refine h_end hst ?_
      have hclv : (eND ⟨1, q.1, q2.1, -1, -1⟩).cl = (eND ⟨1, q.1, z32T, -1, -1⟩).cl.take 33 ++ (eY 32 q2.1).cl ++ (eND ⟨1, q.1, z32T, -1, -1⟩).cl.drop (33 + 32) := cl_val (x := ⟨1, q.1, z32T, -1, -1⟩) hq32 rfl
      have hokv : OkP (eND ⟨1, q.1, q2.1, -1, -1⟩).parts1 ∧ (eND ⟨1, q.1, q2.1, -1, -1⟩).cl.length = 67 := ndOk hq32 hq232
      refine l_op (.v (.pointer (some ⟨gX, 67 * ns.length, none⟩))) trivial rfl rfl rfl (run_ix0 ns.length rfl Tryd.underlying81 rfl rfl rfl (by rw [List.length_append]; exact Nat.lt_add_of_pos_right (Nat.succ_pos _))) ?_
      refine l_autoS TY_ok rfl ?_
      refine l_stF (q := eY 32 q2.1) 2 ns.length 33 32 (⟨1, q.1, z32T, -1, -1⟩ : ND) ⟨1, q.1, q2.1, -1, -1⟩ rfl rfl rfl rfl rfl rfl (get_new ns [] _) rfl (eY_cl32 (h := q2.1) hq232) (fun v hv => By_one _ v hv) hclv (by decide) hokv ?_
      refine l_R [TapQ gt A c B q2.2.1 q2.2.2, PartS gp (some ⟨gX, 0, none⟩) c1 (ns ++ ⟨1, q.1, q2.1, -1, -1⟩ :: []), NodS (some ⟨gX, 0, none⟩) c1 (ns ++ ⟨1, q.1, q2.1, -1, -1⟩ :: [])] ?_ ?_
      · show [_, _, _] = _
        rw [set_new]
        exact part_same gt gp A c B q2.2.1 q2.2.2 _ c1 ns [] _ _
      refine s_end (hK23 _ ?_)
      clear hst
      have hres := RdR.leafy (n := n) (way := way) (N := ns.length) hx hk hq hq2
      have hw256 : way.length ≤ 256 := by omega
      have e0 : ledQ (way.take 0) q.1 q2.2.2 = q2.2.2 := if_neg fun h => h.2 (Leads.nil _)
      refine s_regA TY_ok rfl fun K24 hK24 => ?_
      refine l_R [TapQ gt A c B q2.2.1 (ledQ (way.take 0) q.1 q2.2.2), PartS gp (some ⟨gX, 0, none⟩) c1 (ns ++ [⟨1, q.1, q2.1, -1, -1⟩]), NodS (some ⟨gX, 0, none⟩) c1 (ns ++ [⟨1, q.1, q2.1, -1, -1⟩])] (by rw [e0]) ?_
      refine s_end (hK24 _ ?_)
      refine s_block ?_
      let F : Nat → Env := fun i => ⟨[(114, .v (.int .i64 (i : Int))), (113, .v (.int .i64 (way.length : Int))), (112, .v (.slice Aw way.length cw)), (1, .v (.pointer (some ⟨gt, 0, none⟩))), (7, .v (.int .i64 (ns.length : Int))), (9, .a 9 0)], [⟨9, none, 38, [.agg 32 (By q.1).toArray]⟩], [TapQ gt A c B q2.2.1 (ledQ (way.take i) q.1 q2.2.2), PartS gp (some ⟨gX, 0, none⟩) c1 (ns ++ [⟨1, q.1, q2.1, -1, -1⟩]), NodS (some ⟨gX, 0, none⟩) c1 (ns ++ [⟨1, q.1, q2.1, -1, -1⟩])], fun w => Rd 1 eNat Aw cw way w, fun _ => True⟩
      refine c_weak (e' := F 0) ⟨⟨rfl, rfl, rfl, rfl, rfl, rfl, trivial⟩, ⟨rfl, rfl, trivial⟩, .refl _, fun _ h _ => h.2.2.2, fun _ _ => trivial⟩ (s_loop (fun i => way.length - i) F (fun i => i ≤ way.length) ?_ 0 (Nat.zero_le _))
      intro i hi
      refine s_auto TY_ok rfl ?_
      refine s_seq fun K25 hK25 => ?_
      refine s_ifD ((i : Int) < (way.length : Int)) rfl (fun hlt => ?_) (fun hge => ?_)
      · have hlt : i < way.length := by omega
        obtain ⟨bb, hbb⟩ : ∃ x, way[i]? = some x := ⟨_, List.getElem?_eq_getElem hlt⟩
        refine s_skip (hK25 _ ?_)
        refine s_seq fun K26 hK26 => ?_
        refine s_block ?_
        refine s_regA TY_ok rfl fun K27 hK27 => ?_
        refine l_elem TY_ok rfl rfl rfl i rfl hbb rfl rfl (rd_fact fun _ h _ => h) ?_
        refine l_autoS TY_ok rfl ?_
        refine s_end (hK27 _ ?_)
        refine s_lit ?_
        refine l_autoS TY_ok rfl ?_
        refine l_call0 [.agg (By q.1).toArray, .int .i64 (i : Int)] rfl rfl rfl own_rbit9 rfl rfl (fun _ _ => rfl) (rbit_S hq32 i (by omega)) (fun _ _ _ => trivial) fun _ => ?_
        refine l_autoS TY_ok rfl ?_
        refine l_R [TapQ gt A c B q2.2.1 (ledQ (way.take i) q.1 q2.2.2), PartS gp (some ⟨gX, 0, none⟩) c1 (ns ++ [⟨1, q.1, q2.1, -1, -1⟩]), NodS (some ⟨gX, 0, none⟩) c1 (ns ++ [⟨1, q.1, q2.1, -1, -1⟩])] rfl ?_
        refine l_eq 124 (.b (!decide (bitT q.1 i = bb))) rfl (congrArg SV.b (by rw [← decide_not]; exact decide_eq_decide.2 (by omega))) ?_
        refine l_callA [.pointer (some ⟨gt, 0, none⟩), .bool (!decide (bitT q.1 i = bb))] rfl rfl rfl own_rform rfl rfl (fun _ _ => rfl) (rform_S gt A c B q2.2.1 (ledQ (way.take i) q.1 q2.2.2) (!decide (bitT q.1 i = bb))) (fun _ _ _ => trivial) fun _ => ?_
        refine l_R [TapQ gt A c B q2.2.1 (ledQ (way.take (i + 1)) q.1 q2.2.2), PartS gp (some ⟨gX, 0, none⟩) c1 (ns ++ [⟨1, q.1, q2.1, -1, -1⟩]), NodS (some ⟨gX, 0, none⟩) c1 (ns ++ [⟨1, q.1, q2.1, -1, -1⟩])] (by rw [ledQ_next hbb]; rfl) ?_
        refine s_end (hK26 _ ?_)
        refine s_autoE TY_ok rfl ?_
        exact k_next (i + 1) hlt (by show way.length - (i + 1) < way.length - i; omega) ⟨⟨congrArg some (congrArg SV.v (congrArg (Value.int .i64) (wrapI rfl (by omega) (by omega)))), rfl, rfl, rfl, rfl, rfl, trivial⟩, ⟨rfl, rfl, trivial⟩, .refl _, fun _ h _ => h.2.2, fun _ _ => trivial⟩
      obtain rfl : i = way.length := by omega
      refine s_exit (k_pass (k_pass (k_out ?_)))
      refine hfin ⟨[⟨1, q.1, q2.1, -1, -1⟩], q2.2.1, ledQ way q.1 q2.2.2, some ⟨gX, 0, none⟩, c1⟩ hres _ ⟨⟨rfl, trivial⟩, trivial, ?_, fun _ _ _ => trivial, fun _ _ => trivial⟩
      dsimp only [F]
      rw [List.take_length]
    refine s_auto TY_ok rfl ?_
    refine s_ifD ((k : Int) = 2) rfl (fun hk2 => ?_) (fun hk2 => ?_)
    · obtain rfl : k = 2 := by omega
      refine s_regA TY_ok rfl fun K20 hK20 => ?_
      refine l_eq 132 (.b (decide (256 ≤ way.length))) rfl (congrArg SV.b (decide_eq_decide.2 (by omega))) ?_
      refine l_callA [.pointer (some ⟨gt, 0, none⟩), .bool (decide (256 ≤ way.length))] rfl rfl rfl own_rform rfl rfl (fun _ _ => rfl) (rform_S gt A c B (p + 1) 0 (decide (256 ≤ way.length))) (fun _ _ _ => trivial) fun _ => ?_
      have hN2 : (ns ++ [(⟨2, z32T, z32T, -1, -1⟩ : ND)]).length = ns.length + 1 := by rw [List.length_append]; rfl
      cases n with
      | zero =>
        refine l_R [TapQ gt A c B (p + 1) 13, PartS gp (some ⟨gX, 0, none⟩) c1 (ns ++ [⟨2, z32T, z32T, -1, -1⟩]), NodS (some ⟨gX, 0, none⟩) c1 (ns ++ [⟨2, z32T, z32T, -1, -1⟩])] (by rw [show decide (256 ≤ way.length) = true from decide_eq_true (by omega)]; rfl) ?_
        refine s_end (hK20 _ ?_)
        refine s_seq fun K21 hK21 => ?_
        refine s_regA TY_ok rfl fun K22 hK22 => ?_
        refine l_ldO TY_ok rfl rfl rfl rfl rfl rfl (obj_own 0 rfl) ?_
        refine l_autoS TY_ok rfl ?_
        refine s_end (hK22 _ ?_)
        refine s_ifD (((13 : Nat) : Int) ≠ 0) rfl (fun _ => ?_) (fun h => absurd (by decide) h)
        refine s_auto TY_ok rfl ?_
        exact s_ret (k_ret TY_ok ⟨⟨[⟨2, z32T, z32T, -1, -1⟩], p + 1, 13, some ⟨gX, 0, none⟩, c1⟩, RdR.deep hx hk⟩ rfl (by decide) rfl rfl rfl (fun _ _ _ => trivial) (fun _ _ => trivial))
      | succ m =>
        have hwl : way.length ≤ 255 := by omega
        refine l_R [TapQ gt A c B (p + 1) 0, PartS gp (some ⟨gX, 0, none⟩) c1 (ns ++ [⟨2, z32T, z32T, -1, -1⟩]), NodS (some ⟨gX, 0, none⟩) c1 (ns ++ [⟨2, z32T, z32T, -1, -1⟩])] (by rw [show decide (256 ≤ way.length) = false from decide_eq_false (by omega)]; rfl) ?_
        refine s_end (hK20 _ ?_)
        refine s_seq fun K21 hK21 => ?_
        refine s_regA TY_ok rfl fun K22 hK22 => ?_
        refine l_ldO TY_ok rfl rfl rfl rfl rfl rfl (obj_own 0 rfl) ?_
        refine l_autoS TY_ok rfl ?_
        refine s_end (hK22 _ ?_)
        refine s_ifD (((0 : Nat) : Int) ≠ 0) rfl (fun h => absurd rfl h) (fun _ => ?_)
        refine s_skip (hK21 _ ?_)
        refine s_regA TY_ok rfl fun K23 hK23 => ?_
        refine l_list0 b.B.heap.size eNat (sz := 1) rfl rfl rfl rfl (Nat.le_refl _) run_ints0 fun A0 => ?_
        refine l_autoS TY_ok rfl ?_
        refine l_appY TY_ok 0 way rfl rfl rfl rfl rfl rfl rfl rfl rfl (rd_fact fun _ h _ => h.2.2) (by decide) (by show (0 + way.length) * 8 ≤ _; omega) (by show 0 + way.length ≤ _; omega) (Nat.le_refl _) fun A1 w1 => ?_
        refine l_autoS TY_ok rfl ?_
        refine l_list (fe := eNat) TY_ok b.B.heap.size [(0 : Nat)] rfl rfl rfl rfl rfl (fun _ => rfl) rfl (by decide) (by decide) (okF_N _) (Nat.le_refl _) fun A2 => ?_
        refine l_autoS TY_ok rfl ?_
        refine l_appY TY_ok 1 [(0 : Nat)] rfl rfl rfl rfl rfl rfl rfl rfl rfl (rd_own 0 rfl) (by decide) (by show (([] ++ way).length + 1) * 8 ≤ _; rw [List.nil_append]; omega) (by show ([] ++ way).length + 1 ≤ _; rw [List.nil_append]; omega) (Nat.le_refl _) fun A3 w3 => ?_
        refine l_eq 146 (.v (.slice A3 (way ++ [0]).length w3)) rfl rfl ?_
        refine l_free 0 rfl ?_
        refine l_free 0 rfl ?_
        refine l_R ([TapQ gt A c B (p + 1) 0, PartS gp (some ⟨gX, 0, none⟩) c1 (ns ++ [⟨2, z32T, z32T, -1, -1⟩]), NodS (some ⟨gX, 0, none⟩) c1 (ns ++ [⟨2, z32T, z32T, -1, -1⟩])] ++ []) rfl ?_
        refine l_callA [.pointer (some ⟨gp, 0, none⟩), .pointer (some ⟨gt, 0, none⟩), .slice A3 (way ++ [0]).length w3] rfl rfl rfl own_rread rfl rfl (fun _ _ => rfl) (ih m (Nat.lt_succ_self m) (way ++ [0]) A3 w3 (ns ++ [⟨2, z32T, z32T, -1, -1⟩]) (some ⟨gX, 0, none⟩) c1 (p + 1) 0 (by rw [List.length_append, List.length_singleton]; omega) hp1 (by rw [hN2]; omega)) (fun _ h _ => ⟨h.2.2.2.1, h.1⟩) fun ⟨⟨L, pl, el, LA, lc⟩, hy⟩ => ?_
        refine l_R [TapQ gt A c B pl el, PartS gp LA lc ((ns ++ [⟨2, z32T, z32T, -1, -1⟩]) ++ L), NodS LA lc ((ns ++ [⟨2, z32T, z32T, -1, -1⟩]) ++ L)] rfl ?_
        refine l_num 147 ((ns.length + 1 : Nat) : Int) rfl (by rw [hN2]) ?_
        refine l_autoS TY_ok rfl ?_
        refine s_end (hK23 _ ?_)
        have hy2 : RdR m (way ++ [0]) B (p + 1) 0 (ns.length + 1) L pl el := by rw [← hN2]; exact hy
        have hyu := hy2.up
        have hyl := hy2.le
        have hyf := hy2.few
        have hN3 : (ns ++ [(⟨2, z32T, z32T, -1, -1⟩ : ND)] ++ L).length = ns.length + 1 + L.length := by rw [List.length_append, hN2]
        refine s_regA TY_ok rfl fun K24 hK24 => ?_
        refine l_list0 b.B.heap.size eNat (sz := 1) rfl rfl rfl rfl (Nat.le_refl _) run_ints0 fun A0 => ?_
        refine l_autoS TY_ok rfl ?_
        refine l_appY TY_ok 0 way rfl rfl rfl rfl rfl rfl rfl rfl rfl (rd_fact fun _ h _ => h.2.2.2.2.2) (by decide) (by show (0 + way.length) * 8 ≤ _; omega) (by show 0 + way.length ≤ _; omega) (Nat.le_refl _) fun A1 w1 => ?_
        refine l_autoS TY_ok rfl ?_
        refine l_list (fe := eNat) TY_ok b.B.heap.size [(1 : Nat)] rfl rfl rfl rfl rfl (fun _ => rfl) rfl (by decide) (by decide) (okF_N _) (Nat.le_refl _) fun A2 => ?_
        refine l_autoS TY_ok rfl ?_
        refine l_appY TY_ok 1 [(1 : Nat)] rfl rfl rfl rfl rfl rfl rfl rfl rfl (rd_own 0 rfl) (by decide) (by show (([] ++ way).length + 1) * 8 ≤ _; rw [List.nil_append]; omega) (by show ([] ++ way).length + 1 ≤ _; rw [List.nil_append]; omega) (Nat.le_refl _) fun A3 w3 => ?_
        refine l_eq 154 (.v (.slice A3 (way ++ [1]).length w3)) rfl rfl ?_
        refine l_free 0 rfl ?_
        refine l_free 0 rfl ?_
        refine l_R ([TapQ gt A c B pl el, PartS gp LA lc (ns ++ [⟨2, z32T, z32T, -1, -1⟩] ++ L), NodS LA lc (ns ++ [⟨2, z32T, z32T, -1, -1⟩] ++ L)] ++ []) rfl ?_
        refine l_callA [.pointer (some ⟨gp, 0, none⟩), .pointer (some ⟨gt, 0, none⟩), .slice A3 (way ++ [1]).length w3] rfl rfl rfl own_rread rfl rfl (fun _ _ => rfl) (ih m (Nat.lt_succ_self m) (way ++ [1]) A3 w3 (ns ++ [⟨2, z32T, z32T, -1, -1⟩] ++ L) LA lc pl el (by rw [List.length_append, List.length_singleton]; omega) hy2.le (by rw [hN3]; omega)) (fun _ h _ => ⟨h.2.2.2.2.2.2.1, h.1⟩) fun ⟨⟨Z, zp, ze, ZA, zc⟩, hz⟩ => ?_
        refine l_R [TapQ gt A c B zp ze, PartS gp ZA zc ((ns ++ [⟨2, z32T, z32T, -1, -1⟩] ++ L) ++ Z), NodS ZA zc ((ns ++ [⟨2, z32T, z32T, -1, -1⟩] ++ L) ++ Z)] rfl ?_
        refine l_num 155 ((ns.length + 1 + L.length : Nat) : Int) rfl (by rw [hN3]) ?_
        refine l_autoS TY_ok rfl ?_
        obtain ⟨mm, hmm⟩ : ∃ q, L ++ Z = q := ⟨_, rfl⟩
        refine l_R [TapQ gt A c B zp ze, PartS gp ZA zc (ns ++ ⟨2, z32T, z32T, -1, -1⟩ :: mm), NodS ZA zc (ns ++ ⟨2, z32T, z32T, -1, -1⟩ :: mm)] (by rw [← hmm, show ns ++ [(⟨2, z32T, z32T, -1, -1⟩ : ND)] ++ L ++ Z = ns ++ ⟨2, z32T, z32T, -1, -1⟩ :: (L ++ Z) by simp]) ?_
        refine s_end (hK24 _ ?_)
        have hz2 : RdR m (way ++ [1]) B pl el (ns.length + 1 + L.length) Z zp ze := by rw [← hN3]; exact hz
        have hclL : (eND ⟨2, z32T, z32T, ((ns.length + 1 : Nat) : Int), -1⟩).cl = (eND ⟨2, z32T, z32T, -1, -1⟩).cl.take 65 ++ (SQ.c (.v (.int .i64 ((ns.length + 1 : Nat) : Int)))).cl ++ (eND ⟨2, z32T, z32T, -1, -1⟩).cl.drop (65 + 1) := cl_l (x := ⟨2, z32T, z32T, -1, -1⟩) rfl rfl
        have hokL : OkP (eND ⟨2, z32T, z32T, ((ns.length + 1 : Nat) : Int), -1⟩).parts1 ∧ (eND ⟨2, z32T, z32T, ((ns.length + 1 : Nat) : Int), -1⟩).cl.length = 67 := ndOk rfl rfl
        have hclR : (eND ⟨2, z32T, z32T, ((ns.length + 1 : Nat) : Int), ((ns.length + 1 + L.length : Nat) : Int)⟩).cl = (eND ⟨2, z32T, z32T, ((ns.length + 1 : Nat) : Int), -1⟩).cl.take 66 ++ (SQ.c (.v (.int .i64 ((ns.length + 1 + L.length : Nat) : Int)))).cl ++ (eND ⟨2, z32T, z32T, ((ns.length + 1 : Nat) : Int), -1⟩).cl.drop (66 + 1) := cl_r (x := ⟨2, z32T, z32T, ((ns.length + 1 : Nat) : Int), -1⟩) rfl rfl
        have hokR : OkP (eND ⟨2, z32T, z32T, ((ns.length + 1 : Nat) : Int), ((ns.length + 1 + L.length : Nat) : Int)⟩).parts1 ∧ (eND ⟨2, z32T, z32T, ((ns.length + 1 : Nat) : Int), ((ns.length + 1 + L.length : Nat) : Int)⟩).cl.length = 67 := ndOk rfl rfl
        refine s_regA TY_ok rfl fun K25 hK25 => ?_
        refine l_ldO TY_ok rfl rfl rfl rfl rfl rfl (obj_own 1 rfl) ?_
        refine l_autoS TY_ok rfl ?_
        refine l_where 2 rfl (by rw [List.length_append]; exact Nat.lt_of_lt_of_le (Nat.succ_pos _) (Nat.le_add_left _ _)) fun gY hY => ?_
        subst hY
        refine l_op (.v (.pointer (some ⟨gY, 67 * ns.length, none⟩))) trivial rfl rfl rfl (run_ix0 ns.length rfl Tryd.underlying81 rfl rfl rfl (by rw [List.length_append]; exact Nat.lt_add_of_pos_right (Nat.succ_pos _))) ?_
        refine l_autoS TY_ok rfl ?_
        refine l_stF (q := .c (.v (.int .i64 ((ns.length + 1 : Nat) : Int)))) 2 ns.length 65 1 (⟨2, z32T, z32T, -1, -1⟩ : ND) ⟨2, z32T, z32T, ((ns.length + 1 : Nat) : Int), -1⟩ rfl rfl rfl rfl rfl rfl (get_new ns mm _) rfl rfl (fun v hv => by rw [List.mem_singleton.1 hv]; rfl) hclL (by decide) hokL ?_
        refine l_R [TapQ gt A c B zp ze, PartS gp (some ⟨gY, 0, none⟩) zc (ns ++ ⟨2, z32T, z32T, ((ns.length + 1 : Nat) : Int), -1⟩ :: mm), NodS (some ⟨gY, 0, none⟩) zc (ns ++ ⟨2, z32T, z32T, ((ns.length + 1 : Nat) : Int), -1⟩ :: mm)] ?_ ?_
        · show [_, _, _] = _
          rw [set_new]
          exact part_same gt gp A c B zp ze _ zc ns mm _ _
        refine s_end (hK25 _ ?_)
        refine s_regA TY_ok rfl fun K26 hK26 => ?_
        refine l_ldO TY_ok rfl rfl rfl rfl rfl rfl (obj_own 1 rfl) ?_
        refine l_autoS TY_ok rfl ?_
        refine l_op (.v (.pointer (some ⟨gY, 67 * ns.length, none⟩))) trivial rfl rfl rfl (run_ix0 ns.length rfl Tryd.underlying81 rfl rfl rfl (by rw [List.length_append]; exact Nat.lt_add_of_pos_right (Nat.succ_pos _))) ?_
        refine l_autoS TY_ok rfl ?_
        refine l_stF (q := .c (.v (.int .i64 ((ns.length + 1 + L.length : Nat) : Int)))) 2 ns.length 66 1 (⟨2, z32T, z32T, ((ns.length + 1 : Nat) : Int), -1⟩ : ND) ⟨2, z32T, z32T, ((ns.length + 1 : Nat) : Int), ((ns.length + 1 + L.length : Nat) : Int)⟩ rfl rfl rfl rfl rfl rfl (get_new ns mm _) rfl rfl (fun v hv => by rw [List.mem_singleton.1 hv]; rfl) hclR (by decide) hokR ?_
        refine l_R [TapQ gt A c B zp ze, PartS gp (some ⟨gY, 0, none⟩) zc (ns ++ ⟨2, z32T, z32T, ((ns.length + 1 : Nat) : Int), ((ns.length + 1 + L.length : Nat) : Int)⟩ :: mm), NodS (some ⟨gY, 0, none⟩) zc (ns ++ ⟨2, z32T, z32T, ((ns.length + 1 : Nat) : Int), ((ns.length + 1 + L.length : Nat) : Int)⟩ :: mm)] ?_ ?_
        · show [_, _, _] = _
          rw [set_new]
          exact part_same gt gp A c B zp ze _ zc ns mm _ _
        refine s_end (hK26 _ ?_)
        have hlp : 0 < L.length := hy2.pos
        have hzp : 0 < Z.length := hz2.pos
        have hml : mm.length = L.length + Z.length := by rw [← hmm, List.length_append]
        obtain ⟨fin, hfi⟩ : ∃ q, ns ++ ⟨2, z32T, z32T, ((ns.length + 1 : Nat) : Int), ((ns.length + 1 + L.length : Nat) : Int)⟩ :: mm = q := ⟨_, rfl⟩
        have hfl : fin.length = ns.length + (mm.length + 1) := by rw [← hfi, List.length_append, List.length_cons]
        obtain ⟨u, hu⟩ : ∃ u, fin[ns.length + 1]? = some u := ⟨_, List.getElem?_eq_getElem (by omega)⟩
        obtain ⟨v, hv⟩ : ∃ v, fin[ns.length + 1 + L.length]? = some v := ⟨_, List.getElem?_eq_getElem (by omega)⟩
        have hpick : ∀ (ns2 : List ND) (j : Nat), ns2.length = ns.length + 1 → ns.length + 1 ≤ j → (ns2 ++ mm)[j]? = fin[j]? := fun ns2 j h1 h2 => by
          rw [← hfi, List.getElem?_append_right (by omega), h1, List.getElem?_append_right (by omega), show j - ns.length = (j - (ns.length + 1)) + 1 by omega, List.getElem?_cons_succ]
        have hres := RdR.both (way := way) (a := u.k) (b := v.k) hx hk hy2 hz2 (fun ns2 h1 t ht => by
          rw [hmm, hpick ns2 _ h1 (Nat.le_refl _), hu] at ht
          exact congrArg ND.k (Option.some.inj ht)) (fun ns2 h1 t ht => by
          rw [hmm, hpick ns2 _ h1 (Nat.le_add_right _ _), hv] at ht
          exact congrArg ND.k (Option.some.inj ht))
        rw [hmm] at hres
        refine s_own 2 rfl fun hokF _ _ => ?_
        rw [hfi] at hokF ⊢
        have hoku : OkP (eND u).parts1 := (hokF u (List.mem_of_getElem? hu)).1
        have hokv : OkP (eND v).parts1 := (hokF v (List.mem_of_getElem? hv)).1
        refine s_regH 17 (by decide) (by kernel_rfl) (by kernel_rfl) fun K27 hK27 G S w0 hst => ?_
        refine h_auto TY_ok hst rfl ?_
        refine h_ldO TY_ok hst rfl rfl rfl rfl rfl rfl rfl (partP_ok _ _ _) (obj_own 1 rfl) ?_
        refine h_auto TY_ok hst rfl ?_
        refine h_op hst (.v (.pointer (some ⟨gY, 0 + 67 * (ns.length + 1), none⟩))) trivial rfl rfl rfl rfl (runO_ixS (ns.length + 1) rfl Tryd.underlying81 rfl rfl rfl (by omega)) ?_
        refine h_auto TY_ok hst rfl ?_
        refine h_opV hst (.q (.c (.v (.int .i64 (u.k : Int))))) trivial rfl rfl rfl rfl (run_ldR (fe := eND) TY_ok rfl rfl hu rfl hoku (rd_own 2 rfl)) ?_
        refine h_auto TY_ok hst rfl ?_
        refine h_ldO TY_ok hst rfl rfl rfl rfl rfl rfl rfl (partP_ok _ _ _) (obj_own 1 rfl) ?_
        refine h_auto TY_ok hst rfl ?_
        refine h_op hst (.v (.pointer (some ⟨gY, 0 + 67 * (ns.length + 1 + L.length), none⟩))) trivial rfl rfl rfl rfl (runO_ixS (ns.length + 1 + L.length) rfl Tryd.underlying81 rfl rfl rfl (by omega)) ?_
        refine h_auto TY_ok hst rfl ?_
        refine h_opV hst (.q (.c (.v (.int .i64 (v.k : Int))))) trivial rfl rfl rfl rfl (run_ldR (fe := eND) TY_ok rfl rfl hv rfl hokv (rd_own 2 rfl)) ?_
        refine h_auto TY_ok hst rfl ?_
        refine h_end hst ?_
        refine l_autoS TY_ok rfl ?_
        refine s_end (hK27 _ ?_)
        clear hst
        rw [← hfi]
        refine s_lit ?_
        refine l_autoS TY_ok rfl ?_
        by_cases a0 : u.k = 0
        · refine l_is 191 true rfl (by simp [a0]) ?_
          refine l_autoS TY_ok rfl ?_
          by_cases b0 : v.k = 0
          · refine l_is 195 true rfl (by simp [b0]) ?_
            refine l_autoS TY_ok rfl ?_
            iterate 2 refine l_skipU rfl rfl rfl rfl rfl rfl ?_
            refine l_autoS TY_ok rfl ?_
            iterate 2 refine l_skipU rfl rfl rfl rfl rfl rfl ?_
            refine l_autoS TY_ok rfl ?_
            refine l_callA [.pointer (some ⟨gt, 0, none⟩), .bool true] rfl rfl rfl own_rform rfl rfl (fun _ _ => rfl) (rform_S gt A c B zp ze true) (fun _ _ _ => trivial) fun _ => ?_
            refine s_end (hfin ⟨⟨2, z32T, z32T, ((ns.length + 1 : Nat) : Int), ((ns.length + 1 + L.length : Nat) : Int)⟩ :: mm, zp, formQ (badK u.k v.k) ze, some ⟨gY, 0, none⟩, zc⟩ hres _ ⟨⟨rfl, trivial⟩, trivial, ?_, fun _ _ _ => trivial, fun _ _ => trivial⟩)
            rw [show badK u.k v.k = true by unfold badK; simp [a0, b0]]
            exact .refl _
          · refine l_is 195 false rfl (by simp; omega) ?_
            refine l_autoS TY_ok rfl ?_
            refine l_is 198 true rfl (by simp [a0]) ?_
            refine l_autoS TY_ok rfl ?_
            by_cases b1 : v.k = 1
            · refine l_is 203 true rfl (by simp [b1]) ?_
              refine l_autoS TY_ok rfl ?_
              iterate 2 refine l_skipU rfl rfl rfl rfl rfl rfl ?_
              refine l_autoS TY_ok rfl ?_
              refine l_callA [.pointer (some ⟨gt, 0, none⟩), .bool true] rfl rfl rfl own_rform rfl rfl (fun _ _ => rfl) (rform_S gt A c B zp ze true) (fun _ _ _ => trivial) fun _ => ?_
              refine s_end (hfin ⟨⟨2, z32T, z32T, ((ns.length + 1 : Nat) : Int), ((ns.length + 1 + L.length : Nat) : Int)⟩ :: mm, zp, formQ (badK u.k v.k) ze, some ⟨gY, 0, none⟩, zc⟩ hres _ ⟨⟨rfl, trivial⟩, trivial, ?_, fun _ _ _ => trivial, fun _ _ => trivial⟩)
              rw [show badK u.k v.k = true by unfold badK; simp [a0, b1]]
              exact .refl _
            · refine l_is 203 false rfl (by simp; omega) ?_
              refine l_autoS TY_ok rfl ?_
              refine l_is 206 false rfl (by simp [a0]) ?_
              refine l_autoS TY_ok rfl ?_
              refine l_callA [.pointer (some ⟨gt, 0, none⟩), .bool false] rfl rfl rfl own_rform rfl rfl (fun _ _ => rfl) (rform_S gt A c B zp ze false) (fun _ _ _ => trivial) fun _ => ?_
              refine s_end (hfin ⟨⟨2, z32T, z32T, ((ns.length + 1 : Nat) : Int), ((ns.length + 1 + L.length : Nat) : Int)⟩ :: mm, zp, formQ (badK u.k v.k) ze, some ⟨gY, 0, none⟩, zc⟩ hres _ ⟨⟨rfl, trivial⟩, trivial, ?_, fun _ _ _ => trivial, fun _ _ => trivial⟩)
              rw [show badK u.k v.k = false by unfold badK; simp [a0, b0, b1]]
              exact .refl _
        · refine l_is 191 false rfl (by simp; omega) ?_
          refine l_autoS TY_ok rfl ?_
          refine l_is 198 false rfl (by simp; omega) ?_
          refine l_autoS TY_ok rfl ?_
          by_cases a1 : u.k = 1
          · refine l_is 206 true rfl (by simp [a1]) ?_
            refine l_autoS TY_ok rfl ?_
            by_cases b0 : v.k = 0
            · refine l_is 210 true rfl (by simp [b0]) ?_
              refine l_callA [.pointer (some ⟨gt, 0, none⟩), .bool true] rfl rfl rfl own_rform rfl rfl (fun _ _ => rfl) (rform_S gt A c B zp ze true) (fun _ _ _ => trivial) fun _ => ?_
              refine s_end (hfin ⟨⟨2, z32T, z32T, ((ns.length + 1 : Nat) : Int), ((ns.length + 1 + L.length : Nat) : Int)⟩ :: mm, zp, formQ (badK u.k v.k) ze, some ⟨gY, 0, none⟩, zc⟩ hres _ ⟨⟨rfl, trivial⟩, trivial, ?_, fun _ _ _ => trivial, fun _ _ => trivial⟩)
              rw [show badK u.k v.k = true by unfold badK; simp [a1, b0]]
              exact .refl _
            · refine l_is 210 false rfl (by simp; omega) ?_
              refine l_callA [.pointer (some ⟨gt, 0, none⟩), .bool false] rfl rfl rfl own_rform rfl rfl (fun _ _ => rfl) (rform_S gt A c B zp ze false) (fun _ _ _ => trivial) fun _ => ?_
              refine s_end (hfin ⟨⟨2, z32T, z32T, ((ns.length + 1 : Nat) : Int), ((ns.length + 1 + L.length : Nat) : Int)⟩ :: mm, zp, formQ (badK u.k v.k) ze, some ⟨gY, 0, none⟩, zc⟩ hres _ ⟨⟨rfl, trivial⟩, trivial, ?_, fun _ _ _ => trivial, fun _ _ => trivial⟩)
              rw [show badK u.k v.k = false by unfold badK; simp [a1, b0]]
              exact .refl _
          · refine l_is 206 false rfl (by simp; omega) ?_
            refine l_autoS TY_ok rfl ?_
            refine l_callA [.pointer (some ⟨gt, 0, none⟩), .bool false] rfl rfl rfl own_rform rfl rfl (fun _ _ => rfl) (rform_S gt A c B zp ze false) (fun _ _ _ => trivial) fun _ => ?_
            refine s_end (hfin ⟨⟨2, z32T, z32T, ((ns.length + 1 : Nat) : Int), ((ns.length + 1 + L.length : Nat) : Int)⟩ :: mm, zp, formQ (badK u.k v.k) ze, some ⟨gY, 0, none⟩, zc⟩ hres _ ⟨⟨rfl, trivial⟩, trivial, ?_, fun _ _ _ => trivial, fun _ _ => trivial⟩)
            rw [show badK u.k v.k = false by unfold badK; simp [a0, a1]]
            exact .refl _
    refine s_auto TY_ok rfl ?_
    refine s_ifD ((k : Int) = 3) rfl (fun hk3 => ?_) (fun hk3 => ?_)
    · obtain rfl : k = 3 := by omega
      obtain ⟨q, hq⟩ : ∃ q, hashQ B (p + 1) 0 = q := ⟨_, rfl⟩
      have hq32 : q.1.length = 32 := by rw [← hq]; exact hashQ_len _ _ _
      have qS := rhash_S gt A c B (p + 1) 0 hp1 hB2
      rw [hq] at qS
      refine s_regA TY_ok rfl fun K20 hK20 => ?_
      refine l_callA [.pointer (some ⟨gt, 0, none⟩)] rfl rfl rfl own_rhash rfl rfl (fun _ _ => rfl) qS (fun _ h _ => h.1) fun _ => ?_
      refine l_autoS TY_ok rfl ?_
      refine s_end (hK20 _ ?_)
      refine s_drawn 6 (by decide) (by kernel_rfl) (by kernel_rfl) fun G S w0 hst => ?_
      refine h_auto (Fa := []) TY_ok hst rfl ?_
      refine h_ldO TY_ok hst rfl rfl rfl rfl rfl rfl rfl (partP_ok _ _ _) (obj_own 1 rfl) ?_
      refine h_auto (Fa := []) TY_ok hst rfl ?_
      refine h_end (Fa := []) hst ?_
      have hcl3 : (eND ⟨3, z32T, q.1, -1, -1⟩).cl = (eND ⟨3, z32T, z32T, -1, -1⟩).cl.take 33 ++ (eY 32 q.1).cl ++ (eND ⟨3, z32T, z32T, -1, -1⟩).cl.drop (33 + 32) := cl_val (x := ⟨3, z32T, z32T, -1, -1⟩) rfl rfl
      have hok3 : OkP (eND ⟨3, z32T, q.1, -1, -1⟩).parts1 ∧ (eND ⟨3, z32T, q.1, -1, -1⟩).cl.length = 67 := ndOk rfl hq32
      refine l_op (.v (.pointer (some ⟨gX, 67 * ns.length, none⟩))) trivial rfl rfl rfl (run_ix0 ns.length rfl Tryd.underlying81 rfl rfl rfl (by rw [List.length_append]; exact Nat.lt_add_of_pos_right (Nat.succ_pos _))) ?_
      refine l_autoS TY_ok rfl ?_
      refine l_stF (q := eY 32 q.1) 2 ns.length 33 32 (⟨3, z32T, z32T, -1, -1⟩ : ND) ⟨3, z32T, q.1, -1, -1⟩ rfl rfl rfl rfl rfl rfl (get_new ns [] _) rfl (eY_cl32 (h := q.1) hq32) (fun v hv => By_one _ v hv) hcl3 (by decide) hok3 ?_
      refine l_R [TapQ gt A c B q.2.1 q.2.2, PartS gp (some ⟨gX, 0, none⟩) c1 (ns ++ ⟨3, z32T, q.1, -1, -1⟩ :: []), NodS (some ⟨gX, 0, none⟩) c1 (ns ++ ⟨3, z32T, q.1, -1, -1⟩ :: [])] ?_ ?_
      · show [_, _, _] = _
        rw [set_new]
        exact part_same gt gp A c B q.2.1 q.2.2 _ c1 ns [] _ _
      refine s_end (hfin ⟨[⟨3, z32T, q.1, -1, -1⟩], q.2.1, q.2.2, some ⟨gX, 0, none⟩, c1⟩ (RdR.hidden hx hk hq) _ ⟨⟨rfl, trivial⟩, trivial, .refl _, fun _ _ _ => trivial, fun _ _ => trivial⟩)
    refine s_lit ?_
    refine l_autoS TY_ok rfl ?_
    refine l_callA [.pointer (some ⟨gt, 0, none⟩), .bool true] rfl rfl rfl own_rform rfl rfl (fun _ _ => rfl) (rform_S gt A c B (p + 1) 0 true) (fun _ _ _ => trivial) fun _ => ?_
    refine s_end (hfin ⟨[⟨k, z32T, z32T, -1, -1⟩], p + 1, 13, some ⟨gX, 0, none⟩, c1⟩ (RdR.what hx (by omega)) _ ⟨⟨rfl, trivial⟩, trivial, .refl _, fun _ _ _ => trivial, fun _ _ => trivial⟩)
  refine s_regH 17 (by decide) (by kernel_rfl) (by kernel_rfl) fun K4 hK4 G S w0 hst => ?_
  refine h_auto TY_ok hst rfl ?_
  refine h_ldO TY_ok hst rfl rfl rfl rfl rfl rfl rfl (tapP_ok A c B p e) (obj_own 0 rfl) ?_
  refine h_auto TY_ok hst rfl ?_
  by_cases he : e = 0
  · subst he
    refine h_is 38 true rfl (by simp) ?_
    refine h_auto TY_ok hst rfl ?_
    refine h_ldO TY_ok hst rfl rfl rfl rfl rfl rfl rfl (tapP_ok A c B p 0) (obj_own 0 rfl) ?_
    refine h_auto TY_ok hst rfl ?_
    refine h_ldO TY_ok hst rfl rfl rfl rfl rfl rfl rfl (tapP_ok A c B p 0) (obj_own 0 rfl) ?_
    refine h_auto TY_ok hst rfl ?_
    refine h_end hst ?_
    refine l_autoS TY_ok rfl ?_
    refine s_end (hK4 _ ?_)
    refine s_ifD ((p : Int) ≥ (B.length : Int)) rfl (fun h1 => ?_) (fun h1 => ?_)
    · refine s_lit ?_
      refine l_autoS TY_ok rfl ?_
      refine l_stO TY_ok 0 rfl rfl rfl rfl rfl rfl rfl ?_
      exact s_end (hlate 10 (fun h => by cases h) (fun _ => RdR.short hp (fun h => absurd rfl h) fun _ => ⟨by omega, rfl⟩) _ ⟨⟨rfl, rfl, rfl, rfl, trivial⟩, trivial, .refl _, fun _ h _ => h, fun _ h => h⟩)
    · exact s_skip (hlate 0 (fun _ => ⟨by omega, rfl⟩) (fun h => absurd rfl h) _ ⟨⟨rfl, rfl, rfl, rfl, trivial⟩, trivial, .refl _, fun _ h _ => h, fun _ h => h⟩)
  · refine h_is 38 false rfl (by simp; omega) ?_
    refine h_auto TY_ok hst rfl ?_
    refine h_end hst ?_
    refine l_autoS TY_ok rfl ?_
    refine s_end (hK4 _ ?_)
    refine s_no rfl ?_
    exact s_skip (hlate e (fun h => absurd h he) (fun _ => RdR.short hp (fun _ => rfl) fun h => absurd h he) _ ⟨⟨rfl, rfl, rfl, rfl, trivial⟩, trivial, .refl _, fun _ h _ => h, fun _ h => h⟩)
end Go.Proofs.YtoecohpcnojokaaDoor
/-
  THE DOCUMENT'S PARTS: Parse.
-/
namespace Go.Proofs.YtoecohpcnojokaaDoor
open Go.RowKit Go.IntWalk Nums

theorem k_freeN {b : Base} {K : Act → World → Prop} {N : Nat} {E : SE} {L : List LV} {R : List Res} {F M : World → Prop} {lo e k c : Nat} {A : Option Addr} {α : Type} {fe : α → SQ} {l : List α} (i : Nat) (hi : R[i]? = some (OwnS lo e k fe A c l)) (h : kS b K N ⟨E, L, R.eraseIdx i, fun w => Rd k fe A c l w ∧ F w, M⟩) : kS b K N ⟨E, L, R, F, M⟩ := fun a w ⟨G, S, h1, h2, h3⟩ => by
  obtain ⟨S', h4⟩ := h3.free hi
  exact h a w ⟨G, S', h1, h2, h4⟩
theorem own_rparse : Own 16 := fun _ _ => by go_simp
/-- What a reading of all bytes comes to. -/
theorem RdR.parse {B : List UInt8} {more : List ND} {p e : Nat} (h : RdR 256 [] B 0 0 0 more p e) : (e ≠ 0 → PW.parse B = .error e) ∧ (e = 0 → p < B.length → PW.parse B = .error 11) ∧ (e = 0 → ¬ p < B.length → ∃ w, PW.parse B = .ok w ∧ At more w 0) := by
  have ho := h.out rfl
  rw [List.drop_zero] at ho
  unfold PW.parse
  cases hr : PW.read 256 [] B with
  | error er =>
    rw [hr] at ho
    obtain ⟨rfl, hne⟩ := ho
    exact ⟨fun _ => rfl, fun h => absurd h hne, fun h => absurd h hne⟩
  | ok u =>
    obtain ⟨w, rest⟩ := u
    rw [hr] at ho
    obtain ⟨rfl, hd, hA⟩ := ho
    refine ⟨fun h => absurd rfl h, fun _ hlt => ?_, fun _ hlt => ?_⟩
    · cases rest with
      | nil =>
        have := List.drop_eq_nil_iff.1 hd
        omega
      | cons => rfl
    · obtain rfl : rest = [] := by rw [← hd]; exact List.drop_eq_nil_iff.2 (by omega)
      exact ⟨w, rfl, hA [] rfl⟩
/-- A part that was read: where it lies. -/
structure PRd where
  g : Nat
  A : Option Addr
  c : Nat
  ns : List ND
def parsePost : Except Nat PW → Post PRd
  | .error e => { ret := fun _ => .t [.c (.v (.pointer none)), .c (.v (.int .i64 (e : Int)))], own := fun _ => [] }
  | .ok w => { ret := fun x => .t [.c (.v (.pointer (some ⟨x.g, 0, none⟩))), .c (.v (.int .i64 0))], own := fun _ => [], p := fun x v => PartF x.g x.A x.c x.ns v ∧ At x.ns w 0 }
set_option maxRecDepth 100000 in
set_option maxHeartbeats 1000000 in
theorem rparse_S {A : Option Addr} {c : Nat} {B : List UInt8} (hB : B.length ≤ 20000) : Spec 16 [.slice A B.length c] [] (Rd 1 eB A c B) (parsePost (PW.parse B)) := by
  obtain ⟨res, hres⟩ : ∃ r, PW.parse B = r := ⟨_, rfl⟩
  rw [hres]
  refine spec_S [.c (.v (.slice A B.length c))] 38 Tryd.func16 rfl (by rw [Tryd.ntmps16]; rfl) (one_ok trivial) fun b => ?_
  refine s_auto TY_ok rfl ?_
  refine s_regA TY_ok rfl fun K1 hK1 => ?_
  refine s_end (k_give 4 rfl (E' := [(0, .v (.slice A B.length c))]) ⟨rfl, trivial⟩ fun gt => hK1 _ ?_)
  refine s_regA TY_ok rfl fun K2 hK2 => ?_
  refine s_end (k_give 5 rfl (E' := [(4, .v (.pointer (some ⟨gt, 0, none⟩))), (0, .v (.slice A B.length c))]) ⟨rfl, rfl, trivial⟩ fun gp => hK2 _ ?_)
  refine s_nil0 0 86 67 eND ?_
  refine c_weak (e' := ⟨[(5, .v (.pointer (some ⟨gp, 0, none⟩))), (4, .v (.pointer (some ⟨gt, 0, none⟩))), (0, .v (.slice A B.length c))], [], [TapQ gt A c B 0 0, PartS gp none 0 [], NodS none 0 []], Rd 1 eB A c B, fun _ => True⟩) ⟨⟨rfl, rfl, rfl, trivial⟩, trivial, ?_, fun _ h _ => h, fun _ h => h⟩ ?_
  · exact (List.Perm.swap _ _ _).trans ((List.Perm.cons _ (List.Perm.swap _ _ _)).trans (List.Perm.swap _ _ _))
  refine s_regA TY_ok rfl fun K3 hK3 => ?_
  refine l_R ([TapQ gt A c B 0 0, PartS gp none 0 [], NodS none 0 []] ++ []) rfl ?_
  refine l_callA [.pointer (some ⟨gp, 0, none⟩), .pointer (some ⟨gt, 0, none⟩), .slice none ([] : List Nat).length 0] rfl rfl rfl own_rread rfl rfl (fun _ _ => rfl) (rread_S hB 256 [] none 0 [] none 0 0 0 rfl (Nat.zero_le _) (by show 0 + 2 * (B.length - 0) ≤ _; omega)) (fun _ h _ => ⟨h, Rd.nil _ _ _⟩) fun ⟨⟨L, p, e, X, xc⟩, hy⟩ => ?_
  have hy2 : RdR 256 [] B 0 0 0 L p e := hy
  obtain ⟨c1, c2, c3⟩ := hy2.parse
  have hple : p ≤ B.length := hy2.le
  refine l_R [TapQ gt A c B p e, PartS gp X xc L, NodS X xc L] rfl ?_
  refine l_autoS TY_ok rfl ?_
  refine s_end (hK3 _ ?_)
  have hdrop : ∀ {K : Act → World → Prop} {E : SE} {LL : List LV} {F M : World → Prop}, kS b K 38 ⟨E, LL, [], F, M⟩ → kS b K 38 ⟨E, LL, [TapQ gt A c B p e, PartS gp X xc L, NodS X xc L], F, M⟩ := fun h => k_drop 0 rfl (k_drop 0 rfl (k_drop 0 rfl h))
  refine s_seq fun K4 hK4 => ?_
  refine s_regA TY_ok rfl fun K5 hK5 => ?_
  refine l_ldO TY_ok rfl rfl rfl rfl rfl rfl (obj_own 0 rfl) ?_
  refine l_autoS TY_ok rfl ?_
  by_cases he : e = 0
  · subst he
    refine l_is 19 true rfl (by simp) ?_
    refine l_autoS TY_ok rfl ?_
    refine l_ldO TY_ok rfl rfl rfl rfl rfl rfl (obj_own 0 rfl) ?_
    refine l_autoS TY_ok rfl ?_
    refine s_end (hK5 _ ?_)
    refine s_ifD ((p : Int) < (B.length : Int)) rfl (fun hlt => ?_) (fun hge => ?_)
    · obtain rfl : res = .error 11 := by rw [← hres]; exact c2 rfl (by omega)
      refine s_auto TY_ok rfl ?_
      exact s_ret (hdrop (k_ret TY_ok ⟨0, none, 0, []⟩ rfl (by decide) rfl rfl rfl (fun _ _ _ => trivial) (fun _ _ => trivial)))
    · obtain ⟨w, hw, hat⟩ := c3 rfl (by omega)
      obtain rfl : res = .ok w := by rw [← hres, hw]
      refine s_skip (hK4 _ ?_)
      refine s_seq fun K6 hK6 => ?_
      refine s_regA TY_ok rfl fun K7 hK7 => ?_
      refine l_ldO TY_ok rfl rfl rfl rfl rfl rfl (obj_own 0 rfl) ?_
      refine l_autoS TY_ok rfl ?_
      refine s_end (hK7 _ ?_)
      refine s_ifD (((0 : Nat) : Int) ≠ 0) rfl (fun h => absurd rfl h) (fun _ => ?_)
      refine s_skip (hK6 _ ?_)
      refine s_auto TY_ok rfl ?_
      refine s_ret (k_drop 0 rfl (k_objOut 0 rfl (k_freeN 0 rfl ?_)))
      exact k_ret TY_ok ⟨gp, X, xc, L⟩ rfl (by decide) rfl rfl rfl (fun _ h _ => ⟨⟨h.2.1, h.1⟩, hat⟩) (fun _ _ => trivial)
  · obtain rfl : res = .error e := by rw [← hres]; exact c1 he
    refine l_is 19 false rfl (by simp; omega) ?_
    refine l_autoS TY_ok rfl ?_
    refine s_end (hK5 _ ?_)
    refine s_no rfl ?_
    refine s_skip (hK4 _ ?_)
    refine s_seq fun K6 hK6 => ?_
    refine s_regA TY_ok rfl fun K7 hK7 => ?_
    refine l_ldO TY_ok rfl rfl rfl rfl rfl rfl (obj_own 0 rfl) ?_
    refine l_autoS TY_ok rfl ?_
    refine s_end (hK7 _ ?_)
    refine s_ifD ((e : Int) ≠ 0) rfl (fun _ => ?_) (fun h => absurd (fun h2 : (e : Int) = 0 => he (by omega)) h)
    refine s_regH 5 (by decide) (by kernel_rfl) (by kernel_rfl) fun K8 hK8 G S w0 hst => ?_
    refine h_auto TY_ok hst rfl ?_
    refine h_ldO TY_ok hst rfl rfl rfl rfl rfl rfl rfl (tapP_ok A c B p e) (obj_own 0 rfl) ?_
    refine h_auto TY_ok hst rfl ?_
    refine h_end hst ?_
    refine l_autoS TY_ok rfl ?_
    refine s_end (hK8 _ ?_)
    exact s_ret (hdrop (k_ret TY_ok ⟨0, none, 0, []⟩ rfl (by decide) rfl rfl rfl (fun _ _ _ => trivial) (fun _ _ => trivial)))
end Go.Proofs.YtoecohpcnojokaaDoor
/-
  LAYER 10's LAWS: bytes that a call hands back, in drawn regions; a tree's part; what must be answered first.
-/
namespace Go.Proofs.YtoecohpcnojokaaDoor
open Go.RowKit Go.IntWalk Nums

/-! ### Bytes that a call hands back -/
theorem Spec.told {f : FuncId} {args : List Value} {own : List Res} {F : World → Prop} {α : Type} {post : Post α} (h : Spec f args own F post) : Spec f args own F { ret := post.ret, own := post.own, p := fun x w => post.p x w ∧ post.n x w } := fun w S X hs hX hF => by
  refine (h w S X hs hX hF).mono ?_
  rintro e w' ⟨x, S', h1, h2, h3, h4, h5, h6, h7⟩
  refine ⟨x, S', h1, h2, h3, h4, h5, h6.and (h7.less fun k _ hk => ?_), fun _ _ => trivial⟩
  rcases hk with hk | hk
  · exact .inl (hX k hk).1
  · exact .inr hk
/-- Bytes of one's own are bytes that are read. -/
theorem Spec.rd {f : FuncId} {args : List Value} {F : World → Prop} {l : List UInt8} (h : Spec f args [] F (outO l)) : Spec f args [] F (newB l) := fun w S X hs hX hF => by
  refine (h w S X hs hX hF).mono ?_
  rintro e w' ⟨x, S', h1, h2, h3, ⟨S1, S2, h4, h8, h9, h10⟩, h5, h6, h7⟩
  refine ⟨x, fun _ => False, h1, h2, h3, fun _ h => h, fun _ h => h.elim, fun _ _ => trivial, fun w2 hw => (OwnS.rd h4).keep hw.size fun g hg hlt => hw.block g hlt ?_⟩
  rintro (hk | hk)
  · have hS1 : S1 g := (h4.2.2 g).2 hg
    exact hs g (h5 g ((h9 g).2 (.inl hS1)) hk)
  · exact hk
abbrev newP (l : List UInt8) : Post PX := { ret := fun x => .v (.slice x.1 l.length x.2), own := fun _ => [], p := fun x => Rd 1 eB x.1 x.2 l }
theorem Spec.newP {f : FuncId} {args : List Value} {F : World → Prop} {l : List UInt8} (h : Spec f args [] F (newB l)) : Spec f args [] F (newP l) := fun w S X hs hX hF => by
  refine (h.told w S X hs hX hF).mono ?_
  rintro e w' ⟨x, S', h1, h2, h3, h4, h5, h6, h7⟩
  exact ⟨x, S', h1, h2, h3, h4, h5, h6.imp fun _ h => h.2, h7⟩
instance {l : List UInt8} {x : PX} : Pst ((newP l).p x) := inferInstanceAs (Pst (Rd 1 eB x.1 x.2 l))
theorem newP_rd {l : List UInt8} {x : PX} {w : World} (h : ∃ y, ((newP l).ret x).den = ((newP l).ret y).den ∧ (newP l).p y w) : Rd 1 eB x.1 x.2 l w := by
  obtain ⟨y, e, hy⟩ := h
  have e : Value.slice x.1 l.length x.2 = .slice y.1 l.length y.2 := e
  injection e with e1 _ e2
  rw [e1, e2]
  exact hy
section
variable {T : List TyR} {b : Base} {ops : Array Oper} {Q : Exit → Act → World → Prop} {N : Nat} {G : Nat → Nat} {S : Nat → Prop} {E : SE} {L : List LV} {R : List Res} {F M : World → Prop} {w0 : World} {T' : List Oper} {Fa : Told} {i k : Nat} {o : Oper} {rest : List (Nat × Oper)}
/-- Bytes that were told are a string. -/
theorem h_strU {x : Operand} {A : Option Addr} {c : Nat} (l : List UInt8) (hst : StW b G S L R F M w0) (hf : farP i Fa = true) (hg : o.guard = none) (hd : o.dst = some k) (hk : Nat.blt k N = true) (ho : o.op = .convert 35 9 x) (hx : evS E x = some (.v (.slice A l.length c)))
    (h : ∀ w, View G S L R F M w → Uses o Fa w → Rd 1 eB A c l w) (hn : hS Tryd.prog ops Q N T' G w0 rest ((k, vS l) :: E) Fa) : hS Tryd.prog ops Q N T' G w0 ((i, o) :: rest) E Fa :=
  h_f hst (vS l) trivial hf (fun _ _ hC hQ => f_strB (.slice A l.length c) l hg hd hk ho (evS_ok hx) (fun w' hw' => (h w' (hC w' hw').1 (hC w' hw').2).sb) hQ) hn
end

/-! ### A tree's part -/
structure PartT (o : List PairT) (ks : List (List UInt8)) (W : PW) : Prop where
  of : PW.Of 0 o ks W
  right : W.Right []
theorem PartT.good {o : List PairT} {ks : List (List UInt8)} {W : PW} (h : PartT o ks W) : W.Good := h.right.good
theorem GwX.Ok.keys {x : GwX} (h : x.Ok) : KeysT x.o := fun y hy => (h.pairs y hy).1
theorem shares0 (l : List PairT) : SharesT 0 l := fun _ _ _ _ _ h => absurd h (Nat.not_lt_zero _)
theorem partT_cut {o : List PairT} (hs : SortT o) (hp : ∀ y ∈ o, OkT2 y) (ks : List (List UInt8)) : PartT o ks (PW.cut 256 0 o ks) := by
  have h1 : PW.Of ([] : List Nat).length o ks (PW.cut 256 0 o ks) := PW.cut_of 256 ks rfl hs (fun y hy => (hp y hy).1) (shares0 o)
  exact ⟨h1, h1.right fun y hy => ⟨(hp y hy).1, (hp y hy).2, Leads.nil _⟩⟩
theorem PartT.root {o : List PairT} {ks : List (List UInt8)} {W : PW} (h : PartT o ks W) {t : TA} (ht : TOk 256 o t) : W.root = t.root := by
  rw [h.of.root, ht.root]
theorem PartT.put {o : List PairT} {ks : List (List UInt8)} {W : PW} (h : PartT o ks W) {p : PairT} (hp : OkT2 p) (hk : p.1 ∈ ks) (hs : SortT o) (hkk : KeysT o) : PartT (putT o p) ks (PW.put p 0 W) :=
  ⟨h.of.puts hk hs hkk hp.1 (Nat.zero_le _) (shares0 _), (PW.Right.put hp (n := 256) (way := []) rfl h.right (Leads.nil _)).1⟩
theorem PartT.tells {o : List PairT} {ks : List (List UInt8)} {W : PW} (h : PartT o ks W) {k : List UInt8} (hk : k ∈ ks) (hs : SortT o) : PW.tell k (PW.find k 0 W) = (match getT o k with | some v => (v, true, false) | none => (z32T, false, false)) := h.of.tells hk hs
theorem PartT.known {o : List PairT} {ks : List (List UInt8)} {W : PW} (h : PartT o ks W) {k : List UInt8} (hk : k ∈ ks) (hs : SortT o) : PW.unk k 0 W = false := by
  unfold PW.unk
  rw [h.tells hk hs]
  cases getT o k <;> rfl

/-! ### What must be answered first -/
theorem parse_200 : PW.parse [2, 0, 0] = .error 13 := by
  have h1 : PW.read 256 [] [2, 0, 0] = .error 13 := by
    rw [read_cons, if_neg (by decide), if_neg (by decide), if_pos rfl]
    unfold readIn
    simp only [read_cons]
    rfl
  unfold PW.parse
  rw [h1]
theorem own_wfirst : Own 8 := fun _ _ => by go_simp
set_option maxRecDepth 100000 in
set_option maxHeartbeats 1000000 in
theorem wfirst_S : Spec 8 [] [] Tsh (one (.v (.bool true))) := by
  refine spec_S [] 66 Tryd.func8 rfl (by rw [Tryd.ntmps8]; rfl) (fun _ h => by cases h) fun b => ?_
  have hl1 := hhT_len 1
  have hl2 := hhT_len 2
  have hl3 := hhT_len 128
  have hl4 := hhT_len 3
  have hless : lessT (hhT 1) (hhT 128) = true := by decide +kernel
  have hb1 : bitT (hhT 1) 0 = 0 := by decide +kernel
  have hb3 : bitT (hhT 128) 0 = 1 := by decide +kernel
  obtain ⟨k1, hk1⟩ : ∃ k, hhT 1 = k := ⟨_, rfl⟩
  obtain ⟨k2, hk2⟩ : ∃ k, hhT 2 = k := ⟨_, rfl⟩
  obtain ⟨k3, hk3⟩ : ∃ k, hhT 128 = k := ⟨_, rfl⟩
  obtain ⟨k4, hk4⟩ : ∃ k, hhT 3 = k := ⟨_, rfl⟩
  rw [hk1] at hl1 hless hb1
  rw [hk2] at hl2
  rw [hk3] at hl3 hless hb3
  rw [hk4] at hl4
  have hp1 : OkT2 (k1, k2) := ⟨hl1, hl2⟩
  have hp2 : OkT2 (k3, k4) := ⟨hl3, hl4⟩
  have e1 : putT [] (k1, k2) = [(k1, k2)] := rfl
  have e2 : putT [(k1, k2)] (k3, k4) = [(k1, k2), (k3, k4)] := by simp [putT, hless]
  have hs1 : SortT [(k1, k2)] := List.pairwise_singleton _ _
  have hkk1 : KeysT [(k1, k2)] := fun y hy => by rw [List.mem_singleton.1 hy]; exact hl1
  have hs2 : SortT [(k1, k2), (k3, k4)] := by rw [← e2]; exact putT_sort hs1 hkk1 hl3
  have hok2 : ∀ y ∈ [(k1, k2), (k3, k4)], OkT2 y := fun y hy => by
    rcases List.mem_cons.1 hy with rfl | hy
    · exact hp1
    · rw [List.mem_singleton.1 hy]; exact hp2
  have hkk2 : KeysT [(k1, k2), (k3, k4)] := fun y hy => (hok2 y hy).1
  have hpt := partT_cut hs2 hok2 [k1]
  have hg1 : getT [(k1, k2), (k3, k4)] k1 = some k2 := by simp [getT]
  have ht1 := hpt.tells List.mem_cons_self hs2
  rw [hg1] at ht1
  have ht2 : PW.tell k3 (PW.find k3 0 (PW.cut 256 0 [(k1, k2), (k3, k4)] [k1])) = (z32T, false, true) := by
    rw [wcut_inner 255 0 (by simp) (by simp)]
    have er : rightT 0 [(k1, k2), (k3, k4)] = [(k3, k4)] := by simp [rightT, hb1, hb3]
    have ek : PW.keyR 0 [k1] = [] := by simp [PW.keyR, hb1]
    rw [er, ek, wcut_hid _ _ (by simp)]
    show PW.tell k3 (if bitT k3 0 = 0 then _ else _) = _
    rw [hb3]
    rfl
  have hput1 := tPut0 (l := []) (t := .nil) hp1 (TOk.nil rfl) List.Pairwise.nil (fun _ h => by cases h) (by decide)
  have hput2 := fun t ht => tPut0 (l := [(k1, k2)]) (t := t) hp2 ht hs1 hkk1 (by show 1 + 1 ≤ 1000000; decide)
  have hcut := fun (A : Option Addr) (c : Nat) t ht => wCut_S (A := A) (c := c) [(k1, k2), (k3, k4)] t [k1] ht hs2 hkk2 (by show 1 ≤ _; decide) (fun k hk => by rw [List.mem_singleton.1 hk]; exact hl1)
  rw [e2] at hput2
  generalize PW.cut 256 0 [(k1, k2), (k3, k4)] [k1] = W at *
  have hget1 := wGet_S hl1 W hpt.right
  have hget2 := wGet_S hl3 W hpt.right
  rw [ht1] at hget1
  rw [ht2] at hget2
  have hWr := fun t ht => hpt.root (t := t) ht
  have hWg := hpt.good
  refine s_auto TY_ok rfl ?_
  refine s_regA TY_ok rfl fun K hK => ?_
  refine l_op (.q (eY 32 k1)) (eY_ok hl1).1 rfl rfl rfl (run_hh 1 hk1 rfl rfl) ?_
  refine l_op (.q (eY 32 k2)) (eY_ok hl2).1 rfl rfl rfl (run_hh 2 hk2 rfl rfl) ?_
  refine l_call0 [(eTr .nil 0).den, (eY 32 k1).den, (eY 32 k2).den] rfl rfl rfl own_tPut rfl rfl (fun _ _ => rfl) hput1 (fun _ h _ => ⟨trivial, h⟩) fun x => ?_
  obtain ⟨t1, h1⟩ := x
  refine l_op (.q (eY 32 k3)) (eY_ok hl3).1 rfl rfl rfl (run_hh 128 hk3 rfl rfl) ?_
  refine l_op (.q (eY 32 k4)) (eY_ok hl4).1 rfl rfl rfl (run_hh 3 hk4 rfl rfl) ?_
  refine l_call0 [(eTr t1 0).den, (eY 32 k3).den, (eY 32 k4).den] rfl rfl rfl own_tPut rfl rfl (fun _ _ => rfl) (hput2 t1 h1) (fun _ h _ => ⟨h.1, h.2⟩) fun x => ?_
  obtain ⟨t, ht⟩ := x
  have hroot := hWr t ht
  refine l_autoS TY_ok rfl ?_
  refine s_end (hK _ ?_)
  refine s_keep [0, 1] [1] rfl rfl ?_
  refine s_regA TY_ok rfl fun K2 hK2 => ?_
  refine l_op (.q (eY 32 k1)) (eY_ok hl1).1 rfl rfl rfl (run_hh 1 hk1 rfl rfl) ?_
  refine l_list (fe := eY 32) TY_ok 0 [k1] rfl rfl rfl rfl rfl (fun _ => rfl) rfl (by decide) (by decide) (fun x hx => by rw [List.mem_singleton.1 hx]; exact eY_ok hl1) (Nat.zero_le _) fun B => ?_
  refine l_free 0 rfl ?_
  refine l_call0 [(eTr t 0).den, .slice B 1 1] rfl rfl rfl own_wCut rfl rfl (fun _ _ => rfl) (hcut B 1 t ht) (fun _ h _ => ⟨h.2.1, h.1⟩) fun _ => ?_
  refine l_autoS TY_ok rfl ?_
  refine s_end (hK2 _ ?_)
  refine s_regA TY_ok rfl fun K3 hK3 => ?_
  refine l_op (.q (eY 32 k1)) (eY_ok hl1).1 rfl rfl rfl (run_hh 1 hk1 rfl rfl) ?_
  refine l_call0 [(prQ W).den, (eY 32 k1).den] rfl rfl rfl own_wGet rfl rfl (fun _ _ => rfl) hget1 (fun _ _ _ => trivial) fun _ => ?_
  refine l_autoS TY_ok rfl ?_
  refine s_end (hK3 _ ?_)
  refine s_regA TY_ok rfl fun K4 hK4 => ?_
  refine l_op (.q (eY 32 k3)) (eY_ok hl3).1 rfl rfl rfl (run_hh 128 hk3 rfl rfl) ?_
  refine l_call0 [(prQ W).den, (eY 32 k3).den] rfl rfl rfl own_wGet rfl rfl (fun _ _ => rfl) hget2 (fun _ _ _ => trivial) fun _ => ?_
  refine l_autoS TY_ok rfl ?_
  refine s_end (hK4 _ ?_)
  refine s_reg fun K5 hK5 => ?_
  refine l_list (fe := eB) TY_ok 0 [(2 : UInt8), 0, 0] rfl rfl rfl rfl rfl (fun _ => rfl) rfl (by decide) (by decide) (okF_B _) (Nat.zero_le _) fun B2 => ?_
  refine l_free 0 rfl ?_
  have hparse := wParse_S (A := B2) (c := 3) [2, 0, 0]
  rw [parse_200] at hparse
  refine l_call0 [.slice B2 3 3] rfl rfl rfl own_wParse rfl rfl (fun _ _ => rfl) hparse (fun _ h _ => ⟨h.1, h.2.2.2.2.2.2.2⟩) fun _ => ?_
  refine l_autoS TY_ok rfl ?_
  refine s_end (hK5 _ ?_)
  refine s_keep [1, 2, 3, 4, 5, 8, 10] [1, 2, 3] rfl rfl ?_
  refine s_regD 25 (by decide) (by kernel_rfl) (by kernel_rfl) fun K6 hK6 G S w0 hst => ?_
  refine g_autoS TY_ok hst rfl ?_
  refine g_opS (.q (eY 32 k2)) (eY_ok hl2).1 rfl rfl rfl (run_hh 2 hk2 rfl rfl) ?_
  refine g_opS (.b (decide (k2 = k2))) trivial rfl rfl rfl (run_eqY rfl rfl rfl Tryd.underlying38 (by kernel_rfl) hl2 hl2) ?_
  refine g_is 43 true rfl (by simp) ?_
  refine g_autoS TY_ok hst rfl ?_
  refine g_is 51 true rfl (by simp) ?_
  refine g_autoS TY_ok hst rfl ?_
  refine g_is 55 true rfl (by simp) ?_
  refine g_autoS TY_ok hst rfl ?_
  refine g_is 59 true rfl (by simp) ?_
  refine g_autoS TY_ok hst rfl ?_
  refine g_callS (F' := fun _ => True) hst [(prQ W).den] rfl rfl rfl own_wRoot rfl rfl (fun _ => rfl) (wRoot_S hWg) (eY_ok hWg.root_len).1 (fun _ _ _ _ => trivial) ?_
  refine g_autoS TY_ok hst rfl ?_
  refine g_callS (F' := TF t) hst [(eTr t 0).den] rfl rfl rfl own_tRoot rfl rfl (fun _ => rfl) (tRoot_S t 0) (eY_ok t.root_len).1 (fun _ _ _ hv => hv.fact.2.2.2.2.2.2.1) ?_
  refine g_autoS TY_ok hst rfl ?_
  refine g_opS (.b (decide (W.root = t.root))) trivial rfl rfl rfl (run_eqY rfl rfl rfl Tryd.underlying38 (by kernel_rfl) hWg.root_len t.root_len) ?_
  refine g_is 64 true rfl (by rw [hroot]; simp) ?_
  refine g_autoS TY_ok hst rfl ?_
  refine g_endS hst ?_
  refine l_autoS TY_ok rfl ?_
  refine s_end (hK6 _ ?_)
  exact s_ret (k_ret TY_ok () rfl (by decide) rfl rfl rfl (fun _ _ _ => trivial) (fun _ _ => trivial))
end Go.Proofs.YtoecohpcnojokaaDoor
/-
  LAW WitnessCuts: what every part of a tree is.
-/
namespace Go.Proofs.YtoecohpcnojokaaDoor
open Go.RowKit Go.IntWalk Nums

theorem wY_len {n : Nat} {l : List UInt8} (h : OkP (eY n l).parts1) : l.length = n := by
  have := (h (.agg n (By l).toArray) (by simp [SQ.parts1, eY])).1
  rwa [List.size_toArray, By_len] at this
/-- A tree that was grown, cut: its bytes are few. -/
theorem GwX.Ok.bytes {x : GwX} (h : x.Ok) (ks : List (List UInt8)) : (PW.cut 256 0 x.o ks).bytes.length ≤ 20000 := by
  have h1 := PW.cut_le 256 (d := 0) (ks := ks) h.pairs
  have h2 := h.few
  have h3 : (70 + 2 * 256) * x.o.length ≤ (70 + 2 * 256) * 25 := Nat.mul_le_mul_left _ h2
  omega
set_option maxRecDepth 100000 in
set_option maxHeartbeats 1000000 in
theorem wcuts_S {A A2 : Option Addr} {c c2 : Nat} (l : List PairT) (ks : List (List UInt8)) : Spec 3 [.slice A l.length c, .slice A2 ks.length c2] [] (fun w => Tsh w ∧ Rd 64 eP A c l w ∧ Rd 32 (eY 32) A2 c2 ks w) (one (.v (.bool true))) := by
  refine spec_S [.c (.v (.slice A l.length c)), .c (.v (.slice A2 ks.length c2))] 39 Tryd.func3 rfl (by rw [Tryd.ntmps3]; rfl) (two_ok trivial trivial) fun b => ?_
  refine s_pure ((ks.length ≤ c2 ∧ (A2 = none → c2 = 0)) ∧ ∀ k ∈ ks, k.length = 32) (fun w h _ => ⟨⟨h.2.2.1, h.2.2.2.2.1⟩, fun k hk => wY_len (h.2.2.2.2.2.1 k hk).1⟩) fun ⟨⟨hlc, hA2⟩, hks⟩ => ?_
  refine s_auto TY_ok rfl ?_
  refine s_seq fun K hK => ?_
  refine s_regA TY_ok rfl fun K1 hK1 => ?_
  refine l_call0 [] rfl rfl rfl own_wfirst rfl rfl (fun _ _ => rfl) wfirst_S (fun _ h _ => h.1) fun _ => ?_
  refine l_autoS TY_ok rfl ?_
  refine s_end (hK1 _ ?_)
  refine s_no rfl ?_
  refine s_skip (hK _ ?_)
  refine s_regA TY_ok rfl fun K2 hK2 => ?_
  refine l_call0 [.slice A l.length c] rfl rfl rfl own_grown rfl rfl (fun _ _ => rfl) (grown_S l) (fun _ h _ => ⟨h.2.1, h.2.2.1⟩) fun x => ?_
  obtain ⟨x, hx⟩ := x
  refine l_autoS TY_ok rfl ?_
  refine s_end (hK2 _ ?_)
  refine s_regA TY_ok rfl fun K3 hK3 => ?_
  refine l_op (.v (.int .i64 ((min ks.length 8 : Nat) : Int))) trivial rfl rfl rfl (run_min rfl rfl rfl) ?_
  refine l_op (.v (.slice A2 (min ks.length 8) c2)) trivial rfl rfl rfl (run_cutHi (sz := 32) (by kernel_rfl) (by omega) hA2 rfl Tryd.underlying23 rfl rfl) ?_
  refine l_autoS TY_ok rfl ?_
  refine s_end (hK3 _ ?_)
  have hk8 : min ks.length 8 = (ks.take 8).length := by rw [List.length_take, Nat.min_comm]
  have hks8 : ∀ k ∈ ks.take 8, k.length = 32 := fun k hk => hks k (List.mem_of_mem_take hk)
  have hk88 : (ks.take 8).length ≤ 8 := by rw [← hk8]; omega
  rw [hk8]
  have hrd8 : ∀ w, Rd 32 (eY 32) A2 c2 ks w → Rd 32 (eY 32) A2 c2 (ks.take 8) w := fun w h => h.take 8
  generalize ks.take 8 = q at *
  have hpt := partT_cut hx.sort hx.pairs q
  have hbl := hx.bytes q
  have hcut := wCut_S (A := A2) (c := c2) x.o x.t q hx.tree hx.sort hx.keys (by omega) hks8
  have hrcut := rcut_S 256 0 x.o q x.A x.c A2 c2 rfl (by have := hx.few; omega) (by omega) hx.sort (shares0 _)
  have hroot := hpt.root hx.tree
  have hWg := hpt.good
  generalize PW.cut 256 0 x.o q = W at *
  refine s_regA TY_ok rfl fun K4 hK4 => ?_
  refine l_call0 [(eTr x.t 0).den, .slice A2 q.length c2] rfl rfl rfl own_wCut rfl rfl (fun _ _ => rfl) hcut (fun w h _ => ⟨h.1, hrd8 w h.2.2.2.2⟩) fun _ => ?_
  refine l_autoS TY_ok rfl ?_
  refine s_end (hK4 _ ?_)
  refine s_keep [5, 6, 7, 8] [5, 8] rfl rfl ?_
  refine s_regH 15 (by decide) (by kernel_rfl) (by kernel_rfl) fun K5 hK5 G S w0 hst => ?_
  refine h_auto TY_ok hst rfl ?_
  refine h_callE (F' := fun _ => True) hst [(prQ W).den] rfl rfl rfl rfl own_wBytes rfl rfl (fun _ => rfl) (wBytes_S hWg (by omega)).rd.newP (fun _ _ _ => trivial) fun u hu => ?_
  refine h_strU W.bytes hst rfl rfl rfl rfl rfl rfl (fun w _ hw => newP_rd (hw 1 _ rfl (by kernel_rfl))) ?_
  refine h_auto TY_ok hst rfl ?_
  refine h_callE (F' := fun w => Rd 64 eP x.A x.c x.o w ∧ Rd 32 (eY 32) A2 c2 q w) hst [.slice x.A x.o.length x.c, .slice A2 q.length c2, .int .i64 0] rfl rfl rfl rfl own_rcut10 rfl rfl (fun _ => rfl) (Spec.newP hrcut) (fun w hv _ => ⟨hv.fresh.2.1, hrd8 w hv.fact.2.2.2.2.2⟩) fun u2 hu2 => ?_
  refine h_strU W.bytes hst rfl rfl rfl rfl rfl rfl (fun w _ hw => newP_rd (hw 5 _ rfl (by kernel_rfl))) ?_
  refine h_op hst (.b (decide (W.bytes = W.bytes))) trivial rfl rfl rfl rfl (run_eqS rfl rfl rfl) ?_
  refine h_is 31 true rfl (by simp) ?_
  refine h_auto TY_ok hst rfl ?_
  refine h_callS (F' := fun _ => True) (r := .q (eY 32 W.root)) hst [(prQ W).den] rfl rfl rfl rfl own_wRoot rfl rfl (fun _ => rfl) (eY_ok hWg.root_len).1 (wRoot_S hWg) (fun _ _ _ _ => trivial) ?_
  refine h_auto TY_ok hst rfl ?_
  refine h_callS (F' := TF x.t) (r := .q (eY 32 x.t.root)) hst [(eTr x.t 0).den] rfl rfl rfl rfl own_tRoot rfl rfl (fun _ => rfl) (eY_ok x.t.root_len).1 (tRoot_S x.t 0) (fun _ _ _ hv => hv.fact.2.1) ?_
  refine h_auto TY_ok hst rfl ?_
  refine h_op hst (.b (decide (W.root = x.t.root))) trivial rfl rfl rfl rfl (run_eqY rfl rfl rfl Tryd.underlying38 (by kernel_rfl) hWg.root_len x.t.root_len) ?_
  refine h_is 37 true rfl (by rw [hroot]; simp) ?_
  refine h_auto TY_ok hst rfl ?_
  refine h_end hst ?_
  refine l_autoS TY_ok rfl ?_
  refine s_end (hK5 _ ?_)
  exact s_ret (k_ret TY_ok () rfl (by decide) rfl rfl rfl (fun _ _ _ => trivial) (fun _ _ => trivial))
end Go.Proofs.YtoecohpcnojokaaDoor
/-
  FROM A WALK TO A LAW'S ROW: the arguments read behind the call as they read before; arrays of 32 bytes, opened.
-/
namespace Go.Proofs.YtoecohpcnojokaaDoor
open Go.ChangeShapes Go.WideShapes Go.ChangeAt Go.RowKit

theorem own : ownKnob Tryd.prog.godebug = none := by kernel_rfl
theorem laidOut : laidOutB Tryd.prog = true := by kernel_rfl

section
variable {H : Type} {enc : TypeId × Value → H} {W W' : World}

/-- All arguments at once. -/
theorem trodAll_below : ∀ {ts : List TypeId} {vs : List Value} {ds : List (DataW H)} {p : List MemPlace}, (∀ t ∈ ts, Tryd.prog.readableRec t = true ∧ t < Tryd.prog.types.size) →
    DataW.TrodAll enc Tryd.prog W 0 (fun _ => true) true ts vs ds p → Below W.heap.size W W' → (∀ x ∈ p, x.block < W.heap.size) → DataW.TrodAll enc Tryd.prog W' 0 (fun b => decide (b < W.heap.size)) true ts vs ds p
  | [], _, _, _, _, h, _, _ => by
    obtain ⟨rfl, rfl, rfl⟩ := trodAll_nil h
    exact trodAll_mk0
  | t :: ts, _, _, _, hts, h, hb, hlt => by
    obtain ⟨v, vs', d, ds', p, q, rfl, rfl, rfl, h0, h1⟩ := trodAll_cons h
    obtain ⟨hr, hz⟩ := hts t (by simp)
    exact trodAll_cons_mk (Below.trod laidOut hr hz h0 hb (fun x hx => hlt x (by simp [hx]))) (trodAll_below (fun u hu => hts u (by simp [hu])) h1 hb (fun x hx => hlt x (by simp [hx])))

theorem law_post {f : Func} {s : ChangeSpec} {args : Array Value} {ds gs : List (DataW H)} {before : List MemPlace} (hf : f.resultTypes = #[4]) (hvars : s.vars = [])
    (hts : ∀ t ∈ f.params.toList, Tryd.prog.readableRec t = true ∧ t < Tryd.prog.types.size)
    (hW : DataW.Whole enc Tryd.prog f.params.toList s.vars false W args.toList ds gs before) (hs : s.fn H (ds ++ gs) = { results := [.lit (.bool true)], args := ds }) (hb : Below W.heap.size W W') :
    s.post enc Tryd.prog f false true false false W args (.bool true) W' := by
  have hW' := hW
  obtain ⟨p, q, hA, hV, rfl, _, _⟩ := hW
  rw [hvars] at hV
  obtain ⟨rfl, rfl⟩ := trodVars_none hV
  have hlt : ∀ x ∈ p, x.block < W.heap.size := fun x hx => hW'.lt x (by simp [hx])
  refine ⟨ds, [], p ++ [], [], p, [], hW', ?_, ?_, ?_, hb.frame _, fun h => by cases h⟩
  · rw [hs, hf]
    exact trodAll_mk1 (shut_bool Tryd.underlying4 true)
  · rw [hs]
    exact trodAll_below hts hA hb hlt
  · rw [hs, hvars]
    rfl
end

theorem cells8 : Tryd.prog.cellsOf 5 = 1 := by kernel_rfl
theorem cells_h : Tryd.prog.cellsOf 38 = 32 := by kernel_rfl
theorem one_of {l : List Value} {i : Nat} {v : Value} (h : (l.drop (i * 1)).take 1 = [v]) : l[i]? = some v := by
  rw [Nat.mul_one] at h
  have h1 : ((l.drop i).take 1)[0]? = some v := by rw [h]; rfl
  rw [List.getElem?_take, if_pos (by omega), List.getElem?_drop] at h1
  simpa using h1

/-! ### Arrays of 32 bytes -/
theorem okWide_array {P : Program} {w : World} {r : Reach} {base n : Nat} {t e : TypeId} {v : Value} (ht : P.underlying t = some (.array n e)) (h : Value.okWide P w r base t v) : ∃ cs, v = .agg cs ∧ cs.size = P.cellsOf t := by
  simp only [Value.okWide, ht] at h
  obtain ⟨cs, h1, h2, _⟩ := h
  exact ⟨cs, h1, h2⟩

theorem by_of {cs : List Value} (hl : cs.length = 32) (h : ∀ i, i < 32 → ∃ n : Int, cs[i]? = some (.int .u8 n) ∧ 0 ≤ n ∧ n < 256) : ∃ l : List UInt8, l.length = 32 ∧ cs = By l := by
  refine ⟨cs.map fun v => match v with | .int _ n => UInt8.ofNat n.toNat | _ => 0, by simp [hl], ?_⟩
  apply List.ext_getElem (by simp [By])
  intro i h1 h2
  obtain ⟨n, hn, h0, h3⟩ := h i (by omega)
  have e : cs[i] = .int .u8 n := by
    have := List.getElem?_eq_getElem h1
    rw [hn] at this
    exact (Option.some.inj this).symm
  simp only [By, List.getElem_map, e]
  congr 1
  rw [UInt8.toNat_ofNat']
  omega

set_option maxRecDepth 20000 in
theorem open_hash {H : Type} {enc : TypeId × Value → H} {W : World} {base : Nat} {v : Value} {d : DataW H} {p : List MemPlace} (hv : Value.okWide Tryd.prog W .any base 38 v) (h : DataW.Trod enc Tryd.prog W 0 (fun _ => true) true 38 v d p) :
    ∃ l : List UInt8, l.length = 32 ∧ v = .agg (By l).toArray := by
  obtain ⟨cs, rfl, _⟩ := okWide_array Tryd.underlying38 hv
  obtain ⟨fuel, hf⟩ := h
  obtain ⟨xs, m, rfl, _, hlen, hn, hel⟩ := DataW.trod_array Tryd.underlying38 hf
  rw [cells_h] at hlen
  obtain ⟨l, hl, e⟩ := by_of hlen (fun i hi => by
    have h0 := hel i hi
    rw [cells8] at h0
    obtain ⟨x, hx⟩ : ∃ x, xs[i]? = some x := ⟨xs[i]'(by omega), List.getElem?_eq_getElem (by omega)⟩
    rw [hx] at h0
    obtain ⟨n, e1, _, hw⟩ := DataW.trod_int Tryd.underlying5 h0
    have hb := bounds_u8 hw
    exact ⟨n, one_of e1, by omega, by omega⟩)
  refine ⟨l, hl, ?_⟩
  congr 1
  apply Array.ext'
  exact e
end Go.Proofs.YtoecohpcnojokaaDoor
/-
  FROM A WALK TO A LAW'S ROW: slices of anything, opened; hashes.
-/
namespace Go.Proofs.YtoecohpcnojokaaDoor
open Go.RowKit Go.IntWalk
open Go.ChangeShapes Go.WideShapes Go.ChangeAt

set_option maxRecDepth 20000 in
theorem hash_cells {H : Type} {enc : TypeId × Value → H} {W : World} {held : Bool} {fuel : Nat} {cs : List Value} {x : DataW H × List MemPlace} (h : DataW.trod enc Tryd.prog W 0 (fun _ => true) held fuel 38 cs = some x) :
    ∃ l : List UInt8, l.length = 32 ∧ cs = By l := by
  obtain ⟨xs, m, rfl, _, hlen, hn, hel⟩ := DataW.trod_array Tryd.underlying38 h
  rw [cells_h] at hlen
  exact by_of hlen (fun i hi => by
    have h0 := hel i hi
    rw [cells8] at h0
    obtain ⟨x, hx⟩ : ∃ x, xs[i]? = some x := ⟨xs[i]'(by omega), List.getElem?_eq_getElem (by omega)⟩
    rw [hx] at h0
    obtain ⟨n, e1, _, hw⟩ := DataW.trod_int Tryd.underlying5 h0
    have hb := bounds_u8 hw
    exact ⟨n, one_of e1, by omega, by omega⟩)
theorem pick_list {α : Type} (P : Nat → α → Prop) : ∀ n, (∀ i, i < n → ∃ l, P i l) → ∃ ks : List α, ks.length = n ∧ ∀ i l, ks[i]? = some l → P i l
  | 0, _ => ⟨[], rfl, fun i l h => by simp at h⟩
  | n + 1, h => by
    obtain ⟨ks, hl, hk⟩ := pick_list P n fun i hi => h i (by omega)
    obtain ⟨l, hp⟩ := h n (by omega)
    refine ⟨ks ++ [l], by simp [hl], fun i x hx => ?_⟩
    by_cases hi : i < ks.length
    · rw [List.getElem?_append_left hi] at hx
      exact hk i x hx
    · rw [List.getElem?_append_right (by omega)] at hx
      have h0 : i - ks.length = 0 := by
        by_cases e : i - ks.length = 0
        · exact e
        · rw [List.getElem?_eq_none (by simp; omega)] at hx
          cases hx
      rw [h0] at hx
      obtain rfl : l = x := by simpa using hx
      obtain rfl : i = n := by omega
      exact hp
set_option maxRecDepth 20000 in
theorem open_rd {α H : Type} {enc : TypeId × Value → H} {W : World} {held : Bool} {fuel : Nat} {t e : TypeId} {k : Nat} {fe : α → SQ} {cs : List Value} {x : DataW H × List MemPlace} (ht : Tryd.prog.underlying t = some (.slice e)) (hk : Tryd.prog.cellsOf e = k) (hk0 : 0 < k)
    (hel : ∀ n cs x, DataW.trod enc Tryd.prog W 0 (fun _ => true) held n e cs = some x → ∃ a : α, cs = (fe a).cl ∧ OkP (fe a).parts1 ∧ (fe a).cl.length = k)
    (h : DataW.trod enc Tryd.prog W 0 (fun _ => true) held fuel t cs = some x) :
    ∃ (A : Option Addr) (l : List α) (c : Nat), cs = [.slice A l.length c] ∧ Rd k fe A c l W := by
  rcases DataW.trod_slice ht h with ⟨rfl, _⟩ | ⟨a, len, cap, elems, rest, n, rfl, rfl, rfl, _, hl, hm, hlen, hel2, _⟩
  · exact ⟨none, [], 0, rfl, Rd.nil _ _ _⟩
  · rw [hk] at hel2
    obtain ⟨ks, hk1, hk2⟩ := pick_list (fun i (y : α) => (OkP (fe y).parts1 ∧ (fe y).cl.length = k) ∧ W.cells? 0 (a.add (i * k)) k = some (fe y).cl) len fun i hi => by
      have h0 := hel2 i hi
      rw [List.getElem?_eq_getElem (by omega)] at h0
      cases hc : W.cells? 0 (a.add (i * k)) k with
      | none => rw [hc] at h0; cases h0
      | some cs =>
        rw [hc] at h0
        obtain ⟨y, rfl, h1⟩ := hel _ _ _ h0
        exact ⟨y, h1, rfl⟩
    subst hk1
    refine ⟨some a, ks, cap, rfl, hl, (by unfold maxLen at hm; omega), fun e => (by cases e), fun y hy => ?_, fun hpos => ?_⟩
    · obtain ⟨i, hi, rfl⟩ := List.getElem_of_mem hy
      exact (hk2 i _ (List.getElem?_eq_getElem hi)).1
    have hcell : ∀ i y, ks[i]? = some y → ∀ j v, (fe y).cl[j]? = some v → W.cell? (a.add (i * k + j)) = some v := fun i y hi j v hj => by
      obtain ⟨⟨_, hkl⟩, hc⟩ := hk2 i y hi
      obtain ⟨_, _, h3⟩ := World.cells?_some hc
      have hjk : j < k := by
        have := (List.getElem?_eq_some_iff.1 hj).1
        omega
      have := h3 j hjk
      rw [Addr.add_add, hj] at this
      exact this
    have h00 := hk2 0 _ (List.getElem?_eq_getElem hpos)
    have hb := World.cells?_block h00.2 hk0
    rw [Nat.zero_mul] at hb
    obtain ⟨b, o, sp⟩ := a
    have hsp0 : sp = none := by
      obtain ⟨v, hv⟩ : ∃ v, (fe ks[0]).cl[0]? = some v := ⟨_, List.getElem?_eq_getElem (by rw [h00.1.2]; exact hk0)⟩
      have := hcell 0 _ (List.getElem?_eq_getElem hpos) 0 v hv
      rw [Nat.zero_mul, show (⟨b, o, sp⟩ : Addr).add (0 + 0) = ⟨b, o, sp⟩ from rfl, World.cell?] at this
      cases sp with
      | none => rfl
      | some s =>
        exfalso
        dsimp only at this
        split at this
        · simp at this
        · cases this
    subst hsp0
    refine ⟨b, o, rfl, hb, fun i y hi j v hj => ?_⟩
    have := hcell i y hi j v hj
    rw [Addr.add_mid] at this
    rwa [Nat.add_assoc, Nat.mul_comm k i]
end Go.Proofs.YtoecohpcnojokaaDoor
/-
  FROM A WALK TO A LAW'S ROW: the cells of a table of words, from what the row lists.
-/
namespace Go.Proofs.YtoecohpcnojokaaDoor
open Go.ChangeShapes Go.WideShapes Go.ChangeAt Go.RowKit

theorem cells64 : Tryd.prog.cellsOf 134 = 1 := by kernel_rfl
set_option maxRecDepth 20000 in
/-- The cells of a table of words. -/
theorem table_cells {W : World} {nm : String} {g g0 t0 tid n fuel : Nat} {l : List Nat} {datum : DataW Unit} {cs : List Value} {p : List MemPlace} (hg : Tryd.prog.globalNamed nm = some g) (ht : (Tryd.prog.globals[g]?).map (·.type) = some tid) (hu : Tryd.prog.underlying tid = some (.array n 134))
    (hd : datum = .agg (l.map fun (x : Nat) => .lit (.int .u64 (x : Int)))) (hg0 : Tryd.prog.globalNamed nm = some g0) (ht0 : (Tryd.prog.globals[g0]?).map (·.type) = some t0) (hv0 : W.var? Tryd.prog nm = some cs.toArray) (hd0 : DataW.trod (fun _ => ()) Tryd.prog W 0 (fun _ => true) false fuel t0 cs = some (datum, p)) :
    ∀ i, i < n → W.cell? ⟨g, i, none⟩ = some (.int .u64 (l[i]! : Nat)) := by
  obtain rfl := Option.some.inj (hg.symm.trans hg0)
  obtain rfl := Option.some.inj (ht.symm.trans ht0)
  obtain ⟨xs, m1, rfl, hx1, hlen, hn5, hel⟩ := DataW.trod_array hu hd0
  have hx2 := congrArg Prod.fst hx1
  rw [hd] at hx2
  injection hx2 with hx2
  intro i hi
  have h0 := hel i hi
  rw [cells64] at h0
  obtain ⟨x, hxi⟩ : ∃ x, xs[i]? = some x := ⟨xs[i]'(by omega), List.getElem?_eq_getElem (by omega)⟩
  rw [hxi] at h0
  obtain ⟨n', e1, e2, _⟩ := DataW.trod_int Tryd.underlying134 h0
  have hll : l.length = n := by
    have := congrArg List.length hx2
    simp only [List.length_map] at this
    omega
  have h3 : (l.map fun (x : Nat) => (DataW.lit (.int .u64 (x : Int)) : DataW Unit))[i]? = (xs.map (·.1))[i]? := by rw [hx2]
  rw [List.getElem?_map, List.getElem?_map, hxi, List.getElem?_eq_getElem (by omega)] at h3
  simp only [Option.map_some, Option.some.injEq] at h3
  rw [e2] at h3
  have hn : n' = ((l[i]! : Nat) : Int) := by
    rw [getElem!_pos l i (by omega)]
    injection h3 with h3
    injection h3 with _ h3
    exact h3.symm
  subst hn
  have hcell := World.var?_cell hg hv0 i
  rw [hcell]
  have := one_of e1
  simpa using this
end Go.Proofs.YtoecohpcnojokaaDoor
/-
  FROM A WALK TO A LAW'S ROW: the two tables of the digests; slices of pairs and of hashes, opened.
-/
namespace Go.Proofs.YtoecohpcnojokaaDoor
open Go.ChangeShapes Go.WideShapes Go.ChangeAt Go.RowKit Nums

def laid2 : List (String × DataW Unit) := [("witan/sha.starts", Rows.laid_witan_sha_starts), ("witan/sha.steps", Rows.laid_witan_sha_steps)]
/-- The door's own heap meets the condition. -/
theorem door_met2 (os : Os) (args : Array Value) : laidMetH Tryd.prog laid2 ((World.doorLaid Tryd.prog 400 os).forCall (fun _ _ => 0) ⟨#[], args, []⟩).memory :=
  laidMetH_of_parts3 (fuel := 8) (laidMet_of_run' 8 (by kernel_rfl) (by kernel_rfl)) (by kernel_rfl) (by kernel_rfl)
set_option maxRecDepth 20000 in
/-- What the condition gives the walks. -/
theorem of_laid2 {W : World} (h : laidMetH Tryd.prog laid2 W) : Tsh W := by
  rw [MakeChecks.laidMetH_plain _ _ _ (by kernel_rfl)] at h
  obtain ⟨ps, ⟨g1, t1, cs1, f1, p1, q1, hg1, ht1, hv1, hd1, ⟨g2, t2, cs2, f2, p2, q2, hg2, ht2, hv2, hd2, _, _⟩, _⟩, _, _⟩ := h
  have c1 := table_cells (l := sqs) (n := 8) (g := 0) (tid := 147) (by kernel_rfl) (by kernel_rfl) Tryd.underlying147 (by kernel_rfl) hg1 ht1 hv1 hd1
  have c2 := table_cells (l := cbs) (n := 80) (g := 1) (tid := 152) (by kernel_rfl) (by kernel_rfl) Tryd.underlying152 (by kernel_rfl) hg2 ht2 hv2 hd2
  exact ⟨⟨c2, World.block_lt_of_cell? W ⟨1, 0, none⟩ (c2 0 (by omega))⟩, c1, World.block_lt_of_cell? W ⟨0, 0, none⟩ (c1 0 (by omega))⟩
set_option maxRecDepth 20000 in
theorem pair_cellsT {H : Type} {enc : TypeId × Value → H} {W : World} {held : Bool} (n : Nat) (cs : List Value) (x : DataW H × List MemPlace) (h : DataW.trod enc Tryd.prog W 0 (fun _ => true) held n 42 cs = some x) :
    ∃ p : PairT, cs = (eP p).cl ∧ OkP (eP p).parts1 ∧ (eP p).cl.length = 64 := by
  obtain ⟨xs, m, _, _, hl, hlen, hf⟩ := DataW.trod_struct Tryd.underlying42 h
  have hl64 : cs.length = 64 := hl.trans (by kernel_rfl)
  obtain ⟨x0, x1, rfl⟩ : ∃ a b, xs = [a, b] := by
    match xs, (show xs.length = 2 from hlen) with
    | [a, b], _ => exact ⟨a, b, rfl⟩
  have h0 : DataW.trod enc Tryd.prog W 0 (fun _ => true) held m 38 ((cs.drop 0).take (Tryd.prog.cellsOf 38)) = some x0 := hf 0 _ rfl
  have h1 : DataW.trod enc Tryd.prog W 0 (fun _ => true) held m 38 ((cs.drop 32).take (Tryd.prog.cellsOf 38)) = some x1 := hf 1 _ rfl
  rw [cells_h] at h0 h1
  obtain ⟨l0, k0, e0⟩ := hash_cells h0
  obtain ⟨l1, k1, e1⟩ := hash_cells h1
  refine ⟨(l0, l1), ?_, eP_ok ⟨k0, k1⟩⟩
  have e2 : (cs.drop 32).take 32 = cs.drop 32 := List.take_of_length_le (by rw [List.length_drop]; omega)
  rw [e2] at e1
  rw [List.drop_zero] at e0
  rw [← List.take_append_drop 32 cs, e0, e1]
  simp [SQ.cl, SQ.den, eP, Value.cells, catP, Pt.cells]
theorem hash_cellsT {H : Type} {enc : TypeId × Value → H} {W : World} {held : Bool} (n : Nat) (cs : List Value) (x : DataW H × List MemPlace) (h : DataW.trod enc Tryd.prog W 0 (fun _ => true) held n 38 cs = some x) :
    ∃ l : List UInt8, cs = (eY 32 l).cl ∧ OkP (eY 32 l).parts1 ∧ (eY 32 l).cl.length = 32 := by
  obtain ⟨l, hl, rfl⟩ := hash_cells h
  exact ⟨l, rfl, eY_ok hl⟩
end Go.Proofs.YtoecohpcnojokaaDoor
