/-
  SEVERAL TEXTS IN ONE: TrD, TrY, Law, OpenR, LawW, OpenT, Opens.
-/
import Derived.Test.YtlaikmpnijlcbaaDoorMi
import Derived.Test.YtlaikmpnijlcbaaDoorRows
import Derived.Test.YtlaikmpnijlcbaaDoorMa
import Derived.ProofKit
import Derived.OpenShut
import Derived.SizedLaws
import Derived.Test.YtlaikmpnijlcbaaDoorMd
import Derived.LaidMore
import Derived.SevenTiedAt
import Derived.Stop.Joined
import Derived.Test.YtlaikmpnijlcbaaDoorMh
import Derived.Test.YtlaikmpnijlcbaaDoorMf
import Derived.Test.YtlaikmpnijlcbaaDoorCards
import Derived.Test.YtlaikmpnijlcbaaDoorTie
import Derived.Deep.Slices
/-
  TREEDEEP: keys that part late.
-/
namespace Go.Proofs.YtlaikmpnijlcbaaDoor
open Go.RowKit Go.IntWalk Nums

/-! ### Plain -/
theorem wrapB3 (d : Nat) : IntKind.u8.wrap ((d : Int) + 1) = (((d + 1) % 256 : Nat) : Int) := by
  unfold IntKind.wrap
  simp [IntKind.bits, IntKind.signed]
/-- A tree of more than one pair is an inner node. -/
theorem TOk.two {r : Nat} {l : List PairT} {t : TA} (h : TOk r l t) (h2 : 2 ≤ l.length) : ∃ q g a b, r = q + 1 ∧ t = .node g a b ∧ TOk q (leftT (255 - q) l) a ∧ TOk q (rightT (255 - q) l) b := by
  cases t with
  | nil => rw [h.nil_inv] at h2; cases h2
  | leaf g h0 p => rw [h.leaf_inv] at h2; simp at h2
  | node g a b =>
    cases r with
    | zero => exact h.elim
    | succ q => exact ⟨q, g, a, b, rfl, rfl, h.2.1, h.2.2⟩
end Go.Proofs.YtlaikmpnijlcbaaDoor
/-
  TREENODES: an inner node's root is made of its sides', a leaf's of its pair; sides have their tree's pairs.
-/
namespace Go.Proofs.YtlaikmpnijlcbaaDoor
open Go.RowKit Go.IntWalk Nums

/-! ### A node as the program tells it -/
namespace TA
def kL : TA → List UInt8
  | .leaf _ _ p => p.1
  | _ => z32T
def vL : TA → List UInt8
  | .leaf _ _ p => p.2
  | _ => z32T
def isL : TA → Bool
  | .leaf _ _ _ => true
  | _ => false
def aS : TA → TA
  | .node _ a _ => a
  | _ => .nil
def bS : TA → TA
  | .node _ _ c => c
  | _ => .nil
def isN : TA → Bool
  | .node _ _ _ => true
  | _ => false
def dS (d : Nat) : TA → Nat
  | .node _ _ _ => d
  | _ => 0
end TA
theorem tLeaf1_S (t : TA) (d : Nat) : Spec 17 [(eTr t d).den] [] (TF t) (one (.t [eY 32 t.kL, eY 32 t.vL, .c (.v (.bool t.isL))])) := by
  have h := tLeaf_S t d
  have e : retL t = .t [eY 32 t.kL, eY 32 t.vL, .c (.v (.bool t.isL))] := by cases t <;> rfl
  rw [e] at h
  exact h
theorem tSides1_S (t : TA) (d d' : Nat) (hd : IntKind.u8.wrap ((d : Int) + 1) = (d' : Int)) : Spec 18 [(eTr t d).den] [] (TF t) (one (.t [eTr t.aS (t.dS d'), eTr t.bS (t.dS d'), .c (.v (.bool t.isN))])) := by
  have h := tSides_S t d d' hd
  have e : retSd d' t = .t [eTr t.aS (t.dS d'), eTr t.bS (t.dS d'), .c (.v (.bool t.isN))] := by cases t <;> rfl
  rw [e] at h
  exact h
theorem TF.sides {t : TA} {w : World} (h : TF t w) : TF t.aS w ∧ TF t.bS w := by
  cases t with
  | nil => exact ⟨trivial, trivial⟩
  | leaf => exact ⟨trivial, trivial⟩
  | node => exact h.2
set_option maxRecDepth 100000 in
set_option maxHeartbeats 4000000 in
theorem tnodes_S {A A2 : Option Addr} {c c2 : Nat} (l : List PairT) (x : List UInt8) : Spec 5 [.slice A l.length c, .slice A2 x.length c2] [] (fun w => Tsh w ∧ Rd 64 eP A c l w ∧ Rd 1 eB A2 c2 x w) (one (.v (.bool true))) := by
  refine spec_S [.c (.v (.slice A l.length c)), .c (.v (.slice A2 x.length c2))] 192 Tryd.func5 rfl (by rw [Tryd.ntmps5]; rfl) (two_ok trivial trivial) fun b => ?_
  refine s_auto TY_ok rfl ?_
  refine s_seq fun K hK => ?_
  refine s_regA TY_ok rfl fun K1 hK1 => ?_
  refine l_call0 [] rfl rfl rfl own_tfirst rfl rfl (fun _ _ => rfl) tfirst_S (fun _ h _ => h.1) fun _ => ?_
  refine l_autoS TY_ok rfl ?_
  refine s_end (hK1 _ ?_)
  refine s_no rfl ?_
  refine s_skip (hK _ ?_)
  refine s_pure (l.length ≤ 9223372036854775807 ∧ ∀ y ∈ l, OkT2 y) (fun _ h _ => ⟨Nat.le_trans h.2.2.1.1 h.2.2.1.2.1, fun y hy => eP_len (h.2.2.1.2.2.2.1 y hy).1⟩) fun ⟨hl, hok⟩ => ?_
  refine s_auto TY_ok rfl ?_
  refine s_seq fun K3 hK3 => ?_
  let F : Nat × TA × List PairT → Env := fun ⟨i, t, o⟩ => ⟨[(29, .v (.int .i64 (i : Int))), (28, .v (.int .i64 (l.length : Int))), (27, .v (.slice A l.length c)), (1, .v (.slice A2 x.length c2)), (5, .a 5 0)], [⟨5, none, 27, trPs t 0⟩], [], fun w => Tsh w ∧ Rd 64 eP A c l w ∧ Rd 1 eB A2 c2 x w ∧ TF t w, fun _ => True⟩
  let Iv : Nat × TA × List PairT → Prop := fun y => y.1 ≤ l.length ∧ NodeT 256 y.2.2 y.2.1 ∧ y.2.2.length ≤ y.1 ∧ y.2.2.length ≤ 30
  have hend : ∀ y, Iv y → kS b K3 192 (F y) := by
    rintro ⟨i, t, o⟩ ⟨hi, ht, hlo, hlo2⟩
    refine hK3 _ ?_
    refine s_seq fun K4 hK4 => ?_
    refine s_auto TY_ok rfl ?_
    refine s_block ?_
    let F2 : Nat × Nat × Nat × TA × List PairT → Env := fun ⟨i, d, r, t, o⟩ => ⟨[(8, .v (.int .i64 (i : Int))), (1, .v (.slice A2 x.length c2)), (5, .a 5 0)], [⟨5, none, 27, trPs t d⟩], [], fun w => Tsh w ∧ Rd 1 eB A2 c2 x w ∧ TF t w, fun _ => True⟩
    let I2 : Nat × Nat × Nat × TA × List PairT → Prop := fun y => y.1 + y.2.2.1 = 256 ∧ (256 - y.2.2.1) % 256 = y.2.1 ∧ NodeT y.2.2.1 y.2.2.2.2 y.2.2.2.1 ∧ y.2.2.2.2.length ≤ 30
    refine c_weak (e' := F2 (0, 0, 256, t, o)) ⟨⟨rfl, rfl, rfl, trivial⟩, ⟨rfl, rfl, trivial⟩, .refl _, fun _ h _ => ⟨h.1, h.2.2.1, h.2.2.2⟩, fun _ _ => trivial⟩ (s_loop (fun y => 256 - y.1) F2 I2 ?_ (0, 0, 256, t, o) ⟨rfl, rfl, ht, hlo2⟩)
    clear hi ht hlo hlo2 t o i
    rintro ⟨i, d, r, t, o⟩ ⟨hi, hd, ht, hl30⟩
    dsimp only at hi hd ht hl30
    have hs := ht.sort
    have hok2 := ht.pairs
    have hd8 : d < 256 := by omega
    obtain ⟨e, he⟩ : ∃ e, (d + 1) % 256 = e := ⟨_, rfl⟩
    have hwe : IntKind.u8.wrap ((d : Int) + 1) = (e : Int) := by rw [wrapB3, he]
    refine s_seq fun K5 hK5 => ?_
    refine s_auto TY_ok rfl ?_
    refine s_ifD ((i : Int) < 300) rfl (fun _ => ?_) (fun h => absurd (show (i : Int) < 300 by omega) h)
    refine s_skip (hK5 _ ?_)
    refine s_seq fun K6 hK6 => ?_
    refine s_block ?_
    refine s_regA TY_ok rfl fun K7 hK7 => ?_
    refine l_call0 [(eTr t d).den] rfl rfl rfl own_tLeaf rfl rfl (fun _ _ => rfl) (tLeaf1_S t d) (fun _ h _ => h.2.2) fun _ => ?_
    refine l_autoS TY_ok rfl ?_
    refine s_end (hK7 _ ?_)
    refine s_regA TY_ok rfl fun K8 hK8 => ?_
    refine l_call0 [(eTr t d).den] rfl rfl rfl own_tSides rfl rfl (fun _ _ => rfl) (tSides1_S t d e hwe) (fun _ h _ => h.2.2.2) fun _ => ?_
    refine l_autoS TY_ok rfl ?_
    refine s_end (hK8 _ ?_)
    have hkl : t.kL.length = 32 := by
      cases t with
      | leaf g h p => exact (hok2 p (by rw [ht.ok.leaf_inv]; exact List.mem_cons_self)).1
      | _ => rfl
    have hvl : t.vL.length = 32 := by
      cases t with
      | leaf g h p => exact (hok2 p (by rw [ht.ok.leaf_inv]; exact List.mem_cons_self)).2
      | _ => rfl
    refine c_weak (e' := ⟨[(8, .v (.int .i64 (i : Int))), (1, .v (.slice A2 x.length c2)), (5, .a 5 0), (9, .a 9 0), (10, .a 10 0), (11, .v (.bool t.isL)), (12, .a 12 0), (13, .a 13 0), (14, .v (.bool t.isN))], [⟨13, none, 27, trPs t.bS (t.dS e)⟩, ⟨12, none, 27, trPs t.aS (t.dS e)⟩, ⟨10, none, 30, [.agg 32 (By t.vL).toArray]⟩, ⟨9, none, 30, [.agg 32 (By t.kL).toArray]⟩, ⟨5, none, 27, trPs t d⟩], [], fun w => Tsh w ∧ Rd 1 eB A2 c2 x w ∧ TF t w, fun _ => True⟩) ⟨⟨rfl, rfl, rfl, rfl, rfl, rfl, rfl, rfl, rfl, trivial⟩, ⟨rfl, rfl, rfl, rfl, rfl, rfl, rfl, rfl, rfl, rfl, trivial⟩, .refl _, fun _ h _ => h.2.2, fun _ _ => trivial⟩ ?_
    obtain ⟨ra, hra⟩ : ∃ q, t.aS.root = q := ⟨_, rfl⟩
    obtain ⟨rb, hrb⟩ : ∃ q, t.bS.root = q := ⟨_, rfl⟩
    have hra32 : ra.length = 32 := by rw [← hra]; exact TA.root_len _
    have hrb32 : rb.length = 32 := by rw [← hrb]; exact TA.root_len _
    have hrtA := tRoot_S t.aS (t.dS e)
    have hrtB := tRoot_S t.bS (t.dS e)
    rw [hra] at hrtA
    rw [hrb] at hrtB
    have sz : ∀ l : List UInt8, l.length = 32 → (By l).toArray.size = 32 := fun l h => by rw [List.size_toArray, By_len, h]
    refine s_new 4 [⟨15, 30, (By z32T).toArray⟩, ⟨16, 30, (By z32T).toArray⟩] (by decide) rfl ⟨⟨rfl, rfl, rfl, rfl, rfl⟩, ⟨rfl, rfl, rfl, rfl, rfl⟩, trivial⟩ (by kernel_rfl) (by kernel_rfl) (by kernel_rfl) fun K9 hK9 G S w0 hst => ?_
    refine n_auto TY_ok hst rfl ?_
    refine n_callS (F' := TF t.aS) hst [(eTr t.aS (t.dS e)).den] rfl rfl rfl own_tRoot rfl rfl (fun _ => rfl) hrtA (eY_ok hra32).1 (fun _ _ _ hv => hv.fact.2.2.sides.1) ?_
    refine n_auto TY_ok hst rfl ?_
    refine n_callS (F' := TF t.bS) hst [(eTr t.bS (t.dS e)).den] rfl rfl rfl own_tRoot rfl rfl (fun _ => rfl) hrtB (eY_ok hrb32).1 (fun _ _ _ hv => hv.fact.2.2.sides.2) ?_
    refine n_new hst [⟨15, none, 30, [.agg 32 (By ra).toArray]⟩, ⟨16, none, 30, [.agg 32 (By rb).toArray]⟩] [(By z32T).toArray, (By z32T).toArray] [.tmp 60, .tmp 62] rfl rfl rfl (fun u hu => ?_) ⟨rfl, rfl, trivial⟩ rfl ⟨⟨rfl, rfl, rfl⟩, ⟨rfl, rfl, rfl⟩, rfl⟩ ⟨⟨rfl, ?_, ?_, By_one _⟩, ⟨rfl, ?_, ?_, By_one _⟩, trivial⟩ ?_
    · rcases List.mem_cons.1 hu with rfl | hu
      · exact (eY_ok hra32).1
      · rw [List.mem_singleton.1 hu]
        exact (eY_ok hrb32).1
    · exact (sz z32T rfl).trans (sz _ hra32).symm
    · show _ = some (By ra).toArray.size
      rw [sz _ hra32]
      rfl
    · exact (sz z32T rfl).trans (sz _ hrb32).symm
    · show _ = some (By rb).toArray.size
      rw [sz _ hrb32]
      rfl
    refine s_end (hK9 _ ?_)
    clear hst
    refine c_weak (e' := ⟨[(8, .v (.int .i64 (i : Int))), (1, .v (.slice A2 x.length c2)), (5, .a 5 0), (9, .a 9 0), (10, .a 10 0), (11, .v (.bool t.isL)), (12, .a 12 0), (13, .a 13 0), (14, .v (.bool t.isN)), (15, .a 15 0), (16, .a 16 0)], [⟨16, none, 30, [.agg 32 (By rb).toArray]⟩, ⟨15, none, 30, [.agg 32 (By ra).toArray]⟩, ⟨13, none, 27, trPs t.bS (t.dS e)⟩, ⟨12, none, 27, trPs t.aS (t.dS e)⟩, ⟨10, none, 30, [.agg 32 (By t.vL).toArray]⟩, ⟨9, none, 30, [.agg 32 (By t.kL).toArray]⟩, ⟨5, none, 27, trPs t d⟩], [], fun w => Tsh w ∧ Rd 1 eB A2 c2 x w ∧ TF t w, fun _ => True⟩) ⟨⟨rfl, rfl, rfl, rfl, rfl, rfl, rfl, rfl, rfl, rfl, rfl, trivial⟩, ⟨rfl, rfl, rfl, rfl, rfl, rfl, rfl, rfl, rfl, rfl, rfl, rfl, rfl, rfl, trivial⟩, .refl _, fun _ h _ => h, fun _ _ => trivial⟩ ?_
    refine s_seq fun K10 hK10 => ?_
    refine s_block ?_
    refine s_regA TY_ok rfl fun K11 hK11 => ?_
    cases t with
    | nil =>
      refine l_call0 [(eTr .nil d).den] rfl rfl rfl own_tLen rfl rfl (fun _ _ => rfl) (tLen_S .nil d) (fun _ _ _ => trivial) fun _ => ?_
      refine l_num 65 0 rfl rfl ?_
      refine l_autoS TY_ok rfl ?_
      refine s_end (hK11 _ ?_)
      refine s_ifD ((0 : Int) = 0) rfl (fun _ => ?_) (fun h => absurd rfl h)
      refine s_regA TY_ok rfl fun K12 hK12 => ?_
      refine l_call0 [(eTr .nil d).den] rfl rfl rfl own_tRoot rfl rfl (fun _ _ => rfl) (tRoot_S .nil d) (fun _ _ _ => trivial) fun _ => ?_
      refine l_autoS TY_ok rfl ?_
      refine l_op (.b (decide (z32T = z32T))) trivial rfl rfl rfl (run_eqY rfl rfl rfl Tryd.underlying30 (by kernel_rfl) rfl rfl) ?_
      refine l_is 77 true rfl (by simp) ?_
      refine l_autoS TY_ok rfl ?_
      refine s_end (hK12 _ ?_)
      exact s_ret (k_ret TY_ok () rfl (by decide) rfl rfl rfl (fun _ _ _ => trivial) (fun _ _ => trivial))
    | leaf g h p =>
      obtain rfl := ht.ok.leaf_inv
      have hp := hok2 p List.mem_cons_self
      refine l_call0 [(eTr (.leaf g h p) d).den] rfl rfl rfl own_tLen rfl rfl (fun _ _ => rfl) (tLen_S (.leaf g h p) d) (fun _ h _ => h.2.2) fun _ => ?_
      refine l_num 65 1 rfl rfl ?_
      refine l_autoS TY_ok rfl ?_
      refine s_end (hK11 _ ?_)
      refine s_ifD ((1 : Int) = 0) rfl (fun h => absurd h (by decide)) (fun _ => ?_)
      refine s_auto TY_ok rfl ?_
      refine s_yes rfl ?_
      have hget := tGet_S r [p] (.leaf g h p) hp.1 ht.le ht.ok ht.sort
      rw [hd, show getT [p] p.1 = some p.2 by simp [getT]] at hget
      refine s_regA TY_ok rfl fun K12 hK12 => ?_
      refine l_call0 [(eTr (.leaf g h p) d).den, (eY 32 p.1).den] rfl rfl rfl own_tGet rfl rfl (fun _ _ => rfl) hget (fun _ h _ => h.2.2.2) fun _ => ?_
      refine l_autoS TY_ok rfl ?_
      refine s_end (hK12 _ ?_)
      obtain ⟨rt, hrt⟩ : ∃ q, leafT p = q := ⟨_, rfl⟩
      have hrt32 : rt.length = 32 := by rw [← hrt]; exact digest256_len _
      have hroot := tRoot_S (.leaf g h p) d
      rw [show TA.root (.leaf g h p) = leafT p from rfl, hrt] at hroot
      refine c_weak (e' := ⟨[(5, .a 5 0), (9, .a 9 0), (10, .a 10 0), (14, .v (.bool false)), (17, .a 17 0), (18, .v (.bool true))], [⟨17, none, 30, [.agg 32 (By p.2).toArray]⟩, ⟨10, none, 30, [.agg 32 (By p.2).toArray]⟩, ⟨9, none, 30, [.agg 32 (By p.1).toArray]⟩, ⟨5, none, 27, trPs (.leaf g h p) d⟩], [], fun w => Tsh w ∧ TF (.leaf g h p) w, fun _ => True⟩) ⟨⟨rfl, rfl, rfl, rfl, rfl, rfl, trivial⟩, ⟨rfl, rfl, rfl, rfl, rfl, rfl, rfl, rfl, trivial⟩, .refl _, fun _ h _ => ⟨h.2.2.1, h.2.2.2.2⟩, fun _ _ => trivial⟩ ?_
      refine s_regH 25 (by decide) (by kernel_rfl) (by kernel_rfl) fun K13 hK13 G S w0 hst => ?_
      refine h_auto TY_ok hst rfl ?_
      refine h_callS (F' := TF (.leaf g h p)) (r := .v (.int .i64 ((TA.leaf g h p).len : Int))) hst [(eTr (.leaf g h p) d).den] rfl rfl rfl rfl own_tLen rfl rfl (fun _ => rfl) trivial (tLen_S (.leaf g h p) d) (fun _ _ _ hv => hv.fact.2) ?_
      refine h_num 91 1 rfl rfl ?_
      refine h_auto TY_ok hst rfl ?_
      refine h_is 94 true rfl (by simp) ?_
      refine h_auto TY_ok hst rfl ?_
      refine h_op hst (.b (decide (p.2 = p.2))) trivial rfl rfl rfl rfl (run_eqY rfl rfl rfl Tryd.underlying30 (by kernel_rfl) hp.2 hp.2) ?_
      refine h_is 97 true rfl (by simp) ?_
      refine h_auto TY_ok hst rfl ?_
      refine h_callS (F' := TF (.leaf g h p)) (r := .q (eY 32 rt)) hst [(eTr (.leaf g h p) d).den] rfl rfl rfl rfl own_tRoot rfl rfl (fun _ => rfl) (eY_ok hrt32).1 hroot (fun _ _ _ hv => hv.fact.2) ?_
      refine h_auto TY_ok hst rfl ?_
      refine h_lit TY_ok [(0 : UInt8)] rfl rfl rfl rfl rfl rfl (fun _ => rfl) rfl (by decide) (by decide) fun B => ?_
      refine h_auto TY_ok hst rfl ?_
      refine h_op hst (.s 9 0 32 32) trivial rfl rfl rfl rfl (runO_all rfl Tryd.underlying30 rfl rfl) ?_
      refine h_auto TY_ok hst rfl ?_
      refine h_op hst (.s 10 0 32 32) trivial rfl rfl rfl rfl (runO_all rfl Tryd.underlying30 rfl rfl) ?_
      refine h_auto TY_ok hst rfl ?_
      refine h_parts [.slice (some ⟨B, 0, none⟩) 1 1, (SV.s 9 0 32 32).den G, (SV.s 10 0 32 32).den G] [[0], p.1, p.2] hst rfl rfl rfl rfl rfl rfl rfl (by decide) (by decide) (fun w hw hu => ?_) fun A => ?_
      · have h2 : Rd 1 eB (some ⟨B, 0, none⟩) 1 [0] w := hu 18 _ rfl (by kernel_rfl)
        exact ⟨h2.sb, sb_var (j := 9) rfl hp.1 (by decide) G S w hw, sb_var (j := 10) rfl hp.2 (by decide) G S w hw, trivial⟩
      refine h_auto TY_ok hst rfl ?_
      refine h_call (r := .q (eY 32 rt)) hst [.slice (some ⟨A, 0, none⟩) 3 3] rfl rfl rfl rfl own_tsum rfl rfl (fun _ => rfl) (eY_ok hrt32).1 (fun w hw hu => ?_) ?_
      · have hA : PT w (some ⟨A, 0, none⟩) [[0], p.1, p.2] := hu 21 _ rfl (by kernel_rfl)
        have hr2 := sum256_f (some ⟨A, 0, none⟩) [[0], p.1, p.2] 3 w hw.fact.1 hA (by simp) (by simp)
        have e : rt = digest s256 [[0], p.1, p.2].flatten := by rw [← hrt]; simp [leafT]
        show Calls Tryd.prog _ _ w fun e w' => e = .returned (.agg (By rt).toArray) ∧ _
        rw [e]
        exact hr2
      refine h_auto TY_ok hst rfl ?_
      refine h_op hst (.b (decide (rt = rt))) trivial rfl rfl rfl rfl (run_eqY rfl rfl rfl Tryd.underlying30 (by kernel_rfl) hrt32 hrt32) ?_
      refine h_is 110 true rfl (by simp) ?_
      refine h_auto TY_ok hst rfl ?_
      refine h_end hst ?_
      refine l_autoS TY_ok rfl ?_
      refine s_end (hK13 _ ?_)
      exact s_ret (k_ret TY_ok () rfl (by decide) rfl rfl rfl (fun _ _ _ => trivial) (fun _ _ => trivial))
    | node g y z =>
      obtain ⟨q, rfl, hy, hz, h2⟩ := ht.sides
      have hq : 255 - q = d := by omega
      have heq : (256 - q) % 256 = e := by omega
      rw [hq] at hy hz
      have hlt := ht.ok.len
      have hlen2 : y.len + z.len = o.length := hlt
      refine l_call0 [(eTr (.node g y z) d).den] rfl rfl rfl own_tLen rfl rfl (fun _ _ => rfl) (tLen_S (.node g y z) d) (fun _ h _ => h.2.2) fun _ => ?_
      refine l_num 65 (o.length : Int) rfl (by rw [hlt]) ?_
      refine l_autoS TY_ok rfl ?_
      refine s_end (hK11 _ ?_)
      refine s_ifD ((o.length : Int) = 0) rfl (fun h => absurd h (by omega)) (fun _ => ?_)
      refine s_auto TY_ok rfl ?_
      refine s_no rfl ?_
      obtain ⟨rt, hrt⟩ : ∃ q, nodeT ra rb = q := ⟨_, rfl⟩
      have hrt32 : rt.length = 32 := by rw [← hrt]; exact digest256_len _
      have hroot := tRoot_S (.node g y z) d
      rw [show TA.root (.node g y z) = nodeT ra rb by rw [← hra, ← hrb]; rfl, hrt] at hroot
      refine c_weak (e' := ⟨[(8, .v (.int .i64 (i : Int))), (1, .v (.slice A2 x.length c2)), (5, .a 5 0), (12, .a 12 0), (13, .a 13 0), (14, .v (.bool true)), (15, .a 15 0), (16, .a 16 0)], [⟨16, none, 30, [.agg 32 (By rb).toArray]⟩, ⟨15, none, 30, [.agg 32 (By ra).toArray]⟩, ⟨13, none, 27, trPs z e⟩, ⟨12, none, 27, trPs y e⟩, ⟨5, none, 27, trPs (.node g y z) d⟩], [], fun w => Tsh w ∧ Rd 1 eB A2 c2 x w ∧ TF (.node g y z) w, fun _ => True⟩) ⟨⟨rfl, rfl, rfl, rfl, rfl, rfl, rfl, rfl, trivial⟩, ⟨rfl, rfl, rfl, rfl, rfl, rfl, rfl, rfl, rfl, rfl, trivial⟩, .refl _, fun _ h _ => h.2, fun _ _ => trivial⟩ ?_
      refine s_regH 22 (by decide) (by kernel_rfl) (by kernel_rfl) fun K13 hK13 G S w0 hst => ?_
      refine h_auto TY_ok hst rfl ?_
      refine h_callS (F' := TF (.node g y z)) (r := .q (eY 32 rt)) hst [(eTr (.node g y z) d).den] rfl rfl rfl rfl own_tRoot rfl rfl (fun _ => rfl) (eY_ok hrt32).1 hroot (fun _ _ _ hv => hv.fact.2.2) ?_
      refine h_auto TY_ok hst rfl ?_
      refine h_lit TY_ok [(1 : UInt8)] rfl rfl rfl rfl rfl rfl (fun _ => rfl) rfl (by decide) (by decide) fun B => ?_
      refine h_auto TY_ok hst rfl ?_
      refine h_op hst (.s 15 0 32 32) trivial rfl rfl rfl rfl (runO_all rfl Tryd.underlying30 rfl rfl) ?_
      refine h_auto TY_ok hst rfl ?_
      refine h_op hst (.s 16 0 32 32) trivial rfl rfl rfl rfl (runO_all rfl Tryd.underlying30 rfl rfl) ?_
      refine h_auto TY_ok hst rfl ?_
      refine h_parts [.slice (some ⟨B, 0, none⟩) 1 1, (SV.s 15 0 32 32).den G, (SV.s 16 0 32 32).den G] [[1], ra, rb] hst rfl rfl rfl rfl rfl rfl rfl (by decide) (by decide) (fun w hw hu => ?_) fun A => ?_
      · have h2 : Rd 1 eB (some ⟨B, 0, none⟩) 1 [1] w := hu 5 _ rfl (by kernel_rfl)
        exact ⟨h2.sb, sb_var (j := 15) rfl hra32 (by decide) G S w hw, sb_var (j := 16) rfl hrb32 (by decide) G S w hw, trivial⟩
      refine h_auto TY_ok hst rfl ?_
      refine h_call (r := .q (eY 32 rt)) hst [.slice (some ⟨A, 0, none⟩) 3 3] rfl rfl rfl rfl own_tsum rfl rfl (fun _ => rfl) (eY_ok hrt32).1 (fun w hw hu => ?_) ?_
      · have hA : PT w (some ⟨A, 0, none⟩) [[1], ra, rb] := hu 8 _ rfl (by kernel_rfl)
        have hr2 := sum256_f (some ⟨A, 0, none⟩) [[1], ra, rb] 3 w hw.fact.1 hA (by simp) (by simp)
        have e : rt = digest s256 [[1], ra, rb].flatten := by rw [← hrt]; simp [nodeT]
        show Calls Tryd.prog _ _ w fun e w' => e = .returned (.agg (By rt).toArray) ∧ _
        rw [e]
        exact hr2
      refine h_auto TY_ok hst rfl ?_
      refine h_op hst (.b (!decide (rt = rt))) trivial rfl rfl rfl rfl (run_neqY rfl rfl rfl Tryd.underlying30 (by kernel_rfl) hrt32 hrt32) ?_
      refine h_is 123 false rfl (by simp) ?_
      refine h_auto TY_ok hst rfl ?_
      refine h_callS (F' := TF y) (r := .v (.int .i64 (y.len : Int))) hst [(eTr y e).den] rfl rfl rfl rfl own_tLen rfl rfl (fun _ => rfl) trivial (tLen_S y e) (fun _ _ _ hv => hv.fact.2.2.2.1) ?_
      refine h_auto TY_ok hst rfl ?_
      refine h_callS (F' := TF z) (r := .v (.int .i64 (z.len : Int))) hst [(eTr z e).den] rfl rfl rfl rfl own_tLen rfl rfl (fun _ => rfl) trivial (tLen_S z e) (fun _ _ _ hv => hv.fact.2.2.2.2) ?_
      refine h_auto TY_ok hst rfl ?_
      refine h_num 130 (o.length : Int) rfl (wrapI (by omega) (by omega) (by omega)) ?_
      refine h_callS (F' := TF (.node g y z)) (r := .v (.int .i64 ((TA.node g y z).len : Int))) hst [(eTr (.node g y z) d).den] rfl rfl rfl rfl own_tLen rfl rfl (fun _ => rfl) trivial (tLen_S (.node g y z) d) (fun _ _ _ hv => hv.fact.2.2) ?_
      refine h_num 132 (o.length : Int) rfl (by rw [hlt]) ?_
      refine h_auto TY_ok hst rfl ?_
      refine h_is 134 false rfl (by simp) ?_
      refine h_end hst ?_
      refine l_autoS TY_ok rfl ?_
      refine s_end (hK13 _ ?_)
      refine s_no rfl ?_
      refine s_skip (hK10 _ ?_)
      clear hst
      refine c_weak (e' := ⟨[(8, .v (.int .i64 (i : Int))), (1, .v (.slice A2 x.length c2)), (5, .a 5 0), (12, .a 12 0), (13, .a 13 0)], [⟨13, none, 27, trPs z e⟩, ⟨12, none, 27, trPs y e⟩, ⟨5, none, 27, trPs (.node g y z) d⟩], [], fun w => Tsh w ∧ Rd 1 eB A2 c2 x w ∧ TF (.node g y z) w, fun _ => True⟩) ⟨⟨rfl, rfl, rfl, rfl, rfl, trivial⟩, ⟨rfl, rfl, rfl, rfl, rfl, rfl, trivial⟩, .refl _, fun _ h _ => h, fun _ _ => trivial⟩ ?_
      refine s_seq fun K14 hK14 => ?_
      have hall := ht.all
      have hlisted := tlisted_S (.node g y z) d (by rw [hall]; exact hs) (by rw [hlt]; omega) (by rw [hall]; exact hok2)
      rw [hall] at hlisted
      refine s_regA TY_ok rfl fun K15 hK15 => ?_
      refine l_call0 [(eTr (.node g y z) d).den] rfl rfl rfl own_tlisted rfl rfl (fun _ _ => rfl) hlisted (fun _ h _ => h.2.2) fun ⟨B, cB⟩ => ?_
      refine l_autoS TY_ok rfl ?_
      refine s_end (hK15 _ ?_)
      refine s_block ?_
      let F3 : Nat → Env := fun j => ⟨[(138, .v (.int .i64 (j : Int))), (137, .v (.int .i64 (o.length : Int))), (136, .v (.slice B o.length cB)), (8, .v (.int .i64 (i : Int))), (1, .v (.slice A2 x.length c2)), (5, .a 5 0), (12, .a 12 0), (13, .a 13 0)], [⟨13, none, 27, trPs z e⟩, ⟨12, none, 27, trPs y e⟩, ⟨5, none, 27, trPs (.node g y z) d⟩], [], fun w => Tsh w ∧ Rd 1 eB A2 c2 x w ∧ TF (.node g y z) w, fun w => Rd 64 eP B cB o w⟩
      refine c_weak (e' := F3 0) ⟨⟨rfl, rfl, rfl, rfl, rfl, rfl, rfl, rfl, trivial⟩, ⟨rfl, rfl, rfl, rfl, rfl, rfl, trivial⟩, .refl _, fun _ h _ => h.2, fun _ h => h.1⟩ (s_loop (fun j => o.length - j) F3 (fun j => j ≤ o.length) ?_ 0 (Nat.zero_le _))
      intro j hj
      refine s_auto TY_ok rfl ?_
      refine s_seq fun K16 hK16 => ?_
      refine s_ifD ((j : Int) < (o.length : Int)) rfl (fun hjl => ?_) (fun hge => ?_)
      · have hjl : j < o.length := by omega
        obtain ⟨p, hp0⟩ : ∃ y, o[j]? = some y := ⟨_, List.getElem?_eq_getElem hjl⟩
        have hpm := List.mem_of_getElem? hp0
        have hp := hok2 p hpm
        have hgl := tGet_S q (leftT d o) y hp.1 hy.le hy.ok hy.sort
        have hgr := tGet_S q (rightT d o) z hp.1 hz.le hz.ok hz.sort
        rw [heq] at hgl hgr
        refine s_skip (hK16 _ ?_)
        refine s_seq fun K17 hK17 => ?_
        refine s_block ?_
        refine s_regA TY_ok rfl fun K18 hK18 => ?_
        refine l_elem TY_ok rfl rfl rfl j rfl hp0 rfl rfl (rd_fact fun _ _ h => h) ?_
        refine l_autoS TY_ok rfl ?_
        refine s_end (hK18 _ ?_)
        by_cases hb : bitT p.1 d = 0
        · obtain ⟨e1, e2⟩ := side_left hs hpm hb
          rw [e1] at hgl
          rw [e2] at hgr
          refine s_regA TY_ok rfl fun K19 hK19 => ?_
          refine l_call0 [(eTr y e).den, (eY 32 p.1).den] rfl rfl rfl own_tGet rfl rfl (fun _ _ => rfl) hgl (fun _ h _ => h.2.2.2.1) fun _ => ?_
          refine l_autoS TY_ok rfl ?_
          refine s_end (hK19 _ ?_)
          refine s_regA TY_ok rfl fun K20 hK20 => ?_
          refine l_call0 [(eTr z e).den, (eY 32 p.1).den] rfl rfl rfl own_tGet rfl rfl (fun _ _ => rfl) hgr (fun _ h _ => h.2.2.2.2.2) fun _ => ?_
          refine l_autoS TY_ok rfl ?_
          refine s_end (hK20 _ ?_)
          refine s_regA TY_ok rfl fun K21 hK21 => ?_
          refine l_op (.b (true == false)) trivial rfl rfl rfl (run_eqBool rfl rfl rfl (fun _ => rfl) (fun _ => rfl)) ?_
          refine l_is 158 false rfl rfl ?_
          refine l_autoS TY_ok rfl ?_
          refine l_op (.b (!decide (p.2 = p.2))) trivial rfl rfl rfl (run_neqY rfl rfl rfl Tryd.underlying30 (by kernel_rfl) hp.2 hp.2) ?_
          refine l_is 165 false rfl (by simp) ?_
          refine l_autoS TY_ok rfl ?_
          refine s_end (hK21 _ ?_)
          refine s_no rfl ?_
          refine s_skip (hK17 _ ?_)
          refine s_autoE TY_ok rfl ?_
          exact k_next (j + 1) hjl (by show o.length - (j + 1) < o.length - j; omega) ⟨⟨congrArg some (congrArg SV.v (congrArg (Value.int .i64) (wrapI rfl (by omega) (by omega)))), rfl, rfl, rfl, rfl, rfl, rfl, rfl, trivial⟩, ⟨rfl, rfl, rfl, rfl, rfl, rfl, trivial⟩, .refl _, fun _ h _ => h.2.2, fun _ h => h.2.2⟩
        · obtain ⟨e1, e2⟩ := side_right hs hpm hb
          rw [e2] at hgl
          rw [e1] at hgr
          refine s_regA TY_ok rfl fun K19 hK19 => ?_
          refine l_call0 [(eTr y e).den, (eY 32 p.1).den] rfl rfl rfl own_tGet rfl rfl (fun _ _ => rfl) hgl (fun _ h _ => h.2.2.2.1) fun _ => ?_
          refine l_autoS TY_ok rfl ?_
          refine s_end (hK19 _ ?_)
          refine s_regA TY_ok rfl fun K20 hK20 => ?_
          refine l_call0 [(eTr z e).den, (eY 32 p.1).den] rfl rfl rfl own_tGet rfl rfl (fun _ _ => rfl) hgr (fun _ h _ => h.2.2.2.2.2) fun _ => ?_
          refine l_autoS TY_ok rfl ?_
          refine s_end (hK20 _ ?_)
          refine s_regA TY_ok rfl fun K21 hK21 => ?_
          refine l_op (.b (false == true)) trivial rfl rfl rfl (run_eqBool rfl rfl rfl (fun _ => rfl) (fun _ => rfl)) ?_
          refine l_is 158 false rfl rfl ?_
          refine l_autoS TY_ok rfl ?_
          refine l_op (.b (!decide (p.2 = p.2))) trivial rfl rfl rfl (run_neqY rfl rfl rfl Tryd.underlying30 (by kernel_rfl) hp.2 hp.2) ?_
          refine l_is 174 false rfl (by simp) ?_
          refine l_autoS TY_ok rfl ?_
          refine s_end (hK21 _ ?_)
          refine s_no rfl ?_
          refine s_skip (hK17 _ ?_)
          refine s_autoE TY_ok rfl ?_
          exact k_next (j + 1) hjl (by show o.length - (j + 1) < o.length - j; omega) ⟨⟨congrArg some (congrArg SV.v (congrArg (Value.int .i64) (wrapI rfl (by omega) (by omega)))), rfl, rfl, rfl, rfl, rfl, rfl, rfl, trivial⟩, ⟨rfl, rfl, rfl, rfl, rfl, rfl, trivial⟩, .refl _, fun _ h _ => h.2.2, fun _ h => h.2.2⟩
      refine s_exit (k_pass (k_pass (k_out ?_)))
      refine hK14 _ ?_
      have hnext : ∀ t' o', NodeT q o' t' → o'.length ≤ 30 → ∀ en, Weak en ⟨[(8, .v (.int .i64 (i : Int))), (1, .v (.slice A2 x.length c2)), (5, .a 5 0)], [⟨5, none, 27, trPs t' e⟩], [], fun w => Tsh w ∧ Rd 1 eB A2 c2 x w ∧ TF t' w, fun _ => True⟩ → kS b K6 192 en := by
        intro t' o' ht' ho' en hw
        refine k_weak hw (hK6 _ ?_)
        refine s_autoE TY_ok rfl ?_
        exact k_next (i + 1, e, q, t', o') ⟨by show i + 1 + q = 256; omega, heq, ht', ho'⟩ (by show 256 - (i + 1) < 256 - i; omega) ⟨⟨congrArg some (congrArg SV.v (congrArg (Value.int .i64) (wrapI rfl (by omega) (by omega)))), rfl, rfl, trivial⟩, ⟨rfl, rfl, trivial⟩, .refl _, fun _ h _ => h, fun _ _ => trivial⟩
      refine s_regA TY_ok rfl fun K22 hK22 => ?_
      by_cases hix : i < x.length
      · obtain ⟨v, hv0⟩ : ∃ v, x[i]? = some v := ⟨_, List.getElem?_eq_getElem hix⟩
        refine l_is 182 true rfl (by simp; omega) ?_
        refine l_autoS TY_ok rfl ?_
        refine l_elem TY_ok rfl rfl rfl i rfl hv0 rfl rfl (rd_fact fun _ h _ => h.2.1) ?_
        refine l_autoS TY_ok rfl ?_
        refine s_end (hK22 _ ?_)
        refine s_ifD (((v.toNat : Nat) : Int).tmod 2 = 1) rfl (fun _ => ?_) (fun _ => ?_)
        · refine s_lit ?_
          refine l_autoS TY_ok rfl ?_
          refine s_end (hnext z (rightT d o) hz (Nat.le_trans (List.length_filter_le _ _) hl30) _ ?_)
          exact ⟨⟨rfl, rfl, rfl, trivial⟩, ⟨rfl, rfl, trivial⟩, .refl _, fun _ h _ => ⟨h.1, h.2.1, h.2.2.2.2⟩, fun _ _ => trivial⟩
        · refine s_lit ?_
          refine l_autoS TY_ok rfl ?_
          refine s_end (hnext y (leftT d o) hy (Nat.le_trans (List.length_filter_le _ _) hl30) _ ?_)
          exact ⟨⟨rfl, rfl, rfl, trivial⟩, ⟨rfl, rfl, trivial⟩, .refl _, fun _ h _ => ⟨h.1, h.2.1, h.2.2.2.1⟩, fun _ _ => trivial⟩
      · refine l_is 182 false rfl (by simp; omega) ?_
        refine l_autoS TY_ok rfl ?_
        refine s_end (hK22 _ ?_)
        refine s_no rfl ?_
        refine s_lit ?_
        refine l_autoS TY_ok rfl ?_
        refine s_end (hnext y (leftT d o) hy (Nat.le_trans (List.length_filter_le _ _) hl30) _ ?_)
        exact ⟨⟨rfl, rfl, rfl, trivial⟩, ⟨rfl, rfl, trivial⟩, .refl _, fun _ h _ => ⟨h.1, h.2.1, h.2.2.2.1⟩, fun _ _ => trivial⟩
  refine s_auto TY_ok rfl ?_
  refine s_block ?_
  refine c_weak (e' := F (0, .nil, [])) ⟨⟨rfl, rfl, rfl, rfl, rfl, trivial⟩, ⟨rfl, rfl, trivial⟩, .refl _, fun _ h _ => ⟨h.2.1, h.2.2.1, h.2.2.2, trivial⟩, fun _ _ => trivial⟩ (s_loop (fun y => l.length - y.1) F Iv ?_ (0, .nil, []) ⟨Nat.zero_le _, ⟨TOk.nil rfl, List.Pairwise.nil, fun _ h => (by cases h), fun _ _ _ _ _ h => absurd h (Nat.not_lt_zero _), Nat.le_refl _⟩, Nat.zero_le _, Nat.zero_le _⟩)
  rintro ⟨i, t, o⟩ ⟨hi, ht, hlo, hlo2⟩
  dsimp only at hi ht hlo hlo2
  have hs := ht.sort
  have hkk := ht.keys
  have ho := ht.pairs
  refine s_auto TY_ok rfl ?_
  refine s_seq fun K4 hK4 => ?_
  refine s_ifD ((i : Int) < (l.length : Int)) rfl (fun hlt => ?_) (fun hge => ?_)
  · have hlt : i < l.length := by omega
    obtain ⟨p, hp0⟩ : ∃ y, l[i]? = some y := ⟨_, List.getElem?_eq_getElem hlt⟩
    have hp := hok p (List.mem_of_getElem? hp0)
    refine s_skip (hK4 _ ?_)
    refine s_seq fun K5 hK5 => ?_
    refine s_block ?_
    refine s_regA TY_ok rfl fun K6 hK6 => ?_
    refine l_elem TY_ok rfl rfl rfl i rfl hp0 rfl rfl (rd_fact fun _ h _ => h.2.1) ?_
    refine l_autoS TY_ok rfl ?_
    refine s_end (hK6 _ ?_)
    refine s_auto TY_ok rfl ?_
    refine s_ifD ((i : Int) < 30) rfl (fun h40 => ?_) (fun h40 => ?_)
    · have h40 : i < 30 := by omega
      have hput := tPut0 hp ht.ok hs hkk (by omega)
      refine s_lit ?_
      refine l_autoS TY_ok rfl ?_
      refine l_call0 [(eTr t 0).den, (eY 32 p.1).den, (eY 32 p.2).den] rfl rfl rfl own_tPut rfl rfl (fun _ _ => rfl) hput (fun _ h _ => ⟨h.2.2.2, h.1⟩) fun ⟨t', ht'⟩ => ?_
      refine l_autoS TY_ok rfl ?_
      refine s_end (hK5 _ ?_)
      refine s_autoE TY_ok rfl ?_
      have hlo' : (putT o p).length ≤ i + 1 := Nat.le_trans (putT_len o p).2 (Nat.succ_le_succ hlo)
      exact k_next (i + 1, t', putT o p) ⟨hlt, ⟨ht', putT_sort hs hkk hp.1, fun y hy => by
        rcases (putT_mem hs hkk hp.1 y).1 hy with rfl | h
        · exact hp
        · exact ho y h.1, fun _ _ _ _ _ h => absurd h (Nat.not_lt_zero _), Nat.le_refl _⟩, hlo', by show (putT o p).length ≤ 30; omega⟩ (by show l.length - (i + 1) < l.length - i; omega) ⟨⟨congrArg some (congrArg SV.v (congrArg (Value.int .i64) (wrapI rfl (by omega) (by omega)))), rfl, rfl, rfl, rfl, trivial⟩, ⟨rfl, rfl, trivial⟩, .refl _, fun _ h _ => ⟨h.2.1, h.2.2.1, h.2.2.2.1, h.1⟩, fun _ _ => trivial⟩
    · refine s_skip (hK5 _ ?_)
      refine s_autoE TY_ok rfl ?_
      exact k_next (i + 1, t, o) ⟨hlt, ht, by show o.length ≤ i + 1; omega, hlo2⟩ (by show l.length - (i + 1) < l.length - i; omega) ⟨⟨congrArg some (congrArg SV.v (congrArg (Value.int .i64) (wrapI rfl (by omega) (by omega)))), rfl, rfl, rfl, rfl, trivial⟩, ⟨rfl, rfl, trivial⟩, .refl _, fun _ h _ => h, fun _ _ => trivial⟩
  · refine s_exit (k_pass (k_pass (k_out ?_)))
    exact k_weak (e' := F (i, t, o)) ⟨⟨rfl, rfl, rfl, rfl, rfl, trivial⟩, ⟨rfl, rfl, trivial⟩, .refl _, fun _ h _ => h, fun _ h => h⟩ (hend (i, t, o) ⟨hi, ht, hlo, hlo2⟩)
end Go.Proofs.YtlaikmpnijlcbaaDoor
/-
  FROM A WALK TO A LAW'S ROW: the arguments read behind the call as they read before; arrays of 32 bytes, opened.
-/
namespace Go.Proofs.YtlaikmpnijlcbaaDoor
open Go.ChangeShapes Go.WideShapes Go.ChangeAt Go.RowKit

theorem own : ownKnob Tryd.prog.godebug = none := by kernel_rfl
theorem laidOut : laidOutB Tryd.prog = true := by kernel_rfl

section
variable {H : Type} {enc : TypeId × Value → H} {W W' : World}

/-- All arguments at once. -/
theorem trodAll_below : ∀ {ts : List TypeId} {vs : List Value} {ds : List (DataW H)} {p : List MemPlace}, (∀ t ∈ ts, Tryd.prog.readableRec t = true ∧ t < Tryd.prog.types.size) →
    DataW.TrodAll enc Tryd.prog W 0 (fun _ => true) true ts vs ds p → Below W.heap.size W W' → (∀ x ∈ p, x.block < W.heap.size) → DataW.TrodAll enc Tryd.prog W' 0 (fun b => decide (b < W.heap.size)) true ts vs ds p
  | [], _, _, _, _, h, _, _ => by
    obtain ⟨rfl, rfl, rfl⟩ := trodAll_nil h
    exact trodAll_mk0
  | t :: ts, _, _, _, hts, h, hb, hlt => by
    obtain ⟨v, vs', d, ds', p, q, rfl, rfl, rfl, h0, h1⟩ := trodAll_cons h
    obtain ⟨hr, hz⟩ := hts t (by simp)
    exact trodAll_cons_mk (Below.trod laidOut hr hz h0 hb (fun x hx => hlt x (by simp [hx]))) (trodAll_below (fun u hu => hts u (by simp [hu])) h1 hb (fun x hx => hlt x (by simp [hx])))

theorem law_post {f : Func} {s : ChangeSpec} {args : Array Value} {ds gs : List (DataW H)} {before : List MemPlace} (hf : f.resultTypes = #[4]) (hvars : s.vars = [])
    (hts : ∀ t ∈ f.params.toList, Tryd.prog.readableRec t = true ∧ t < Tryd.prog.types.size)
    (hW : DataW.Whole enc Tryd.prog f.params.toList s.vars false W args.toList ds gs before) (hs : s.fn H (ds ++ gs) = { results := [.lit (.bool true)], args := ds }) (hb : Below W.heap.size W W') :
    s.post enc Tryd.prog f false true false false W args (.bool true) W' := by
  have hW' := hW
  obtain ⟨p, q, hA, hV, rfl, _, _⟩ := hW
  rw [hvars] at hV
  obtain ⟨rfl, rfl⟩ := trodVars_none hV
  have hlt : ∀ x ∈ p, x.block < W.heap.size := fun x hx => hW'.lt x (by simp [hx])
  refine ⟨ds, [], p ++ [], [], p, [], hW', ?_, ?_, ?_, hb.frame _, fun h => by cases h⟩
  · rw [hs, hf]
    exact trodAll_mk1 (shut_bool Tryd.underlying4 true)
  · rw [hs]
    exact trodAll_below hts hA hb hlt
  · rw [hs, hvars]
    rfl
end

theorem cells8 : Tryd.prog.cellsOf 5 = 1 := by kernel_rfl
theorem cells_h : Tryd.prog.cellsOf 30 = 32 := by kernel_rfl
theorem one_of {l : List Value} {i : Nat} {v : Value} (h : (l.drop (i * 1)).take 1 = [v]) : l[i]? = some v := by
  rw [Nat.mul_one] at h
  have h1 : ((l.drop i).take 1)[0]? = some v := by rw [h]; rfl
  rw [List.getElem?_take, if_pos (by omega), List.getElem?_drop] at h1
  simpa using h1

/-! ### Arrays of 32 bytes -/
theorem by_of {cs : List Value} (hl : cs.length = 32) (h : ∀ i, i < 32 → ∃ n : Int, cs[i]? = some (.int .u8 n) ∧ 0 ≤ n ∧ n < 256) : ∃ l : List UInt8, l.length = 32 ∧ cs = By l := by
  refine ⟨cs.map fun v => match v with | .int _ n => UInt8.ofNat n.toNat | _ => 0, by simp [hl], ?_⟩
  apply List.ext_getElem (by simp [By])
  intro i h1 h2
  obtain ⟨n, hn, h0, h3⟩ := h i (by omega)
  have e : cs[i] = .int .u8 n := by
    have := List.getElem?_eq_getElem h1
    rw [hn] at this
    exact (Option.some.inj this).symm
  simp only [By, List.getElem_map, e]
  congr 1
  rw [UInt8.toNat_ofNat']
  omega

end Go.Proofs.YtlaikmpnijlcbaaDoor
/-
  FROM A WALK TO A LAW'S ROW: slices of anything, opened; hashes.
-/
namespace Go.Proofs.YtlaikmpnijlcbaaDoor
open Go.RowKit Go.IntWalk
open Go.ChangeShapes Go.WideShapes Go.ChangeAt

set_option maxRecDepth 20000 in
theorem hash_cells {H : Type} {enc : TypeId × Value → H} {W : World} {held : Bool} {fuel : Nat} {cs : List Value} {x : DataW H × List MemPlace} (h : DataW.trod enc Tryd.prog W 0 (fun _ => true) held fuel 30 cs = some x) :
    ∃ l : List UInt8, l.length = 32 ∧ cs = By l := by
  obtain ⟨xs, m, rfl, _, hlen, hn, hel⟩ := DataW.trod_array Tryd.underlying30 h
  rw [cells_h] at hlen
  exact by_of hlen (fun i hi => by
    have h0 := hel i hi
    rw [cells8] at h0
    obtain ⟨x, hx⟩ : ∃ x, xs[i]? = some x := ⟨xs[i]'(by omega), List.getElem?_eq_getElem (by omega)⟩
    rw [hx] at h0
    obtain ⟨n, e1, _, hw⟩ := DataW.trod_int Tryd.underlying5 h0
    have hb := bounds_u8 hw
    exact ⟨n, one_of e1, by omega, by omega⟩)
theorem pick_list {α : Type} (P : Nat → α → Prop) : ∀ n, (∀ i, i < n → ∃ l, P i l) → ∃ ks : List α, ks.length = n ∧ ∀ i l, ks[i]? = some l → P i l
  | 0, _ => ⟨[], rfl, fun i l h => by simp at h⟩
  | n + 1, h => by
    obtain ⟨ks, hl, hk⟩ := pick_list P n fun i hi => h i (by omega)
    obtain ⟨l, hp⟩ := h n (by omega)
    refine ⟨ks ++ [l], by simp [hl], fun i x hx => ?_⟩
    by_cases hi : i < ks.length
    · rw [List.getElem?_append_left hi] at hx
      exact hk i x hx
    · rw [List.getElem?_append_right (by omega)] at hx
      have h0 : i - ks.length = 0 := by
        by_cases e : i - ks.length = 0
        · exact e
        · rw [List.getElem?_eq_none (by simp; omega)] at hx
          cases hx
      rw [h0] at hx
      obtain rfl : l = x := by simpa using hx
      obtain rfl : i = n := by omega
      exact hp
set_option maxRecDepth 20000 in
theorem open_rd {α H : Type} {enc : TypeId × Value → H} {W : World} {held : Bool} {fuel : Nat} {t e : TypeId} {k : Nat} {fe : α → SQ} {cs : List Value} {x : DataW H × List MemPlace} (ht : Tryd.prog.underlying t = some (.slice e)) (hk : Tryd.prog.cellsOf e = k) (hk0 : 0 < k)
    (hel : ∀ n cs x, DataW.trod enc Tryd.prog W 0 (fun _ => true) held n e cs = some x → ∃ a : α, cs = (fe a).cl ∧ OkP (fe a).parts1 ∧ (fe a).cl.length = k)
    (h : DataW.trod enc Tryd.prog W 0 (fun _ => true) held fuel t cs = some x) :
    ∃ (A : Option Addr) (l : List α) (c : Nat), cs = [.slice A l.length c] ∧ Rd k fe A c l W := by
  rcases DataW.trod_slice ht h with ⟨rfl, _⟩ | ⟨a, len, cap, elems, rest, n, rfl, rfl, rfl, _, hl, hm, hlen, hel2, _⟩
  · exact ⟨none, [], 0, rfl, Rd.nil _ _ _⟩
  · rw [hk] at hel2
    obtain ⟨ks, hk1, hk2⟩ := pick_list (fun i (y : α) => (OkP (fe y).parts1 ∧ (fe y).cl.length = k) ∧ W.cells? 0 (a.add (i * k)) k = some (fe y).cl) len fun i hi => by
      have h0 := hel2 i hi
      rw [List.getElem?_eq_getElem (by omega)] at h0
      cases hc : W.cells? 0 (a.add (i * k)) k with
      | none => rw [hc] at h0; cases h0
      | some cs =>
        rw [hc] at h0
        obtain ⟨y, rfl, h1⟩ := hel _ _ _ h0
        exact ⟨y, h1, rfl⟩
    subst hk1
    refine ⟨some a, ks, cap, rfl, hl, (by unfold maxLen at hm; omega), fun e => (by cases e), fun y hy => ?_, fun hpos => ?_⟩
    · obtain ⟨i, hi, rfl⟩ := List.getElem_of_mem hy
      exact (hk2 i _ (List.getElem?_eq_getElem hi)).1
    have hcell : ∀ i y, ks[i]? = some y → ∀ j v, (fe y).cl[j]? = some v → W.cell? (a.add (i * k + j)) = some v := fun i y hi j v hj => by
      obtain ⟨⟨_, hkl⟩, hc⟩ := hk2 i y hi
      obtain ⟨_, _, h3⟩ := World.cells?_some hc
      have hjk : j < k := by
        have := (List.getElem?_eq_some_iff.1 hj).1
        omega
      have := h3 j hjk
      rw [Addr.add_add, hj] at this
      exact this
    have h00 := hk2 0 _ (List.getElem?_eq_getElem hpos)
    have hb := World.cells?_block h00.2 hk0
    rw [Nat.zero_mul] at hb
    obtain ⟨b, o, sp⟩ := a
    have hsp0 : sp = none := by
      obtain ⟨v, hv⟩ : ∃ v, (fe ks[0]).cl[0]? = some v := ⟨_, List.getElem?_eq_getElem (by rw [h00.1.2]; exact hk0)⟩
      have := hcell 0 _ (List.getElem?_eq_getElem hpos) 0 v hv
      rw [Nat.zero_mul, show (⟨b, o, sp⟩ : Addr).add (0 + 0) = ⟨b, o, sp⟩ from rfl, World.cell?] at this
      cases sp with
      | none => rfl
      | some s =>
        exfalso
        dsimp only at this
        split at this
        · simp at this
        · cases this
    subst hsp0
    refine ⟨b, o, rfl, hb, fun i y hi j v hj => ?_⟩
    have := hcell i y hi j v hj
    rw [Addr.add_mid] at this
    rwa [Nat.add_assoc, Nat.mul_comm k i]
end Go.Proofs.YtlaikmpnijlcbaaDoor
/-
  FROM A WALK TO A LAW'S ROW: the cells of a table of words, from what the row lists.
-/
namespace Go.Proofs.YtlaikmpnijlcbaaDoor
open Go.ChangeShapes Go.WideShapes Go.ChangeAt Go.RowKit

theorem cells64 : Tryd.prog.cellsOf 83 = 1 := by kernel_rfl
set_option maxRecDepth 20000 in
/-- The cells of a table of words. -/
theorem table_cells {W : World} {nm : String} {g g0 t0 tid n fuel : Nat} {l : List Nat} {datum : DataW Unit} {cs : List Value} {p : List MemPlace} (hg : Tryd.prog.globalNamed nm = some g) (ht : (Tryd.prog.globals[g]?).map (·.type) = some tid) (hu : Tryd.prog.underlying tid = some (.array n 83))
    (hd : datum = .agg (l.map fun (x : Nat) => .lit (.int .u64 (x : Int)))) (hg0 : Tryd.prog.globalNamed nm = some g0) (ht0 : (Tryd.prog.globals[g0]?).map (·.type) = some t0) (hv0 : W.var? Tryd.prog nm = some cs.toArray) (hd0 : DataW.trod (fun _ => ()) Tryd.prog W 0 (fun _ => true) false fuel t0 cs = some (datum, p)) :
    ∀ i, i < n → W.cell? ⟨g, i, none⟩ = some (.int .u64 (l[i]! : Nat)) := by
  obtain rfl := Option.some.inj (hg.symm.trans hg0)
  obtain rfl := Option.some.inj (ht.symm.trans ht0)
  obtain ⟨xs, m1, rfl, hx1, hlen, hn5, hel⟩ := DataW.trod_array hu hd0
  have hx2 := congrArg Prod.fst hx1
  rw [hd] at hx2
  injection hx2 with hx2
  intro i hi
  have h0 := hel i hi
  rw [cells64] at h0
  obtain ⟨x, hxi⟩ : ∃ x, xs[i]? = some x := ⟨xs[i]'(by omega), List.getElem?_eq_getElem (by omega)⟩
  rw [hxi] at h0
  obtain ⟨n', e1, e2, _⟩ := DataW.trod_int Tryd.underlying83 h0
  have hll : l.length = n := by
    have := congrArg List.length hx2
    simp only [List.length_map] at this
    omega
  have h3 : (l.map fun (x : Nat) => (DataW.lit (.int .u64 (x : Int)) : DataW Unit))[i]? = (xs.map (·.1))[i]? := by rw [hx2]
  rw [List.getElem?_map, List.getElem?_map, hxi, List.getElem?_eq_getElem (by omega)] at h3
  simp only [Option.map_some, Option.some.injEq] at h3
  rw [e2] at h3
  have hn : n' = ((l[i]! : Nat) : Int) := by
    rw [getElem!_pos l i (by omega)]
    injection h3 with h3
    injection h3 with _ h3
    exact h3.symm
  subst hn
  have hcell := World.var?_cell hg hv0 i
  rw [hcell]
  have := one_of e1
  simpa using this
end Go.Proofs.YtlaikmpnijlcbaaDoor
/-
  FROM A WALK TO A LAW'S ROW: the two tables of the digests; slices of pairs and of hashes, opened.
-/
namespace Go.Proofs.YtlaikmpnijlcbaaDoor
open Go.ChangeShapes Go.WideShapes Go.ChangeAt Go.RowKit Nums

def laid2 : List (String × DataW Unit) := [("witan/sha.starts", Rows.laid_witan_sha_starts), ("witan/sha.steps", Rows.laid_witan_sha_steps)]
/-- The door's own heap meets the condition. -/
theorem door_met2 (os : Os) (args : Array Value) : laidMetH Tryd.prog laid2 ((World.doorLaid Tryd.prog 400 os).forCall (fun _ _ => 0) ⟨#[], args, []⟩).memory :=
  laidMetH_of_parts3 (fuel := 8) (laidMet_of_run' 8 (by kernel_rfl) (by kernel_rfl)) (by kernel_rfl) (by kernel_rfl)
set_option maxRecDepth 20000 in
/-- What the condition gives the walks. -/
theorem of_laid2 {W : World} (h : laidMetH Tryd.prog laid2 W) : Tsh W := by
  rw [MakeChecks.laidMetH_plain _ _ _ (by kernel_rfl)] at h
  obtain ⟨ps, ⟨g1, t1, cs1, f1, p1, q1, hg1, ht1, hv1, hd1, ⟨g2, t2, cs2, f2, p2, q2, hg2, ht2, hv2, hd2, _, _⟩, _⟩, _, _⟩ := h
  have c1 := table_cells (l := sqs) (n := 8) (g := 0) (tid := 84) (by kernel_rfl) (by kernel_rfl) Tryd.underlying84 (by kernel_rfl) hg1 ht1 hv1 hd1
  have c2 := table_cells (l := cbs) (n := 80) (g := 1) (tid := 89) (by kernel_rfl) (by kernel_rfl) Tryd.underlying89 (by kernel_rfl) hg2 ht2 hv2 hd2
  exact ⟨⟨c2, World.block_lt_of_cell? W ⟨1, 0, none⟩ (c2 0 (by omega))⟩, c1, World.block_lt_of_cell? W ⟨0, 0, none⟩ (c1 0 (by omega))⟩
set_option maxRecDepth 20000 in
theorem pair_cellsT {H : Type} {enc : TypeId × Value → H} {W : World} {held : Bool} (n : Nat) (cs : List Value) (x : DataW H × List MemPlace) (h : DataW.trod enc Tryd.prog W 0 (fun _ => true) held n 32 cs = some x) :
    ∃ p : PairT, cs = (eP p).cl ∧ OkP (eP p).parts1 ∧ (eP p).cl.length = 64 := by
  obtain ⟨xs, m, _, _, hl, hlen, hf⟩ := DataW.trod_struct Tryd.underlying32 h
  have hl64 : cs.length = 64 := hl.trans (by kernel_rfl)
  obtain ⟨x0, x1, rfl⟩ : ∃ a b, xs = [a, b] := by
    match xs, (show xs.length = 2 from hlen) with
    | [a, b], _ => exact ⟨a, b, rfl⟩
  have h0 : DataW.trod enc Tryd.prog W 0 (fun _ => true) held m 30 ((cs.drop 0).take (Tryd.prog.cellsOf 30)) = some x0 := hf 0 _ rfl
  have h1 : DataW.trod enc Tryd.prog W 0 (fun _ => true) held m 30 ((cs.drop 32).take (Tryd.prog.cellsOf 30)) = some x1 := hf 1 _ rfl
  rw [cells_h] at h0 h1
  obtain ⟨l0, k0, e0⟩ := hash_cells h0
  obtain ⟨l1, k1, e1⟩ := hash_cells h1
  refine ⟨(l0, l1), ?_, eP_ok ⟨k0, k1⟩⟩
  have e2 : (cs.drop 32).take 32 = cs.drop 32 := List.take_of_length_le (by rw [List.length_drop]; omega)
  rw [e2] at e1
  rw [List.drop_zero] at e0
  rw [← List.take_append_drop 32 cs, e0, e1]
  simp [SQ.cl, SQ.den, eP, Value.cells, catP, Pt.cells]
end Go.Proofs.YtlaikmpnijlcbaaDoor
/-
  FROM A WALK TO A LAW'S ROW: slices of bytes and arrays of 64 bytes, opened.
-/
namespace Go.Proofs.YtlaikmpnijlcbaaDoor
open Go.RowKit Go.IntWalk
open Go.ChangeShapes Go.WideShapes Go.ChangeAt

theorem open_bytes {H : Type} {enc : TypeId × Value → H} {W : World} {held : Bool} {fuel : Nat} {cs : List Value} {x : DataW H × List MemPlace} (h : DataW.trod enc Tryd.prog W 0 (fun _ => true) held fuel 45 cs = some x) :
    ∃ (A : Option Addr) (l : List UInt8) (c : Nat), cs = [.slice A l.length c] ∧ SL W 0 W.heap.size A l c := by
  rcases open_ints Tryd.underlying45 Tryd.underlying5 cells8 h with ⟨rfl, rfl⟩ | ⟨a, len, cap, zs, rfl, _, hl, hm, hz, rfl, hcell, hwz⟩
  · exact ⟨none, [], 0, rfl, SL.nil _ _ _⟩
  · have hz' : zs.length = cap := hz
    have hlen : ((zs.take len).map fun z => UInt8.ofNat z.toNat).length = len := by simp; omega
    refine ⟨some a, (zs.take len).map fun z => UInt8.ofNat z.toNat, cap, by rw [hlen], by rw [hlen]; exact hl, by unfold maxLen at hm; omega, fun h => (by cases h), fun hpos => ⟨a, rfl, Nat.zero_le _, ?_, fun j x hx => ?_⟩⟩
    · have h0 : 0 < zs.length := by rw [hlen] at hpos; omega
      have := World.block_lt_of_cell? W _ (hcell 0 h0)
      rwa [block_add] at this
    · simp only [List.getElem?_map, List.getElem?_take, Option.map_eq_some_iff] at hx
      obtain ⟨z, hz, rfl⟩ := hx
      split at hz
      · have hj := (List.getElem?_eq_some_iff.1 hz).1
        have hb := range_u8 hwz j
        have hg : zs.getD j 0 = z := by simp [List.getD, hz]
        rw [hz] at hb
        simp only [Option.getD_some] at hb
        rw [hcell j hj, hg]
        have e : (UInt8.ofNat z.toNat).toNat = z.toNat := by
          simp
          omega
        rw [e, Int.toNat_of_nonneg hb.1]
      · cases hz

end Go.Proofs.YtlaikmpnijlcbaaDoor
