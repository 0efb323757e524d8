/-
  SEVERAL TEXTS IN ONE: Wc, We, ShaK, TrL, TrO, Wf, Wg.
-/
import Derived.Test.YtlaikmpnijlcbaaDoorMn
import Derived.Test.YtlaikmpnijlcbaaDoorMh
import Derived.Test.YtlaikmpnijlcbaaDoorMi
import Derived.Test.YtlaikmpnijlcbaaDoorMf
/-
  THE PROGRAM'S TREE: its pairs are told, one behind the other.
-/
namespace Go.Proofs.YtlaikmpnijlcbaaDoor
open Go.RowKit Go.IntWalk Nums

theorem own_twalk : Own 44 := fun _ _ => by go_simp
theorem own_teach : Own 35 := fun _ _ => by go_simp
theorem own_tAll : Own 22 := fun _ _ => by go_simp
theorem own_tAll1 : Own 34 := fun _ _ => by go_simp
theorem own_tAll11 : Own 36 := fun _ _ => by go_simp
/-- All pairs of a tree, as they lie. -/
theorem TOk.all_eq : ∀ {r : Nat} {l : List PairT} {t : TA}, TOk r l t → SortT l → KeysT l → SharesT (256 - r) l → r ≤ 256 → t.all = l
  | _, _, .nil, h, _, _, _, _ => h.nil_inv.symm
  | _, _, .leaf _ _ _, h, _, _, _, _ => h.leaf_inv.symm
  | 0, _, .node _ _ _, h, _, _, _, _ => h.elim
  | r + 1, l, .node _ a b, h, hs, hk, hsh, hr => by
    obtain ⟨_, h2, h3⟩ := h
    have e : 256 - (r + 1) = 255 - r := by omega
    rw [e] at hsh
    have e2 : 255 - r + 1 = 256 - r := by omega
    have hl := hsh.left
    have hr' := hsh.right
    rw [e2] at hl hr'
    show a.all ++ b.all = l
    rw [h2.all_eq (hs.filter _) (hk.filter _) hl (by omega), h3.all_eq (hs.filter _) (hk.filter _) hr' (by omega)]
    exact sides_app (by omega) hs hk hsh
theorem TA.all_len : ∀ t : TA, t.all.length = t.len
  | .nil => rfl
  | .leaf _ _ _ => rfl
  | .node _ a b => by
    show (a.all ++ b.all).length = a.len + b.len
    rw [List.length_append, a.all_len, b.all_len]
set_option maxRecDepth 100000 in
set_option maxHeartbeats 4000000 in
/-- **walk**: over whatever is told. -/
theorem twalk_S {f : FuncId} (hf : Own f) (caps : List Value) (Fc : World → Prop) (JR : Nat → Res) (JX : Res) : ∀ (t : TA) (i : Nat),
    (∀ (j : Nat) (p : PairT) (h : Nat), t.all[j]? = some p → Spec f (.pointer (some ⟨h, 0, none⟩) :: caps) [JR (i + j)] (fun w => ObjF h 64 (prPs p) w ∧ Fc w) (bpost (JR (i + j + 1)) JX)) →
    Spec 44 [t.val, .func (.func f) #[] caps.toArray] [JR i] (fun w => TF t w ∧ Fc w) (bpost (JR (i + t.all.length)) JX) := by
  intro t
  induction t with
  | nil =>
    intro i _
    refine spec_S [.c (.v TA.nil.val), .c (.v (.func (.func f) #[] caps.toArray))] 34 Tryd.func44 rfl (by rw [Tryd.ntmps44]; rfl) (two_ok trivial trivial) fun b => ?_
    refine s_auto TY_ok rfl ?_
    refine s_seq fun K hK => ?_
    refine s_auto TY_ok rfl ?_
    refine s_yes rfl ?_
    refine s_auto TY_ok rfl ?_
    exact s_ret (k_ret TY_ok true rfl (by decide) rfl rfl rfl (fun _ _ _ => trivial) (fun _ _ => trivial))
  | leaf g h p =>
    intro i ht
    have htell := ht 0 p h rfl
    refine spec_S [.c (.v (TA.leaf g h p).val), .c (.v (.func (.func f) #[] caps.toArray))] 34 Tryd.func44 rfl (by rw [Tryd.ntmps44]; rfl) (two_ok trivial trivial) fun b => ?_
    refine s_auto TY_ok rfl ?_
    refine s_seq fun K hK => ?_
    refine s_auto TY_ok rfl ?_
    refine s_no rfl ?_
    refine s_skip (hK _ ?_)
    refine s_seq fun K2 hK2 => ?_
    refine s_regA TY_ok rfl fun K3 hK3 => ?_
    refine l_ldO TY_ok rfl rfl rfl rfl rfl rfl (obj_fact fun _ h _ => h.1.1) ?_
    refine l_autoS TY_ok rfl ?_
    refine s_end (hK3 _ ?_)
    refine s_yes rfl ?_
    refine s_regA TY_ok rfl fun K4 hK4 => ?_
    refine l_ldO TY_ok rfl rfl rfl rfl rfl rfl (obj_fact fun _ h _ => h.1.1) ?_
    refine l_callV (own := [JR (i + 0)]) (R' := []) (.pointer (some ⟨h, 0, none⟩) :: caps) rfl rfl rfl hf rfl rfl rfl (fun _ _ => rfl) htell (fun _ h _ => ⟨h.1.2, h.2⟩) fun t => ?_
    refine l_autoS TY_ok rfl ?_
    refine s_end (hK4 _ ?_)
    exact s_ret (k_ret TY_ok t rfl (by decide) rfl rfl rfl (fun _ _ _ => trivial) (fun _ _ => trivial))
  | node g x y ihx ihy =>
    intro i ht
    have hx := ihx i fun j p h hj => ht j p h (by
      show (x.all ++ y.all)[j]? = _
      rw [List.getElem?_append_left (List.getElem?_eq_some_iff.1 hj).1]
      exact hj)
    have hy := ihy (i + x.all.length) fun j p h hj => by
      have := ht (x.all.length + j) p h (by
        show (x.all ++ y.all)[_]? = _
        rw [List.getElem?_append_right (by omega), Nat.add_sub_cancel_left]
        exact hj)
      rwa [← Nat.add_assoc] at this
    have hlen : (TA.node g x y).all.length = x.all.length + y.all.length := List.length_append
    rw [hlen]
    clear ihx ihy ht hlen
    refine spec_S [.c (.v (TA.node g x y).val), .c (.v (.func (.func f) #[] caps.toArray))] 34 Tryd.func44 rfl (by rw [Tryd.ntmps44]; rfl) (two_ok trivial trivial) fun b => ?_
    refine s_auto TY_ok rfl ?_
    refine s_seq fun K hK => ?_
    refine s_auto TY_ok rfl ?_
    refine s_no rfl ?_
    refine s_skip (hK _ ?_)
    refine s_seq fun K2 hK2 => ?_
    refine s_regA TY_ok rfl fun K3 hK3 => ?_
    refine l_ldO TY_ok rfl rfl rfl rfl rfl rfl (obj_fact fun _ h _ => h.1.1) ?_
    refine l_autoS TY_ok rfl ?_
    refine s_end (hK3 _ ?_)
    refine s_no rfl ?_
    refine s_skip (hK2 _ ?_)
    refine s_regA TY_ok rfl fun K4 hK4 => ?_
    refine l_op (.v (.pointer (some ⟨g, 34 + 1 * 0, none⟩))) trivial rfl rfl rfl (runO_ixP 0 rfl Tryd.underlying66 rfl rfl rfl (by decide)) ?_
    refine l_opV (.v x.val) trivial rfl rfl rfl (runO_ldB x.val rfl rfl (nd_at x y).1 Tryd.underlying25 rfl (obj_fact fun _ h _ => h.1.1)) ?_
    refine l_autoS TY_ok rfl ?_
    refine l_callA (own := [JR i]) (R' := []) [x.val, .func (.func f) #[] caps.toArray] rfl rfl rfl own_twalk rfl rfl (fun _ _ => rfl) hx (fun _ h _ => ⟨h.1.2.1, h.2⟩) fun t => ?_
    cases t with
    | false =>
      refine l_autoS TY_ok rfl ?_
      refine s_end (hK4 _ ?_)
      exact s_ret (k_ret TY_ok false rfl (by decide) rfl rfl rfl (fun _ _ _ => trivial) (fun _ _ => trivial))
    | true =>
      refine l_autoS TY_ok rfl ?_
      refine l_op (.v (.pointer (some ⟨g, 34 + 1 * 1, none⟩))) trivial rfl rfl rfl (runO_ixP 1 rfl Tryd.underlying66 rfl rfl rfl (by decide)) ?_
      refine l_autoS TY_ok rfl ?_
      refine l_opV (.v y.val) trivial rfl rfl rfl (runO_ldB y.val rfl rfl (nd_at x y).2 Tryd.underlying25 rfl (obj_fact fun _ h _ => h.2.1.1)) ?_
      refine l_autoS TY_ok rfl ?_
      refine l_callA (own := [JR (i + x.all.length)]) (R' := []) [y.val, .func (.func f) #[] caps.toArray] rfl rfl rfl own_twalk rfl rfl (fun _ _ => rfl) hy (fun _ h _ => ⟨h.2.1.2.2, h.2.2⟩) fun t => ?_
      refine l_autoS TY_ok rfl ?_
      refine s_end (hK4 _ ?_)
      refine s_ret ?_
      rw [← Nat.add_assoc]
      exact k_ret TY_ok t rfl (by decide) rfl rfl rfl (fun _ _ _ => trivial) (fun _ _ => trivial)
/-- What is told to a loop. -/
def telA (p : PairT) : List Value := [(eY 32 p.1).den, (eY 32 p.2).den]
/-- yield's box. -/
def ylPs (l : Nat) : List Pt := [.one (.v (.func (.yield l) #[] #[]))]
set_option maxRecDepth 100000 in
set_option maxHeartbeats 1000000 in
theorem ttell_S {l g h : Nat} {p : PairT} {r r1 r0 : Res} {Fy : World → Prop} (hy : YSpec l (telA p) Fy r r1 r0) : Spec 36 [.pointer (some ⟨h, 0, none⟩), .pointer (some ⟨g, 0, none⟩)] [r] (fun w => ObjF h 64 (prPs p) w ∧ ObjF g 59 (ylPs l) w ∧ Fy w) (bpost r1 r0) := by
  refine spec_S [.c (.v (.pointer (some ⟨h, 0, none⟩))), .c (.v (.pointer (some ⟨g, 0, none⟩)))] 14 Tryd.func36 rfl (by rw [Tryd.ntmps36]; rfl) (two_ok trivial trivial) fun b => ?_
  refine s_pure (OkT2 p ∧ OkP (prPs p)) (fun w hw _ => ⟨prPs_ok hw.1.2, hw.1.2⟩) fun ⟨hp, hop⟩ => ?_
  refine s_of_r ?_
  refine r_auto rfl TY_ok rfl ?_
  refine r_seq fun K hK => ?_
  refine r_anyP [0, 1, 2, 3, 4, 5, 6, 7, 8] 9 2 (fun w => InvL [] w ∧ ObjF h 64 (prPs p) w ∧ ObjF g 59 (ylPs l) w) (by kernel_rfl) rfl rfl (inv_two (fun _ h => by cases h) fun _ h _ => ⟨h.1, h.2.1⟩) ?_
  refine p_frontI (.v (.func (.yield l) #[] #[])) trivial 0 (by kernel_rfl) rfl rfl rfl rfl rfl (fun G a w ha hw => runO_ldB (L := []) (R := []) (F := fun w => ObjF g 59 (ylPs l) w) (M := fun _ => True) _ rfl rfl rfl Tryd.underlying59 rfl (obj_fact fun _ h _ => h) G (fun _ => False) a w ha ⟨fun _ h => (by cases h), fun _ h => h, hw.2.2, trivial⟩) ?_
  refine p_frontS TY_ok 1 (by kernel_rfl) rfl rfl rfl rfl rfl rfl (fun _ h => by cases h) (fun _ h => h.1) ?_
  refine p_frontS TY_ok 2 (by kernel_rfl) rfl rfl rfl rfl rfl rfl (fun _ h => by cases h) (fun _ h => h.1) ?_
  refine p_frontS TY_ok 3 (by kernel_rfl) rfl rfl rfl rfl rfl rfl (fun _ h => by cases h) (fun _ h => h.1) ?_
  refine p_ldO TY_ok 4 (by kernel_rfl) rfl rfl rfl rfl rfl rfl rfl hop (fun _ h => h.2.1) ?_
  refine p_frontS TY_ok 5 (by kernel_rfl) rfl rfl rfl rfl rfl rfl (fun _ h => by cases h) (fun _ h => h.1) ?_
  refine p_frontS TY_ok 6 (by kernel_rfl) rfl rfl rfl rfl rfl rfl (fun _ h => by cases h) (fun _ h => h.1) ?_
  refine p_frontS TY_ok 7 (by kernel_rfl) rfl rfl rfl rfl rfl rfl (fun _ h => by cases h) (fun _ h => h.1) ?_
  refine p_ldO TY_ok 8 (by kernel_rfl) rfl rfl rfl rfl rfl rfl rfl hop (fun _ h => h.2.1) ?_
  refine p_tailR [9, 10] (by kernel_rfl) rfl ?_
  refine t_yield (telA p) rfl rfl rfl rfl rfl rfl (fun _ => rfl) hy (fun _ h _ => h.2.2) fun t => ?_
  refine t_list rfl ?_
  refine l_autoS TY_ok rfl ?_
  refine s_end (hK _ ?_)
  exact r_ret (k_ret TY_ok t rfl (by decide) rfl rfl rfl (fun _ _ _ => trivial) (fun _ _ => trivial))
/-- Nothing is handed back; all was told, or not. -/
def epost (r1 r0 : Res) : Post Bool := { ret := fun _ => .t [], own := fun t => [bif t then r1 else r0] }
set_option maxRecDepth 100000 in
set_option maxHeartbeats 1000000 in
/-- **each**, from the top. -/
theorem teach_S {f : FuncId} (hf : Own f) (caps : List Value) (Fc : World → Prop) (JR : Nat → Res) (JX : Res) (t : TA)
    (ht : ∀ (j : Nat) (p : PairT) (h : Nat), t.all[j]? = some p → Spec f (.pointer (some ⟨h, 0, none⟩) :: caps) [JR j] (fun w => ObjF h 64 (prPs p) w ∧ Fc w) (bpost (JR (j + 1)) JX)) :
    Spec 35 [(eTr t 0).den, .func (.func f) #[] caps.toArray] [JR 0] (fun w => TF t w ∧ Fc w) (epost (JR t.all.length) JX) := by
  have hw := twalk_S hf caps Fc JR JX t 0 (by simpa using ht)
  rw [Nat.zero_add] at hw
  refine spec_S [eTr t 0, .c (.v (.func (.func f) #[] caps.toArray))] 34 Tryd.func35 rfl (by rw [Tryd.ntmps35]; rfl) (two_ok (trPs_ok t 0) trivial) fun b => ?_
  refine s_auto TY_ok rfl ?_
  refine s_seq fun K hK => ?_
  refine s_auto TY_ok rfl ?_
  refine s_ifD (((0 : Nat) : Int) = 0) rfl (fun _ => ?_) (fun h => absurd rfl h)
  refine s_regA TY_ok rfl fun K2 hK2 => ?_
  refine l_callA (own := [JR 0]) (R' := []) [t.val, .func (.func f) #[] caps.toArray] rfl rfl rfl own_twalk rfl rfl (fun _ _ => rfl) hw (fun _ h _ => h) fun x => ?_
  refine s_end (hK2 _ ?_)
  exact s_ret (k_ret TY_ok x rfl (by decide) rfl rfl rfl (fun _ _ _ => trivial) (fun _ _ => trivial))
set_option maxRecDepth 100000 in
set_option maxHeartbeats 1000000 in
theorem tAll1_S (l gb : Nat) (Fy : World → Prop) (JR : Nat → Res) (JX : Res) (t : TA) (hy : ∀ (j : Nat) (p : PairT), t.all[j]? = some p → YSpec l (telA p) Fy (JR j) (JR (j + 1)) JX) :
    Spec 34 [.func (.yield l) #[] #[], .pointer (some ⟨gb, 0, none⟩)] [JR 0] (fun w => (ObjF gb 27 (trPs t 0) w ∧ TF t w) ∧ Fy w) (epost (JR t.all.length) JX) := by
  refine spec_S [.c (.v (.func (.yield l) #[] #[])), .c (.v (.pointer (some ⟨gb, 0, none⟩)))] 6 Tryd.func34 rfl (by rw [Tryd.ntmps34]; rfl) (two_ok trivial trivial) fun b => ?_
  refine s_regA TY_ok rfl fun K hK => ?_
  refine l_give 2 (E' := [(1, .v (.pointer (some ⟨gb, 0, none⟩)))]) rfl ⟨rfl, trivial⟩ fun g2 => ?_
  refine l_objOut 0 rfl ?_
  refine s_end (hK _ ?_)
  refine s_lit ?_
  refine l_ldO TY_ok rfl rfl rfl rfl rfl rfl (obj_fact fun _ h _ => h.2.1.1) ?_
  refine l_op (.v (.func (.func 36) #[] #[.pointer (some ⟨g2, 0, none⟩)])) trivial rfl rfl rfl (run_makeF rfl rfl (fun _ => rfl)) ?_
  refine l_callA (own := [JR 0]) (R' := []) [(eTr t 0).den, .func (.func 36) #[] #[.pointer (some ⟨g2, 0, none⟩)]] rfl rfl rfl own_teach rfl rfl (fun _ _ => rfl) (teach_S own_tAll11 [.pointer (some ⟨g2, 0, none⟩)] (fun w => ObjF g2 59 (ylPs l) w ∧ Fy w) JR JX t fun j p h hj => ttell_S (hy j p hj)) (fun _ h _ => ⟨h.2.1.2, h.1, h.2.2⟩) fun x => ?_
  refine s_end ?_
  exact k_ret TY_ok x rfl (by decide) rfl rfl rfl (fun _ _ _ => trivial) (fun _ _ => trivial)
set_option maxRecDepth 100000 in
set_option maxHeartbeats 1000000 in
theorem tAll_S (t : TA) (d : Nat) : Spec 22 [(eTr t d).den] [] (fun _ => True) { ret := fun g : Nat => .v (.func (.func 34) #[] #[.pointer (some ⟨g, 0, none⟩)]), own := fun _ => [], p := fun g => ObjF g 27 (trPs t d) } := by
  refine spec_S [eTr t d] 4 Tryd.func22 rfl (by rw [Tryd.ntmps22]; rfl) (one_ok (trPs_ok t d)) fun b => ?_
  refine s_regA TY_ok rfl fun K hK => ?_
  refine l_give 1 (E' := []) rfl trivial fun g => ?_
  refine l_objOut 0 rfl ?_
  refine s_end (hK _ ?_)
  refine s_regA TY_ok rfl fun K2 hK2 => ?_
  refine l_op (.v (.func (.func 34) #[] #[.pointer (some ⟨g, 0, none⟩)])) trivial rfl rfl rfl (run_makeF rfl rfl (fun _ => rfl)) ?_
  refine l_autoS TY_ok rfl ?_
  refine s_end (hK2 _ ?_)
  exact s_ret (k_ret TY_ok g rfl (by decide) rfl rfl rfl (fun _ h _ => h.1) (fun _ _ => trivial))
end Go.Proofs.YtlaikmpnijlcbaaDoor
/-
  A RANGE OVER A FUNCTION, over states.
-/
namespace Go.Proofs.YtlaikmpnijlcbaaDoor
open Go.RowKit Go.IntWalk

/-- A loop's record. -/
def LoopR (l : Nat) (o : Loop) : Res where
  holds w S := w.heap[l]? = some (.loop o) ∧ ∀ k, S k ↔ k = l
  keep := fun ⟨h1, h2⟩ hk => ⟨(hk l ((h2 l).2 rfl)).trans h1, h2⟩
  lt := fun ⟨h1, h2⟩ k hk => by rw [(h2 k).1 hk]; exact (Array.getElem?_eq_some_iff.1 h1).1
/-- All of a call's own memory: its variables, what it owns. -/
def VRes (G : Nat → Nat) (L : List LV) (R : List Res) : Res where
  holds w S := ∃ S0, (∀ x ∈ L, Blk w (G x.j) x.t (catP x.ps) ∧ OkP x.ps) ∧ (namesL L).Pairwise (fun i j => G i ≠ G j) ∧ starL R w S0 ∧ (∀ j ∈ namesL L, ¬ S0 (G j)) ∧ ∀ k, S k ↔ Mine S0 G L k
  keep := fun ⟨S0, h1, h2, h3, h4, h5⟩ hk => ⟨S0, fun x hx => ⟨(hk _ ((h5 _).2 (.inr ⟨x.j, List.mem_map.2 ⟨x, hx, rfl⟩, rfl⟩))).trans (h1 x hx).1, (h1 x hx).2⟩, h2, h3.keep fun k hs => hk k ((h5 k).2 (.inl hs)), h4, h5⟩
  lt := fun ⟨S0, h1, _, h3, _, h5⟩ k hk => by
    rcases (h5 k).1 hk with hk | ⟨j, hj, rfl⟩
    · exact h3.lt k hk
    · obtain ⟨x, hx, rfl⟩ := List.mem_map.1 hj
      exact (h1 x hx).1.lt
/-- Where they lie is not told. -/
def noneL : List LV → Bool
  | [] => true
  | x :: L => x.g.isNone && noneL L
theorem noneL_ok : ∀ {L : List LV}, noneL L = true → ∀ x ∈ L, x.g = none
  | y :: L, h, x, hx => by
    unfold noneL at h
    rw [Bool.and_eq_true] at h
    rcases List.mem_cons.1 hx with rfl | hx
    · exact Option.isNone_iff_eq_none.1 h.1
    · exact noneL_ok h.2 x hx
section
variable {b : Base} {G G' : Nat → Nat} {S : Nat → Prop} {L L' : List LV} {R R' : List Res} {F M : World → Prop} {w w' : World}
theorem StW.toV (h : StW b G S L R F M w) : (VRes G L R).holds w (Mine S G L) := ⟨S, fun x hx => ⟨(h.var x hx).1, (h.var x hx).2.1⟩, h.apart, h.res, h.sep, fun _ => Iff.rfl⟩
theorem mem_withG {G : Nat → Nat} : ∀ {L : List LV} {x : LV}, x ∈ L → { x with g := some (G x.j) } ∈ withG G L
  | y :: L, x, h => by
    rcases List.mem_cons.1 h with rfl | h
    · exact List.mem_cons_self
    · exact List.mem_cons_of_mem _ (mem_withG h)
theorem StW.at_withG (h : StW b G' S (withG G L) R F M w) : ∀ j ∈ namesL L, G' j = G j := fun j hj => by
  obtain ⟨x, hx, rfl⟩ := List.mem_map.1 hj
  exact (h.var _ (mem_withG hx)).2.2 _ rfl
theorem StW.toVG (h : StW b G' S (withG G L) R F M w) : (VRes G L R).holds w (Mine S G L) ∧ ∀ k, Mine S G L k ↔ Mine S G' (withG G L) k := by
  have hg := h.at_withG
  refine ⟨⟨S, fun x hx => ?_, ?_, h.res, fun j hj => ?_, fun _ => Iff.rfl⟩, fun k => ?_⟩
  · have h1 := h.var _ (mem_withG hx)
    have h2 := hg x.j (List.mem_map.2 ⟨x, hx, rfl⟩)
    rw [← h2]
    exact ⟨h1.1, h1.2.1⟩
  · have h1 := h.apart
    rw [withG_names] at h1
    exact h1.imp_of_mem fun hi hj hne => by rwa [← hg _ hi, ← hg _ hj]
  · rw [← hg j hj]
    exact h.sep j (by rw [withG_names]; exact hj)
  · unfold Mine
    rw [withG_names]
    exact or_congr Iff.rfl ⟨fun ⟨j, hj, e⟩ => ⟨j, hj, (hg j hj).trans e⟩, fun ⟨j, hj, e⟩ => ⟨j, hj, (hg j hj).symm.trans e⟩⟩
/-- A state of its own, for a round. -/
theorem StW.ofV {S1 : Nat → Prop} (h : (VRes G L R).holds w S1) (hF : Stb S1 F w) : ∃ S0, StW ⟨fun _ => False, w, S1⟩ G S0 (withG G L) R F (fun _ => True) w := by
  obtain ⟨S0, h1, h2, h3, h4, h5⟩ := h
  have hM : ∀ k, Mine S0 G (withG G L) k ↔ S1 k := fun k => by
    rw [h5 k]
    unfold Mine
    rw [withG_names]
  refine ⟨S0, fun x hx => ?_, by rw [withG_names]; exact h2, h3, by rw [withG_names]; exact h4, hF.less fun k _ hk => hk.elim False.elim (hM k).1, fun _ _ => trivial, Chg.refl _ _, fun k hk _ => (hM k).1 hk, fun _ h => h.elim⟩
  obtain ⟨y, hy, rfl⟩ := withG_mem hx
  exact ⟨(h1 y hy).1, (h1 y hy).2, fun g hg => Option.some.inj hg⟩
/-- Back to the caller's state. -/
theorem StW.back {T : Nat → Prop} (h : StW b G S L R F M w) (hg : noneL L' = true) (hc : Chg (Mine S G L) w w') (hv : (VRes G L' R').holds w' T) (hT : ∀ k, T k → k < w.heap.size → Mine S G L k) : ∃ S', StW b G S' L' R' F M w' := by
  obtain ⟨S0, h1, h2, h3, h4, h5⟩ := hv
  have hm : ∀ k, Mine S0 G L' k → k < w.heap.size → Mine S G L k := fun k hk => hT k ((h5 k).2 hk)
  refine ⟨S0, fun x hx => ⟨(h1 x hx).1, (h1 x hx).2, fun g e => ?_⟩, h2, h3, h4, ?_, ?_, h.chg.step hc fun i hi hs => h.mine i hs hi, fun k hk hlt => h.mine k (hm k hk (Nat.lt_of_lt_of_le hlt h.chg.size)) hlt, h.old⟩
  · rw [noneL_ok hg x hx] at e
    cases e
  · exact h.fact.past (D' := Dof b.X S0 G L') (hc.mono (D' := Dof b.X S G L) fun i _ hs => .inr hs) fun i hi hd => hd.imp id fun hd => hm i hd hi
  · exact h.fresh.past (D' := Nof b S0 G L') (hc.mono (D' := Nof b S G L) fun i _ hs => .inr hs) fun i hi hd => hd.imp id fun hd => hm i hd hi
/-- The record is written. -/
theorem StW.mark {l : Nat} {o : Loop} (o' : Loop) (h : StW b G S L (LoopR l o :: R) F M w) : ∃ S', StW b G S' L (LoopR l o' :: R) F M (w.putObj l (.loop o')) := by
  obtain ⟨S1, h1, h2⟩ := h.put (i := 0) rfl
  refine h2 (LoopR l o') _ (fun k => k = l) ((chg_putObj w l _).mono fun k _ hk => (h1.2 k).2 hk) ⟨World.putObj_heap_same (Array.getElem?_eq_some_iff.1 h1.1).1, fun _ => Iff.rfl⟩ fun k hk _ => (h1.2 k).2 hk
theorem StW.recd {l : Nat} {o : Loop} (h : StW b G S L (LoopR l o :: R) F M w) : w.heap[l]? = some (.loop o) := by
  obtain ⟨S1, h1, _⟩ := h.put (i := 0) rfl
  exact h1.1
end
/-- Ways out of a loop. -/
def jumpX : Option Nat → Exit
  | none => .ret
  | some id => .exit id
def jumpC : Option Nat → Code
  | none => .ret
  | some id => .exit id
/-- A loop's memory, its states aside. -/
def AnyR {σ : Type} (p : σ → Prop) (r : σ → Res) : Res where
  holds w S := ∃ s, p s ∧ (r s).holds w S
  keep := fun ⟨s, hp, h⟩ hk => ⟨s, hp, (r s).keep h hk⟩
  lt := fun ⟨s, _, h⟩ => (r s).lt h
section
variable {ds : List Deferred} {b : Base} {Q : Exit → Act → World → Prop} {N : Nat} {E : SE} {F M : World → Prop} {g : Operand} {k1 k2 : Tmp} {assign body : Code} {gf : FuncId} {lb : List Value} {α σ : Type}
/-- How a round is left. -/
def roundE (b1 : Base) (N : Nat) (G : Nat → Nat) (busy : Res) (Rd : Res) (I : σ → Prop) (Ix : Option Nat → σ → Prop) (Lf : σ → List LV) (Rf : σ → List Res) : Exit → Act → World → Prop
  | .normal, a, w => ∃ s, I s ∧ St b1 N ⟨[], withG G (Lf s), busy :: Rd :: Rf s, fun _ => True, fun _ => True⟩ a w
  | .ret, a, w => ∃ s, Ix none s ∧ St b1 N ⟨[], withG G (Lf s), busy :: Rd :: Rf s, fun _ => True, fun _ => True⟩ a w
  | .exit id, a, w => ∃ s, Ix (some id) s ∧ St b1 N ⟨[], withG G (Lf s), busy :: Rd :: Rf s, fun _ => True, fun _ => True⟩ a w
  | _, _, _ => False
instance {b1 : Base} {G : Nat → Nat} {busy Rd : Res} {I : σ → Prop} {Ix : Option Nat → σ → Prop} {Lf : σ → List LV} {Rf : σ → List Res} : NoOut (roundE b1 N G busy Rd I Ix Lf Rf) := ⟨fun _ _ h => h⟩
theorem k_rnd {b1 : Base} {G : Nat → Nat} {busy Rd : Res} {I : σ → Prop} {Ix : Option Nat → σ → Prop} {Lf : σ → List LV} {Rf : σ → List Res} {e : Env} (s : σ) (hI : I s) (hw : Weak e ⟨[], withG G (Lf s), busy :: Rd :: Rf s, fun _ => True, fun _ => True⟩) : kS b1 (roundE b1 N G busy Rd I Ix Lf Rf .normal) N e := fun _ _ hs => ⟨s, hI, hs.weak hw⟩
theorem k_jump {b1 : Base} {G : Nat → Nat} {busy Rd : Res} {I : σ → Prop} {Ix : Option Nat → σ → Prop} {Lf : σ → List LV} {Rf : σ → List Res} {e : Env} (c : Option Nat) (s : σ) (hI : Ix c s) (hw : Weak e ⟨[], withG G (Lf s), busy :: Rd :: Rf s, fun _ => True, fun _ => True⟩) : kS b1 (roundE b1 N G busy Rd I Ix Lf Rf (jumpX c)) N e := fun _ _ hs => by
  cases c <;> exact ⟨s, hI, hs.weak hw⟩
/-- **for k, v := range f { .. }** -/
theorem d_range (xs : List α) (vk vv : α → SQ) (Lf : σ → List LV) (Rf : σ → List Res) (I : Nat → σ → Prop) (Ix : Option Nat → σ → Prop) (s0 : σ) (Fi : World → Prop)
    (hg : evS E g = some (.v (.func (.func gf) #[] lb.toArray))) (hf : Own gf) (hnone : ∀ s, noneL (Lf s) = true) (hok : ∀ x ∈ xs, (vk x).Ok ∧ (vv x).Ok) (hk1 : Nat.blt k1 N = true) (hk2 : Nat.blt k2 N = true)
    (hFi : ∀ w, F w → M w → Fi w)
    (hseq : ∀ (l : Nat) (Fy : World → Prop) (JR : Nat → Res) (JX : Res), (∀ (j : Nat) (x : α), xs[j]? = some x → YSpec l [(vk x).den, (vv x).den] Fy (JR j) (JR (j + 1)) JX) → Spec gf (.func (.yield l) #[] #[] :: lb) [JR 0] (fun w => Fi w ∧ Fy w) (epost (JR xs.length) JX))
    (h0 : I 0 s0)
    (hround : ∀ (G : Nat → Nat) (l D m : Nat) (ready busy : Loop) (b1 : Base) (j : Nat) (s : σ) (x : α), I j s → xs[j]? = some x → ∀ K : Act → World → Prop,
      (∀ E' L' R' F' M', rS (some l) m b1 body (roundE b1 N G (LoopR l busy) (DefR D) (I (j + 1)) Ix Lf Rf) N ⟨E', L', LoopR l busy :: R', F', M'⟩ → kS b1 K N ⟨E', L', LoopR l ready :: R', F', M'⟩) →
      rS (some l) m b1 assign (Exit.then K fun _ _ _ => False) N ⟨(k2, .q (vv x)) :: (k1, .q (vk x)) :: E, withG G (Lf s), LoopR l ready :: DefR D :: Rf s, fun w => F w ∧ M w, fun _ => True⟩)
    (hdone : ∀ s D, I xs.length s → kD (dD D :: ds) b (Q .normal) N ⟨E, Lf s, DefR D :: Rf s, F, M⟩)
    (hstop : ∀ c s D, Ix c s → dS (dD D :: ds) b (jumpC c) Q N ⟨E, Lf s, DefR D :: Rf s, F, M⟩) : dS ds b (.rangeFunc g #[k1, k2] assign body) Q N ⟨E, Lf s0, Rf s0, F, M⟩ := fun a w hs => by
  obtain ⟨G, S, hfr, hE, hW⟩ := hs
  refine (wpIn_wide (n := 0)).1 (wpIn_rangeFunc ?_)
  intro fn _
  obtain ⟨rec, hrec⟩ : ∃ rec : LoopState → Option Code → Loop, rec = fun st pe => { state := st, pending := pe, fn, tmps := a.tmps, params := #[k1, k2], assign, body, defers := w.heap.size } := ⟨_, rfl⟩
  have hpe : ∀ st pe, (rec st pe).pending = pe := fun st pe => by rw [hrec]
  obtain ⟨w1, hw1⟩ : ∃ w1, (w.alloc (.deferred (some []))).alloc (.loop (rec .ready none)) = w1 := ⟨_, rfl⟩
  obtain ⟨l, hl⟩ : ∃ l, w.heap.size + 1 = l := ⟨_, rfl⟩
  obtain ⟨D, hD⟩ : ∃ D, w.heap.size = D := ⟨_, rfl⟩
  -- the two blocks of book-keeping
  have hSt1 : ∃ S1, StW b G S1 (Lf s0) (LoopR l (rec .ready none) :: DefR D :: Rf s0) F M w1 := by
    obtain ⟨S2, h2⟩ := hW.gain (w' := w.alloc (.deferred (some []))) ((Below.refl _ w).alloc (Nat.le_refl _) _) (r := DefR D) (S' := fun k => k = D) ⟨by rw [← hD]; exact World.alloc_heap_new w _, fun _ => Iff.rfl⟩ fun k hk => by omega
    obtain ⟨S3, h3⟩ := h2.gain (w' := w1) (by rw [← hw1]; exact (Below.refl _ _).alloc (Nat.le_refl _) _) (r := LoopR l (rec .ready none)) (S' := fun k => k = l) ⟨by
      rw [← hw1, ← hl]
      have := World.alloc_heap_new (w.alloc (.deferred (some []))) (.loop (rec .ready none))
      rwa [World.size_alloc] at this, fun _ => Iff.rfl⟩ fun k hk => by rw [World.size_alloc]; omega
    exact ⟨S3, h3⟩
  obtain ⟨S1, hW1⟩ := hSt1
  refine ⟨l, [dD D], w1, { target := .fn (.func gf) lb.toArray, args := #[.func (.yield l) #[] #[]] }, w1, gf, #[.func (.yield l) #[] #[]] ++ lb.toArray, w1, ?_, ?_, fun _ _ => trivial, ?_, fun h => (by cases h), ?_⟩
  · rw [← hw1, hrec, ← hl, ← hD]
    exact run_enterLoop_outer _ _ _ _ _
  · have e : (withD ds a).eval g = .func (.func gf) #[] lb.toArray := hfr.eval (evS_ok hg)
    simp only [resolve, e]
    simp [go_sem]
  · simp [invoke, go_sem]
    exact hf _ w1
  -- the iterator
  let JR : Nat → Res := fun j => AnyR (I j) fun s => VRes G (Lf s) (LoopR l (rec .ready none) :: DefR D :: Rf s)
  let JX : Res := AnyR (fun x : Option Nat × σ => Ix x.1 x.2) fun x => VRes G (Lf x.2) (LoopR l (rec .done (some (jumpC x.1))) :: DefR D :: Rf x.2)
  have hy : ∀ (j : Nat) (x : α), xs[j]? = some x → YSpec l [(vk x).den, (vv x).den] (fun w => F w ∧ M w) (JR j) (JR (j + 1)) JX := by
    rintro j x hj w2 S2 ⟨s, hI, hv⟩ hF2 m
    obtain ⟨S3, h3⟩ := StW.ofV hv hF2
    have hy : (Instr.yield l [(vk x).den, (vv x).den].toArray).run Tryd.prog w2 = .ok (.round l fn ((a.tmps.setIfInBounds k1 (vk x).den).setIfInBounds k2 (vv x).den) assign body) w2 := by
      have hy := run_yield (P := Tryd.prog) (args := [(vk x).den, (vv x).den].toArray) h3.recd (by rw [hrec]; rfl)
      rw [hrec] at hy
      simpa using hy
    refine ⟨fn, _, assign, body, hy, roundIn_of_wpIn trivial ?_⟩
    refine hround G l D m (rec .ready none) (rec .busy none) ⟨fun _ => False, w2, S2⟩ j s x hI hj _ ?_ _ _ ⟨G, S3, ?_, ?_, h3⟩
    · rintro E' L' R' F' M' hb a3 w3 ⟨G4, S4, h41, h42, h43⟩
      refine ⟨_, run_beginRound h43.recd (by rw [hrec]), ?_⟩
      obtain ⟨S5, h5⟩ := h43.mark (rec .busy none)
      have h6 := hb a3 _ ⟨G4, S5, h41, h42, h5⟩
      have eb : ({ rec .ready none with state := .busy } : Loop) = rec .busy none := by rw [hrec]
      rw [eb]
      refine wpIn_mono h6 ?_
      have fin : ∀ (c : Option Code) (a4 : Act) (w4 : World) (s' : σ), St ⟨fun _ => False, w2, S2⟩ N ⟨[], withG G (Lf s'), LoopR l (rec .busy none) :: DefR D :: Rf s', fun _ => True, fun _ => True⟩ a4 w4 →
          ∃ w5 S5, (Instr.endRound l c).run Tryd.prog w4 = .ok (.bool c.isNone) w5 ∧ Chg S2 w2 w5 ∧ (VRes G (Lf s') (LoopR l (rec (if c.isNone then .ready else .done) c) :: DefR D :: Rf s')).holds w5 S5 ∧ ∀ k, S5 k → k < w2.heap.size → S2 k := by
        rintro c a4 w4 s' ⟨G7, S7, _, _, h7⟩
        obtain ⟨S8, h8⟩ := h7.mark (rec (if c.isNone then .ready else .done) c)
        have hr := run_endRound (P := Tryd.prog) c h7.recd
        have eb : ({ rec .busy none with state := if c.isNone then .ready else .done, pending := c } : Loop) = rec (if c.isNone then .ready else .done) c := by rw [hrec]
        rw [eb] at hr
        obtain ⟨h9, h10⟩ := h8.toVG
        exact ⟨_, _, hr, h8.chg, h9, fun k hk hlt => h8.mine k ((h10 k).1 hk) hlt⟩
      rintro e a4 w4 hp
      cases e with
      | normal =>
        obtain ⟨s', hI', hs'⟩ := hp
        obtain ⟨w5, S5, hr, hc, hv, hS⟩ := fin none a4 w4 s' hs'
        exact ⟨_, _, hr, true, S5, rfl, hc, ⟨s', hI', hv⟩, hS⟩
      | ret =>
        obtain ⟨s', hI', hs'⟩ := hp
        obtain ⟨w5, S5, hr, hc, hv, hS⟩ := fin (some .ret) a4 w4 s' hs'
        exact ⟨_, _, hr, false, S5, rfl, hc, ⟨(none, s'), hI', hv⟩, hS⟩
      | exit id =>
        obtain ⟨s', hI', hs'⟩ := hp
        obtain ⟨w5, S5, hr, hc, hv, hS⟩ := fin (some (.exit id)) a4 w4 s' hs'
        exact ⟨_, _, hr, false, S5, rfl, hc, ⟨(some id, s'), hI', hv⟩, hS⟩
      | _ => exact hp.elim
    · have hf0 : Fr N (denE G E) { tmps := a.tmps, defers := [] } := by
        have e : ({ tmps := a.tmps, defers := [] } : Act) = a := by
          have := hfr.defers
          cases a
          simp only at this
          rw [this]
        rw [e]
        exact hfr
      exact (hf0.put hk1 (vk x).den).put hk2 (vv x).den
    · exact (hE.cons (v := .q (vk x)) (hok x (List.mem_of_getElem? hj)).1).cons (v := .q (vv x)) (hok x (List.mem_of_getElem? hj)).2
  have hcall := hseq l (fun w => F w ∧ M w) JR JX hy w1 (Mine S1 G (Lf s0)) (fun _ => False) (star1.2 ⟨s0, h0, hW1.toV⟩) (fun _ h => h.elim) ((hW1.all.imp fun w hw => ⟨hFi w hw.1 hw.2, hw⟩).less fun k _ hk => .inr (hk.elim False.elim id))
  have e : (.func (.yield l) #[] #[] :: lb).toArray = #[.func (.yield l) #[] #[]] ++ lb.toArray := by simp
  rw [e] at hcall
  refine (calls_in (ro := none) (n := 0 - 1) hcall).mono ?_
  have ea : ({ withD ds a with defers := [dD D] ++ (withD ds a).defers } : Act) = withD (dD D :: ds) a := by
    have := hfr.defers
    cases a
    simp only at this
    subst this
    rfl
  rw [ea]
  rintro e w2 ⟨t, S2, rfl, _, hc2, h2, hS2, _, _⟩
  have h2 := star1.1 h2
  cases t with
  | true =>
    obtain ⟨s, hI, hv⟩ := h2
    obtain ⟨S3, h3⟩ := hW1.back (hnone s) hc2 hv hS2
    have hr := run_endLoop (P := Tryd.prog) h3.recd (by rw [hrec]; simp)
    obtain ⟨S4, h4⟩ := StW.drop (D := l) h3 (fun S1 hS => (hS.2 l).2 rfl) (chg_putObj w2 l (.loop (rec .exhausted none)))
    have eb : ({ rec .ready none with state := .exhausted } : Loop) = rec .exhausted none := by rw [hrec]
    rw [eb, hpe] at hr
    exact ⟨_, _, hr, hdone s D hI a _ ⟨G, S4, hfr, hE, h4⟩⟩
  | false =>
    obtain ⟨⟨c, s⟩, hI, hv⟩ := h2
    obtain ⟨S3, h3⟩ := hW1.back (hnone s) hc2 hv hS2
    have hr := run_endLoop (P := Tryd.prog) h3.recd (by rw [hrec]; simp)
    obtain ⟨S4, h4⟩ := StW.drop (D := l) h3 (fun S1 hS => (hS.2 l).2 rfl) (chg_putObj w2 l (.loop (rec .exhausted (some (jumpC c)))))
    have eb : ({ rec .done (some (jumpC c)) with state := .exhausted } : Loop) = rec .exhausted (some (jumpC c)) := by rw [hrec]
    rw [eb, hpe] at hr
    exact ⟨_, _, hr, (wpIn_wide (n := 0)).2 (hstop c s D hI a _ ⟨G, S4, hfr, hE, h4⟩)⟩
end
end Go.Proofs.YtlaikmpnijlcbaaDoor
/-
  PLAIN NUMBERS: digests reckoned by the kernel: each word once. No program is imported.
-/
namespace Nums

/-- The words so far, the last one first. -/
def xsl (s : Sha) (b : List UInt8) : Nat → List Nat
  | 0 => []
  | t + 1 => sx s b t :: xsl s b t
theorem xsl_len (s : Sha) (b : List UInt8) : ∀ t, (xsl s b t).length = t
  | 0 => rfl
  | t + 1 => by rw [xsl, List.length_cons, xsl_len]
theorem xsl_at (s : Sha) (b : List UInt8) : ∀ t j, j < t → (xsl s b t)[j]! = sx s b (t - 1 - j)
  | 0, _, h => absurd h (by omega)
  | t + 1, 0, _ => by
    show (sx s b t :: xsl s b t)[0]! = _
    rw [Nat.add_sub_cancel, Nat.sub_zero]
    rfl
  | t + 1, j + 1, h => by
    show (sx s b t :: xsl s b t)[j + 1]! = _
    have e : (sx s b t :: xsl s b t)[j + 1]! = (xsl s b t)[j]! := by simp
    rw [e, xsl_at s b t j (by omega)]
    congr 1
    omega
def firstF (s : Sha) (b : List UInt8) : Nat → List Nat
  | 0 => []
  | t + 1 => forced (bword s b t) fun v => v :: firstF s b t
theorem firstF_eq (s : Sha) (b : List UInt8) : ∀ t, t ≤ 16 → firstF s b t = xsl s b t
  | 0, _ => rfl
  | t + 1, h => by
    have e : sx s b t = bword s b t := by rw [sx, dif_pos (by omega)]
    rw [firstF, forced_eq, xsl, firstF_eq s b t (by omega), e]
def grow (s : Sha) : Nat → List Nat → List Nat
  | 0, L => L
  | k + 1, L => forced ((loww s.w s.low1 L[1]! + L[6]! + loww s.w s.low0 L[14]! + L[15]!) % 2 ^ s.w) fun v => grow s k (v :: L)
theorem grow_eq (s : Sha) (b : List UInt8) : ∀ k t, 16 ≤ t → grow s k (xsl s b t) = xsl s b (t + k)
  | 0, _, _ => rfl
  | k + 1, t, h => by
    have e : (loww s.w s.low1 (xsl s b t)[1]! + (xsl s b t)[6]! + loww s.w s.low0 (xsl s b t)[14]! + (xsl s b t)[15]!) % 2 ^ s.w = sx s b t := by
      rw [xsl_at s b t 1 (by omega), xsl_at s b t 6 (by omega), xsl_at s b t 14 (by omega), xsl_at s b t 15 (by omega)]
      conv => rhs; rw [sx, dif_neg (by omega)]
      rw [show t - 1 - 1 = t - 2 from by omega, show t - 1 - 6 = t - 7 from by omega, show t - 1 - 14 = t - 15 from by omega, show t - 1 - 15 = t - 16 from by omega]
    rw [grow, forced_eq, e]
    have h2 := grow_eq s b k (t + 1) (by omega)
    rw [xsl] at h2
    rw [h2]
    congr 1
    omega
/-- The rounds over words in their order, from number t on. -/
def rndF (s : Sha) : List Nat → Nat → Oct → Oct
  | [], _, o => o
  | x :: r, t, o => forced (t1w s (s.k t) x o) fun T => forced ((T + t2w s o) % 2 ^ s.w) fun A => forced ((o.d + T) % 2 ^ s.w) fun E => rndF s r (t + 1) ⟨A, o.a, o.b, o.c, E, o.e, o.f, o.g⟩
theorem rndF_eq (s : Sha) (b : List UInt8) (o : Oct) : ∀ (l : List Nat) (t : Nat), (∀ j x, l[j]? = some x → x = sx s b (t + j)) → rndF s l t (rnds s b o t) = rnds s b o (t + l.length)
  | [], _, _ => rfl
  | x :: r, t, h => by
    have hx := h 0 x rfl
    rw [Nat.add_zero] at hx
    subst hx
    rw [rndF]
    simp only [forced_eq]
    have h2 := rndF_eq s b o r (t + 1) (fun j x hj => by rw [h (j + 1) x (by simpa using hj)]; congr 1; omega)
    rw [show rnds s b o (t + 1) = rnd s (s.k t) (sx s b t) (rnds s b o t) from rfl] at h2
    rw [show t + (sx s b t :: r).length = t + 1 + r.length from by rw [List.length_cons]; omega, ← h2]
    rfl
def add8F (w : Nat) (o q : Oct) : Oct :=
  forced ((o.a + q.a) % 2 ^ w) fun a => forced ((o.b + q.b) % 2 ^ w) fun b => forced ((o.c + q.c) % 2 ^ w) fun c => forced ((o.d + q.d) % 2 ^ w) fun d =>
  forced ((o.e + q.e) % 2 ^ w) fun e => forced ((o.f + q.f) % 2 ^ w) fun f => forced ((o.g + q.g) % 2 ^ w) fun g => forced ((o.h + q.h) % 2 ^ w) fun h => ⟨a, b, c, d, e, f, g, h⟩
theorem add8F_eq (w : Nat) (o q : Oct) : add8F w o q = add8 w o q := by
  unfold add8F
  simp only [forced_eq]
  rfl
def turnF (s : Sha) (o : Oct) (b : List UInt8) : Oct := add8F s.w o (rndF s (grow s (s.n - 16) (firstF s b 16)).reverse 0 o)
theorem turnF_eq {s : Sha} (hn : 16 ≤ s.n) (o : Oct) (b : List UInt8) : turnF s o b = turnw s o b := by
  rw [turnF, add8F_eq, turnw, firstF_eq s b 16 (Nat.le_refl _), grow_eq s b _ 16 (Nat.le_refl _), show 16 + (s.n - 16) = s.n from by omega]
  congr 1
  have h := rndF_eq s b o (xsl s b s.n).reverse 0 (fun j x hj => by
    have hl : j < (xsl s b s.n).reverse.length := (List.getElem?_eq_some_iff.1 hj).1
    rw [List.length_reverse, xsl_len] at hl
    rw [List.getElem?_reverse (by rw [xsl_len]; exact hl), xsl_len] at hj
    have h1 := xsl_at s b s.n (s.n - 1 - j) (by omega)
    rw [List.getElem!_eq_getElem?_getD, hj] at h1
    rw [show 0 + j = s.n - 1 - (s.n - 1 - j) from by omega, ← h1]
    rfl)
  rw [List.length_reverse, xsl_len, Nat.zero_add] at h
  exact h
def runF (s : Sha) (B : Nat) : Nat → Oct → List UInt8 → Oct
  | 0, o, _ => o
  | k + 1, o, l => runF s B k (turnF s o (l.take B)) (l.drop B)
theorem runF_eq {s : Sha} {B : Nat} (hB : 0 < B) (hn : 16 ≤ s.n) : ∀ k o l, l.length = k * B → runF s B k o l = runw s B o l
  | 0, o, l, h => by
    have h0 : l = [] := List.eq_nil_of_length_eq_zero (by omega)
    subst h0
    rw [runF, runw_short (by simpa using hB)]
  | k + 1, o, l, h => by
    have hl : (l.take B).length = B := by rw [List.length_take, h, Nat.add_mul]; omega
    have hd : (l.drop B).length = k * B := by rw [List.length_drop, h, Nat.add_mul]; omega
    rw [runF, turnF_eq hn, runF_eq hB hn k _ _ hd]
    conv => rhs; rw [← List.take_append_drop B l, runw_block hB hl]
/-- The digest, reckoned; n blocks. -/
def digestF (s : Sha) (n : Nat) (m : List UInt8) : List UInt8 :=
  ((runF s (2 * s.w) n ⟨s.start[0]!, s.start[1]!, s.start[2]!, s.start[3]!, s.start[4]!, s.start[5]!, s.start[6]!, s.start[7]!⟩ (m ++ tailw (2 * s.w) (m.length % (2 * s.w)) (8 * m.length))).list.map (layw s)).flatten
theorem digest_eq {s : Sha} (n : Nat) (m : List UInt8) (hw : 0 < 2 * s.w) (hn : 16 ≤ s.n) (h : (m ++ tailw (2 * s.w) (m.length % (2 * s.w)) (8 * m.length)).length = n * (2 * s.w)) : digest s m = digestF s n m := by
  rw [digest, sumw, digestF, runF_eq hw hn n _ _ h]
end Nums
/-
  THE TREE'S LAWS: what must be answered first.
-/
namespace Go.Proofs.YtlaikmpnijlcbaaDoor
open Go.RowKit Go.IntWalk Nums

theorem own_tfirst : Own 8 := fun _ _ => by go_simp
/-- A hash that begins with a byte. -/
def hhT (v : UInt8) : List UInt8 := v :: List.replicate 31 0
theorem hhT_len (v : UInt8) : (hhT v).length = 32 := rfl
theorem built_hh (v : Int) : Tryd.prog.built 30 [(0, .int .u8 v)] = some (#[.int .u8 v] ++ (By (List.replicate 31 0)).toArray) := by kernel_rfl
set_option maxRecDepth 100000 in
theorem run_hh {N : Nat} {E : SE} {o : Oper} {n : Int} (v : UInt8) {k : List UInt8} (hv : hhT v = k) (ho : o.op = .build 30 #[(0, .const (.int .u8 n))]) (hn : n = (v.toNat : Int)) :
    ∀ (G : Nat → Nat) (a : Act) (w : World), Fr N (denE G E) a → (execOp a.eval o).run Tryd.prog w = .ok (.value ((SV.q (eY 32 k)).den G)) w := fun G a w _ => by
  subst hv
  subst hn
  unfold execOp
  have h : Tryd.prog.built 30 (Array.map (fun x : Nat × Operand => (x.1, a.eval x.2)) #[(0, .const (.int .u8 (v.toNat : Int)))]).toList = some (#[.int .u8 (v.toNat : Int)] ++ (By (List.replicate 31 0)).toArray) := by
    rw [Array.toList_map]
    exact built_hh (v.toNat : Int)
  simp only [ho, Sem.run_bind, run_build w 30 _ _ h, Result.andThen_ok, Sem.run_pure]
  have e : #[Value.int .u8 (v.toNat : Int)] ++ (By (List.replicate 31 0)).toArray = (By (hhT v)).toArray := by
    generalize hr : List.replicate 31 (0 : UInt8) = l
    rw [hhT, hr]
    simp [By]
  rw [e]
  rfl
/-- Trees at the top. -/
theorem tPut0 {l : List PairT} {t : TA} {p : PairT} (hp : OkT2 p) (ht : TOk 256 l t) (hs : SortT l) (hk : KeysT l) (hl : l.length + 1 ≤ 1000000) :
    Spec 9 [(eTr t 0).den, (eY 32 p.1).den, (eY 32 p.2).den] [] (fun w => TF t w ∧ Tsh w) { ret := fun x : { t' : TA // TOk 256 (putT l p) t' } => .q (eTr x.1 0), own := fun _ => [], p := fun x => TF x.1 } :=
  tPut_S 256 l t p hp (Nat.le_refl _) ht hs hk (fun _ _ _ _ _ h => absurd h (Nat.not_lt_zero _)) hl
theorem first_root : leafT (hhT 1, hhT 2) ≠ z32T := by
  unfold leafT
  rw [digest_eq 2 _ (by decide) (by decide) (by decide +kernel)]
  decide +kernel
set_option maxRecDepth 100000 in
set_option maxHeartbeats 1000000 in
theorem tfirst_S : Spec 8 [] [] Tsh (one (.v (.bool true))) := by
  refine spec_S [] 38 Tryd.func8 rfl (by rw [Tryd.ntmps8]; rfl) (fun _ h => by cases h) fun b => ?_
  have hne := first_root
  have hl1 := hhT_len 1
  have hl2 := hhT_len 2
  obtain ⟨k1, hk1⟩ : ∃ k, hhT 1 = k := ⟨_, rfl⟩
  obtain ⟨k2, hk2⟩ : ∃ k, hhT 2 = k := ⟨_, rfl⟩
  rw [hk1, hk2] at hne
  rw [hk1] at hl1
  rw [hk2] at hl2
  have hp : OkT2 (k1, k2) := ⟨hl1, hl2⟩
  refine s_auto TY_ok rfl ?_
  refine s_auto TY_ok rfl ?_
  refine s_regA TY_ok rfl fun K hK => ?_
  refine l_op (.q (eY 32 (k1))) (eY_ok hl1).1 rfl rfl rfl (run_hh 1 hk1 rfl rfl) ?_
  refine l_op (.q (eY 32 (k2))) (eY_ok hl2).1 rfl rfl rfl (run_hh 2 hk2 rfl rfl) ?_
  have hput := tPut0 (l := []) (t := .nil) hp (TOk.nil rfl) List.Pairwise.nil (fun _ h => by cases h) (by decide)
  refine l_call0 [(eTr .nil 0).den, (eY 32 k1).den, (eY 32 k2).den] rfl rfl rfl own_tPut rfl rfl (fun _ _ => rfl) hput (fun _ h _ => ⟨trivial, h⟩) fun x => ?_
  obtain ⟨t, ht⟩ := x
  refine l_autoS TY_ok rfl ?_
  refine s_end (hK _ ?_)
  have hs : SortT [(k1, k2)] := List.pairwise_singleton _ _
  have hg : getT [(k1, k2)] (k1) = some (k2) := by simp [getT]
  have hget := tGet_S 256 [(k1, k2)] t (k := k1) hl1 (Nat.le_refl _) ht hs
  rw [hg] at hget
  have hroot : t.root = leafT (k1, k2) := (TOk.root ht).trans (rootT_one _ _)
  have hlen : t.len = 1 := TOk.len ht
  refine s_regA TY_ok rfl fun K2 hK2 => ?_
  refine l_op (.q (eY 32 k1)) (eY_ok hl1).1 rfl rfl rfl (run_hh 1 hk1 rfl rfl) ?_
  refine l_call0 [(eTr t 0).den, (eY 32 (k1)).den] rfl rfl rfl own_tGet rfl rfl (fun _ _ => rfl) hget (fun _ h _ => h.1) fun _ => ?_
  refine l_autoS TY_ok rfl ?_
  refine s_end (hK2 _ ?_)
  refine s_regA TY_ok rfl fun K3 hK3 => ?_
  refine l_call0 [(eTr .nil 0).den] rfl rfl rfl own_tRoot rfl rfl (fun _ _ => rfl) (tRoot_S .nil 0) (fun _ _ _ => trivial) fun _ => ?_
  refine l_autoS TY_ok rfl ?_
  refine l_op (.b (decide (z32T = z32T))) trivial rfl rfl rfl (run_eqY rfl rfl rfl Tryd.underlying30 (by kernel_rfl) rfl rfl) ?_
  refine l_is 18 true rfl (by simp) ?_
  refine l_autoS TY_ok rfl ?_
  refine l_call0 [(eTr t 0).den] rfl rfl rfl own_tRoot rfl rfl (fun _ _ => rfl) (tRoot_S t 0) (fun _ h _ => h.2.2.1) fun _ => ?_
  refine l_autoS TY_ok rfl ?_
  refine l_op (.b (!decide (t.root = z32T))) trivial rfl rfl rfl (run_neqY rfl rfl rfl Tryd.underlying30 (by kernel_rfl) t.root_len rfl) ?_
  refine l_is 23 true rfl (by rw [hroot]; simp [hne]) ?_
  refine l_autoS TY_ok rfl ?_
  refine l_op (.q (eY 32 (k2))) (eY_ok hl2).1 rfl rfl rfl (run_hh 2 hk2 rfl rfl) ?_
  refine l_autoS TY_ok rfl ?_
  refine l_op (.b (decide (k2 = k2))) trivial rfl rfl rfl (run_eqY rfl rfl rfl Tryd.underlying30 (by kernel_rfl) hl2 hl2) ?_
  refine l_is 28 true rfl (by simp) ?_
  refine l_autoS TY_ok rfl ?_
  refine l_call0 [(eTr t 0).den] rfl rfl rfl own_tLen rfl rfl (fun _ _ => rfl) (tLen_S t 0) (fun _ h _ => h.2.2.2.1) fun _ => ?_
  refine l_num 35 1 rfl (by rw [hlen]; rfl) ?_
  refine l_autoS TY_ok rfl ?_
  refine s_end (hK3 _ ?_)
  exact s_ret (k_retD TY_ok () rfl (by decide) rfl rfl trivial rfl (fun _ _ _ => trivial) (fun _ _ => trivial))
end Go.Proofs.YtlaikmpnijlcbaaDoor
/-
  TREEORDER: in which order pairs come counts for nothing.
-/
namespace Go.Proofs.YtlaikmpnijlcbaaDoor
open Go.RowKit Go.IntWalk Nums

/-! ### Plain -/
theorem putT_last : ∀ {l : List PairT} {p : PairT}, (∀ q ∈ l, lessT q.1 p.1 = true) → putT l p = l ++ [p]
  | [], _, _ => rfl
  | q :: l, p, h => by
    unfold putT
    rw [if_pos (h q List.mem_cons_self), putT_last fun x hx => h x (List.mem_cons_of_mem _ hx)]
    rfl
theorem putT_head {l : List PairT} {p : PairT} (h : ∀ q ∈ l, lessT p.1 q.1 = true) : putT l p = p :: l := by
  cases l with
  | nil => rfl
  | cons q l =>
    have h1 := h q List.mem_cons_self
    unfold putT
    rw [if_neg (by rw [lessT_asymm h1]; decide), if_neg fun e => by rw [e, lessT_irrefl] at h1; cases h1]
theorem putT_take {l : List PairT} {p : PairT} {i : Nat} (hs : SortT l) (hi : l[i]? = some p) : putT (l.take i) p = l.take (i + 1) := by
  have hlt := (List.getElem?_eq_some_iff.1 hi).1
  have e : l.take (i + 1) = l.take i ++ [p] := by rw [List.take_add_one, hi]; rfl
  rw [e]
  refine putT_last fun q hq => ?_
  have h2 : SortT (l.take (i + 1)) := List.Pairwise.sublist (List.take_sublist _ _) hs
  rw [e] at h2
  exact (List.pairwise_append.1 h2).2.2 q hq p (List.mem_singleton.2 rfl)
theorem drop_at {l : List PairT} {p : PairT} {i : Nat} (hi : l[i]? = some p) : l.drop i = p :: l.drop (i + 1) := by
  have hlt := (List.getElem?_eq_some_iff.1 hi).1
  rw [List.drop_eq_getElem_cons hlt, (List.getElem?_eq_some_iff.1 hi).2]
theorem putT_drop {l : List PairT} {p : PairT} {i : Nat} (hs : SortT l) (hi : l[i]? = some p) : putT (l.drop (i + 1)) p = l.drop i := by
  rw [drop_at hi]
  refine putT_head fun q hq => ?_
  have h2 : SortT (l.drop i) := List.Pairwise.sublist (List.drop_sublist _ _) hs
  rw [drop_at hi] at h2
  exact (SortT.cons.1 h2).1 q hq

/-! ### Reading pairs -/
theorem rd_key {g o c i : Nat} {l : List PairT} {p : PairT} {w : World} (h : Rd 64 eP (some ⟨g, o, none⟩) c l w) (hi : l[i]? = some p) (hp : OkT2 p) : w.rangeAt g (o + 64 * i + 0) (By p.1) ∧ w.rangeAt g (o + 64 * i + 32) (By p.2) := by
  obtain ⟨_, _, _, _, h5⟩ := h
  obtain ⟨b', o', e, hb, hr⟩ := h5 (Nat.lt_of_le_of_lt (Nat.zero_le _) (List.getElem?_eq_some_iff.1 hi).1)
  injection e with e
  injection e with e1 e2
  subst e1
  subst e2
  have hr := hr i p hi
  rw [eP_cl] at hr
  refine ⟨range_in (A := []) (B := By p.1) (Z := By p.2) hr rfl, ?_⟩
  have hl1 : (By p.1).length = 32 := by rw [By_len]; exact hp.1
  have := range_in (A := By p.1) (B := By p.2) (Z := []) hr (by simp)
  rwa [hl1] at this
theorem runO_key {N : Nat} {E : SE} {o : Oper} {x : Operand} {g off : Nat} {k : List UInt8} {w : World} (ho : o.op = .load 30 x) (hx : evS E x = some (.v (.pointer (some ⟨g, off, none⟩)))) (hk : k.length = 32) (h : w.rangeAt g off (By k)) :
    ∀ (G : Nat → Nat) (a : Act), Fr N (denE G E) a → (execOp a.eval o).run Tryd.prog w = .ok (.value ((SV.q (eY 32 k)).den G)) w := fun G a ha => by
  have h1 : a.eval x = .pointer (some ⟨g, off, none⟩) := ha.eval (evS_ok hx)
  have h3 := run_load_row (P := Tryd.prog) (t := 30) (cs := (By k).toArray) Tryd.underlying30 rfl (size_hash _ (by rw [List.size_toArray, By_len, hk])) h
  unfold execOp
  simp only [ho, h1, Sem.run_bind, h3, Result.andThen_ok, Sem.run_pure]
  rfl
theorem putT_len_in : ∀ {l : List PairT} {p q : PairT}, SortT l → q ∈ l → q.1 = p.1 → (putT l p).length = l.length
  | [], _, _, _, h, _ => by cases h
  | x :: l, p, q, hs, h, e => by
    obtain ⟨h1, h2⟩ := SortT.cons.1 hs
    unfold putT
    by_cases hl : lessT x.1 p.1 = true
    · rw [if_pos hl]
      rcases List.mem_cons.1 h with rfl | h
      · rw [e, lessT_irrefl] at hl
        cases hl
      · rw [List.length_cons, List.length_cons, putT_len_in h2 h e]
    · rw [if_neg hl]
      by_cases hx : x.1 = p.1
      · rw [if_pos hx]
        rfl
      · rcases List.mem_cons.1 h with rfl | h
        · exact absurd e hx
        · have := h1 q h
          rw [e] at this
          exact absurd this hl
theorem own_torder : Own 4 := fun _ _ => by go_simp
set_option maxRecDepth 100000 in
set_option maxHeartbeats 4000000 in
theorem torder_S {A : Option Addr} {c : Nat} (l0 : List PairT) (f : Int) {v : List UInt8} (hv : v.length = 32) : Spec 4 [.slice A l0.length c, .int .i64 f, (eY 32 v).den] [] (fun w => Tsh w ∧ Rd 64 eP A c l0 w) (one (.v (.bool true))) := by
  refine spec_S [.c (.v (.slice A l0.length c)), .c (.v (.int .i64 f)), eY 32 v] 149 Tryd.func4 rfl (by rw [Tryd.ntmps4]; rfl) (more_ok trivial (two_ok trivial (eY_ok hv).1)) fun b => ?_
  have hl9 := hhT_len 9
  obtain ⟨k9, hk9⟩ : ∃ k, hhT 9 = k := ⟨_, rfl⟩
  rw [hk9] at hl9
  refine s_auto TY_ok rfl ?_
  refine s_seq fun K hK => ?_
  refine s_regA TY_ok rfl fun K1 hK1 => ?_
  refine l_call0 [] rfl rfl rfl own_tfirst rfl rfl (fun _ _ => rfl) tfirst_S (fun _ h _ => h.1) fun _ => ?_
  refine l_autoS TY_ok rfl ?_
  refine s_end (hK1 _ ?_)
  refine s_no rfl ?_
  refine s_skip (hK _ ?_)
  refine c_weak (e' := ⟨[(0, .v (.slice A l0.length c)), (1, .v (.int .i64 f)), (5, .a 5 0)], [⟨5, none, 30, [.agg 32 (By v).toArray]⟩], [], fun w => Tsh w ∧ Rd 64 eP A c l0 w, fun _ => True⟩) ⟨⟨rfl, rfl, rfl, trivial⟩, ⟨rfl, rfl, trivial⟩, .refl _, fun _ h _ => h.2, fun _ _ => trivial⟩ ?_
  refine s_pure (l0.length ≤ c ∧ (A = none → c = 0) ∧ ∀ x ∈ l0, OkT2 x) (fun _ h _ => ⟨h.2.1, h.2.2.2.1, fun x hx => eP_len (h.2.2.2.2.1 x hx).1⟩) fun ⟨hlc, hA, hok0⟩ => ?_
  refine s_regA TY_ok rfl fun K2 hK2 => ?_
  refine l_op (.v (.int .i64 ((min l0.length 25 : Nat) : Int))) trivial rfl rfl rfl (run_min rfl rfl rfl) ?_
  refine l_num 22 ((l0.take 25).length : Int) rfl (by rw [List.length_take, Nat.min_comm]) ?_
  refine l_autoS TY_ok rfl ?_
  refine s_end (hK2 _ ?_)
  have hl25 : (l0.take 25).length ≤ 25 := by rw [List.length_take]; exact Nat.min_le_left _ _
  have hlc2 : (l0.take 25).length ≤ c := by rw [List.length_take]; exact Nat.le_trans (Nat.min_le_right _ _) hlc
  have hok : ∀ x ∈ l0.take 25, OkT2 x := fun x hx => hok0 x (List.mem_of_mem_take hx)
  refine c_weak (e' := ⟨[(0, .v (.slice A l0.length c)), (1, .v (.int .i64 f)), (5, .a 5 0), (7, .v (.int .i64 ((l0.take 25).length : Int)))], [⟨5, none, 30, [.agg 32 (By v).toArray]⟩], [], fun w => Tsh w ∧ Rd 64 eP A c (l0.take 25) w, fun _ => True⟩) ⟨⟨rfl, rfl, rfl, rfl, trivial⟩, ⟨rfl, rfl, trivial⟩, .refl _, fun _ h _ => ⟨h.1, h.2.take 25⟩, fun _ _ => trivial⟩ ?_
  refine s_auto TY_ok rfl ?_
  refine s_seq fun K3 hK3 => ?_
  refine s_regA TY_ok rfl fun K4 hK4 => ?_
  refine l_op (.v (.slice A (l0.take 25).length c)) trivial rfl rfl rfl (run_cutHi (sz := 64) rfl hlc2 hA rfl Tryd.underlying22 rfl rfl) ?_
  generalize l0.take 25 = l at *
  refine l_autoS TY_ok rfl ?_
  refine s_end (hK4 _ ?_)
  refine s_block ?_
  let F : Nat × List PairT × Option Addr × Nat → Env := fun ⟨i, o, B, e⟩ => ⟨[(27, .v (.int .i64 (i : Int))), (26, .v (.int .i64 (l.length : Int))), (25, .v (.slice A l.length c)), (8, .v (.slice B o.length e)), (1, .v (.int .i64 f)), (5, .a 5 0)], [⟨5, none, 30, [.agg 32 (By v).toArray]⟩], [], fun w => Tsh w ∧ Rd 64 eP A c l w, fun w => Rd 64 eP B e o w⟩
  refine c_weak (e' := F (0, [], none, 0)) ⟨⟨rfl, rfl, rfl, rfl, rfl, rfl, trivial⟩, ⟨rfl, rfl, trivial⟩, .refl _, fun _ h _ => h, fun _ _ => Rd.nil _ _ _⟩ (s_loop (fun x => l.length - x.1) F (fun x => x.1 ≤ l.length ∧ SortT x.2.1 ∧ (∀ y ∈ x.2.1, OkT2 y) ∧ x.2.1.length ≤ x.1) ?_ (0, [], none, 0) ⟨Nat.zero_le _, List.Pairwise.nil, fun _ h => (by cases h), Nat.le_refl _⟩)
  rintro ⟨i, o, B, e⟩ ⟨hi, hs, ho, hlo⟩
  dsimp only at hi hs ho hlo
  have hk : KeysT o := fun x hx => (ho x hx).1
  refine s_auto TY_ok rfl ?_
  refine s_seq fun K5 hK5 => ?_
  refine s_ifD ((i : Int) < (l.length : Int)) rfl (fun hlt => ?_) (fun hge => ?_)
  · have hlt : i < l.length := by omega
    obtain ⟨x, hx⟩ : ∃ x, l[i]? = some x := ⟨_, List.getElem?_eq_getElem hlt⟩
    have hx2 := hok x (List.mem_of_getElem? hx)
    refine s_skip (hK5 _ ?_)
    refine s_seq fun K6 hK6 => ?_
    refine s_block ?_
    refine s_regA TY_ok rfl fun K7 hK7 => ?_
    refine l_elem TY_ok rfl rfl rfl i rfl hx rfl rfl (rd_fact fun _ h _ => h.2) ?_
    refine l_autoS TY_ok rfl ?_
    refine s_end (hK7 _ ?_)
    refine s_lit ?_
    refine l_autoS TY_ok rfl ?_
    refine l_call0 [.slice B o.length e, (eP x).den] rfl rfl rfl own_rput9 rfl rfl (fun _ _ => rfl) (rput_S o hx2 (by omega)) (fun _ _ h => h) fun ⟨B', e'⟩ => ?_
    refine l_autoS TY_ok rfl ?_
    refine s_end (hK6 _ ?_)
    refine s_autoE TY_ok rfl ?_
    exact k_next (i + 1, putT o x, B', e') ⟨hlt, putT_sort hs hk hx2.1, fun y hy => by
      rcases (putT_mem hs hk hx2.1 y).1 hy with rfl | h
      · exact hx2
      · exact ho y h.1, Nat.le_trans (putT_len o x).2 (Nat.succ_le_succ hlo)⟩ (by show l.length - (i + 1) < l.length - i; omega) ⟨⟨congrArg some (congrArg SV.v (congrArg (Value.int .i64) (wrapI rfl (by omega) (by omega)))), rfl, rfl, rfl, rfl, rfl, trivial⟩, ⟨rfl, rfl, trivial⟩, .refl _, fun _ h _ => h.2, fun _ h => h.1⟩
  obtain rfl : i = l.length := by omega
  refine s_exit (k_pass (k_pass (k_out ?_)))
  refine hK3 _ ?_
  have ho25 : o.length ≤ 25 := Nat.le_trans hlo hl25
  refine s_auto TY_ok rfl ?_
  refine s_seq fun K6 hK6 => ?_
  refine s_auto TY_ok rfl ?_
  refine s_block ?_
  let F2 : Nat × TA × TA → Env := fun ⟨i, a, z⟩ => ⟨[(37, .v (.int .i64 (i : Int))), (36, .v (.int .i64 (o.length : Int))), (8, .v (.slice B o.length e)), (11, .a 11 0), (12, .a 12 0), (1, .v (.int .i64 f)), (5, .a 5 0)], [⟨12, none, 27, trPs z 0⟩, ⟨11, none, 27, trPs a 0⟩, ⟨5, none, 30, [.agg 32 (By v).toArray]⟩], [], fun w => TF a w ∧ TF z w ∧ Tsh w, fun w => Rd 64 eP B e o w⟩
  refine c_weak (e' := F2 (0, .nil, .nil)) ⟨⟨rfl, rfl, rfl, rfl, rfl, rfl, rfl, trivial⟩, ⟨rfl, rfl, rfl, rfl, rfl, rfl, trivial⟩, .refl _, fun _ h _ => ⟨trivial, trivial, h.1⟩, fun _ h => h⟩ (s_loop (fun x => o.length - x.1) F2 (fun x => x.1 ≤ o.length ∧ TOk 256 (o.take x.1) x.2.1 ∧ TOk 256 (o.drop (o.length - x.1)) x.2.2) ?_ (0, .nil, .nil) ⟨Nat.zero_le _, TOk.nil rfl, TOk.nil (by simp)⟩)
  clear hlo hi hok0 hK hK1 hK2 hK3 hK4 hK5
  rintro ⟨i, a, z⟩ ⟨hi, ha, hz⟩
  dsimp only at hi ha hz
  refine s_auto TY_ok rfl ?_
  refine s_seq fun K5 hK5 => ?_
  refine s_ifD ((i : Int) < (o.length : Int)) rfl (fun hlt => ?_) (fun hge => ?_)
  · have hlt : i < o.length := by omega
    obtain ⟨p, hp0⟩ : ∃ x, o[i]? = some x := ⟨_, List.getElem?_eq_getElem hlt⟩
    have hp := ho p (List.mem_of_getElem? hp0)
    obtain ⟨j, hjd⟩ : ∃ j, j = o.length - 1 - i := ⟨_, rfl⟩
    have hj : j < o.length := by omega
    obtain ⟨pj, hpj0⟩ : ∃ x, o[j]? = some x := ⟨_, List.getElem?_eq_getElem hj⟩
    have hpj := ho pj (List.mem_of_getElem? hpj0)
    refine s_pure (∃ g o0, B = some ⟨g, o0, none⟩) (fun _ _ h => by
      obtain ⟨g, o0, e, _⟩ := h.2.2.2.2 (by omega)
      exact ⟨g, o0, e⟩) fun ⟨g, o0, hB⟩ => ?_
    subst hB
    refine s_skip (hK5 _ ?_)
    refine s_seq fun K7 hK7 => ?_
    refine s_block ?_
    refine s_auto TY_ok rfl ?_
    refine s_regH 11 (by decide) (by kernel_rfl) (by kernel_rfl) fun K8 hK8 G S w0 hst => ?_
    refine h_auto TY_ok hst rfl ?_
    refine h_op hst (.v (.pointer (some ⟨g, o0 + 64 * i, none⟩))) trivial rfl rfl rfl rfl (runO_ixS i rfl Tryd.underlying22 rfl rfl rfl hlt) ?_
    refine h_auto TY_ok hst rfl ?_
    refine h_opV hst (.q (eY 32 p.1)) (eY_ok hp.1).1 rfl rfl rfl rfl (fun G _ a _ ha hw => runO_key rfl rfl hp.1 (rd_key hw.fresh hp0 hp).1 G a ha) ?_
    refine h_auto TY_ok hst rfl ?_
    refine h_op hst (.v (.pointer (some ⟨g, o0 + 64 * i, none⟩))) trivial rfl rfl rfl rfl (runO_ixS i rfl Tryd.underlying22 rfl rfl rfl hlt) ?_
    refine h_auto TY_ok hst rfl ?_
    refine h_opV hst (.q (eY 32 p.2)) (eY_ok hp.2).1 rfl rfl rfl rfl (fun G _ a _ ha hw => runO_key rfl rfl hp.2 (rd_key hw.fresh hp0 hp).2 G a ha) ?_
    refine h_end hst ?_
    refine l_call0 [(eTr a 0).den, (eY 32 p.1).den, (eY 32 p.2).den] rfl rfl rfl own_tPut rfl rfl (fun _ _ => rfl) (tPut0 hp ha hs.take (fun x hx => hk x (List.mem_of_mem_take hx)) (by rw [List.length_take]; omega)) (fun _ h _ => ⟨h.1, h.2.2⟩) fun ⟨a', ha'⟩ => ?_
    rw [putT_take hs hp0] at ha'
    refine l_autoS TY_ok rfl ?_
    refine s_end (hK8 _ ?_)
    clear hst
    refine s_keep [37, 36, 8, 11, 12, 1, 5, 13] [12, 11, 5] rfl rfl ?_
    refine s_regA TY_ok rfl fun K9 hK9 => ?_
    refine l_num 14 (j : Int) rfl (by
      rw [wrapI (m := (o.length : Int) - 1) (r := ((o.length - 1 : Nat) : Int)) (by omega) (by omega) (by omega)]
      exact wrapI (by omega) (by omega) (by omega)) ?_
    refine s_end (hK9 _ ?_)
    refine s_keep [37, 36, 8, 11, 12, 1, 5, 14] [12, 11, 5] rfl rfl ?_
    refine s_locs fun G => ?_
    have hsub : ∀ u ∈ ([⟨12, some (G 12), 27, trPs z 0⟩] : List LV), u ∈ withG G [⟨12, none, 27, trPs z 0⟩, ⟨11, none, 27, trPs a' 0⟩, ⟨5, none, 30, [.agg 32 (By v).toArray]⟩] ∧ u.g.isSome = true := fun u hu => by
      rw [List.mem_singleton.1 hu]
      exact ⟨List.mem_cons_self, rfl⟩
    refine s_anyP [0, 1, 2, 3, 4, 5, 6, 8, 9, 10, 11, 12, 13, 14, 15, 16, 17] 18 2 (fun w => InvL [⟨12, some (G 12), 27, trPs z 0⟩] w ∧ Rd 64 eP (some ⟨g, o0, none⟩) e o w) (by kernel_rfl) rfl (inv_two hsub fun _ _ h => h.2) ?_
    refine p_frontS TY_ok 0 (by kernel_rfl) rfl rfl rfl rfl rfl rfl (fun x hx => (hsub x hx).1) (fun _ h => h.1) ?_
    refine p_frontS TY_ok 1 (by kernel_rfl) rfl rfl rfl rfl rfl rfl (fun x hx => (hsub x hx).1) (fun _ h => h.1) ?_
    refine p_frontS TY_ok 2 (by kernel_rfl) rfl rfl rfl rfl rfl rfl (fun x hx => (hsub x hx).1) (fun _ h => h.1) ?_
    refine p_frontO (.v (.pointer (some ⟨g, o0 + 64 * j, none⟩))) trivial 3 (by kernel_rfl) rfl rfl rfl rfl rfl (runO_ixS j rfl Tryd.underlying22 rfl rfl rfl hj) ?_
    refine p_frontS TY_ok 4 (by kernel_rfl) rfl rfl rfl rfl rfl rfl (fun x hx => (hsub x hx).1) (fun _ h => h.1) ?_
    refine p_frontI (.q (eY 32 pj.1)) (eY_ok hpj.1).1 5 (by kernel_rfl) rfl rfl rfl rfl rfl (fun G a w ha hw => runO_key rfl rfl hpj.1 (rd_key hw.2 hpj0 hpj).1 G a ha) ?_
    refine p_frontO (.q (eY 32 k9)) (eY_ok hl9).1 6 (by kernel_rfl) rfl rfl rfl rfl rfl (run_hh 9 hk9 rfl rfl) ?_
    refine p_frontS TY_ok 8 (by kernel_rfl) rfl rfl rfl rfl rfl rfl (fun x hx => (hsub x hx).1) (fun _ h => h.1) ?_
    refine p_frontS TY_ok 9 (by kernel_rfl) rfl rfl rfl rfl rfl rfl (fun x hx => (hsub x hx).1) (fun _ h => h.1) ?_
    refine p_frontO (.v (.pointer (some ⟨g, o0 + 64 * j, none⟩))) trivial 10 (by kernel_rfl) rfl rfl rfl rfl rfl (runO_ixS j rfl Tryd.underlying22 rfl rfl rfl hj) ?_
    refine p_frontS TY_ok 11 (by kernel_rfl) rfl rfl rfl rfl rfl rfl (fun x hx => (hsub x hx).1) (fun _ h => h.1) ?_
    refine p_frontI (.q (eY 32 pj.1)) (eY_ok hpj.1).1 12 (by kernel_rfl) rfl rfl rfl rfl rfl (fun G a w ha hw => runO_key rfl rfl hpj.1 (rd_key hw.2 hpj0 hpj).1 G a ha) ?_
    refine p_frontS TY_ok 13 (by kernel_rfl) rfl rfl rfl rfl rfl rfl (fun x hx => (hsub x hx).1) (fun _ h => h.1) ?_
    refine p_frontS TY_ok 14 (by kernel_rfl) rfl rfl rfl rfl rfl rfl (fun x hx => (hsub x hx).1) (fun _ h => h.1) ?_
    refine p_frontO (.v (.pointer (some ⟨g, o0 + 64 * j, none⟩))) trivial 15 (by kernel_rfl) rfl rfl rfl rfl rfl (runO_ixS j rfl Tryd.underlying22 rfl rfl rfl hj) ?_
    refine p_frontS TY_ok 16 (by kernel_rfl) rfl rfl rfl rfl rfl rfl (fun x hx => (hsub x hx).1) (fun _ h => h.1) ?_
    refine p_frontI (.q (eY 32 pj.2)) (eY_ok hpj.2).1 17 (by kernel_rfl) rfl rfl rfl rfl rfl (fun G a w ha hw => runO_key rfl rfl hpj.2 (rd_key hw.2 hpj0 hpj).2 G a ha) ?_
    refine p_step 7 (by kernel_rfl) rfl fun K10 hK10 => ?_
    refine l_call0 [(eTr z 0).den, (eY 32 pj.1).den, (eY 32 k9).den] rfl rfl rfl own_tPut rfl rfl (fun _ _ => rfl) (tPut0 (p := (pj.1, k9)) ⟨hpj.1, hl9⟩ hz hs.drop (fun x hx => hk x (List.mem_of_mem_drop hx)) (by rw [List.length_drop]; omega)) (fun _ h _ => ⟨h.2.2.1, h.2.2.2⟩) fun ⟨z1, hz1⟩ => ?_
    have hs1 : SortT (putT (o.drop (o.length - i)) (pj.1, k9)) := putT_sort hs.drop (fun x hx => hk x (List.mem_of_mem_drop hx)) hpj.1
    have hk1 : KeysT (putT (o.drop (o.length - i)) (pj.1, k9)) := putT_keys hs.drop (fun x hx => hk x (List.mem_of_mem_drop hx)) hpj.1
    have hn1 : (putT (o.drop (o.length - i)) (pj.1, k9)).length + 1 ≤ 1000000 := by
      have := (putT_len (o.drop (o.length - i)) (pj.1, k9)).2
      rw [List.length_drop] at this
      omega
    refine s_end (hK10 _ (inv_two hsub fun _ _ h => h.2.2) ?_)
    refine p_tail [18, 19] (by kernel_rfl) rfl ?_
    refine l_call0 [(eTr z1 0).den, (eY 32 pj.1).den, (eY 32 pj.2).den] rfl rfl rfl own_tPut rfl rfl (fun _ _ => rfl) (tPut0 hpj hz1 hs1 hk1 hn1) (fun _ h _ => ⟨h.1, h.2.2.2.2⟩) fun ⟨z2, hz2⟩ => ?_
    have e2 : o.length - i = j + 1 := by omega
    have e3 := putT_twice (l := o.drop (o.length - i)) (p := (pj.1, k9)) (q := pj) hs.drop (fun x hx => hk x (List.mem_of_mem_drop hx)) hpj.1 rfl
    rw [e3, e2, putT_drop hs hpj0] at hz2
    refine l_autoS TY_ok rfl ?_
    refine s_end (hK7 _ (k_noloc ?_))
    refine s_autoE TY_ok rfl ?_
    exact k_next (i + 1, a', z2) ⟨hlt, ha', by rw [show o.length - (i + 1) = j by omega]; exact hz2⟩ (by show o.length - (i + 1) < o.length - i; omega) ⟨⟨congrArg some (congrArg SV.v (congrArg (Value.int .i64) (wrapI rfl (by omega) (by omega)))), rfl, rfl, rfl, rfl, rfl, rfl, trivial⟩, ⟨rfl, rfl, rfl, rfl, rfl, rfl, trivial⟩, .refl _, fun _ h _ => ⟨h.2.2.1, h.1, h.2.2.2.2.2⟩, fun _ h => h.2.2.2⟩
  obtain rfl : i = o.length := by omega
  rw [List.take_length] at ha
  rw [Nat.sub_self, List.drop_zero] at hz
  refine s_exit (k_pass (k_pass (k_out ?_)))
  refine hK6 _ ?_
  have hroot : ∀ t, TOk 256 o t → t.root = rootT 256 o := fun t h => h.root
  refine s_seq fun K7 hK7 => ?_
  refine s_regH 5 (by decide) (by kernel_rfl) (by kernel_rfl) fun K8 hK8 G S w0 hst => ?_
  refine h_auto TY_ok hst rfl ?_
  refine h_callS (F' := TF a) (r := .q (eY 32 a.root)) hst [(eTr a 0).den] rfl rfl rfl rfl own_tRoot rfl rfl (fun _ => rfl) (eY_ok a.root_len).1 (tRoot_S a 0) (fun _ _ _ hv => hv.fact.1) ?_
  refine h_auto TY_ok hst rfl ?_
  refine h_callS (F' := TF z) (r := .q (eY 32 z.root)) hst [(eTr z 0).den] rfl rfl rfl rfl own_tRoot rfl rfl (fun _ => rfl) (eY_ok z.root_len).1 (tRoot_S z 0) (fun _ _ _ hv => hv.fact.2.1) ?_
  refine h_op hst (.b (!decide (a.root = z.root))) trivial rfl rfl rfl rfl (run_neqY rfl rfl rfl Tryd.underlying30 (by kernel_rfl) a.root_len z.root_len) ?_
  refine h_is 81 false rfl (by rw [hroot a ha, hroot z hz]; simp) ?_
  refine h_end hst ?_
  refine s_end (hK8 _ ?_)
  refine s_no rfl ?_
  refine s_skip (hK7 _ ?_)
  clear hst
  refine s_keep [8, 11, 1, 5] [11, 5] rfl rfl ?_
  refine s_seq fun K8 hK8 => ?_
  refine s_auto TY_ok rfl ?_
  refine s_ifD ((o.length : Int) = 0) rfl (fun _ => ?_) (fun hne => ?_)
  · refine s_auto TY_ok rfl ?_
    exact s_ret (k_ret TY_ok () rfl (by decide) rfl rfl rfl (fun _ _ _ => trivial) (fun _ _ => trivial))
  refine s_skip (hK8 _ ?_)
  have hpos : 0 < o.length := by omega
  obtain ⟨q, hq, -, hqw⟩ := wrapU_mod f o.length hpos (by omega)
  obtain ⟨p, hp0⟩ : ∃ x, o[q]? = some x := ⟨_, List.getElem?_eq_getElem hq⟩
  have hp := ho p (List.mem_of_getElem? hp0)
  refine s_regA TY_ok rfl fun K9 hK9 => ?_
  refine l_num 90 (o.length : Int) rfl (wrapU rfl (by omega) (by omega)) ?_
  refine l_op (.v (.int .u64 ((IntKind.u64.wrap f).tmod (o.length : Int)))) trivial rfl rfl rfl (run_remU (by omega) rfl rfl rfl) ?_
  refine l_autoS TY_ok rfl ?_
  refine l_num 92 (q : Int) rfl hqw ?_
  refine l_elem TY_ok rfl rfl rfl q rfl hp0 rfl rfl (rd_fact fun _ _ h => h) ?_
  refine l_autoS TY_ok rfl ?_
  refine s_end (hK9 _ ?_)
  refine s_regA TY_ok rfl fun K10 hK10 => ?_
  refine l_call0 [(eTr a 0).den, (eY 32 p.1).den, (eY 32 v).den] rfl rfl rfl own_tPut rfl rfl (fun _ _ => rfl) (tPut0 (p := (p.1, v)) ⟨hp.1, hv⟩ ha hs hk (by omega)) (fun _ h _ => ⟨h.1, h.2.2⟩) fun ⟨t, ht⟩ => ?_
  refine l_autoS TY_ok rfl ?_
  refine s_end (hK10 _ ?_)
  have hs2 : SortT (putT o (p.1, v)) := putT_sort hs hk hp.1
  have hk2 : KeysT (putT o (p.1, v)) := putT_keys hs hk hp.1
  have hlen2 : (putT o (p.1, v)).length = o.length := putT_len_in hs (List.mem_of_getElem? hp0) rfl
  have hback : putT (putT o (p.1, v)) p = o := by
    rw [putT_twice (p := (p.1, v)) (q := p) hs hk hp.1 rfl]
    exact putT_same hs hk (List.mem_of_getElem? hp0)
  have hsame : v = p.2 → putT o (p.1, v) = o := fun e => by
    rw [e]
    exact putT_same hs hk (List.mem_of_getElem? hp0)
  have hsh0 : ∀ m : List PairT, SharesT (256 - 256) m := fun _ _ _ _ _ _ h => absurd h (Nat.not_lt_zero _)
  have hputs := rput_S (A := B) (c := e) o (p := (p.1, v)) ⟨hp.1, hv⟩ (by omega)
  have htl : t.len = o.length := ht.len.trans hlen2
  have hal : a.len = o.length := ha.len
  have har : a.root = rootT 256 o := ha.root
  have htr : t.root = rootT 256 (putT o (p.1, v)) := ht.root
  have r1 := rootT_len 256 o
  have r2 := rootT_len 256 (putT o (p.1, v))
  have hRo := fun e => rroot_S 256 o B e (Nat.le_refl _) (by omega) hs (hsh0 o)
  have hR2 := fun B e => rroot_S 256 (putT o (p.1, v)) B e (Nat.le_refl _) (by rw [hlen2]; omega) hs2 (hsh0 _)
  have hput3 := tPut0 (l := putT o (p.1, v)) (t := t) hp ht hs2 hk2 (by rw [hlen2]; omega)
  have hroot3 : ∀ y : TA, TOk 256 (putT (putT o (p.1, v)) p) y → y.root = rootT 256 o := fun y hy => by
    rw [hback] at hy
    exact hy.root
  generalize rootT 256 (putT o (p.1, v)) = Q2 at *
  generalize rootT 256 o = Q1 at *
  have heq : v = p.2 → Q2 = Q1 := fun h => by
    rw [← htr, ← har]
    have := ht
    rw [hsame h] at this
    exact this.root.trans ha.root.symm
  generalize putT o (p.1, v) = o2 at *
  refine s_keep [8, 11, 15, 16, 5] [16, 15, 11, 5] rfl rfl ?_
  refine s_regA TY_ok rfl fun K11 hK11 => ?_
  refine l_call0 [.slice B o.length e, (eP (p.1, v)).den] rfl rfl rfl own_rput9 rfl rfl (fun _ _ => rfl) hputs (fun _ _ h => h.2) fun ⟨B', e'⟩ => ?_
  refine l_call0 [.slice B' o2.length e', .int .i64 0] rfl rfl rfl own_rroot9 rfl rfl (fun _ _ => rfl) (hR2 B' e') (fun _ _ h => h.1) fun _ => ?_
  refine l_autoS TY_ok rfl ?_
  refine s_end (hK11 _ ?_)
  refine c_weak (e' := ⟨[(8, .v (.slice B o.length e)), (11, .a 11 0), (15, .a 15 0), (16, .a 16 0), (17, .a 17 0), (5, .a 5 0)], [⟨17, none, 30, [.agg 32 (By Q2).toArray]⟩, ⟨16, none, 27, trPs t 0⟩, ⟨15, none, 32, (eP p).parts1⟩, ⟨11, none, 27, trPs a 0⟩, ⟨5, none, 30, [.agg 32 (By v).toArray]⟩], [], fun w => TF t w ∧ TF a w ∧ Tsh w, fun w => Rd 64 eP B e o w⟩) ⟨⟨rfl, rfl, rfl, rfl, rfl, rfl, trivial⟩, ⟨rfl, rfl, rfl, rfl, rfl, rfl, rfl, rfl, rfl, rfl, trivial⟩, .refl _, fun _ h _ => ⟨h.2.2.1, h.2.2.2.1, h.2.2.2.2.2⟩, fun _ h => h.2.2.2⟩ ?_
  refine s_regH 42 (by decide) (by kernel_rfl) (by kernel_rfl) fun K12 hK12 G S w0 hst => ?_
  refine h_auto TY_ok hst rfl ?_
  refine h_callS (F' := TF t) (r := .q (eY 32 t.root)) hst [(eTr t 0).den] rfl rfl rfl rfl own_tRoot rfl rfl (fun _ => rfl) (eY_ok t.root_len).1 (tRoot_S t 0) (fun _ _ _ hv => hv.fact.1) ?_
  refine h_auto TY_ok hst rfl ?_
  refine h_callS (F' := TF a) (r := .q (eY 32 a.root)) hst [(eTr a 0).den] rfl rfl rfl rfl own_tRoot rfl rfl (fun _ => rfl) (eY_ok a.root_len).1 (tRoot_S a 0) (fun _ _ _ hv => hv.fact.2.1) ?_
  refine h_op hst (.b (decide (t.root = a.root))) trivial rfl rfl rfl rfl (run_eqY rfl rfl rfl Tryd.underlying30 (by kernel_rfl) t.root_len a.root_len) ?_
  refine h_auto TY_ok hst rfl ?_
  refine h_callS (F' := Rd 64 eP B e o) (r := .q (eY 32 Q1)) hst [.slice B o.length e, .int .i64 0] rfl rfl rfl rfl own_rroot9 rfl rfl (fun _ => rfl) (eY_ok r1).1 (hRo e) (fun _ _ _ hv => hv.fresh) ?_
  refine h_op hst (.b (decide (Q2 = Q1))) trivial rfl rfl rfl rfl (run_eqY rfl rfl rfl Tryd.underlying30 (by kernel_rfl) r2 r1) ?_
  refine h_op hst (.b (decide (t.root = a.root) == decide (Q2 = Q1))) trivial rfl rfl rfl rfl (run_eqBool rfl rfl rfl (fun _ => rfl) (fun _ => rfl)) ?_
  refine h_is 116 true rfl (by rw [htr, har]; simp) ?_
  refine h_auto TY_ok hst rfl ?_
  refine h_op hst (.b (!decide (v = p.2))) trivial rfl rfl rfl rfl (run_neqY rfl rfl rfl Tryd.underlying30 (by kernel_rfl) hv hp.2) ?_
  by_cases hvp : v = p.2
  · refine h_is 121 false rfl (by simp [hvp]) ?_
    refine h_auto TY_ok hst rfl ?_
    refine h_callS (F' := TF t) (r := .q (eY 32 t.root)) hst [(eTr t 0).den] rfl rfl rfl rfl own_tRoot rfl rfl (fun _ => rfl) (eY_ok t.root_len).1 (tRoot_S t 0) (fun _ _ _ hv => hv.fact.1) ?_
    refine h_auto TY_ok hst rfl ?_
    refine h_callS (F' := TF a) (r := .q (eY 32 a.root)) hst [(eTr a 0).den] rfl rfl rfl rfl own_tRoot rfl rfl (fun _ => rfl) (eY_ok a.root_len).1 (tRoot_S a 0) (fun _ _ _ hv => hv.fact.2.1) ?_
    refine h_bare rfl ?_
    refine h_op hst (.b (decide (t.root = a.root))) trivial rfl rfl rfl rfl (run_eqY rfl rfl rfl Tryd.underlying30 (by kernel_rfl) t.root_len a.root_len) ?_
    refine h_is 127 true rfl (by rw [htr, har, heq hvp]; simp) ?_
    refine h_auto TY_ok hst rfl ?_
    refine h_callE (F' := fun w => TF t w ∧ Tsh w) hst [(eTr t 0).den, (eY 32 p.1).den, (eY 32 p.2).den] rfl rfl rfl rfl own_tPut rfl rfl (fun _ => rfl) hput3 (fun w hw _ => ⟨hw.fact.1, hw.fact.2.2⟩) fun x hxok => ?_
    refine h_bare rfl ?_
    refine h_call (r := .q (eY 32 Q1)) hst [(eTr x.1 0).den] rfl rfl rfl rfl own_tRoot rfl rfl (fun _ => rfl) (eY_ok r1).1 (fun w hw hu => ?_) ?_
    · obtain ⟨y, hy1, hy2⟩ : ∃ y : { t' : TA // TOk 256 (putT o2 p) t' }, (eTr x.1 0).den = (eTr y.1 0).den ∧ TF y.1 w := hu 29 _ rfl (by kernel_rfl)
      rw [hy1, ← hroot3 y.1 y.2]
      exact (tRoot_S y.1 0 w (fun _ => False) (fun _ => False) (fun _ h => h) (fun _ h => h.elim) (Stb.of_pst hy2 fun _ _ h => h.elim id id)).mono fun _ _ ⟨_, _, h1, _, h2, _⟩ => ⟨h1, h2.up fun _ _ h => h⟩
    refine h_auto TY_ok hst rfl ?_
    refine h_callS (F' := TF a) (r := .q (eY 32 a.root)) hst [(eTr a 0).den] rfl rfl rfl rfl own_tRoot rfl rfl (fun _ => rfl) (eY_ok a.root_len).1 (tRoot_S a 0) (fun _ _ _ hv => hv.fact.2.1) ?_
    refine h_bare rfl ?_
    refine h_op hst (.b (decide (Q1 = a.root))) trivial rfl rfl rfl rfl (run_eqY rfl rfl rfl Tryd.underlying30 (by kernel_rfl) r1 a.root_len) ?_
    refine h_is 140 true rfl (by rw [har]; simp) ?_
    refine h_auto TY_ok hst rfl ?_
    refine h_callS (F' := TF t) (r := .v (.int .i64 (t.len : Int))) hst [(eTr t 0).den] rfl rfl rfl rfl own_tLen rfl rfl (fun _ => rfl) trivial (tLen_S t 0) (fun _ _ _ hv => hv.fact.1) ?_
    refine h_num 144 (o.length : Int) rfl (by rw [htl]) ?_
    refine h_auto TY_ok hst rfl ?_
    refine h_callS (F' := TF a) (r := .v (.int .i64 (a.len : Int))) hst [(eTr a 0).den] rfl rfl rfl rfl own_tLen rfl rfl (fun _ => rfl) trivial (tLen_S a 0) (fun _ _ _ hv => hv.fact.2.1) ?_
    refine h_num 146 (o.length : Int) rfl (by rw [hal]) ?_
    refine h_auto TY_ok hst rfl ?_
    refine h_is 148 true rfl (by simp) ?_
    refine h_end hst ?_
    refine l_autoS TY_ok rfl ?_
    refine s_end (hK12 _ ?_)
    exact s_ret (k_ret TY_ok () rfl (by decide) rfl rfl rfl (fun _ _ _ => trivial) (fun _ _ => trivial))
  · refine h_is 121 true rfl (by simp [hvp]) ?_
    refine h_auto TY_ok hst rfl ?_
    refine h_callE (F' := fun w => TF t w ∧ Tsh w) hst [(eTr t 0).den, (eY 32 p.1).den, (eY 32 p.2).den] rfl rfl rfl rfl own_tPut rfl rfl (fun _ => rfl) hput3 (fun w hw _ => ⟨hw.fact.1, hw.fact.2.2⟩) fun x hxok => ?_
    refine h_bare rfl ?_
    refine h_call (r := .q (eY 32 Q1)) hst [(eTr x.1 0).den] rfl rfl rfl rfl own_tRoot rfl rfl (fun _ => rfl) (eY_ok r1).1 (fun w hw hu => ?_) ?_
    · obtain ⟨y, hy1, hy2⟩ : ∃ y : { t' : TA // TOk 256 (putT o2 p) t' }, (eTr x.1 0).den = (eTr y.1 0).den ∧ TF y.1 w := hu 29 _ rfl (by kernel_rfl)
      rw [hy1, ← hroot3 y.1 y.2]
      exact (tRoot_S y.1 0 w (fun _ => False) (fun _ => False) (fun _ h => h) (fun _ h => h.elim) (Stb.of_pst hy2 fun _ _ h => h.elim id id)).mono fun _ _ ⟨_, _, h1, _, h2, _⟩ => ⟨h1, h2.up fun _ _ h => h⟩
    refine h_auto TY_ok hst rfl ?_
    refine h_callS (F' := TF a) (r := .q (eY 32 a.root)) hst [(eTr a 0).den] rfl rfl rfl rfl own_tRoot rfl rfl (fun _ => rfl) (eY_ok a.root_len).1 (tRoot_S a 0) (fun _ _ _ hv => hv.fact.2.1) ?_
    refine h_bare rfl ?_
    refine h_op hst (.b (decide (Q1 = a.root))) trivial rfl rfl rfl rfl (run_eqY rfl rfl rfl Tryd.underlying30 (by kernel_rfl) r1 a.root_len) ?_
    refine h_is 140 true rfl (by rw [har]; simp) ?_
    refine h_auto TY_ok hst rfl ?_
    refine h_callS (F' := TF t) (r := .v (.int .i64 (t.len : Int))) hst [(eTr t 0).den] rfl rfl rfl rfl own_tLen rfl rfl (fun _ => rfl) trivial (tLen_S t 0) (fun _ _ _ hv => hv.fact.1) ?_
    refine h_num 144 (o.length : Int) rfl (by rw [htl]) ?_
    refine h_auto TY_ok hst rfl ?_
    refine h_callS (F' := TF a) (r := .v (.int .i64 (a.len : Int))) hst [(eTr a 0).den] rfl rfl rfl rfl own_tLen rfl rfl (fun _ => rfl) trivial (tLen_S a 0) (fun _ _ _ hv => hv.fact.2.1) ?_
    refine h_num 146 (o.length : Int) rfl (by rw [hal]) ?_
    refine h_auto TY_ok hst rfl ?_
    refine h_is 148 true rfl (by simp) ?_
    refine h_end hst ?_
    refine l_autoS TY_ok rfl ?_
    refine s_end (hK12 _ ?_)
    exact s_ret (k_ret TY_ok () rfl (by decide) rfl rfl rfl (fun _ _ _ => trivial) (fun _ _ => trivial))
end Go.Proofs.YtlaikmpnijlcbaaDoor
/-
  TWO PAIRS ARE COMPARED; drawn regions behind marks and in rounds; has a tree just these pairs? (same)
-/
namespace Go.Proofs.YtlaikmpnijlcbaaDoor
open Go.RowKit Go.IntWalk Nums

/-! ### Pairs -/
theorem den_eP (p : PairT) : (eP p).den = .agg (By p.1 ++ By p.2).toArray := by
  show Value.agg (catP [Pt.agg 32 (By p.1).toArray, .agg 32 (By p.2).toArray]) = _
  rw [catP_cons, catP_cons]
  simp [Pt.cells, catP]
theorem part_half (w : World) (cs : Array Value) (off : Nat) (l : List UInt8) (h : cs.extract off (off + 32) = (By l).toArray) : (part 30 cs off).run Tryd.prog w = .ok (.agg (By l).toArray) w := by
  have hagg : (isAgg 30).run Tryd.prog w = .ok true w := by
    unfold isAgg
    rw [Sem.run_bind, run_underlying Tryd.underlying30 w]
    rfl
  have hsz : (sizeOf 30).run Tryd.prog w = .ok 32 w := run_sizeOf (by kernel_rfl) w
  unfold part
  simp only [Sem.run_bind, hagg, Result.andThen_ok, if_true, hsz, Sem.run_pure, h]
theorem stood_pair : Tryd.prog.stoodInHeld 32 = false := by kernel_rfl
theorem size_pair : (Tryd.prog.info? 32).map (·.size) = some 64 := by kernel_rfl
theorem fields_pair : Tryd.prog.underlying 32 = some (.struct (Tryd.prog.fieldsOf 32)) ∧ (Tryd.prog.fieldsOf 32).toList = [{ name := "Key", type := 30, offset := 0, embedded := false, tag := "", pkgPath := "", byteOffset := 0 }, { name := "Value", type := 30, offset := 32, embedded := false, tag := "", pkgPath := "", byteOffset := 32 }] := by
  unfold Program.fieldsOf
  rw [Tryd.underlying32]
  exact ⟨rfl, rfl⟩
theorem equal_pair (d : Nat) (w : World) {p : PairT} (hp : OkT2 p) : (Op.equalIn (d + 3) 32 (.agg (By p.1 ++ By p.2).toArray) (.agg (By p.1 ++ By p.2).toArray)).run Tryd.prog w = .ok true w := by
  have h1 := part_half w (By p.1 ++ By p.2).toArray 0 p.1 (by
    simp [By_len, hp.1])
  have h2 := part_half w (By p.1 ++ By p.2).toArray 32 p.2 (by
    have e : (By p.2).take 32 = By p.2 := List.take_of_length_le (by rw [By_len, hp.2]; exact Nat.le_refl _)
    simp [By_len, hp.1, e])
  have e1 := equalIn_bytes d 32 30 p.1 p.1 Tryd.underlying30 hp.1 hp.1 w
  have e2 := equalIn_bytes d 32 30 p.2 p.2 Tryd.underlying30 hp.2 hp.2 w
  rw [decide_eq_true (rfl : p.1 = p.1)] at e1
  rw [decide_eq_true (rfl : p.2 = p.2)] at e2
  generalize (By p.1 ++ By p.2).toArray = cs at *
  generalize (By p.1).toArray = c1 at *
  generalize (By p.2).toArray = c2 at *
  rw [run_equalIn_struct w (d + 2) _ _ _ fields_pair.1 stood_pair, fields_pair.2]
  have hk : ("Key" : String) ≠ "_" := by decide
  have hv : ("Value" : String) ≠ "_" := by decide
  rw [Op.eqFields, if_pos hk, Sem.run_bind]
  dsimp only
  rw [h1, Result.andThen_ok, Sem.run_bind, h1, Result.andThen_ok, Sem.run_bind, e1, Result.andThen_ok, if_neg (by decide)]
  rw [Op.eqFields, if_pos hv, Sem.run_bind]
  dsimp only
  rw [h2, Result.andThen_ok, Sem.run_bind, h2, Result.andThen_ok, Sem.run_bind, e2, Result.andThen_ok, if_neg (by decide), Op.eqFields, Sem.run_pure]
theorem run_neqP {N : Nat} {E : SE} {o : Oper} {x y : Operand} {t' : TypeId} {p : PairT} (ho : o.op = .binOp .neq 32 x y t') (hx : evS E x = some (.q (eP p))) (hy : evS E y = some (.q (eP p))) (hp : OkT2 p) :
    ∀ (G : Nat → Nat) (a : Act) (w : World), Fr N (denE G E) a → (execOp a.eval o).run Tryd.prog w = .ok (.value ((SV.v (.bool false)).den G)) w := fun G a w ha => by
  have h1 : a.eval x = .agg (By p.1 ++ By p.2).toArray := (ha.eval (evS_ok hx)).trans (den_eP p)
  have h2 : a.eval y = .agg (By p.1 ++ By p.2).toArray := (ha.eval (evS_ok hy)).trans (den_eP p)
  unfold execOp
  simp only [ho, h1, h2, Sem.run_bind, run_eqGuard_agg (hm := (by kernel_rfl : Tryd.prog.eqGuardType Tryd.prog.depth 32 = false)), Result.andThen_ok, run_neq_struct, equal_pair 9997 w hp, Sem.run_pure]
  rfl
theorem runO_pair {N : Nat} {E : SE} {o : Oper} {x : Operand} {g o0 c i : Nat} {l : List PairT} {p : PairT} {w : World} (ho : o.op = .load 32 x) (hx : evS E x = some (.v (.pointer (some ⟨g, o0 + 64 * i, none⟩)))) (h : Rd 64 eP (some ⟨g, o0, none⟩) c l w) (hi : l[i]? = some p) (hp : OkT2 p) :
    ∀ (G : Nat → Nat) (a : Act), Fr N (denE G E) a → (execOp a.eval o).run Tryd.prog w = .ok (.value ((SV.q (eP p)).den G)) w := fun G a ha => by
  have h1 : a.eval x = .pointer (some ⟨g, o0 + 64 * i, none⟩) := ha.eval (evS_ok hx)
  obtain ⟨_, _, _, _, h5⟩ := h
  obtain ⟨b', o', e, hb, hr⟩ := h5 (Nat.lt_of_le_of_lt (Nat.zero_le _) (List.getElem?_eq_some_iff.1 hi).1)
  injection e with e
  injection e with e1 e2
  subst e1
  subst e2
  have hr := hr i p hi
  rw [eP_cl] at hr
  have h3 := run_load_row (P := Tryd.prog) (t := 32) (cs := (By p.1 ++ By p.2).toArray) Tryd.underlying32 rfl (by
    have : (By p.1 ++ By p.2).toArray.size = 64 := by simp [By_len, hp.1, hp.2]
    rw [this]
    exact size_pair) hr
  unfold execOp
  simp only [ho, h1, Sem.run_bind, h3, Result.andThen_ok, Sem.run_pure]
  show _ = Result.ok (Next.value (eP p).den) w
  rw [den_eP]
/-! ### Drawn regions -/
section
variable {ds : List Deferred} {ro : Option Nat} {n : Nat} {b : Base} {Q : Exit → Act → World → Prop} {N : Nat} {E : SE} {L : List LV} {R : List Res} {F M : World → Prop} {id : Nat} {l : List Oper} {y : Code}
theorem d_regH (m : Nat) (hn : m ≤ l.length) (hm : Tryd.prog.follows .mixedOrders = true) (hB : tailH l.toArray m (l.drop m).length = true)
    (h : ∀ K : Act → World → Prop, (∀ e', dS ds b y Q N e' → kD ds b K N e') → ∀ G S w0, StW b G S L R F M w0 → hS Tryd.prog l.toArray (Qd ds (Exit.then K Q)) N (l.drop m) G w0 (idx 0 (l.take m)) E []) : dS ds b (.seq (.region id l.toArray true) y) Q N ⟨E, L, R, F, M⟩ :=
  d_regD m hn hm hB fun K hK G S w0 hst => h K hK G S w0 hst
theorem r_regH [NoOut Q] (m : Nat) (hn : m ≤ l.length) (hm : Tryd.prog.follows .mixedOrders = true) (hB : tailH l.toArray m (l.drop m).length = true) (hd : noDef l = true)
    (h : ∀ K : Act → World → Prop, (∀ e', rS ro n b y Q N e' → kS b K N e') → ∀ G S w0, StW b G S L R F M w0 → hS Tryd.prog l.toArray (Exit.then K Q) N (l.drop m) G w0 (idx 0 (l.take m)) E []) : rS ro n b (.seq (.region id l.toArray true) y) Q N ⟨E, L, R, F, M⟩ :=
  r_regD m hn hm hB hd fun K hK G S w0 hst => h K hK G S w0 hst
/-- What comes behind may bear marks. -/
theorem d_seqD {x : Code} {e : Env} (h : ∀ K : Act → World → Prop, (∀ ds' e', dS ds' b y Q N e' → kD ds' b K N e') → dS ds b x (Exit.then K Q) N e) : dS ds b (.seq x y) Q N e := fun a w hs =>
  wp_seq_k fun K hK => h K (fun _ _ h' a' w' hs' => hK _ _ (h' a' w' hs')) a w hs
theorem d_pure {c : Code} (p : Prop) (h0 : ∀ w, F w → M w → p) (h : p → dS ds b c Q N ⟨E, L, R, F, M⟩) : dS ds b c Q N ⟨E, L, R, F, M⟩ := fun a w ⟨G, S, h1⟩ => h (h0 w h1.st.all.now.1 h1.st.all.now.2) a w ⟨G, S, h1⟩
instance : NoOut (fun _ _ _ => False) := ⟨fun _ _ h => h⟩
end
end Go.Proofs.YtlaikmpnijlcbaaDoor
/-
  SAME: has a tree just these pairs?
-/
namespace Go.Proofs.YtlaikmpnijlcbaaDoor
open Go.RowKit Go.IntWalk Nums

theorem own_tsame : Own 13 := fun _ _ => by go_simp
set_option maxRecDepth 100000 in
set_option maxHeartbeats 4000000 in
theorem tsame_S {A : Option Addr} {c : Nat} (l : List PairT) (t : TA) (ht : TOk 256 l t) (hs : SortT l) (hk : KeysT l) (hl : l.length ≤ 1000000) : Spec 13 [(eTr t 0).den, .slice A l.length c] [] (fun w => TF t w ∧ Rd 64 eP A c l w) (one (.v (.bool true))) := by
  refine spec_D [eTr t 0, .c (.v (.slice A l.length c))] 44 Tryd.func13 rfl (by rw [Tryd.ntmps13]; rfl) (two_ok (trPs_ok t 0) trivial) fun b => ?_
  have hsh : SharesT (256 - 256) l := fun _ _ _ _ _ h => absurd h (Nat.not_lt_zero _)
  have hroot := rroot_S 256 l A c (Nat.le_refl _) hl hs hsh
  have htr : t.root = rootT 256 l := TOk.root ht
  have htl : t.len = l.length := TOk.len ht
  have hta : t.all = l := ht.all_eq hs hk hsh (Nat.le_refl _)
  have r1 : (rootT 256 l).length = 32 := by rw [← htr]; exact t.root_len
  obtain ⟨Q1, hQ1⟩ : ∃ q, rootT 256 l = q := ⟨_, rfl⟩
  rw [hQ1] at htr hroot r1
  refine d_auto TY_ok rfl ?_
  refine d_seq fun K hK => ?_
  refine d_regH 12 (by decide) (by kernel_rfl) (by kernel_rfl) fun K2 hK2 G S w0 hst => ?_
  refine h_auto TY_ok hst rfl ?_
  refine h_callS (F' := TF t) (r := .v (.int .i64 (t.len : Int))) hst [(eTr t 0).den] rfl rfl rfl rfl own_tLen rfl rfl (fun _ => rfl) trivial (tLen_S t 0) (fun _ _ _ hv => hv.fact.1) ?_
  refine h_num 9 (l.length : Int) rfl (by rw [htl]) ?_
  refine h_auto TY_ok hst rfl ?_
  refine h_is 13 false rfl (by simp) ?_
  refine h_auto TY_ok hst rfl ?_
  refine h_callS (F' := TF t) (r := .q (eY 32 t.root)) hst [(eTr t 0).den] rfl rfl rfl rfl own_tRoot rfl rfl (fun _ => rfl) (eY_ok t.root_len).1 (tRoot_S t 0) (fun _ _ _ hv => hv.fact.1) ?_
  refine h_auto TY_ok hst rfl ?_
  refine h_callS (F' := Rd 64 eP A c l) (r := .q (eY 32 Q1)) hst [.slice A l.length c, .int .i64 0] rfl rfl rfl rfl own_rroot9 rfl rfl (fun _ => rfl) (eY_ok r1).1 hroot (fun _ _ _ hv => hv.fact.2) ?_
  refine h_bare rfl ?_
  refine h_op hst (.b (!decide (t.root = Q1))) trivial rfl rfl rfl rfl (run_neqY rfl rfl rfl Tryd.underlying30 (by kernel_rfl) t.root_len r1) ?_
  refine h_is 18 false rfl (by rw [htr]; simp) ?_
  refine h_auto TY_ok hst rfl ?_
  refine h_end hst ?_
  refine d_end (hK2 _ ?_)
  refine d_no rfl ?_
  refine d_skip (hK _ ?_)
  refine d_auto TY_ok rfl ?_
  refine d_seqD fun K3 hK3 => ?_
  refine d_regA TY_ok rfl fun K4 hK4 => ?_
  refine l_call0 [(eTr t 0).den] rfl rfl rfl own_tAll rfl rfl (fun _ _ => rfl) (tAll_S t 0) (fun _ _ _ => trivial) fun gb => ?_
  refine d_end (hK4 _ ?_)
  refine d_block ?_
  refine d_pure (∀ x ∈ l, OkT2 x) (fun _ h _ => fun x hx => eP_len (h.2.2.2.2.2.1 x hx).1) fun hok => ?_
  refine d_pure (l.length ≠ 0 → ∃ g o0, A = some ⟨g, o0, none⟩) (fun _ h _ hne => by
    obtain ⟨g, o0, e, _⟩ := h.2.2.2.2.2.2 (by omega)
    exact ⟨g, o0, e⟩) fun hA => ?_
  let E0 : SE := [(21, .v (.func (.func 34) #[] #[.pointer (some ⟨gb, 0, none⟩)])), (5, .a 5 0), (4, .a 4 0), (3, .a 3 0), (2, .a 2 0)]
  let Lf : Nat → List LV := fun i => [⟨5, none, 3, [.one (.v (.int .i64 (i : Int)))]⟩, ⟨4, none, 4, [.one (.v (.bool false))]⟩, ⟨3, none, 22, [.one (.v (.slice A l.length c))]⟩, ⟨2, none, 27, trPs t 0⟩]
  refine d_weak (e' := ⟨E0, Lf 0, [], fun w => (ObjF gb 27 (trPs t 0) w ∧ TF t w) ∧ Rd 64 eP A c l w, fun _ => True⟩) ⟨⟨rfl, rfl, rfl, rfl, rfl, trivial⟩, ⟨rfl, rfl, rfl, rfl, rfl, rfl, rfl, rfl, trivial⟩, .refl _, fun _ h _ => ⟨⟨h.1, h.2.1⟩, h.2.2⟩, fun _ _ => trivial⟩ ?_
  refine d_range l (fun p => eY 32 p.1) (fun p => eY 32 p.2) Lf (fun _ => []) (fun j s => s = j) (fun _ _ => False) 0 (fun w => ObjF gb 27 (trPs t 0) w ∧ TF t w) (lb := [.pointer (some ⟨gb, 0, none⟩)]) rfl own_tAll1 (fun _ => rfl) (fun x hx => ⟨(eY_ok (hok x hx).1).1, (eY_ok (hok x hx).2).1⟩) rfl rfl (fun _ h _ => h.1) (fun y Fy JR JX hy => ?_) rfl ?_ ?_ (fun _ _ _ h => h.elim)
  · have := tAll1_S y gb Fy JR JX t (by rw [hta]; exact hy)
    rw [hta] at this
    exact this
  · rintro G y D m ready busy b1 i s p rfl hp K5 hK5
    have hlt : s < l.length := (List.getElem?_eq_some_iff.1 hp).1
    have hp2 := hok p (List.mem_of_getElem? hp)
    obtain ⟨g1, o0, rfl⟩ := hA (by omega)
    refine r_auto rfl TY_ok rfl ?_
    refine r_autoE rfl TY_ok rfl ?_
    refine hK5 _ _ _ _ _ ?_
    refine r_block ?_
    refine r_seq fun K6 hK6 => ?_
    refine r_regH 14 (by decide) (by kernel_rfl) (by kernel_rfl) rfl fun K7 hK7 G2 S w0 hst => ?_
    refine h_auto TY_ok hst rfl ?_
    refine h_is 28 false rfl (by simp; omega) ?_
    refine h_auto TY_ok hst rfl ?_
    refine h_op hst (.v (.pointer (some ⟨g1, o0 + 64 * s, none⟩))) trivial rfl rfl rfl rfl (runO_ixS s rfl Tryd.underlying22 rfl rfl rfl hlt) ?_
    refine h_bare rfl ?_
    refine h_opV hst (.q (eP p)) (eP_ok hp2).1 rfl rfl rfl rfl (fun G _ a _ ha hw => runO_pair rfl rfl hw.fact.1.2 hp hp2 G a ha) ?_
    refine h_auto TY_ok hst rfl ?_
    refine h_op hst (.v (.bool false)) trivial rfl rfl rfl rfl (run_neqP (p := p) rfl rfl rfl hp2) ?_
    refine h_auto TY_ok hst rfl ?_
    refine h_end hst ?_
    refine s_end (hK7 _ ?_)
    refine r_no rfl ?_
    refine r_skip (hK6 _ ?_)
    refine r_autoE rfl TY_ok rfl ?_
    exact k_rnd (Ix := fun _ _ => False) (s + 1) rfl ⟨trivial, ⟨congrArg (fun z => some (LV.mk 5 (some (G 5)) 3 [.one (.v (.int .i64 z))])) (wrapI (m := (s : Int) + 1) (r := ((s + 1 : Nat) : Int)) (by omega) (by omega) (by omega)), rfl, rfl, rfl, rfl, rfl, rfl, rfl, trivial⟩, .refl _, fun _ _ _ => trivial, fun _ _ => trivial⟩
  · rintro s D rfl
    refine hK3 _ _ ?_
    refine d_auto TY_ok rfl ?_
    exact d_ret (k_retM [D] (R := []) (k_retD TY_ok () rfl (by decide) rfl (congrArg Value.bool (decide_eq_true rfl).symm) trivial rfl (fun _ _ _ => trivial) (fun _ _ => trivial)))
end Go.Proofs.YtlaikmpnijlcbaaDoor
