/-
  SEVERAL TEXTS IN ONE: Ni, Nj, Nk, Nl, Nm, ShaK, TrL, Gw, Wx.
-/
import Derived.Test.YtoecohpcnojokaaDoorMl
import Derived.Test.YtoecohpcnojokaaDoorMe
import Derived.Test.YtoecohpcnojokaaDoorMj
/-
  THE PROGRAM'S PARTS, read: leaves, inner nodes, whole parts.
-/
namespace Go.Proofs.YtoecohpcnojokaaDoor
open Go.RowKit Go.IntWalk Nums

/-! ### What is read -/
instance {s : RSw} {n : Nat} : Decidable (s.can n) := inferInstanceAs (Decidable (s.e = 0 ∧ n ≤ s.l.length))
def RSw.go (s : RSw) (n : Nat) : RSw := if s.can n then s.cut n else s.fail 10
def RSw.hv (s : RSw) : List UInt8 := if s.can 32 then s.l.take 32 else z32T
theorem RSw.go_rd {s : RSw} {n : Nat} {w : World} (h : s.rd w) : (s.go n).rd w := by
  unfold RSw.go
  split
  · rename_i hc
    exact RSw.rd_cut h hc.2
  · exact h
theorem RSw.hv_len (s : RSw) : s.hv.length = 32 := by
  unfold RSw.hv
  split
  · rename_i hc
    rw [List.length_take, Nat.min_eq_left hc.2]
  · rfl
theorem whash_S (g : Nat) (s : RSw) : Spec 51 [ptV g] [RdQ g s] s.rd { ret := fun _ : Unit => .q (eY 32 s.hv), own := fun _ => [RdQ g (s.go 32)] } := by
  unfold RSw.hv RSw.go
  by_cases h : s.can 32
  · rw [if_pos h, if_pos h]
    exact whash_yes g s h
  · rw [if_neg h, if_neg h]
    exact (whash_no g s h).imp fun _ _ => trivial
abbrev ResP := Except Nat (PW × List UInt8)
/-- What a reading leaves. -/
def Out (r : ResP) (x : PW × RSw) : Prop := x.1.Good ∧ match r with
  | .ok (w, l) => x.1 = w ∧ x.2.l = l ∧ x.2.e = 0
  | .error e => x.2.e = e ∧ e ≠ 0
def rdR (n : Nat) (way : List Nat) (s : RSw) : ResP := if s.e = 0 then PW.read n way s.l else .error s.e
def readLeaf (way : List Nat) (b : List UInt8) : ResP := if b.length < 64 then .error 10 else if Leads way (b.take 32) then .ok (.leaf (b.take 32, (b.drop 32).take 32), b.drop 64) else .error 13
def readIn (n : Nat) (way : List Nat) (b : List UInt8) : ResP := match n with
  | 0 => .error 13
  | n + 1 => match PW.read n (way ++ [0]) b with
    | .error e => .error e
    | .ok (l, b1) => match PW.read n (way ++ [1]) b1 with
      | .error e => .error e
      | .ok (r, b2) => if PW.bad l r then .error 13 else .ok (.inner l r, b2)
def readHid (b : List UInt8) : ResP := if b.length < 32 then .error 10 else .ok (.hid (b.take 32), b.drop 32)
theorem read_cons (n : Nat) (way : List Nat) (x : UInt8) (b : List UInt8) : PW.read n way (x :: b) = if x = 0 then .ok (.empty, b) else if x = 1 then readLeaf way b else if x = 2 then readIn n way b else if x = 3 then readHid b else .error 13 := by
  unfold readLeaf readIn readHid
  cases n <;> (conv => lhs; unfold PW.read) <;> rfl
theorem read_nil (n : Nat) (way : List Nat) : PW.read n way [] = .error 10 := by
  cases n <;> unfold PW.read <;> rfl
abbrev rnPost (g : Nat) (r : ResP) : Post { x : PW × RSw // Out r x } := { ret := fun x => .v x.1.1.val, own := fun x => [RdQ g x.1.2], p := fun x => x.1.2.rd }

/-! ### Leaves -/
theorem own_wrleaf : Own 49 := fun _ _ => by go_simp
theorem own_wrinner : Own 50 := fun _ _ => by go_simp
theorem own_wrnode : Own 33 := fun _ _ => by go_simp
theorem leaf_out {s : RSw} {way : List Nat} (h0 : s.e = 0) : Out (readLeaf way s.l) (.leaf (s.hv, (s.go 32).hv), if Leads way s.hv then (s.go 32).go 32 else ((s.go 32).go 32).fail 13) := by
  refine ⟨⟨s.hv_len, (s.go 32).hv_len⟩, ?_⟩
  unfold readLeaf
  by_cases h1 : s.can 32
  · have e1 : s.hv = s.l.take 32 := if_pos h1
    have e2 : s.go 32 = s.cut 32 := if_pos h1
    rw [e2, e1]
    by_cases h2 : s.l.length < 64
    · rw [if_pos h2]
      have hc : ¬ (s.cut 32).can 32 := fun h => by
        have := h.2
        rw [RSw.cut, List.length_drop] at this
        omega
      have e3 : (s.cut 32).go 32 = (s.cut 32).fail 10 := if_neg hc
      rw [e3]
      have e4 : ((s.cut 32).fail 10).e = 10 := by rw [RSw.fail_0 (show (s.cut 32).e = 0 from h0)]
      rw [RSw.fail_e (s := (s.cut 32).fail 10) (by rw [e4]; decide), ite_self]
      exact ⟨e4, by decide⟩
    · rw [if_neg h2]
      have hc : (s.cut 32).can 32 := ⟨h0, by rw [RSw.cut, List.length_drop]; omega⟩
      have e3 : (s.cut 32).go 32 = (s.cut 32).cut 32 := if_pos hc
      have e5 : (s.cut 32).hv = (s.l.drop 32).take 32 := if_pos hc
      rw [e3, e5]
      by_cases h3 : Leads way (s.l.take 32)
      · rw [if_pos h3, if_pos h3]
        exact ⟨rfl, by show (s.l.drop 32).drop 32 = _; rw [List.drop_drop], h0⟩
      · rw [if_neg h3, if_neg h3]
        exact ⟨by rw [RSw.fail_0 (show ((s.cut 32).cut 32).e = 0 from h0)], by decide⟩
  · have h2 : s.l.length < 64 := by
      have : ¬ 32 ≤ s.l.length := fun h => h1 ⟨h0, h⟩
      omega
    rw [if_pos h2]
    have e2 : s.go 32 = s.fail 10 := if_neg h1
    have e4 : (s.fail 10).e = 10 := by rw [RSw.fail_0 h0]
    rw [e2]
    have e3 : (s.fail 10).go 32 = s.fail 10 := by
      have : (s.fail 10).go 32 = (s.fail 10).fail 10 := if_neg fun h => by rw [h.1] at e4; cases e4
      rw [this, RSw.fail_e (by rw [e4]; decide)]
    rw [e3, RSw.fail_e (s := s.fail 10) (x := 13) (by rw [e4]; decide), ite_self]
    exact ⟨e4, by decide⟩
set_option maxRecDepth 100000 in
set_option maxHeartbeats 1000000 in
theorem wrleaf_S (g : Nat) (s : RSw) {wy : List UInt8} {way : List Nat} (h : WayB wy way) (h0 : s.e = 0) : Spec 49 [ptV g, (plQ wy way.length).den] [RdQ g s] (fun w => s.rd w ∧ Tsh w) (rnPost g (readLeaf way s.l)) := by
  refine spec_S [.c (.v (ptV g)), plQ wy way.length] 20 Tryd.func49 rfl (by rw [Tryd.ntmps49]; rfl) (two_ok trivial (plQ_ok h.1 _)) fun b => ?_
  have hout := leaf_out (way := way) h0
  have hl1 := s.hv_len
  have hl2 := (s.go 32).hv_len
  have hq : OkT2 (s.hv, (s.go 32).hv) := ⟨hl1, hl2⟩
  have hrd : ∀ w, s.rd w → ((s.go 32).go 32).rd w := fun w hw => RSw.go_rd (RSw.go_rd hw)
  have hrd1 : ∀ w, s.rd w → (s.go 32).rd w := fun w hw => RSw.go_rd hw
  have hh1 := whash_S g s
  have hh2 := whash_S g (s.go 32)
  generalize hs2 : (s.go 32).go 32 = s2 at *
  generalize hs1 : s.go 32 = s1 at *
  generalize hk1 : s.hv = k1 at *
  generalize hk2 : s1.hv = k2 at *
  have hlf := wleafOf_S hq
  refine s_auto TY_ok rfl ?_
  refine s_regA TY_ok rfl fun K hK => ?_
  refine l_R ([RdQ g s] ++ []) rfl ?_
  refine l_callA [ptV g] rfl rfl rfl own_whash rfl rfl (fun _ _ => rfl) hh1 (fun _ h _ => h.1) fun _ => ?_
  refine l_autoS TY_ok rfl ?_
  refine l_R ([RdQ g s1] ++ []) rfl ?_
  refine l_callA [ptV g] rfl rfl rfl own_whash rfl rfl (fun _ _ => rfl) hh2 (fun w h _ => hrd1 w h.2.1) fun _ => ?_
  refine l_call0 [(eY 32 k1).den, (eY 32 k2).den] rfl rfl rfl own_wleafOf rfl rfl (fun _ _ => rfl) hlf (fun _ h _ => h.2.2.2) fun _ => ?_
  refine l_autoS TY_ok rfl ?_
  refine s_end (hK _ ?_)
  refine s_seq fun K1 hK1 => ?_
  refine s_regA TY_ok rfl fun K2 hK2 => ?_
  refine l_call0 [(plQ wy way.length).den, (eY 32 k1).den] rfl rfl rfl own_wleads rfl rfl (fun _ _ => rfl) (wleads_S h hl1) (fun _ _ _ => trivial) fun _ => ?_
  have hrest : ∀ s3, Out (readLeaf way s.l) (.leaf (k1, k2), s3) → (∀ w, s.rd w → s3.rd w) → ∀ en, Weak en ⟨[(5, .a 5 0)], [⟨5, none, 92, (PW.leaf (k1, k2)).ps⟩], [RdQ g s3], s.rd, fun _ => True⟩ → kS b K1 20 en := by
    intro s3 ho hr en hw
    refine k_weak hw (hK1 _ ?_)
    refine s_regA TY_ok rfl fun K3 hK3 => ?_
    refine l_op (.v (PW.leaf (k1, k2)).val) trivial rfl rfl rfl (run_mkI (q := .p (PW.leaf (k1, k2)).ps) rfl Tryd.underlying92 rfl rfl) ?_
    refine l_autoS TY_ok rfl ?_
    refine s_end (hK3 _ ?_)
    exact s_ret (k_ret TY_ok ⟨(.leaf (k1, k2), s3), ho⟩ rfl (by decide) rfl rfl rfl (fun w h _ => hr w h) (fun _ _ => trivial))
  by_cases hlead : Leads way k1
  · rw [if_pos hlead] at hout
    refine l_eq 14 (.v (.bool true)) rfl (congrArg (fun t => SV.v (.bool t)) (decide_eq_true hlead)) ?_
    refine l_autoS TY_ok rfl ?_
    refine s_end (hK2 _ ?_)
    refine s_no rfl ?_
    exact s_skip (hrest s2 hout hrd _ ⟨⟨rfl, trivial⟩, ⟨rfl, rfl, trivial⟩, .refl _, fun _ h _ => h.2.2.2.2.1, fun _ _ => trivial⟩)
  · rw [if_neg hlead] at hout
    refine l_eq 14 (.v (.bool false)) rfl (congrArg (fun t => SV.v (.bool t)) (decide_eq_false hlead)) ?_
    refine l_autoS TY_ok rfl ?_
    refine s_end (hK2 _ ?_)
    refine s_yes rfl ?_
    refine s_lit ?_
    refine l_autoS TY_ok rfl ?_
    refine l_R ([RdQ g s2] ++ []) rfl ?_
    refine l_callA [ptV g, .int .i64 13] rfl rfl rfl own_wfails rfl rfl (fun _ _ => rfl) (wfails_S g s2 13) (fun _ _ _ => trivial) fun _ => ?_
    exact s_end (hrest (s2.fail 13) hout hrd _ ⟨⟨rfl, trivial⟩, ⟨rfl, rfl, trivial⟩, .refl _, fun _ h _ => h.2.2.2.2.2.1, fun _ _ => trivial⟩)
end Go.Proofs.YtoecohpcnojokaaDoor
/-
  THE PROGRAM'S PARTS, read: inner nodes, whole parts.
-/
namespace Go.Proofs.YtoecohpcnojokaaDoor
open Go.RowKit Go.IntWalk Nums

/-- What reading a node does, n bits left. -/
def NodeS (n : Nat) : Prop := ∀ (way : List Nat) (wy : List UInt8) (s : RSw) (g : Nat), n + way.length = 256 → WayB wy way → Spec 33 [ptV g, (plQ wy way.length).den] [RdQ g s] (fun w => s.rd w ∧ Tsh w) (rnPost g (rdR n way s))
theorem bad_least (a b : PW) : PW.bad a b = decide (min a.kind 2 + min b.kind 2 < 2) := by
  unfold PW.bad
  have h1 := kind_lt a
  have h2 := kind_lt b
  generalize a.kind = x at *
  generalize b.kind = y at *
  have key : ∀ x, x < 4 → ∀ y, y < 4 → ((x == 0 && y == 0) || (x == 0 && y == 1) || (x == 1 && y == 0)) = decide (min x 2 + min y 2 < 2) := by decide
  exact key x h1 y h2
theorem in_out {m : Nat} {way : List Nat} {s s1 s2 : RSw} {x y : PW} (h0 : s.e = 0) (h1 : Out (rdR m (way ++ [0]) s) (x, s1)) (h2 : Out (rdR m (way ++ [1]) s1) (y, s2)) : Out (readIn (m + 1) way s.l) (.inner x y, if PW.bad x y then s2.fail 13 else s2) := by
  obtain ⟨g1, h1⟩ := h1
  obtain ⟨g2, h2⟩ := h2
  refine ⟨⟨g1, g2⟩, ?_⟩
  unfold rdR at h1 h2
  rw [if_pos h0] at h1
  unfold readIn
  dsimp only
  cases hr : PW.read m (way ++ [0]) s.l with
  | error e =>
    rw [hr] at h1
    obtain ⟨k1, k2⟩ := h1
    dsimp only at k1
    rw [if_neg (by rw [k1]; exact k2)] at h2
    obtain ⟨k3, _⟩ := h2
    dsimp only at k3
    rw [RSw.fail_e (by rw [k3, k1]; exact k2), ite_self]
    exact ⟨by rw [k3, k1], k2⟩
  | ok u =>
    obtain ⟨l, b1⟩ := u
    rw [hr] at h1
    obtain ⟨k1, k2, k3⟩ := h1
    dsimp only at k1 k2 k3
    subst k1 k2
    rw [if_pos k3] at h2
    dsimp only
    cases hr2 : PW.read m (way ++ [1]) s1.l with
    | error e =>
      rw [hr2] at h2
      obtain ⟨k4, k5⟩ := h2
      dsimp only at k4
      rw [RSw.fail_e (by rw [k4]; exact k5), ite_self]
      exact ⟨k4, k5⟩
    | ok u =>
      obtain ⟨r, b2⟩ := u
      rw [hr2] at h2
      obtain ⟨k4, k5, k6⟩ := h2
      dsimp only at k4 k5 k6
      subst k4 k5
      dsimp only
      cases hb : PW.bad x y with
      | true =>
        rw [if_pos rfl, if_pos rfl, RSw.fail_0 k6]
        exact ⟨rfl, by decide⟩
      | false =>
        rw [if_neg (by decide), if_neg (by decide)]
        exact ⟨rfl, rfl, k6⟩
set_option maxRecDepth 100000 in
set_option maxHeartbeats 2000000 in
theorem wrinner_S (n : Nat) (ih : ∀ m, n = m + 1 → NodeS m) (g : Nat) (s : RSw) {wy : List UInt8} {way : List Nat} (hn : n + way.length = 256) (h : WayB wy way) (h0 : s.e = 0) : Spec 50 [ptV g, (plQ wy way.length).den] [RdQ g s] (fun w => s.rd w ∧ Tsh w) (rnPost g (readIn n way s.l)) := by
  have hwl := h.1
  refine spec_S [.c (.v (ptV g)), plQ wy way.length] 39 Tryd.func50 rfl (by rw [Tryd.ntmps50]; rfl) (two_ok trivial (plQ_ok hwl _)) fun b => ?_
  refine s_auto TY_ok rfl ?_
  refine s_seq fun K hK => ?_
  refine s_auto TY_ok rfl ?_
  refine s_ifD ((way.length : Int) = 256) rfl (fun h256 => ?_) (fun h256 => ?_)
  · obtain rfl : n = 0 := by omega
    refine s_regA TY_ok rfl fun K1 hK1 => ?_
    refine l_R ([RdQ g s] ++ []) rfl ?_
    refine l_callA [ptV g, .int .i64 13] rfl rfl rfl own_wfails rfl rfl (fun _ _ => rfl) (wfails_S g s 13) (fun _ _ _ => trivial) fun _ => ?_
    refine s_end (hK1 _ ?_)
    refine s_regA TY_ok rfl fun K2 hK2 => ?_
    refine l_op (.v PW.empty.val) trivial rfl rfl rfl (run_mkI rfl Tryd.underlying102 rfl rfl) ?_
    refine l_autoS TY_ok rfl ?_
    refine s_end (hK2 _ ?_)
    exact s_ret (k_ret TY_ok ⟨(.empty, s.fail 13), trivial, by rw [RSw.fail_0 h0], by decide⟩ rfl (by decide) rfl rfl rfl (fun _ h _ => h.2.1) (fun _ _ => trivial))
  refine s_skip (hK _ ?_)
  have hlt : way.length < 256 := by have := h.2.1; omega
  obtain ⟨m, rfl⟩ : ∃ m, n = m + 1 := ⟨n - 1, by omega⟩
  have ihm := ih m rfl
  clear ih
  obtain ⟨d, hd⟩ : ∃ d, way.length = d := ⟨_, rfl⟩
  have ih0 := fun s g => ihm (way ++ [0]) (wayS wy d 0) s g (by rw [List.length_append, List.length_singleton]; omega) (hd ▸ h.more hlt (by decide))
  have ih1 := fun s g => ihm (way ++ [1]) (wayS wy d 1) s g (by rw [List.length_append, List.length_singleton]; omega) (hd ▸ h.more hlt (by decide))
  have hs0 := wside_S h hlt (b := 0) (by decide)
  have hs1 := wside_S h hlt (b := 1) (by decide)
  simp only [List.length_append, List.length_singleton, hd] at ih0 ih1 hs0 hs1
  rw [hd]
  refine s_auto TY_ok rfl ?_
  refine s_seq fun K1 hK1 => ?_
  refine s_auto TY_ok rfl ?_
  refine s_block ?_
  let F : Nat × Value × Value × RSw → Env := fun ⟨i, v0, v1, s'⟩ => ⟨[(14, .v (.int .i64 (i : Int))), (0, .v (ptV g)), (3, .a 3 0), (5, .a 5 0)], [⟨5, none, 111, [.agg 2 #[v0, v1]]⟩, ⟨3, none, 76, [.agg 32 (By wy).toArray, .one (.v (.int .i64 (d : Int)))]⟩], [RdQ g s'], fun w => s'.rd w ∧ Tsh w, fun _ => True⟩
  refine c_weak (e' := F (0, .nilIface, .nilIface, s)) ⟨⟨rfl, rfl, rfl, rfl, trivial⟩, ⟨rfl, rfl, rfl, rfl, trivial⟩, .refl _, fun _ h _ => h, fun _ _ => trivial⟩ (s_loop (fun y => 2 - y.1) F (fun y => (y.1 = 0 ∧ y.2.1 = .nilIface ∧ y.2.2.1 = .nilIface ∧ y.2.2.2 = s) ∨ (y.1 = 1 ∧ ∃ x, Out (rdR m (way ++ [0]) s) (x, y.2.2.2) ∧ y.2.1 = x.val ∧ y.2.2.1 = .nilIface) ∨ (y.1 = 2 ∧ ∃ x s1 z, Out (rdR m (way ++ [0]) s) (x, s1) ∧ Out (rdR m (way ++ [1]) s1) (z, y.2.2.2) ∧ y.2.1 = x.val ∧ y.2.2.1 = z.val)) ?_ (0, .nilIface, .nilIface, s) (.inl ⟨rfl, rfl, rfl, rfl⟩))
  rintro ⟨i, v0, v1, s'⟩ hI
  dsimp only at hI
  refine s_auto TY_ok rfl ?_
  refine s_seq fun K2 hK2 => ?_
  rcases hI with ⟨rfl, rfl, rfl, hs'⟩ | ⟨rfl, x, hx, rfl, rfl⟩ | ⟨rfl, x, s1, z, hx, hz, rfl, rfl⟩
  · obtain rfl := hs'.symm
    refine s_ifD (((0 : Nat) : Int) < 2) rfl (fun _ => ?_) (fun h => absurd (by decide) h)
    refine s_skip (hK2 _ ?_)
    refine s_seq fun K3 hK3 => ?_
    refine s_block ?_
    refine s_auto TY_ok rfl ?_
    refine s_lit ?_
    refine l_autoS TY_ok rfl ?_
    refine l_num 21 0 rfl (by decide) ?_
    refine l_call0 [(plQ wy d).den, .int .u8 0] rfl rfl rfl own_wside rfl rfl (fun _ _ => rfl) hs0 (fun _ _ _ => trivial) fun _ => ?_
    refine l_R ([RdQ g s] ++ []) rfl ?_
    refine l_callA [ptV g, (plQ (wayS wy d 0) (d + 1)).den] rfl rfl rfl own_wrnode rfl rfl (fun _ _ => rfl) (ih0 s g) (fun _ h _ => h.2) fun u => ?_
    obtain ⟨⟨x, s1⟩, hx⟩ := u
    refine l_op (.a 5 (0 + 1 * 0)) trivial rfl rfl rfl (runO_ixA 0 rfl Tryd.underlying111 rfl rfl rfl (by decide)) ?_
    refine l_stA [.agg 2 #[x.val, .nilIface]] rfl rfl rfl rfl rfl rfl rfl (PW.val_cells _) (PW.val_one _) (show _ < 2 by decide) (fun p hp => by
      rw [List.mem_singleton.1 hp]
      refine ⟨rfl, fun v hv => ?_⟩
      rcases List.mem_cons.1 hv with rfl | hv
      · exact x.val_one
      · rw [List.mem_singleton.1 hv]; rfl) rfl ?_
    refine s_end (hK3 _ ?_)
    refine s_autoE TY_ok rfl ?_
    exact k_next (1, x.val, .nilIface, s1) (.inr (.inl ⟨rfl, x, hx, rfl, rfl⟩)) (by show 2 - 1 < 2 - 0; decide) ⟨⟨rfl, rfl, rfl, rfl, trivial⟩, ⟨rfl, rfl, rfl, rfl, trivial⟩, .refl _, fun _ h _ => ⟨h.1, h.2.2.2⟩, fun _ _ => trivial⟩
  · revert hx
    generalize s' = s1
    intro hx
    refine s_ifD (((1 : Nat) : Int) < 2) rfl (fun _ => ?_) (fun h => absurd (by decide) h)
    refine s_skip (hK2 _ ?_)
    refine s_seq fun K3 hK3 => ?_
    refine s_block ?_
    refine s_auto TY_ok rfl ?_
    refine s_lit ?_
    refine l_autoS TY_ok rfl ?_
    refine l_num 21 1 rfl (by decide) ?_
    refine l_call0 [(plQ wy d).den, .int .u8 1] rfl rfl rfl own_wside rfl rfl (fun _ _ => rfl) hs1 (fun _ _ _ => trivial) fun _ => ?_
    refine l_R ([RdQ g s1] ++ []) rfl ?_
    refine l_callA [ptV g, (plQ (wayS wy d 1) (d + 1)).den] rfl rfl rfl own_wrnode rfl rfl (fun _ _ => rfl) (ih1 s1 g) (fun _ h _ => h.2) fun u => ?_
    obtain ⟨⟨z, s2⟩, hz⟩ := u
    refine l_op (.a 5 (0 + 1 * 1)) trivial rfl rfl rfl (runO_ixA 1 rfl Tryd.underlying111 rfl rfl rfl (by decide)) ?_
    refine l_stA (sdW x z) rfl rfl rfl rfl rfl rfl rfl (PW.val_cells _) (PW.val_one _) (show _ < 2 by decide) (sdW_ok x z) rfl ?_
    refine s_end (hK3 _ ?_)
    refine s_autoE TY_ok rfl ?_
    exact k_next (2, x.val, z.val, s2) (.inr (.inr ⟨rfl, x, s1, z, hx, hz, rfl, rfl⟩)) (by show 2 - 2 < 2 - 1; decide) ⟨⟨rfl, rfl, rfl, rfl, trivial⟩, ⟨rfl, rfl, rfl, rfl, trivial⟩, .refl _, fun _ h _ => ⟨h.1, h.2.2.2⟩, fun _ _ => trivial⟩
  · refine s_ifD (((2 : Nat) : Int) < 2) rfl (fun h => absurd h (by decide)) (fun _ => ?_)
    refine s_exit (k_pass (k_pass (k_out ?_)))
    refine hK1 _ ?_
    have hout := in_out h0 hx hz
    have hgx := hx.1
    have hgz := hz.1
    refine s_seq fun K3 hK3 => ?_
    refine s_regD 8 (by decide) (by kernel_rfl) (by kernel_rfl) fun K4 hK4 G S w0 hst => ?_
    refine g_opS (.a 5 (0 + 1 * 0)) trivial rfl rfl rfl (runO_ixA 0 rfl Tryd.underlying111 rfl rfl rfl (by decide)) ?_
    refine g_opV hst (.v x.val) trivial rfl rfl rfl (runO_ldA _ rfl rfl rfl rfl Tryd.underlying31 rfl) ?_
    refine g_callS (F' := fun _ => True) hst [x.val] rfl rfl rfl own_wleast rfl rfl (fun _ => rfl) (wleast_S hgx) trivial (fun _ _ _ _ => trivial) ?_
    refine g_opS (.a 5 (0 + 1 * 1)) trivial rfl rfl rfl (runO_ixA 1 rfl Tryd.underlying111 rfl rfl rfl (by decide)) ?_
    refine g_opV hst (.v z.val) trivial rfl rfl rfl (runO_ldA _ rfl rfl rfl rfl Tryd.underlying31 rfl) ?_
    refine g_callS (F' := fun _ => True) hst [z.val] rfl rfl rfl own_wleast rfl rfl (fun _ => rfl) (wleast_S hgz) trivial (fun _ _ _ _ => trivial) ?_
    refine g_autoS TY_ok hst rfl ?_
    refine g_endS hst ?_
    have hk1 := kind_lt x
    have hk2 := kind_lt z
    have hb := bad_least x z
    refine l_is 33 (PW.bad x z) rfl ?_ ?_
    · have e : IntKind.i64.wrap (((min x.kind 2 : Nat) : Int) + ((min z.kind 2 : Nat) : Int)) = ((min x.kind 2 + min z.kind 2 : Nat) : Int) := wrapI (by omega) (by omega) (by omega)
      rw [hb, e]
      exact decide_eq_decide.2 (by omega)
    refine s_end (hK4 _ ?_)
    have hrest : ∀ s3, Out (readIn (m + 1) way s.l) (.inner x z, s3) → s3.rd = s'.rd → ∀ en, Weak en ⟨[(5, .a 5 0)], [⟨5, none, 111, sdW x z⟩], [RdQ g s3], fun w => s'.rd w ∧ Tsh w, fun _ => True⟩ → kS b K3 39 en := by
      intro s3 ho hr en hw
      refine k_weak hw (hK3 _ ?_)
      refine s_regA TY_ok rfl fun K5 hK5 => ?_
      refine l_call0 [(SQ.p (sdW x z)).den] rfl rfl rfl own_winnerOf rfl rfl (fun _ _ => rfl) (winnerOf_S hgx hgz) (fun _ h _ => h.2) fun _ => ?_
      refine l_op (.v (PW.inner x z).val) trivial rfl rfl rfl (run_mkI (q := .p (PW.inner x z).ps) rfl Tryd.underlying113 rfl rfl) ?_
      refine l_autoS TY_ok rfl ?_
      refine s_end (hK5 _ ?_)
      exact s_ret (k_ret TY_ok ⟨(.inner x z, s3), ho⟩ rfl (by decide) rfl rfl rfl (fun w h _ => by show s3.rd w; rw [hr]; exact h.2.1) (fun _ _ => trivial))
    cases hbb : PW.bad x z with
    | true =>
      rw [hbb, if_pos rfl] at hout
      refine s_yes rfl ?_
      refine s_lit ?_
      refine l_autoS TY_ok rfl ?_
      refine l_R ([RdQ g s'] ++ []) rfl ?_
      refine l_callA [ptV g, .int .i64 13] rfl rfl rfl own_wfails rfl rfl (fun _ _ => rfl) (wfails_S g s' 13) (fun _ _ _ => trivial) fun _ => ?_
      exact s_end (hrest (s'.fail 13) hout rfl _ ⟨⟨rfl, trivial⟩, ⟨rfl, rfl, trivial⟩, .refl _, fun _ h _ => h.2, fun _ _ => trivial⟩)
    | false =>
      rw [hbb, if_neg (by decide)] at hout
      refine s_no rfl ?_
      exact s_skip (hrest s' hout rfl _ ⟨⟨rfl, trivial⟩, ⟨rfl, rfl, trivial⟩, .refl _, fun _ h _ => h, fun _ _ => trivial⟩)
end Go.Proofs.YtoecohpcnojokaaDoor
/-
  THE PROGRAM'S PARTS, read: any node; Parse.
-/
namespace Go.Proofs.YtoecohpcnojokaaDoor
open Go.RowKit Go.IntWalk Nums

theorem u8_eq {x : UInt8} {k : Nat} (hk : k < 256) : ((x.toNat : Nat) : Int) = (k : Int) ↔ x = UInt8.ofNat k := by
  constructor
  · intro h
    apply UInt8.toNat_inj.1
    rw [UInt8.toNat_ofNat', Nat.mod_eq_of_lt hk]
    omega
  · intro h
    rw [h, UInt8.toNat_ofNat', Nat.mod_eq_of_lt hk]
set_option maxRecDepth 100000 in
set_option maxHeartbeats 2000000 in
theorem wrnode_S : ∀ n, NodeS n := by
  intro n
  induction n using Nat.strongRecOn with
  | ind n ih =>
  intro way wy s g hn h
  have hwl := h.1
  refine spec_S [.c (.v (ptV g)), plQ wy way.length] 31 Tryd.func33 rfl (by rw [Tryd.ntmps33]; rfl) (two_ok trivial (plQ_ok hwl _)) fun b => ?_
  refine s_auto TY_ok rfl ?_
  refine s_seq fun K hK => ?_
  refine s_regA TY_ok rfl fun K1 hK1 => ?_
  refine l_R ([RdQ g s] ++ []) rfl ?_
  by_cases hc : s.can 1
  · obtain ⟨x, r, hx⟩ := RSw.can_cons hc
    have hr : rdR n way s = PW.read n way (x :: r) := by rw [rdR, if_pos hc.1, hx]
    have hl : (s.cut 1).l = r := by show s.l.drop 1 = r; rw [hx]; rfl
    have h0 : (s.cut 1).e = 0 := hc.1
    have hrd : ∀ w, s.rd w → (s.cut 1).rd w := fun w hw => RSw.rd_cut hw hc.2
    refine l_callA [ptV g] rfl rfl rfl own_wkind rfl rfl (fun _ _ => rfl) (wkind_yes g s hc hx) (fun _ h _ => h.1) fun _ => ?_
    refine s_end (hK1 _ ?_)
    rw [hr, read_cons]
    generalize s.cut 1 = s1 at *
    subst hl
    refine s_block ?_
    refine s_auto TY_ok rfl ?_
    refine s_ifD ((x.toNat : Int) = 0) rfl (fun e0 => ?_) (fun e0 => ?_)
    · have e : x = 0 := (u8_eq (k := 0) (by decide)).1 e0
      refine s_regA TY_ok rfl fun K2 hK2 => ?_
      refine l_op (.v PW.empty.val) trivial rfl rfl rfl (run_mkI rfl Tryd.underlying102 rfl rfl) ?_
      refine l_autoS TY_ok rfl ?_
      refine s_end (hK2 _ ?_)
      exact s_ret (k_ret TY_ok ⟨(.empty, s1), by rw [if_pos e]; exact ⟨trivial, rfl, rfl, h0⟩⟩ rfl (by decide) rfl rfl rfl (fun w h _ => hrd w h.2.1) (fun _ _ => trivial))
    have e0 : x ≠ 0 := fun e => e0 ((u8_eq (k := 0) (by decide)).2 e)
    rw [if_neg e0]
    refine s_auto TY_ok rfl ?_
    refine s_ifD ((x.toNat : Int) = 1) rfl (fun e1 => ?_) (fun e1 => ?_)
    · have e : x = 1 := (u8_eq (k := 1) (by decide)).1 e1
      rw [if_pos e]
      refine s_regA TY_ok rfl fun K2 hK2 => ?_
      refine l_R ([RdQ g s1] ++ []) rfl ?_
      refine l_callA [ptV g, (plQ wy way.length).den] rfl rfl rfl own_wrleaf rfl rfl (fun _ _ => rfl) (wrleaf_S g s1 h h0) (fun w h _ => ⟨hrd w h.2.1, h.2.2⟩) fun u => ?_
      refine l_autoS TY_ok rfl ?_
      refine s_end (hK2 _ ?_)
      exact s_ret (k_ret TY_ok u rfl (by decide) rfl rfl rfl (fun w h _ => h.1) (fun _ _ => trivial))
    have e1 : x ≠ 1 := fun e => e1 ((u8_eq (k := 1) (by decide)).2 e)
    rw [if_neg e1]
    refine s_auto TY_ok rfl ?_
    refine s_ifD ((x.toNat : Int) = 2) rfl (fun e2 => ?_) (fun e2 => ?_)
    · have e : x = 2 := (u8_eq (k := 2) (by decide)).1 e2
      rw [if_pos e]
      refine s_regA TY_ok rfl fun K2 hK2 => ?_
      refine l_R ([RdQ g s1] ++ []) rfl ?_
      refine l_callA [ptV g, (plQ wy way.length).den] rfl rfl rfl own_wrinner rfl rfl (fun _ _ => rfl) (wrinner_S n (fun m hm => ih m (by omega)) g s1 hn h h0) (fun w h _ => ⟨hrd w h.2.1, h.2.2⟩) fun u => ?_
      refine l_autoS TY_ok rfl ?_
      refine s_end (hK2 _ ?_)
      exact s_ret (k_ret TY_ok u rfl (by decide) rfl rfl rfl (fun w h _ => h.1) (fun _ _ => trivial))
    have e2 : x ≠ 2 := fun e => e2 ((u8_eq (k := 2) (by decide)).2 e)
    rw [if_neg e2]
    refine s_auto TY_ok rfl ?_
    refine s_ifD ((x.toNat : Int) = 3) rfl (fun e3 => ?_) (fun e3 => ?_)
    · have e : x = 3 := (u8_eq (k := 3) (by decide)).1 e3
      rw [if_pos e]
      refine s_regA TY_ok rfl fun K2 hK2 => ?_
      refine l_R ([RdQ g s1] ++ []) rfl ?_
      have hh := whash_S g s1
      have ho : Out (readHid s1.l) (.hid s1.hv, s1.go 32) := by
        refine ⟨s1.hv_len, ?_⟩
        unfold readHid RSw.hv RSw.go
        by_cases h32 : s1.can 32
        · rw [if_neg (by have := h32.2; omega), if_pos h32, if_pos h32]
          exact ⟨rfl, rfl, h0⟩
        · have : s1.l.length < 32 := by
            have : ¬ 32 ≤ s1.l.length := fun h => h32 ⟨h0, h⟩
            omega
          rw [if_pos this, if_neg h32, if_neg h32, RSw.fail_0 h0]
          exact ⟨rfl, by decide⟩
      have hrd2 : ∀ w, s1.rd w → (s1.go 32).rd w := fun w hw => RSw.go_rd hw
      generalize s1.go 32 = s2 at *
      have hgl := s1.hv_len
      generalize s1.hv = hv at *
      refine l_callA [ptV g] rfl rfl rfl own_whash rfl rfl (fun _ _ => rfl) hh (fun w h _ => hrd w h.2.1) fun _ => ?_
      refine l_autoS TY_ok rfl ?_
      refine l_op (.v (PW.hid hv).val) trivial rfl rfl rfl (run_mkI (q := .p (PW.hid hv).ps) rfl Tryd.underlying104 rfl rfl) ?_
      refine l_autoS TY_ok rfl ?_
      refine s_end (hK2 _ ?_)
      exact s_ret (k_ret TY_ok ⟨(.hid hv, s2), ho⟩ rfl (by decide) rfl rfl rfl (fun w h _ => hrd2 w (hrd w h.2.2.1)) (fun _ _ => trivial))
    have e3 : x ≠ 3 := fun e => e3 ((u8_eq (k := 3) (by decide)).2 e)
    rw [if_neg e3]
    refine s_skip (hK _ ?_)
    refine s_regA TY_ok rfl fun K2 hK2 => ?_
    refine l_R ([RdQ g s1] ++ []) rfl ?_
    refine l_callA [ptV g, .int .i64 13] rfl rfl rfl own_wfails rfl rfl (fun _ _ => rfl) (wfails_S g s1 13) (fun _ _ _ => trivial) fun _ => ?_
    refine s_end (hK2 _ ?_)
    refine s_regA TY_ok rfl fun K3 hK3 => ?_
    refine l_op (.v PW.empty.val) trivial rfl rfl rfl (run_mkI rfl Tryd.underlying102 rfl rfl) ?_
    refine l_autoS TY_ok rfl ?_
    refine s_end (hK3 _ ?_)
    exact s_ret (k_ret TY_ok ⟨(.empty, s1.fail 13), by rw [hr, read_cons, if_neg e0, if_neg e1, if_neg e2, if_neg e3]; exact ⟨trivial, by rw [RSw.fail_0 h0], by decide⟩⟩ rfl (by decide) rfl rfl rfl (fun w h _ => hrd w h.2.2.1) (fun _ _ => trivial))
  · have ho : Out (rdR n way s) (.empty, s.fail 10) := by
      refine ⟨trivial, ?_⟩
      unfold rdR
      by_cases h0 : s.e = 0
      · have hl : s.l = [] := by
          cases hl : s.l with
          | nil => rfl
          | cons x r => exact absurd (show s.can 1 from ⟨h0, by rw [hl]; simp⟩) hc
        rw [if_pos h0, hl, read_nil, RSw.fail_0 h0]
        exact ⟨rfl, by decide⟩
      · rw [if_neg h0, RSw.fail_e h0]
        exact ⟨rfl, h0⟩
    refine l_callA [ptV g] rfl rfl rfl own_wkind rfl rfl (fun _ _ => rfl) (wkind_no g s hc) (fun _ _ _ => trivial) fun _ => ?_
    refine s_end (hK1 _ ?_)
    refine s_block ?_
    refine s_auto TY_ok rfl ?_
    refine s_ifD ((0 : Int) = 0) rfl (fun _ => ?_) (fun h => absurd rfl h)
    refine s_regA TY_ok rfl fun K2 hK2 => ?_
    refine l_op (.v PW.empty.val) trivial rfl rfl rfl (run_mkI rfl Tryd.underlying102 rfl rfl) ?_
    refine l_autoS TY_ok rfl ?_
    refine s_end (hK2 _ ?_)
    exact s_ret (k_ret TY_ok ⟨(.empty, s.fail 10), ho⟩ rfl (by decide) rfl rfl rfl (fun w h _ => h.2.1) (fun _ _ => trivial))
/-- What Parse hands back. -/
def parseR (r : Except Nat PW) : RV := match r with
  | .ok w => .t [prQ w, .c (.v (.int .i64 0))]
  | .error e => .t [prQ .empty, .c (.v (.int .i64 (e : Int)))]
/-- What is left behind the last look. -/
def RSw.last (s : RSw) : RSw := if 0 < s.l.length then s.fail 11 else s
theorem parse_out {A : Option Addr} {c : Nat} {b : List UInt8} {w : PW} {s : RSw} (h : Out (rdR 256 [] ⟨A, c, b, 0⟩) (w, s)) : (s.last.e = 0 → PW.parse b = .ok w) ∧ (s.last.e ≠ 0 → PW.parse b = .error s.last.e) := by
  obtain ⟨_, h⟩ := h
  rw [rdR, if_pos rfl] at h
  unfold PW.parse
  dsimp only at h
  cases hr : PW.read 256 [] b with
  | error e =>
    rw [hr] at h
    obtain ⟨h1, h2⟩ := h
    have e1 : s.last = s := by
      unfold RSw.last
      rw [RSw.fail_e (by rw [h1]; exact h2), ite_self]
    rw [e1, h1]
    exact ⟨fun h => absurd h h2, fun _ => rfl⟩
  | ok u =>
    obtain ⟨x, r⟩ := u
    rw [hr] at h
    obtain ⟨h1, h2, h3⟩ := h
    unfold RSw.last
    rw [h2]
    cases r with
    | nil =>
      rw [if_neg (by decide)]
      exact ⟨fun _ => by rw [h1], fun h => absurd h3 h⟩
    | cons y r =>
      rw [if_pos (by simp), RSw.fail_0 h3]
      exact ⟨fun h => absurd (show (11 : Nat) = 0 from h) (by decide), fun _ => rfl⟩
theorem own_wParse : Own 15 := fun _ _ => by go_simp
set_option maxRecDepth 100000 in
set_option maxHeartbeats 2000000 in
theorem wParse_S {A : Option Addr} {c : Nat} (B : List UInt8) : Spec 15 [.slice A B.length c] [] (fun w => Rd 1 eB A c B w ∧ Tsh w) (one (parseR (PW.parse B))) := by
  refine spec_S [.c (.v (.slice A B.length c))] 23 Tryd.func15 rfl (by rw [Tryd.ntmps15]; rfl) (one_ok trivial) fun b => ?_
  have hnode := fun g => wrnode_S 256 [] z32T ⟨A, c, B, 0⟩ g rfl WayB.nil
  replace hnode : ∀ g, Spec 33 [ptV g, (plQ z32T 0).den] [RdQ g ⟨A, c, B, 0⟩] (fun w => Rd 1 eB A c B w ∧ Tsh w) (rnPost g (rdR 256 [] ⟨A, c, B, 0⟩)) := hnode
  refine s_auto TY_ok rfl ?_
  refine s_regA TY_ok rfl fun K hK => ?_
  refine s_end ?_
  refine k_give 4 (E' := [(2, .a 2 0)]) rfl ⟨rfl, trivial⟩ fun g => hK _ ?_
  refine s_regA TY_ok rfl fun K1 hK1 => ?_
  refine l_R ([RdQ g ⟨A, c, B, 0⟩] ++ []) rfl ?_
  refine l_callA [ptV g, (plQ z32T 0).den] rfl rfl rfl own_wrnode rfl rfl (fun _ _ => rfl) (hnode g) (fun _ h _ => h) fun u => ?_
  obtain ⟨⟨w, s⟩, hu⟩ := u
  obtain ⟨hp0, hp1⟩ := parse_out hu
  refine l_autoS TY_ok rfl ?_
  refine s_end (hK1 _ ?_)
  refine s_keep [2, 4, 5] [2] rfl rfl ?_
  refine s_seq fun K2 hK2 => ?_
  refine s_regA TY_ok rfl fun K3 hK3 => ?_
  refine l_ldO TY_ok rfl rfl rfl rfl rfl rfl (obj_own 0 rfl) ?_
  refine l_autoS TY_ok rfl ?_
  refine s_end (hK3 _ ?_)
  have hrest : ∀ s3 : RSw, s3 = s.last → ∀ en, Weak en ⟨[(2, .a 2 0), (4, .v (ptV g)), (5, .v w.val)], [⟨2, none, 33, [.one (.v .nilIface)]⟩], [RdQ g s3], fun _ => True, fun _ => True⟩ → kS b K2 23 en := by
    intro s3 hs3 en hw
    rw [← hs3] at hp0 hp1
    refine k_weak hw (hK2 _ ?_)
    refine s_seq fun K4 hK4 => ?_
    refine s_regA TY_ok rfl fun K5 hK5 => ?_
    refine l_ldO TY_ok rfl rfl rfl rfl rfl rfl (obj_own 0 rfl) ?_
    refine l_autoS TY_ok rfl ?_
    refine s_end (hK5 _ ?_)
    refine s_ifD ((s3.e : Int) ≠ 0) rfl (fun he => ?_) (fun he => ?_)
    · have he : s3.e ≠ 0 := fun h => he (by rw [h]; rfl)
      have hok : OkP s3.ps := fun p hp => by
        rcases List.mem_cons.1 hp with rfl | hp
        · exact ⟨trivial, rfl, rfl⟩
        · rw [List.mem_singleton.1 hp]; exact ⟨trivial, rfl, rfl⟩
      refine s_seq fun K6 hK6 => ?_
      have hinv : ∀ {E' : SE} {L' : List LV} {F' M' : World → Prop}, ∀ a w, St b 23 ⟨E', L', [RdQ g s3], F', M'⟩ a w → ObjF g 73 s3.ps w := fun a w ⟨G, S, _, _, h3⟩ => obj_own 0 rfl G S w h3.view
      refine s_anyP [0, 1, 2] 4 1 (ObjF g 73 s3.ps) (by kernel_rfl) rfl hinv ?_
      refine p_frontS (L0 := []) TY_ok 0 (by kernel_rfl) rfl rfl rfl rfl rfl rfl (fun _ h => by cases h) (fun _ _ _ h => by cases h) ?_
      refine p_frontS (L0 := []) TY_ok 1 (by kernel_rfl) rfl rfl rfl rfl rfl rfl (fun _ h => by cases h) (fun _ _ _ h => by cases h) ?_
      refine p_ldO TY_ok 2 (by kernel_rfl) rfl rfl rfl rfl rfl rfl rfl hok (fun _ h => h) ?_
      refine p_step 3 (by kernel_rfl) rfl fun K7 hK7 => ?_
      refine l_autoS TY_ok rfl ?_
      refine s_end (hK7 _ hinv ?_)
      refine p_tail [4] (by kernel_rfl) rfl ?_
      refine l_autoS TY_ok rfl ?_
      refine s_end (hK6 _ ?_)
      refine s_ret (k_drop 0 rfl ?_)
      exact k_ret TY_ok () rfl (by decide) rfl (by show parseR (PW.parse B) = _; rw [hp1 he]; rfl) rfl (fun _ _ _ => trivial) (fun _ _ => trivial)
    · have he : s3.e = 0 := by omega
      refine s_skip (hK4 _ ?_)
      refine s_regA TY_ok rfl fun K6 hK6 => ?_
      refine l_call0 [w.val] rfl rfl rfl own_wpart rfl rfl (fun _ _ => rfl) (wpart_S w) (fun _ _ _ => trivial) fun _ => ?_
      refine l_autoS TY_ok rfl ?_
      refine s_end (hK6 _ ?_)
      refine s_ret (k_drop 0 rfl ?_)
      exact k_ret TY_ok () rfl (by decide) rfl (by show parseR (PW.parse B) = _; rw [hp0 he]; rfl) rfl (fun _ _ _ => trivial) (fun _ _ => trivial)
  refine s_ifD ((s.l.length : Int) > 0) rfl (fun h0 => ?_) (fun h0 => ?_)
  · refine s_lit ?_
    refine l_R ([RdQ g s] ++ []) rfl ?_
    refine l_callA [ptV g, .int .i64 11] rfl rfl rfl own_wfails rfl rfl (fun _ _ => rfl) (wfails_S g s 11) (fun _ _ _ => trivial) fun _ => ?_
    exact s_end (hrest (s.fail 11) (by rw [RSw.last, if_pos (by omega)]) _ ⟨⟨rfl, rfl, rfl, trivial⟩, ⟨rfl, rfl, trivial⟩, .refl _, fun _ _ _ => trivial, fun _ _ => trivial⟩)
  · exact s_skip (hrest s (by rw [RSw.last, if_neg (by omega)]) _ ⟨⟨rfl, rfl, rfl, trivial⟩, ⟨rfl, rfl, trivial⟩, .refl _, fun _ _ _ => trivial, fun _ _ => trivial⟩)
end Go.Proofs.YtoecohpcnojokaaDoor
/-
  THE PROGRAM'S PARTS, cut: keys are cloned, and parted by a bit.
-/
namespace Go.Proofs.YtoecohpcnojokaaDoor
open Go.RowKit Go.IntWalk Nums

section
variable {N : Nat} {E : SE} {o : Oper} {x y : Operand} {t t' : TypeId}
/-- The address behind a cut at the begin, elements of k cells. -/
def cutK (k : Nat) (A : Option Addr) (c n : Nat) : Option Addr := if c = n then A else A.map (·.add (k * n))
/-- A cut at the begin: s[j:], any elements. -/
theorem run_cutLoK {A : Option Addr} {n c j sz : Nat} {e : TypeId} (he : (Tryd.prog.info? e).map (·.size) = some sz) (hj : j ≤ n) (hc : n ≤ c) (hA : A = none → c = 0) (ho : o.op = .slice t x (some y) none none) (hu : Tryd.prog.underlying t = some (.slice e)) (hx : evS E x = some (.v (.slice A n c))) (hy : evS E y = some (.v (.int .i64 (j : Int)))) :
    ∀ (G : Nat → Nat) (a : Act) (w : World), Fr N (denE G E) a → (execOp a.eval o).run Tryd.prog w = .ok (.value ((SV.v (.slice (cutK sz A c j) (n - j) (c - j))).den G)) w := fun G a w ha => by
  have h1 : a.eval x = .slice A n c := ha.eval (evS_ok hx)
  have h2 : a.eval y = .int .i64 (j : Int) := ha.eval (evS_ok hy)
  have h3 : (j : Int) ≤ (n : Int) := by omega
  have h4 : (0 : Int) ≤ (j : Int) := by omega
  have h5 : (n : Int) ≤ (c : Int) := by omega
  have h6 := run_sizeOf he w
  unfold execOp
  simp only [ho]
  generalize a.eval = ρ at *
  simp only [Option.map, h1, h2]
  show _ = Result.ok (Next.value (.slice (cutK sz A c j) (n - j) (c - j))) w
  cases A with
  | none =>
    obtain rfl : c = 0 := hA rfl
    obtain rfl : n = 0 := by omega
    obtain rfl : j = 0 := by omega
    go_simp
    rfl
  | some ad =>
    unfold cutK
    by_cases e : c = j
    · rw [if_pos e]
      go_simp
    · rw [if_neg e]
      go_simp
      rw [Nat.mul_comm]
/-- '== nil' of a slice. -/
theorem run_eqNilS {A : Option Addr} {n c : Nat} {e : TypeId} (ho : o.op = .binOp .eql t x (.const (.slice none 0 0)) t') (hu : Tryd.prog.underlying t = some (.slice e)) (hx : evS E x = some (.v (.slice A n c))) :
    ∀ (G : Nat → Nat) (a : Act) (w : World), Fr N (denE G E) a → (execOp a.eval o).run Tryd.prog w = .ok (.value ((SV.v (.bool A.isNone)).den G)) w := fun G a w ha => by
  have h1 : a.eval x = .slice A n c := ha.eval (evS_ok hx)
  have h3 := run_equal_slice_nil (P := Tryd.prog) w t e A n c hu
  unfold execOp
  have h4 : (eqGuard .eql t x (.const (.slice none 0 0)) (.slice A n c) (.slice none 0 0)).run Tryd.prog w = .ok () w := rfl
  simp only [ho, h1, show a.eval (.const (.slice none 0 0)) = .slice none 0 0 from rfl, Sem.run_bind, h4, Result.andThen_ok, binOp, h3, Sem.run_pure]
  rfl
end
/-- A part of what is read. -/
theorem Rd.sub {α : Type} {k c c' g : Nat} {fe : α → SQ} {P l Z : List α} {w : World} (h : Rd k fe (some ⟨g, 0, none⟩) c (P ++ l ++ Z) w) (hc : l.length ≤ c') (hm : c' ≤ 9223372036854775807) : Rd k fe (some ⟨g, k * P.length, none⟩) c' l w := by
  obtain ⟨h1, h2, h3, h4, h5⟩ := h
  refine ⟨hc, hm, fun e => (by cases e), fun x hx => h4 x (by simp [hx]), fun h0 => ?_⟩
  obtain ⟨b, o, e, hb, hr⟩ := h5 (by rw [List.length_append, List.length_append]; omega)
  injection e with e
  injection e with e1 e2
  subst e1 e2
  refine ⟨g, k * P.length, rfl, hb, fun i x hx => ?_⟩
  have := hr (P.length + i) x (by
    rw [List.append_assoc, List.getElem?_append_right (by omega), Nat.add_sub_cancel_left, List.getElem?_append_left (List.getElem?_eq_some_iff.1 hx).1]
    exact hx)
  rwa [Nat.zero_add, Nat.mul_add] at this
abbrev KyS (A : Option Addr) (c : Nat) (l : List (List UInt8)) : Res := OwnS 0 38 32 (eY 32) A c l
theorem own_wclone : Own 28 := fun _ _ => by go_simp
theorem own_wparted : Own 47 := fun _ _ => by go_simp
set_option maxRecDepth 100000 in
set_option maxHeartbeats 1000000 in
theorem wclone_S {A : Option Addr} {c : Nat} (l : List (List UInt8)) (hl : l.length ≤ 1000000) : Spec 28 [.slice A l.length c] [] (Rd 32 (eY 32) A c l) { ret := fun x : PX => .v (.slice x.1 l.length x.2), own := fun x => [KyS x.1 x.2 l] } := by
  refine spec_S [.c (.v (.slice A l.length c))] 8 Tryd.func28 rfl (by rw [Tryd.ntmps28]; rfl) (one_ok trivial) fun b => ?_
  refine s_pure (l.length ≤ c ∧ (A = none → c = 0)) (fun w hw _ => ⟨hw.1, hw.2.2.1⟩) fun ⟨hlc, hA⟩ => ?_
  refine s_auto TY_ok rfl ?_
  refine s_seq fun K hK => ?_
  refine s_regA TY_ok rfl fun K1 hK1 => ?_
  refine l_op (.v (.bool A.isNone)) trivial rfl rfl rfl (run_eqNilS rfl Tryd.underlying23 rfl) ?_
  refine s_end (hK1 _ ?_)
  cases A with
  | none =>
    obtain rfl : c = 0 := hA rfl
    obtain rfl : l = [] := List.eq_nil_of_length_eq_zero (by omega)
    refine s_yes rfl ?_
    refine s_nil0 0 38 32 (eY 32) ?_
    refine s_auto TY_ok rfl ?_
    exact s_ret (k_ret TY_ok (none, 0) rfl (by decide) rfl rfl rfl (fun _ _ _ => trivial) (fun _ _ => trivial))
  | some ad =>
    refine s_no rfl ?_
    refine s_skip (hK _ ?_)
    refine s_regA TY_ok rfl fun K2 hK2 => ?_
    refine l_list0 (e := 38) (sz := 32) 0 (eY 32) rfl rfl rfl rfl (Nat.zero_le _) (fun w => by go_simp) fun B => ?_
    refine l_autoS TY_ok rfl ?_
    refine l_appY TY_ok 0 l rfl rfl rfl rfl rfl rfl rfl rfl rfl (rd_fact fun _ h _ => h) (by decide) (by show (0 + l.length) * 32 ≤ _; omega) (by show 0 + l.length ≤ _; omega) (Nat.zero_le _) fun A1 c1 => ?_
    refine l_autoS TY_ok rfl ?_
    refine s_end (hK2 _ ?_)
    exact s_ret (k_ret TY_ok (A1, c1) rfl (by decide) rfl rfl rfl (fun _ _ _ => trivial) (fun _ _ => trivial))
/-- Keys are a part of a slice of one's own. -/
structure KeyAt (A A' : Option Addr) (c' i n : Nat) : Prop where
  le : n ≤ c'
  max : c' ≤ 9223372036854775807
  nil : A' = none → c' = 0
  at_ : 0 < n → ∃ g, A = some ⟨g, 0, none⟩ ∧ A' = some ⟨g, 32 * i, none⟩
theorem KeyAt.left {A A' : Option Addr} {c' i n m : Nat} (h : KeyAt A A' c' i n) (hm : m ≤ n) : KeyAt A A' c' i m := ⟨Nat.le_trans hm h.le, h.max, h.nil, fun h0 => h.at_ (by omega)⟩
theorem KeyAt.right {A A' : Option Addr} {c' i n m : Nat} (h : KeyAt A A' c' i n) (hm : m ≤ n) : KeyAt A (cutK 32 A' c' m) (c' - m) (i + m) (n - m) := by
  have hle := h.le
  refine ⟨by omega, by have := h.max; omega, fun e => ?_, fun h0 => ?_⟩
  · unfold cutK at e
    by_cases e2 : c' = m
    · omega
    · rw [if_neg e2] at e
      cases A' with
      | none => have := h.nil rfl; omega
      | some ad => cases e
  · obtain ⟨g, e1, e2⟩ := h.at_ (by omega)
    refine ⟨g, e1, ?_⟩
    unfold cutK
    rw [if_neg (by omega), e2]
    show some (Addr.add ⟨g, 32 * i, none⟩ (32 * m)) = _
    simp [Addr.add, Nat.mul_add]
/-- The first goes behind the others. -/
def rotK : List (List UInt8) → List (List UInt8)
  | [] => []
  | z :: t => t ++ [z]
theorem rot_perm : ∀ l, (rotK l).Perm l
  | [] => .refl _
  | z :: t => List.perm_append_singleton z t
theorem rot_len (l : List (List UInt8)) : (rotK l).length = l.length := (rot_perm l).length_eq
def hdKey (zs : List (List UInt8)) (k : List UInt8) : List UInt8 := match zs with
  | [] => k
  | z :: _ => z
theorem hdKey_at {P ys zs r Z : List (List UInt8)} {k : List UInt8} : (P ++ (ys ++ zs ++ k :: r) ++ Z)[P.length + ys.length]? = some (hdKey zs k) := by
  have e : P ++ (ys ++ zs ++ k :: r) ++ Z = (P ++ ys) ++ (zs ++ (k :: (r ++ Z))) := by simp
  rw [e, List.getElem?_append_right (by rw [List.length_append]; omega), List.length_append, Nat.sub_self]
  cases zs <;> rfl
theorem swap_list {P ys zs r Z : List (List UInt8)} {k : List UInt8} : ((P ++ (ys ++ zs ++ k :: r) ++ Z).set (P.length + (ys.length + zs.length)) (hdKey zs k)).set (P.length + ys.length) k = P ++ ((ys ++ [k]) ++ rotK zs ++ r) ++ Z := by
  cases zs with
  | nil =>
    have e : P ++ (ys ++ [] ++ k :: r) ++ Z = (P ++ ys) ++ (k :: (r ++ Z)) := by simp
    rw [e, List.length_nil, Nat.add_zero, List.set_append_right _ _ (by rw [List.length_append]; omega), List.length_append, Nat.sub_self]
    show ((P ++ ys) ++ (k :: (r ++ Z))).set (P.length + ys.length) k = _
    rw [List.set_append_right _ _ (by rw [List.length_append]; omega), List.length_append, Nat.sub_self]
    simp [rotK]
  | cons z t =>
    have e : P ++ (ys ++ z :: t ++ k :: r) ++ Z = (P ++ ys ++ z :: t) ++ (k :: (r ++ Z)) := by simp
    have el : (P ++ ys ++ z :: t).length = P.length + (ys.length + (z :: t).length) := by rw [List.length_append, List.length_append]; omega
    rw [e, List.set_append_right _ _ (by rw [el]; exact Nat.le_refl _), el, Nat.sub_self]
    show ((P ++ ys ++ z :: t) ++ (z :: (r ++ Z))).set (P.length + ys.length) k = _
    have e2 : (P ++ ys ++ z :: t) ++ (z :: (r ++ Z)) = (P ++ ys) ++ (z :: (t ++ (z :: (r ++ Z)))) := by simp
    rw [e2, List.set_append_right _ _ (by rw [List.length_append]; omega), List.length_append, Nat.sub_self]
    simp [rotK]
/-- Keys, parted. -/
def Parted (d : Nat) (ks : List (List UInt8)) (x : List (List UInt8) × List (List UInt8)) : Prop := x.1.Perm (PW.keyL d ks) ∧ x.2.Perm (PW.keyR d ks)
theorem Parted.perm {d : Nat} {ks : List (List UInt8)} {x : List (List UInt8) × List (List UInt8)} (h : Parted d ks x) : (x.1 ++ x.2).Perm ks := (h.1.append h.2).trans (List.filter_append_perm (fun k => bitT k d == 0) ks)
theorem Parted.len {d : Nat} {ks : List (List UInt8)} {x : List (List UInt8) × List (List UInt8)} (h : Parted d ks x) : x.1.length + x.2.length = ks.length := by
  rw [← List.length_append]
  exact h.perm.length_eq
theorem Parted.zero {d : Nat} {ks ys zs : List (List UInt8)} {k : List UInt8} (h : Parted d ks (ys, zs)) (hb : bitT k d = 0) : Parted d (ks ++ [k]) (ys ++ [k], rotK zs) := by
  constructor
  · show (ys ++ [k]).Perm (List.filter _ _)
    rw [List.filter_append]
    have e : List.filter (fun k => bitT k d == 0) [k] = [k] := by simp [hb]
    rw [e]
    exact h.1.append_right _
  · show (rotK zs).Perm (List.filter _ _)
    rw [List.filter_append]
    have e : List.filter (fun k => bitT k d != 0) [k] = [] := by simp [hb]
    rw [e, List.append_nil]
    exact (rot_perm zs).trans h.2
theorem Parted.one {d : Nat} {ks ys zs : List (List UInt8)} {k : List UInt8} (h : Parted d ks (ys, zs)) (hb : bitT k d ≠ 0) : Parted d (ks ++ [k]) (ys, zs ++ [k]) := by
  constructor
  · show ys.Perm (List.filter _ _)
    rw [List.filter_append]
    have e : List.filter (fun k => bitT k d == 0) [k] = [] := by simp [hb]
    rw [e, List.append_nil]
    exact h.1
  · show (zs ++ [k]).Perm (List.filter _ _)
    rw [List.filter_append]
    have e : List.filter (fun k => bitT k d != 0) [k] = [k] := by simp [hb]
    rw [e]
    exact h.2.append_right _
set_option maxRecDepth 100000 in
set_option maxHeartbeats 2000000 in
theorem wparted_S {A A' : Option Addr} {c c' : Nat} (P ks Z : List (List UInt8)) (d : Nat) (hd : d < 256) (hat : KeyAt A A' c' P.length ks.length) (hks : ∀ k ∈ ks, k.length = 32) : Spec 47 [.slice A' ks.length c', .int .u8 (d : Int)] [KyS A c (P ++ ks ++ Z)] (fun _ => True)
    { ret := fun x : { x // Parted d ks x } => .t [.c (.v (.slice A' x.1.1.length c')), .c (.v (.slice (cutK 32 A' c' x.1.1.length) x.1.2.length (c' - x.1.1.length)))], own := fun x => [KyS A c (P ++ (x.1.1 ++ x.1.2) ++ Z)] } := by
  refine spec_S [.c (.v (.slice A' ks.length c')), .c (.v (.int .u8 (d : Int)))] 40 Tryd.func47 rfl (by rw [Tryd.ntmps47]; rfl) (two_ok trivial trivial) fun b => ?_
  have hle := hat.le
  have hmax := hat.max
  have hnil := hat.nil
  refine s_auto TY_ok rfl ?_
  refine s_auto TY_ok rfl ?_
  refine s_seq fun K hK => ?_
  refine s_auto TY_ok rfl ?_
  refine s_block ?_
  let F : List (List UInt8) × List (List UInt8) × List (List UInt8) → Env := fun ⟨ys, zs, r⟩ => ⟨[(11, .v (.int .i64 ((ys.length + zs.length : Nat) : Int))), (10, .v (.int .i64 (ks.length : Int))), (9, .v (.slice A' ks.length c')), (0, .v (.slice A' ks.length c')), (1, .v (.int .u8 (d : Int))), (6, .v (.int .i64 (ys.length : Int)))], [], [KyS A c (P ++ (ys ++ zs ++ r) ++ Z)], fun _ => True, fun _ => True⟩
  refine c_weak (e' := F ([], [], ks)) ⟨⟨rfl, rfl, rfl, rfl, rfl, rfl, trivial⟩, trivial, .refl _, fun _ _ _ => trivial, fun _ _ => trivial⟩ (s_loop (fun y => y.2.2.length) F (fun y => ∃ done, ks = done ++ y.2.2 ∧ Parted d done (y.1, y.2.1)) ?_ ([], [], ks) ⟨[], rfl, .refl _, .refl _⟩)
  rintro ⟨ys, zs, r⟩ ⟨done, hdone, hpt⟩
  dsimp only at hdone hpt
  have hlen := hpt.len
  have hkl : ks.length = done.length + r.length := by rw [hdone, List.length_append]
  dsimp only at hlen
  refine s_auto TY_ok rfl ?_
  refine s_seq fun K1 hK1 => ?_
  refine s_ifD (((ys.length + zs.length : Nat) : Int) < (ks.length : Int)) rfl (fun hlt => ?_) (fun hge => ?_)
  · cases r with
    | nil => rw [List.length_nil] at hkl; omega
    | cons k r =>
    rw [List.length_cons] at hkl
    have hk : k.length = 32 := hks k (by rw [hdone]; simp)
    obtain ⟨g, rfl, rfl⟩ := hat.at_ (by omega)
    have hok : ∀ G S w, View G S [] [KyS (some ⟨g, 0, none⟩) c (P ++ (ys ++ zs ++ k :: r) ++ Z)] (fun _ => True) (fun _ => True) w → Rd 32 (eY 32) (some ⟨g, 32 * P.length, none⟩) c' (ys ++ zs ++ k :: r) w := fun G S w hv => (rd_own 0 rfl G S w hv).sub (by simp; omega) hmax
    have hn1 : (ys ++ zs ++ k :: r).length = ks.length := by simp; omega
    refine s_skip (hK1 _ ?_)
    refine s_seq fun K2 hK2 => ?_
    refine s_block ?_
    refine s_regA TY_ok rfl fun K3 hK3 => ?_
    refine l_elem (l := ys ++ zs ++ k :: r) TY_ok rfl rfl rfl (ys.length + zs.length) rfl (by rw [List.getElem?_append_right (by rw [List.length_append]; exact Nat.le_refl _), List.length_append, Nat.sub_self]; rfl) hn1.symm rfl hok ?_
    refine l_autoS TY_ok rfl ?_
    refine s_end (hK3 _ ?_)
    refine s_regA TY_ok rfl fun K4 hK4 => ?_
    refine l_call0 [(eY 32 k).den, .int .u8 (d : Int)] rfl rfl rfl own_wbit rfl rfl (fun _ _ => rfl) (wbit_S hk d hd) (fun _ _ _ => trivial) fun _ => ?_
    refine l_autoS TY_ok rfl ?_
    refine s_end (hK4 _ ?_)
    have hdone2 : ks = (done ++ [k]) ++ r := by rw [hdone]; simp
    have hzs : zs.length ≤ 9223372036854775807 := by omega
    refine s_ifD (((bitT k d : Nat) : Int) = 0) rfl (fun hb => ?_) (fun hb => ?_)
    · have hb : bitT k d = 0 := by omega
      refine s_own 0 rfl fun hokF _ _ => ?_
      obtain ⟨hh1, hh2⟩ := hokF _ (List.mem_of_getElem? (hdKey_at (P := P) (ys := ys) (zs := zs) (r := r) (Z := Z) (k := k)))
      have hkF := eY_ok (n := 32) hk
      have hhat := hdKey_at (P := []) (ys := ys) (zs := zs) (r := r) (Z := []) (k := k)
      rw [List.nil_append, List.append_nil, List.length_nil, Nat.zero_add] at hhat
      have hswap := swap_list (P := P) (ys := ys) (zs := zs) (r := r) (Z := Z) (k := k)
      have hlx : (P ++ (ys ++ zs ++ k :: r) ++ Z).length = P.length + (ys.length + zs.length + (1 + r.length)) + Z.length := by simp; omega
      obtain ⟨u1, hu1⟩ : ∃ u, (P ++ (ys ++ zs ++ k :: r) ++ Z)[P.length + (ys.length + zs.length)]? = some u := ⟨_, List.getElem?_eq_getElem (by omega)⟩
      obtain ⟨u2, hu2⟩ : ∃ u, ((P ++ (ys ++ zs ++ k :: r) ++ Z).set (P.length + (ys.length + zs.length)) (hdKey zs k))[P.length + ys.length]? = some u := ⟨_, List.getElem?_eq_getElem (by rw [List.length_set]; omega)⟩
      have hc1 := (hokF _ (List.mem_of_getElem? hu1)).2
      have hc2 : (eY 32 u2).cl.length = 32 := by
        rcases List.mem_or_eq_of_mem_set (List.mem_of_getElem? hu2) with h | rfl
        · exact (hokF _ h).2
        · exact hh2
      generalize hdKey zs k = hd at *
      generalize hxs : P ++ (ys ++ zs ++ k :: r) ++ Z = xs at *
      refine s_keep [0, 1, 6, 7, 8, 9, 10, 11] [8] rfl rfl ?_
      refine s_locs fun G => ?_
      have hsub : ∀ u ∈ ([⟨8, some (G 8), 38, [.agg 32 (By k).toArray]⟩] : List LV), u ∈ withG G [⟨8, none, 38, [.agg 32 (By k).toArray]⟩] ∧ u.g.isSome = true := fun u hu => ⟨hu, by rw [List.mem_singleton.1 hu]; rfl⟩
      refine s_seq fun K5 hK5 => ?_
      refine s_anyP [0, 1, 2, 3, 4, 5, 6, 8] 11 2 (InvL [⟨8, some (G 8), 38, [.agg 32 (By k).toArray]⟩]) (by kernel_rfl) rfl (inv_of hsub) ?_
      refine p_frontS TY_ok 0 (by kernel_rfl) rfl rfl rfl rfl rfl rfl (fun x hx => (hsub x hx).1) (fun _ h => h) ?_
      refine p_frontS TY_ok 1 (by kernel_rfl) rfl rfl rfl rfl rfl rfl (fun x hx => (hsub x hx).1) (fun _ h => h) ?_
      refine p_frontS TY_ok 2 (by kernel_rfl) rfl rfl rfl rfl rfl rfl (fun x hx => (hsub x hx).1) (fun _ h => h) ?_
      refine p_frontS TY_ok 3 (by kernel_rfl) rfl rfl rfl rfl rfl rfl (fun x hx => (hsub x hx).1) (fun _ h => h) ?_
      refine p_frontS TY_ok 4 (by kernel_rfl) rfl rfl rfl rfl rfl rfl (fun x hx => (hsub x hx).1) (fun _ h => h) ?_
      refine p_frontS TY_ok 5 (by kernel_rfl) rfl rfl rfl rfl rfl rfl (fun x hx => (hsub x hx).1) (fun _ h => h) ?_
      refine p_frontO (.v (.pointer (some ⟨g, 32 * P.length + 32 * ys.length, none⟩))) trivial 6 (by kernel_rfl) rfl rfl rfl rfl rfl (runO_ixS ys.length rfl Tryd.underlying23 (by kernel_rfl) rfl rfl (by omega)) ?_
      refine p_frontS TY_ok 8 (by kernel_rfl) rfl rfl rfl rfl rfl rfl (fun x hx => (hsub x hx).1) (fun _ h => h) ?_
      refine p_step 7 (by kernel_rfl) rfl fun K6 hK6 => ?_
      refine l_opV (.q (eY 32 hd)) hh1 rfl rfl rfl (run_ldR (k' := 32) (c := c') (j := ys.length) (off := 0) (g := g) (a := 32 * P.length) (fe := eY 32) (l := ys ++ zs ++ k :: r) (y := hd) TY_ok rfl rfl hhat rfl hh1 fun G' S' w hv => (rd_own (lo := 0) (e := 38) (k := 32) (fe := eY 32) (A := some ⟨g, 0, none⟩) (c := c) (l := P ++ (ys ++ zs ++ k :: r) ++ Z) 0 (by rw [hxs]; rfl) G' S' w hv).sub (by rw [hn1]; exact hle) hmax) ?_
      refine s_end (hK6 _ (inv_of hsub) ?_)
      refine p_step 9 (by kernel_rfl) rfl fun K7 hK7 => ?_
      refine l_op (.v (.pointer (some ⟨g, 32 * P.length + 32 * (ys.length + zs.length), none⟩))) trivial rfl rfl rfl (runO_ixS (ys.length + zs.length) rfl Tryd.underlying23 (by kernel_rfl) rfl rfl (by omega)) ?_
      refine s_end (hK7 _ (inv_of hsub) ?_)
      refine p_step 10 (by kernel_rfl) rfl fun K8 hK8 => ?_
      refine l_eq 29 (.v (.pointer (some ⟨g, 32 * (P.length + (ys.length + zs.length)) + 0, none⟩))) rfl (by rw [Nat.mul_add 32 P.length, Nat.add_zero]) ?_
      refine l_stF 0 (P.length + (ys.length + zs.length)) 0 32 u1 hd rfl rfl rfl rfl rfl rfl hu1 (by kernel_rfl) hh2 (SQ.cl_one hh1) (by rw [List.drop_of_length_le (by rw [hc1]; exact Nat.le_refl _)]; simp) (by decide) ⟨hh1, hh2⟩ ?_
      refine s_end (hK8 _ (inv_of hsub) ?_)
      refine p_tail [11, 12] (by kernel_rfl) rfl ?_
      refine l_op (.v (.pointer (some ⟨g, 32 * P.length + 32 * ys.length, none⟩))) trivial rfl rfl rfl (runO_ixS ys.length rfl Tryd.underlying23 (by kernel_rfl) rfl rfl (by omega)) ?_
      refine l_eq 30 (.v (.pointer (some ⟨g, 32 * (P.length + ys.length) + 0, none⟩))) rfl (by rw [Nat.mul_add 32 P.length, Nat.add_zero]) ?_
      refine l_stF 0 (P.length + ys.length) 0 32 u2 k rfl rfl rfl rfl rfl rfl hu2 (by kernel_rfl) hkF.2 (SQ.cl_one hkF.1) (by rw [List.drop_of_length_le (by rw [hc2]; exact Nat.le_refl _)]; simp; rfl) (by decide) hkF ?_
      refine s_end (hK5 _ ?_)
      refine s_autoE TY_ok rfl (hK2 _ ?_)
      refine s_autoE TY_ok rfl ?_
      have hrl := rot_len zs
      exact k_next (ys ++ [k], rotK zs, r) ⟨done ++ [k], hdone2, hpt.zero hb⟩ (by show r.length < (k :: r).length; simp) ⟨⟨congrArg some (congrArg SV.v (congrArg (Value.int .i64) (wrapI (by simp; omega) (by omega) (by simp; omega)))), rfl, rfl, rfl, rfl, congrArg some (congrArg SV.v (congrArg (Value.int .i64) (wrapI (by simp) (by omega) (by simp; omega)))), trivial⟩, trivial, .of_eq (congrArg (fun x => [KyS (some ⟨g, 0, none⟩) c x]) hswap), fun _ _ _ => trivial, fun _ _ => trivial⟩
    · have hb : bitT k d ≠ 0 := by omega
      refine s_skip (hK2 _ ?_)
      refine s_autoE TY_ok rfl ?_
      exact k_next (ys, zs ++ [k], r) ⟨done ++ [k], hdone2, hpt.one hb⟩ (by show r.length < (k :: r).length; simp) ⟨⟨congrArg some (congrArg SV.v (congrArg (Value.int .i64) (wrapI (by simp; omega) (by omega) (by simp; omega)))), rfl, rfl, rfl, rfl, rfl, trivial⟩, trivial, .of_eq (congrArg (fun x => [KyS (some ⟨g, 0, none⟩) c x]) (by simp : P ++ (ys ++ zs ++ k :: r) ++ Z = P ++ (ys ++ (zs ++ [k]) ++ r) ++ Z)), fun _ _ _ => trivial, fun _ _ => trivial⟩
  · refine s_exit (k_pass (k_pass (k_out ?_)))
    refine hK _ ?_
    obtain rfl : r = [] := List.eq_nil_of_length_eq_zero (by omega)
    have e2 : ks.length - ys.length = zs.length := by rw [hkl, List.length_nil]; omega
    have hpt2 : Parted d ks (ys, zs) := by rw [hdone, List.append_nil]; exact hpt
    have hyl : ys.length ≤ ks.length := by omega
    refine s_regD 8 (by decide) (by kernel_rfl) (by kernel_rfl) fun K4 hK4 G S w0 hst => ?_
    refine g_autoS TY_ok hst rfl ?_
    refine g_opS (.v (.slice A' ys.length c')) trivial rfl rfl rfl (run_cutHi (sz := 32) (by kernel_rfl) (by omega) hnil rfl Tryd.underlying23 rfl rfl) ?_
    refine g_autoS TY_ok hst rfl ?_
    refine g_opS (.v (.slice (cutK 32 A' c' ys.length) (ks.length - ys.length) (c' - ys.length))) trivial rfl rfl rfl (run_cutLoK (sz := 32) (by kernel_rfl) hyl hle hnil rfl Tryd.underlying23 rfl rfl) ?_
    refine g_autoS TY_ok hst rfl ?_
    refine g_endS hst ?_
    refine s_end (hK4 _ ?_)
    refine s_ret (k_ret TY_ok ⟨(ys, zs), hpt2⟩ rfl (by decide) rfl (by rw [e2]; rfl) (by show [KyS A c (P ++ (ys ++ zs) ++ Z)] = [KyS A c (P ++ (ys ++ zs ++ []) ++ Z)]; rw [List.append_nil]) (fun _ _ _ => trivial) (fun _ _ => trivial))
end Go.Proofs.YtoecohpcnojokaaDoor
/-
  THE PROGRAM'S PARTS, cut of a tree.
-/
namespace Go.Proofs.YtoecohpcnojokaaDoor
open Go.RowKit Go.IntWalk Nums

theorem wcut_nil (n d : Nat) (ks : List (List UInt8)) : PW.cut n d [] ks = .empty := by cases n <;> rfl
theorem wcut_hid (n d : Nat) {l : List PairT} (h : l ≠ []) : PW.cut n d l [] = .hid (rootT (256 - d) l) := by
  cases l with
  | nil => exact absurd rfl h
  | cons p l => cases n <;> rfl
theorem wcut_leaf (n d : Nat) (p : PairT) {ks : List (List UInt8)} (h : ks ≠ []) : PW.cut n d [p] ks = .leaf p := by
  cases ks with
  | nil => exact absurd rfl h
  | cons k ks => cases n <;> rfl
theorem wcut_inner (n d : Nat) {l : List PairT} {ks : List (List UInt8)} (h2 : 2 ≤ l.length) (h : ks ≠ []) : PW.cut (n + 1) d l ks = .inner (PW.cut n (d + 1) (leftT d l) (PW.keyL d ks)) (PW.cut n (d + 1) (rightT d l) (PW.keyR d ks)) := by
  match l, ks, h2, h with
  | [], _, h2, _ => exact absurd h2 (by decide)
  | [_], _, h2, _ => exact absurd h2 (by simp)
  | _ :: _ :: _, [], _, h => exact absurd rfl h
  | _ :: _ :: _, _ :: _, _, _ => rfl
theorem wcut_perm : ∀ (n d : Nat) (l : List PairT) {ks ks' : List (List UInt8)}, ks.Perm ks' → PW.cut n d l ks = PW.cut n d l ks'
  | n, d, [], _, _, _ => by rw [wcut_nil, wcut_nil]
  | n, d, p :: l, ks, ks', h => by
    by_cases e : ks = []
    · subst e
      rw [h.nil_eq]
    · have e' : ks' ≠ [] := fun h2 => e (by subst h2; exact h.eq_nil)
      cases l with
      | nil => rw [wcut_leaf n d p e, wcut_leaf n d p e']
      | cons q l =>
        cases n with
        | zero =>
          cases ks with
          | nil => exact absurd rfl e
          | cons => cases ks' with
            | nil => exact absurd rfl e'
            | cons => rfl
        | succ n =>
          rw [wcut_inner n d (by simp) e, wcut_inner n d (by simp) e', wcut_perm n (d + 1) _ (h.filter _), wcut_perm n (d + 1) _ (h.filter _)]
theorem withG_some {G : Nat → Nat} : ∀ {L : List LV}, ∀ u ∈ withG G L, u ∈ withG G L ∧ u.g.isSome = true := fun u hu => ⟨hu, by
  obtain ⟨y, _, rfl⟩ := withG_mem hu
  rfl⟩
/-- What can be seen says a fact whatever the world. -/
theorem l_pureV {P : Program} {b : Base} {ops : Array Oper} {Q : Exit → Act → World → Prop} {N : Nat} {E : SE} {L : List LV} {R : List Res} {F M : World → Prop} {l : List Oper} (φ : Prop) (h : ∀ G S w, View G S L R F M w → φ) (hn : φ → lS P b ops Q N l ⟨E, L, R, F, M⟩) : lS P b ops Q N l ⟨E, L, R, F, M⟩ := fun a w ⟨G, S, h1, h2, h3⟩ => hn (h G S w h3.view) a w ⟨G, S, h1, h2, h3⟩
theorem OwnS.start {α : Type} {lo e k c : Nat} {fe : α → SQ} {A : Option Addr} {l : List α} {w : World} {S : Nat → Prop} (h : (OwnS lo e k fe A c l).holds w S) (h0 : 0 < l.length) : ∃ g, A = some ⟨g, 0, none⟩ := by
  obtain ⟨h1, h2, h3⟩ := h
  rcases h2.2 with ⟨h4, h5⟩ | ⟨g, cap, cur, hv, _⟩
  · omega
  · injection hv with h6 h7 h8
    exact ⟨g, h6⟩
theorem own_wcut : Own 27 := fun _ _ => by go_simp
theorem own_wCut : Own 10 := fun _ _ => by go_simp
set_option maxRecDepth 100000 in
set_option maxHeartbeats 2000000 in
theorem wcut_S {A : Option Addr} {c : Nat} : ∀ (r : Nat) (l : List PairT) (t : TA) (P ks Z : List (List UInt8)) (A' : Option Addr) (c' : Nat), r ≤ 256 → TOk r l t → SortT l → KeysT l → SharesT (256 - r) l → KeyAt A A' c' P.length ks.length → (∀ k ∈ ks, k.length = 32) →
    Spec 27 [(eTr t ((256 - r) % 256)).den, .slice A' ks.length c', .int .u8 (((256 - r) % 256 : Nat) : Int)] [KyS A c (P ++ ks ++ Z)] (TF t) { ret := fun _ : { ks' : List (List UInt8) // ks'.Perm ks } => .v (PW.cut r (256 - r) l ks).val, own := fun x => [KyS A c (P ++ x.1 ++ Z)] } := by
  intro r
  induction r using Nat.strongRecOn with
  | ind r ih =>
  intro l t P ks Z A' c' hr ht hs hk hsh hat hks
  obtain ⟨D, hD⟩ : ∃ D, (256 - r) % 256 = D := ⟨_, rfl⟩
  rw [hD]
  refine spec_S [eTr t D, .c (.v (.slice A' ks.length c')), .c (.v (.int .u8 (D : Int)))] 67 Tryd.func27 rfl (by rw [Tryd.ntmps27]; rfl) (more_ok (trPs_ok t _) (two_ok trivial trivial)) fun b => ?_
  refine s_auto TY_ok rfl ?_
  refine s_seq fun K hK => ?_
  refine s_regA TY_ok rfl fun K1 hK1 => ?_
  refine l_call0 [(eTr t D).den] rfl rfl rfl own_tLen rfl rfl (fun _ _ => rfl) (tLen_S t D) (fun _ h _ => h) fun _ => ?_
  refine l_autoS TY_ok rfl ?_
  refine s_end (hK1 _ ?_)
  have hlen := ht.len
  have hroot := ht.root
  by_cases hl0 : l = []
  · subst hl0
    refine s_ifD ((t.len : Int) = 0) rfl (fun _ => ?_) (fun h => absurd (by rw [hlen]; rfl) h)
    refine s_regA TY_ok rfl fun K2 hK2 => ?_
    refine l_op (.v PW.empty.val) trivial rfl rfl rfl (run_mkI rfl Tryd.underlying102 rfl rfl) ?_
    refine l_autoS TY_ok rfl ?_
    refine s_end (hK2 _ ?_)
    exact s_ret (k_ret TY_ok ⟨ks, .refl _⟩ rfl (by decide) rfl (by rw [wcut_nil]; rfl) rfl (fun _ _ _ => trivial) (fun _ _ => trivial))
  have hlpos : 0 < l.length := List.length_pos_iff.2 hl0
  refine s_ifD ((t.len : Int) = 0) rfl (fun h => absurd h (by omega)) (fun _ => ?_)
  refine s_skip (hK _ ?_)
  refine s_seq fun K2 hK2 => ?_
  refine s_auto TY_ok rfl ?_
  by_cases hk0 : ks = []
  · subst hk0
    refine s_ifD ((([] : List (List UInt8)).length : Int) = 0) rfl (fun _ => ?_) (fun h => absurd rfl h)
    refine s_regA TY_ok rfl fun K3 hK3 => ?_
    refine l_call0 [(eTr t D).den] rfl rfl rfl own_tRoot rfl rfl (fun _ _ => rfl) (tRoot_S t D) (fun _ h _ => h.2) fun _ => ?_
    refine l_autoS TY_ok rfl ?_
    refine l_op (.v (PW.hid t.root).val) trivial rfl rfl rfl (run_mkI (q := .p (PW.hid t.root).ps) rfl Tryd.underlying104 rfl rfl) ?_
    refine l_autoS TY_ok rfl ?_
    refine s_end (hK3 _ ?_)
    exact s_ret (k_ret TY_ok ⟨[], .refl _⟩ rfl (by decide) rfl (by rw [wcut_hid _ _ hl0, show 256 - (256 - r) = r by omega, ← hroot]; rfl) rfl (fun _ _ _ => trivial) (fun _ _ => trivial))
  have hkpos : 0 < ks.length := List.length_pos_iff.2 hk0
  refine s_ifD ((ks.length : Int) = 0) rfl (fun h => absurd h (by omega)) (fun _ => ?_)
  refine s_skip (hK2 _ ?_)
  refine s_seq fun K3 hK3 => ?_
  refine s_regA TY_ok rfl fun K4 hK4 => ?_
  refine l_call0 [(eTr t D).den] rfl rfl rfl own_tLeaf rfl rfl (fun _ _ => rfl) (tLeaf_S t D) (fun _ h _ => h.2) fun _ => ?_
  cases t with
  | nil => exact absurd ht.nil_inv hl0
  | leaf g0 h0 p =>
    obtain rfl := ht.leaf_inv
    refine l_autoS TY_ok rfl ?_
    refine s_end (hK4 _ ?_)
    refine s_auto TY_ok rfl ?_
    refine s_yes rfl ?_
    refine s_regD 7 (by decide) (by kernel_rfl) (by kernel_rfl) fun K5 hK5 G S w0 hst => ?_
    refine g_autoS TY_ok hst rfl ?_
    refine g_callS (F' := TF (.leaf g0 h0 p)) hst [(eTr (.leaf g0 h0 p) D).den] rfl rfl rfl own_tRoot rfl rfl (fun _ => rfl) (tRoot_S (.leaf g0 h0 p) D) (eY_ok (n := 32) (digest256_len _)).1 (fun _ _ _ hv => hv.fact.2.2) ?_
    refine g_autoS TY_ok hst rfl ?_
    refine g_opS (.v (PW.leaf p).val) trivial rfl rfl rfl (run_mkI (q := .p (PW.leaf p).ps) rfl Tryd.underlying92 rfl rfl) ?_
    refine g_autoS TY_ok hst rfl ?_
    refine g_endS hst ?_
    refine s_end (hK5 _ ?_)
    exact s_ret (k_ret TY_ok ⟨ks, .refl _⟩ rfl (by decide) rfl (by rw [wcut_leaf _ _ _ hk0]; rfl) rfl (fun _ _ _ => trivial) (fun _ _ => trivial))
  | node g0 x y =>
    obtain ⟨r, rfl⟩ : ∃ q, r = q + 1 := ⟨r - 1, by
      cases r with
      | zero => exact ht.elim
      | succ r => rfl⟩
    obtain rfl : 255 - r = D := by omega
    rw [show 256 - (r + 1) = 255 - r by omega] at hsh
    obtain ⟨d, hdr⟩ : ∃ d, 255 - r = d := ⟨_, rfl⟩
    obtain ⟨e8, he8⟩ : ∃ e, (256 - r) % 256 = e := ⟨_, rfl⟩
    have hd : d < 256 := by omega
    have hw8 : IntKind.u8.wrap ((d : Int) + 1) = (e8 : Int) := wrapB2 ⟨hdr.symm, by omega⟩ he8
    have ih2 := fun l t P ks Z A' c' ht hs hk hsh => ih r (by omega) l t P ks Z A' c' (by omega) ht hs hk hsh
    simp only [he8] at ih2
    clear ih
    rw [hdr] at hsh ⊢
    obtain ⟨hl2, hx0, hy0⟩ := ht
    rw [hdr] at hx0 hy0
    have hshL := hsh.left
    have hshR := hsh.right
    rw [show d + 1 = 256 - r by omega] at hshL hshR
    refine l_autoS TY_ok rfl ?_
    refine s_end (hK4 _ ?_)
    refine s_auto TY_ok rfl ?_
    refine s_no rfl ?_
    refine s_skip (hK3 _ ?_)
    refine s_keep [1, 2, 3] [3] rfl rfl ?_
    refine s_regA TY_ok rfl fun K5 hK5 => ?_
    refine l_call0 [(eTr (.node g0 x y) d).den] rfl rfl rfl own_tSides rfl rfl (fun _ _ => rfl) (tSides_S (.node g0 x y) d e8 hw8) (fun _ h _ => h.2.2) fun _ => ?_
    refine l_autoS TY_ok rfl ?_
    refine s_end (hK5 _ ?_)
    refine s_regA TY_ok rfl fun K6 hK6 => ?_
    refine l_R ([KyS A c (P ++ ks ++ Z)] ++ []) rfl ?_
    refine l_callA [.slice A' ks.length c', .int .u8 (d : Int)] rfl rfl rfl own_wparted rfl rfl (fun _ _ => rfl) (wparted_S P ks Z d hd hat hks) (fun _ _ _ => trivial) fun u => ?_
    obtain ⟨⟨ys, zs⟩, hpt⟩ := u
    refine l_autoS TY_ok rfl ?_
    refine s_end (hK6 _ ?_)
    have hplen := hpt.len
    dsimp only at hplen
    have hysl : ∀ k ∈ ys, k.length = 32 := fun k h => hks k ((hpt.perm.mem_iff).1 (List.mem_append_left _ h))
    have hzsl : ∀ k ∈ zs, k.length = 32 := fun k h => hks k ((hpt.perm.mem_iff).1 (List.mem_append_right _ h))
    have hsL : SortT (leftT d l) := hs.filter _
    have hsR : SortT (rightT d l) := hs.filter _
    have hkL : KeysT (leftT d l) := hk.filter _
    have hkR : KeysT (rightT d l) := hk.filter _
    have hcall1 := ih2 (leftT d l) x P ys (zs ++ Z) A' c' hx0 hsL hkL hshL (hat.left (by omega)) hysl
    have hcall2 := fun ys' : { q : List (List UInt8) // q.Perm ys } => ih2 (rightT d l) y (P ++ ys'.1) zs Z (cutK 32 A' c' ys.length) (c' - ys.length) hy0 hsR hkR hshR (by
      have := hat.right (m := ys.length) (by omega)
      rw [show ks.length - ys.length = zs.length by omega] at this
      rw [List.length_append, ys'.2.length_eq]
      exact this) hzsl
    have hX : (PW.cut r (256 - r) (leftT d l) ys).root = x.root := by
      rw [(PW.cut_of r ys (by omega) hsL hkL hshL).root, hx0.root, show 256 - (256 - r) = r by omega]
    have hY : (PW.cut r (256 - r) (rightT d l) zs).root = y.root := by
      rw [(PW.cut_of r zs (by omega) hsR hkR hshR).root, hy0.root, show 256 - (256 - r) = r by omega]
    have hfin : PW.cut (r + 1) (256 - (r + 1)) l ks = .inner (PW.cut r (256 - r) (leftT d l) ys) (PW.cut r (256 - r) (rightT d l) zs) := by
      rw [show 256 - (r + 1) = d by omega, wcut_inner r d hl2 hk0, show d + 1 = 256 - r by omega, wcut_perm r _ _ hpt.1, wcut_perm r _ _ hpt.2]
    have hroot2 : nodeT x.root y.root = nodeT (PW.cut r (256 - r) (leftT d l) ys).root (PW.cut r (256 - r) (rightT d l) zs).root := by rw [hX, hY]
    generalize PW.cut r (256 - r) (leftT d l) ys = X at *
    generalize PW.cut r (256 - r) (rightT d l) zs = Y at *
    refine s_keep [2, 3, 10, 11, 13, 14] [3, 10, 11] rfl rfl ?_
    refine s_locs fun G => ?_
    refine s_seq fun K7 hK7 => ?_
    refine s_anyP [0, 2, 3, 4, 5, 7, 8, 9, 10] 11 5 (InvL (withG G [⟨11, none, 27, trPs y e8⟩, ⟨10, none, 27, trPs x e8⟩, ⟨3, none, 27, trPs (.node g0 x y) d⟩])) (by kernel_rfl) rfl (inv_of withG_some) ?_
    refine p_frontS TY_ok 0 (by kernel_rfl) rfl rfl rfl rfl rfl rfl (fun x hx => hx) (fun _ h => h) ?_
    refine p_frontS TY_ok 2 (by kernel_rfl) rfl rfl rfl rfl rfl rfl (fun x hx => hx) (fun _ h => h) ?_
    refine p_frontS TY_ok 3 (by kernel_rfl) rfl rfl rfl rfl rfl rfl (fun x hx => hx) (fun _ h => h) ?_
    refine p_frontS TY_ok 4 (by kernel_rfl) rfl rfl rfl rfl rfl rfl (fun x hx => hx) (fun _ h => h) ?_
    refine p_frontS TY_ok 5 (by kernel_rfl) rfl rfl rfl rfl rfl rfl (fun x hx => hx) (fun _ h => h) ?_
    refine p_frontS TY_ok 7 (by kernel_rfl) rfl rfl rfl rfl rfl rfl (fun x hx => hx) (fun _ h => h) ?_
    refine p_frontS TY_ok 8 (by kernel_rfl) rfl rfl rfl rfl rfl rfl (fun x hx => hx) (fun _ h => h) ?_
    refine p_frontS TY_ok 9 (by kernel_rfl) rfl rfl rfl rfl rfl rfl (fun x hx => hx) (fun _ h => h) ?_
    refine p_frontS TY_ok 10 (by kernel_rfl) rfl rfl rfl rfl rfl rfl (fun x hx => hx) (fun _ h => h) ?_
    refine p_step 1 (by kernel_rfl) rfl fun K8 hK8 => ?_
    refine l_call0 [(eTr (.node g0 x y) d).den] rfl rfl rfl own_tRoot rfl rfl (fun _ _ => rfl) (tRoot_S (.node g0 x y) d) (fun _ h _ => h.2.2.2.2) fun _ => ?_
    refine s_end (hK8 _ (inv_of withG_some) ?_)
    refine p_step 6 (by kernel_rfl) rfl fun K9 hK9 => ?_
    refine l_num 57 (e8 : Int) rfl hw8 ?_
    refine l_R [KyS A c (P ++ (ys ++ zs) ++ Z)] rfl ?_
    refine l_R ([KyS A c (P ++ ys ++ (zs ++ Z))] ++ []) (congrArg (fun q => [KyS A c q]) (by simp : P ++ (ys ++ zs) ++ Z = P ++ ys ++ (zs ++ Z))) ?_
    refine l_callA [(eTr x e8).den, .slice A' ys.length c', .int .u8 (e8 : Int)] rfl rfl rfl own_wcut rfl rfl (fun _ _ => rfl) hcall1 (fun _ h _ => h.2.2.2.2.2.2.1) fun ys' => ?_
    refine s_end (hK9 _ (inv_of withG_some) ?_)
    refine p_tail [11, 12, 13, 14, 15] (by kernel_rfl) rfl ?_
    refine l_num 62 (e8 : Int) rfl hw8 ?_
    refine l_R [KyS A c (P ++ ys'.1 ++ (zs ++ Z))] rfl ?_
    refine l_R ([KyS A c (P ++ ys'.1 ++ zs ++ Z)] ++ []) (congrArg (fun q => [KyS A c q]) (by simp : P ++ ys'.1 ++ (zs ++ Z) = P ++ ys'.1 ++ zs ++ Z)) ?_
    refine l_callA [(eTr y e8).den, .slice (cutK 32 A' c' ys.length) zs.length (c' - ys.length), .int .u8 (e8 : Int)] rfl rfl rfl own_wcut rfl rfl (fun _ _ => rfl) (hcall2 ys') (fun _ h _ => h.2.2.2.2.2.2.2.2) fun zs' => ?_
    refine l_op (.p (sdW X Y)) (sdW_ok _ _) rfl rfl rfl (run_sides rfl rfl rfl) ?_
    refine l_eq 53 (.q (eY 32 (nodeT X.root Y.root))) rfl (congrArg (fun q => SV.q (eY 32 q)) hroot2) ?_
    refine l_autoS TY_ok rfl ?_
    refine l_op (.v (PW.inner X Y).val) trivial rfl rfl rfl (run_mkI (q := .p (PW.inner X Y).ps) rfl Tryd.underlying113 rfl rfl) ?_
    refine l_autoS TY_ok rfl ?_
    refine s_end (hK7 _ ?_)
    exact s_ret (k_ret TY_ok ⟨ys'.1 ++ zs'.1, (ys'.2.append zs'.2).trans hpt.perm⟩ rfl (by decide) rfl (congrArg (fun q : PW => RV.v q.val) hfin) (congrArg (fun q => [KyS A c q]) (by simp : P ++ (ys'.1 ++ zs'.1) ++ Z = P ++ ys'.1 ++ zs'.1 ++ Z)) (fun _ _ _ => trivial) (fun _ _ => trivial))
set_option maxRecDepth 100000 in
set_option maxHeartbeats 1000000 in
theorem wCut_S {A : Option Addr} {c : Nat} (l : List PairT) (t : TA) (ks : List (List UInt8)) (ht : TOk 256 l t) (hs : SortT l) (hk : KeysT l) (hl : ks.length ≤ 1000000) (hks : ∀ k ∈ ks, k.length = 32) :
    Spec 10 [(eTr t 0).den, .slice A ks.length c] [] (fun w => TF t w ∧ Rd 32 (eY 32) A c ks w) (one (.q (prQ (PW.cut 256 0 l ks)))) := by
  obtain ⟨W, hW⟩ : ∃ W, PW.cut 256 0 l ks = W := ⟨_, rfl⟩
  rw [hW]
  refine spec_S [eTr t 0, .c (.v (.slice A ks.length c))] 10 Tryd.func10 rfl (by rw [Tryd.ntmps10]; rfl) (two_ok (trPs_ok t _) trivial) fun b => ?_
  refine s_auto TY_ok rfl ?_
  refine s_locs fun G => ?_
  refine s_seq fun K hK => ?_
  refine s_anyP [0, 1] 3 3 (InvL (withG G [⟨4, none, 33, [.one (.v .nilIface)]⟩, ⟨2, none, 27, trPs t 0⟩])) (by kernel_rfl) rfl (inv_of withG_some) ?_
  refine p_frontS TY_ok 0 (by kernel_rfl) rfl rfl rfl rfl rfl rfl (fun x hx => hx) (fun _ h => h) ?_
  refine p_frontS TY_ok 1 (by kernel_rfl) rfl rfl rfl rfl rfl rfl (fun x hx => hx) (fun _ h => h) ?_
  refine p_step 2 (by kernel_rfl) rfl fun K1 hK1 => ?_
  refine l_call0 [.slice A ks.length c] rfl rfl rfl own_wclone rfl rfl (fun _ _ => rfl) (wclone_S ks hl) (fun _ h _ => h.2) fun x => ?_
  obtain ⟨A1, c1⟩ := x
  refine s_end (hK1 _ (inv_of withG_some) ?_)
  refine p_tail [3, 4, 5] (by kernel_rfl) rfl ?_
  refine l_R [KyS A1 c1 ks] rfl ?_
  refine l_pureV (KeyAt A1 A1 c1 0 ks.length) (fun G S w hv => ?_) fun hat => ?_
  · obtain ⟨S1, S2, hh, _⟩ := hv.res
    have hr := OwnS.rd hh
    exact ⟨hr.1, hr.2.1, hr.2.2.1, fun h0 => by
      obtain ⟨g, hg⟩ := OwnS.start hh h0
      exact ⟨g, hg, hg⟩⟩
  have hcut := wcut_S (A := A1) (c := c1) 256 l t [] ks [] A1 c1 (Nat.le_refl _) ht hs hk (fun _ _ _ _ _ h => absurd h (Nat.not_lt_zero _)) hat hks
  replace hcut : Spec 27 [(eTr t 0).den, .slice A1 ks.length c1, .int .u8 0] [KyS A1 c1 ([] ++ ks ++ [])] (TF t) { ret := fun _ : { ks' : List (List UInt8) // ks'.Perm ks } => .v (PW.cut 256 0 l ks).val, own := fun x => [KyS A1 c1 ([] ++ x.1 ++ [])] } := hcut
  rw [hW] at hcut
  refine l_R ([KyS A1 c1 ([] ++ ks ++ [])] ++ []) (congrArg (fun q => [KyS A1 c1 q]) (by simp : ks = [] ++ ks ++ [])) ?_
  refine l_callA [(eTr t 0).den, .slice A1 ks.length c1, .int .u8 0] rfl rfl rfl own_wcut rfl rfl (fun _ _ => rfl) hcut (fun _ h _ => h.2.1) fun ys => ?_
  refine l_call0 [W.val] rfl rfl rfl own_wpart rfl rfl (fun _ _ => rfl) (wpart_S W) (fun _ _ _ => trivial) fun _ => ?_
  refine l_autoS TY_ok rfl ?_
  refine s_end (hK _ ?_)
  refine s_ret (k_drop 0 rfl ?_)
  exact k_ret TY_ok () rfl (by decide) rfl rfl rfl (fun _ _ _ => trivial) (fun _ _ => trivial)
end Go.Proofs.YtoecohpcnojokaaDoor
/-
  PLAIN NUMBERS: digests reckoned by the kernel: each word once. No program is imported.
-/
namespace Nums

end Nums
/-
  THE TREE'S LAWS: what must be answered first.
-/
namespace Go.Proofs.YtoecohpcnojokaaDoor
open Go.RowKit Go.IntWalk Nums

/-- A hash that begins with a byte. -/
def hhT (v : UInt8) : List UInt8 := v :: List.replicate 31 0
theorem hhT_len (v : UInt8) : (hhT v).length = 32 := rfl
theorem built_hh (v : Int) : Tryd.prog.built 38 [(0, .int .u8 v)] = some (#[.int .u8 v] ++ (By (List.replicate 31 0)).toArray) := by kernel_rfl
set_option maxRecDepth 100000 in
theorem run_hh {N : Nat} {E : SE} {o : Oper} {n : Int} (v : UInt8) {k : List UInt8} (hv : hhT v = k) (ho : o.op = .build 38 #[(0, .const (.int .u8 n))]) (hn : n = (v.toNat : Int)) :
    ∀ (G : Nat → Nat) (a : Act) (w : World), Fr N (denE G E) a → (execOp a.eval o).run Tryd.prog w = .ok (.value ((SV.q (eY 32 k)).den G)) w := fun G a w _ => by
  subst hv
  subst hn
  unfold execOp
  have h : Tryd.prog.built 38 (Array.map (fun x : Nat × Operand => (x.1, a.eval x.2)) #[(0, .const (.int .u8 (v.toNat : Int)))]).toList = some (#[.int .u8 (v.toNat : Int)] ++ (By (List.replicate 31 0)).toArray) := by
    rw [Array.toList_map]
    exact built_hh (v.toNat : Int)
  simp only [ho, Sem.run_bind, run_build w 38 _ _ h, Result.andThen_ok, Sem.run_pure]
  have e : #[Value.int .u8 (v.toNat : Int)] ++ (By (List.replicate 31 0)).toArray = (By (hhT v)).toArray := by
    generalize hr : List.replicate 31 (0 : UInt8) = l
    rw [hhT, hr]
    simp [By]
  rw [e]
  rfl
/-- Trees at the top. -/
theorem tPut0 {l : List PairT} {t : TA} {p : PairT} (hp : OkT2 p) (ht : TOk 256 l t) (hs : SortT l) (hk : KeysT l) (hl : l.length + 1 ≤ 1000000) :
    Spec 23 [(eTr t 0).den, (eY 32 p.1).den, (eY 32 p.2).den] [] (fun w => TF t w ∧ Tsh w) { ret := fun x : { t' : TA // TOk 256 (putT l p) t' } => .q (eTr x.1 0), own := fun _ => [], p := fun x => TF x.1 } :=
  tPut_S 256 l t p hp (Nat.le_refl _) ht hs hk (fun _ _ _ _ _ h => absurd h (Nat.not_lt_zero _)) hl
end Go.Proofs.YtoecohpcnojokaaDoor
/-
  LAYER 10's LAWS: a tree of pairs, and they themselves.
-/
namespace Go.Proofs.YtoecohpcnojokaaDoor
open Go.RowKit Go.IntWalk Nums

/-- A tree and its pairs. -/
structure GwX where
  t : TA
  o : List PairT
  A : Option Addr
  c : Nat
structure GwX.Ok (x : GwX) : Prop where
  tree : TOk 256 x.o x.t
  sort : SortT x.o
  pairs : ∀ y ∈ x.o, OkT2 y
  few : x.o.length ≤ 25
theorem own_grown : Own 9 := fun _ _ => by go_simp
set_option maxRecDepth 100000 in
set_option maxHeartbeats 1000000 in
theorem grown_S {A : Option Addr} {c : Nat} (l : List PairT) : Spec 9 [.slice A l.length c] [] (fun w => Tsh w ∧ Rd 64 eP A c l w) { ret := fun x : { x : GwX // x.Ok } => .t [eTr x.1.t 0, .c (.v (.slice x.1.A x.1.o.length x.1.c))], own := fun _ => [], p := fun x => TF x.1.t, n := fun x => Rd 64 eP x.1.A x.1.c x.1.o } := by
  refine spec_S [.c (.v (.slice A l.length c))] 29 Tryd.func9 rfl (by rw [Tryd.ntmps9]; rfl) (one_ok trivial) fun b => ?_
  refine s_pure (l.length ≤ 9223372036854775807 ∧ ∀ y ∈ l, OkT2 y) (fun _ h _ => ⟨Nat.le_trans h.2.1 h.2.2.1, fun y hy => eP_len (h.2.2.2.2.1 y hy).1⟩) fun ⟨hl, hok⟩ => ?_
  refine s_auto TY_ok rfl ?_
  refine s_auto TY_ok rfl ?_
  refine s_auto TY_ok rfl ?_
  refine s_seq fun K3 hK3 => ?_
  refine s_auto TY_ok rfl ?_
  refine s_block ?_
  let F : Nat × GwX → Env := fun ⟨i, x⟩ => ⟨[(10, .v (.int .i64 (i : Int))), (9, .v (.int .i64 (l.length : Int))), (8, .v (.slice A l.length c)), (5, .v (.slice x.A x.o.length x.c)), (4, .a 4 0), (2, .a 2 0)], [⟨4, none, 27, trPs x.t 0⟩, ⟨2, none, 27, trPs .nil 0⟩], [], fun w => Tsh w ∧ Rd 64 eP A c l w ∧ TF x.t w, fun w => Rd 64 eP x.A x.c x.o w⟩
  refine c_weak (e' := F (0, ⟨.nil, [], none, 0⟩)) ⟨⟨rfl, rfl, rfl, rfl, rfl, rfl, trivial⟩, ⟨rfl, rfl, rfl, rfl, trivial⟩, .refl _, fun _ h _ => ⟨h.1, h.2, trivial⟩, fun _ _ => Rd.nil _ _ _⟩ (s_loop (fun y => l.length - y.1) F (fun y => y.1 ≤ l.length ∧ y.2.Ok ∧ y.2.o.length ≤ y.1) ?_ (0, ⟨.nil, [], none, 0⟩) ⟨Nat.zero_le _, ⟨TOk.nil rfl, List.Pairwise.nil, fun _ h => (by cases h), Nat.zero_le _⟩, Nat.zero_le _⟩)
  rintro ⟨i, ⟨t, o, B, e⟩⟩ ⟨hi, ⟨ht, hs, ho, h25⟩, hlo⟩
  dsimp only at hi ht hs ho h25 hlo
  have hkk : KeysT o := fun y hy => (ho y hy).1
  refine s_auto TY_ok rfl ?_
  refine s_seq fun K4 hK4 => ?_
  refine s_ifD ((i : Int) < (l.length : Int)) rfl (fun hlt => ?_) (fun hge => ?_)
  · have hlt : i < l.length := by omega
    obtain ⟨p, hp0⟩ : ∃ y, l[i]? = some y := ⟨_, List.getElem?_eq_getElem hlt⟩
    have hp := hok p (List.mem_of_getElem? hp0)
    refine s_skip (hK4 _ ?_)
    refine s_seq fun K5 hK5 => ?_
    refine s_block ?_
    refine s_regA TY_ok rfl fun K6 hK6 => ?_
    refine l_elem TY_ok rfl rfl rfl i rfl hp0 rfl rfl (rd_fact fun _ h _ => h.2.1) ?_
    refine l_autoS TY_ok rfl ?_
    refine s_end (hK6 _ ?_)
    refine s_auto TY_ok rfl ?_
    refine s_ifD ((i : Int) < 25) rfl (fun h40 => ?_) (fun h40 => ?_)
    · have h40 : i < 25 := by omega
      have hput := tPut0 hp ht hs hkk (by omega)
      refine s_regA TY_ok rfl fun K7 hK7 => ?_
      refine l_call0 [(eTr t 0).den, (eY 32 p.1).den, (eY 32 p.2).den] rfl rfl rfl own_tPut rfl rfl (fun _ _ => rfl) hput (fun _ h _ => ⟨h.2.2, h.1⟩) fun ⟨t', ht'⟩ => ?_
      refine l_autoS TY_ok rfl ?_
      refine s_end (hK7 _ ?_)
      refine s_lit ?_
      refine l_autoS TY_ok rfl ?_
      refine l_call0 [.slice B o.length e, (eP p).den] rfl rfl rfl own_rput9 rfl rfl (fun _ _ => rfl) (rput_S o hp (by omega)) (fun _ _ h => h.2) fun ⟨B', e'⟩ => ?_
      refine l_autoS TY_ok rfl ?_
      refine s_end (hK5 _ ?_)
      refine s_autoE TY_ok rfl ?_
      have hlo' : (putT o p).length ≤ i + 1 := Nat.le_trans (putT_len o p).2 (Nat.succ_le_succ hlo)
      exact k_next (i + 1, ⟨t', putT o p, B', e'⟩) ⟨hlt, ⟨ht', putT_sort hs hkk hp.1, fun y hy => by
        rcases (putT_mem hs hkk hp.1 y).1 hy with rfl | h
        · exact hp
        · exact ho y h.1, by show (putT o p).length ≤ 25; omega⟩, hlo'⟩ (by show l.length - (i + 1) < l.length - i; omega) ⟨⟨congrArg some (congrArg SV.v (congrArg (Value.int .i64) (wrapI rfl (by omega) (by omega)))), rfl, rfl, rfl, rfl, rfl, trivial⟩, ⟨rfl, rfl, rfl, rfl, trivial⟩, .refl _, fun _ h _ => ⟨h.2.2.1, h.2.2.2.1, h.2.1⟩, fun _ h => h.1⟩
    · refine s_skip (hK5 _ ?_)
      refine s_autoE TY_ok rfl ?_
      exact k_next (i + 1, ⟨t, o, B, e⟩) ⟨hlt, ⟨ht, hs, ho, h25⟩, by show o.length ≤ i + 1; omega⟩ (by show l.length - (i + 1) < l.length - i; omega) ⟨⟨congrArg some (congrArg SV.v (congrArg (Value.int .i64) (wrapI rfl (by omega) (by omega)))), rfl, rfl, rfl, rfl, rfl, trivial⟩, ⟨rfl, rfl, rfl, rfl, trivial⟩, .refl _, fun _ h _ => h, fun _ h => h⟩
  · refine s_exit (k_pass (k_pass (k_out ?_)))
    refine hK3 _ ?_
    refine s_auto TY_ok rfl ?_
    exact s_ret (k_ret TY_ok ⟨⟨t, o, B, e⟩, ⟨ht, hs, ho, h25⟩⟩ rfl (by decide) rfl rfl rfl (fun _ h _ => h.2.2) (fun _ h => h))
end Go.Proofs.YtoecohpcnojokaaDoor
/-
  THE DOCUMENT'S PARTS: what bytes are read as, plain: what a reading leaves in the list of nodes.
-/
namespace Go.Proofs.YtoecohpcnojokaaDoor
open Go.RowKit Go.IntWalk Nums

theorem At.app {ns zs : List ND} : ∀ {w : PW} {i : Nat}, At ns w i → At (ns ++ zs) w i := by
  have key : ∀ {i : Nat} {x : ND}, ns[i]? = some x → (ns ++ zs)[i]? = some x := fun {i x} h => by
    rw [List.getElem?_append_left (List.getElem?_eq_some_iff.1 h).1]
    exact h
  intro w
  induction w with
  | empty => exact fun h => key h
  | leaf p => exact fun h => key h
  | hid h => exact fun h => key h
  | inner a b iha ihb => exact fun ⟨i, j, h1, h2, h3⟩ => ⟨i, j, key h1, iha h2, ihb h3⟩
theorem At.kind {ns : List ND} {w : PW} {i : Nat} (h : At ns w i) : ∃ x, ns[i]? = some x ∧ x.k = w.kind := by
  cases w with
  | empty => exact ⟨_, h, rfl⟩
  | leaf p => exact ⟨_, h, rfl⟩
  | hid x => exact ⟨_, h, rfl⟩
  | inner a b =>
    obtain ⟨i, j, h1, _⟩ := h
    exact ⟨_, h1, rfl⟩
/-- What a reading comes to. -/
def OutQ (B : List UInt8) (N : Nat) (more : List ND) (p' e' : Nat) : Except Nat (PW × List UInt8) → Prop
  | .ok (w, rest) => e' = 0 ∧ B.drop p' = rest ∧ ∀ ns : List ND, ns.length = N → At (ns ++ more) w N
  | .error er => e' = er ∧ er ≠ 0
structure RdR (n : Nat) (way : List Nat) (B : List UInt8) (p e N : Nat) (more : List ND) (p' e' : Nat) : Prop where
  pos : 0 < more.length
  up : p ≤ p'
  le : p' ≤ B.length
  few : more.length ≤ 2 * (p' - p) + 1
  stuck : e ≠ 0 → p' = p ∧ e' = e
  out : e = 0 → OutQ B N more p' e' (PW.read n way (B.drop p))
section
variable {n : Nat} {way : List Nat} {B : List UInt8} {p N : Nat} {x : UInt8}
theorem drop_byte (h : B[p]? = some x) : B.drop p = x :: B.drop (p + 1) := by
  have hlt := (List.getElem?_eq_some_iff.1 h).1
  rw [List.drop_eq_getElem_cons hlt, (List.getElem?_eq_some_iff.1 h).2]
theorem at_new {ns : List ND} {x : ND} : ns.length = N → (ns ++ [x])[N]? = some x := fun h => by
  rw [List.getElem?_append_right (by omega), h, Nat.sub_self]
  rfl
theorem RdR.short {e e1 : Nat} {r : ND} (hp : p ≤ B.length) (h1 : e ≠ 0 → e1 = e) (h2 : e = 0 → B.length ≤ p ∧ e1 = 10) : RdR n way B p e N [r] p e1 := by
  refine ⟨Nat.zero_lt_one, Nat.le_refl _, hp, by simp, fun h => ⟨rfl, h1 h⟩, fun h => ?_⟩
  obtain ⟨h3, rfl⟩ := h2 h
  rw [List.drop_of_length_le h3]
  unfold PW.read
  exact ⟨rfl, by decide⟩
theorem RdR.noug (h : B[p]? = some x) (hx : x.toNat = 0) : RdR n way B p 0 N [⟨0, z32T, z32T, -1, -1⟩] (p + 1) 0 := by
  obtain rfl : x = 0 := UInt8.toNat_inj.1 hx
  have hlt := (List.getElem?_eq_some_iff.1 h).1
  refine ⟨Nat.zero_lt_one, Nat.le_succ _, hlt, by simp, fun h => absurd rfl h, fun _ => ?_⟩
  rw [drop_byte h]
  unfold PW.read
  exact ⟨rfl, rfl, fun ns hns => at_new hns⟩
theorem RdR.what {r : ND} (h : B[p]? = some x) (hx : 3 < x.toNat) : RdR n way B p 0 N [r] (p + 1) 13 := by
  have hlt := (List.getElem?_eq_some_iff.1 h).1
  refine ⟨Nat.zero_lt_one, Nat.le_succ _, hlt, by simp, fun h => absurd rfl h, fun _ => ?_⟩
  rw [drop_byte h]
  unfold PW.read
  rw [if_neg (fun e => by rw [e] at hx; exact absurd hx (by decide)), if_neg (fun e => by rw [e] at hx; exact absurd hx (by decide)), if_neg (fun e => by rw [e] at hx; exact absurd hx (by decide)), if_neg (fun e => by rw [e] at hx; exact absurd hx (by decide))]
  exact ⟨rfl, by decide⟩
theorem RdR.deep {r : ND} (h : B[p]? = some x) (hx : x.toNat = 2) : RdR 0 way B p 0 N [r] (p + 1) 13 := by
  obtain rfl : x = 2 := UInt8.toNat_inj.1 hx
  have hlt := (List.getElem?_eq_some_iff.1 h).1
  refine ⟨Nat.zero_lt_one, Nat.le_succ _, hlt, by simp, fun h => absurd rfl h, fun _ => ?_⟩
  rw [drop_byte h]
  unfold PW.read
  exact ⟨rfl, by decide⟩
theorem RdR.hidden {q : List UInt8 × Nat × Nat} (h : B[p]? = some x) (hx : x.toNat = 3) (hq : hashQ B (p + 1) 0 = q) : RdR n way B p 0 N [⟨3, z32T, q.1, -1, -1⟩] q.2.1 q.2.2 := by
  obtain rfl : x = 3 := UInt8.toNat_inj.1 hx
  have hlt := (List.getElem?_eq_some_iff.1 h).1
  subst hq
  unfold hashQ
  rw [if_neg (fun h => h rfl)]
  have hbl : (B.drop (p + 1)).length = B.length - (p + 1) := List.length_drop
  by_cases hs : B.length < p + 1 + 32
  · rw [if_pos hs]
    refine ⟨Nat.zero_lt_one, Nat.le_succ _, hlt, by simp, fun h => absurd rfl h, fun _ => ?_⟩
    rw [drop_byte h]
    unfold PW.read
    rw [if_neg (by decide), if_neg (by decide), if_neg (by decide), if_pos rfl, if_pos (by omega)]
    exact ⟨rfl, by decide⟩
  · rw [if_neg hs]
    refine ⟨Nat.zero_lt_one, by show p ≤ p + 1 + 32; omega, by show p + 1 + 32 ≤ _; omega, by simp, fun h => absurd rfl h, fun _ => ?_⟩
    rw [drop_byte h]
    unfold PW.read
    rw [if_neg (by decide), if_neg (by decide), if_neg (by decide), if_pos rfl, if_neg (by omega)]
    exact ⟨rfl, by rw [List.drop_drop], fun ns hns => at_new hns⟩
/-- Behind the checks of a leaf's key. -/
def ledQ (way : List Nat) (key : List UInt8) (e : Nat) : Nat := if e = 0 ∧ ¬ Leads way key then 13 else e
theorem RdR.leafy {q q2 : List UInt8 × Nat × Nat} (h : B[p]? = some x) (hx : x.toNat = 1) (hq : hashQ B (p + 1) 0 = q) (hq2 : hashQ B q.2.1 q.2.2 = q2) : RdR n way B p 0 N [⟨1, q.1, q2.1, -1, -1⟩] q2.2.1 (ledQ way q.1 q2.2.2) := by
  obtain rfl : x = 1 := UInt8.toNat_inj.1 hx
  have hlt := (List.getElem?_eq_some_iff.1 h).1
  have hbl : (B.drop (p + 1)).length = B.length - (p + 1) := List.length_drop
  subst hq2
  by_cases hs : B.length < p + 1 + 32
  · have e : hashQ B (p + 1) 0 = (z32T, p + 1, 10) := by
      unfold hashQ
      rw [if_neg (fun h => h rfl), if_pos hs]
    obtain rfl : q = (z32T, p + 1, 10) := by rw [← hq, e]
    have e2 : hashQ B (p + 1) 10 = (z32T, p + 1, 10) := if_pos (by decide)
    dsimp only
    rw [e2]
    have e3 : ledQ way z32T 10 = 10 := if_neg fun h => by cases h.1
    dsimp only
    rw [e3]
    refine ⟨Nat.zero_lt_one, Nat.le_succ _, hlt, by simp, fun h => absurd rfl h, fun _ => ?_⟩
    rw [drop_byte h]
    unfold PW.read
    rw [if_neg (by decide), if_pos rfl, if_pos (by omega)]
    exact ⟨rfl, by decide⟩
  have e : hashQ B (p + 1) 0 = ((B.drop (p + 1)).take 32, p + 1 + 32, 0) := by
    unfold hashQ
    rw [if_neg (fun h => h rfl), if_neg hs]
  obtain rfl : q = ((B.drop (p + 1)).take 32, p + 1 + 32, 0) := by rw [← hq, e]
  dsimp only
  by_cases hs2 : B.length < p + 1 + 32 + 32
  · have e2 : hashQ B (p + 1 + 32) 0 = (z32T, p + 1 + 32, 10) := by
      unfold hashQ
      rw [if_neg (fun h => h rfl), if_pos hs2]
    rw [e2]
    dsimp only
    have e3 : ledQ way ((B.drop (p + 1)).take 32) 10 = 10 := if_neg fun h => by cases h.1
    rw [e3]
    refine ⟨Nat.zero_lt_one, by omega, by omega, by simp, fun h => absurd rfl h, fun _ => ?_⟩
    rw [drop_byte h]
    unfold PW.read
    rw [if_neg (by decide), if_pos rfl, if_pos (by omega)]
    exact ⟨rfl, by decide⟩
  · have e2 : hashQ B (p + 1 + 32) 0 = ((B.drop (p + 1 + 32)).take 32, p + 1 + 32 + 32, 0) := by
      unfold hashQ
      rw [if_neg (fun h => h rfl), if_neg hs2]
    rw [e2]
    dsimp only
    refine ⟨Nat.zero_lt_one, by omega, by omega, by simp, fun h => absurd rfl h, fun _ => ?_⟩
    rw [drop_byte h]
    unfold PW.read
    rw [if_neg (by decide), if_pos rfl, if_neg (by omega)]
    unfold ledQ
    by_cases hl : Leads way ((B.drop (p + 1)).take 32)
    · rw [if_pos hl, if_neg fun h => h.2 hl]
      refine ⟨rfl, by rw [List.drop_drop], fun ns hns => ?_⟩
      rw [← show (B.drop (p + 1)).drop 32 = B.drop (p + 1 + 32) from List.drop_drop]
      exact at_new hns
    · rw [if_neg hl, if_pos ⟨rfl, hl⟩]
      exact ⟨rfl, by decide⟩
def badK (a b : Nat) : Bool := (a == 0 && b == 0) || (a == 0 && b == 1) || (a == 1 && b == 0)
theorem RdR.both {m pl el pr er : Nat} {L R : List ND} {a b : Nat} (h : B[p]? = some x) (hx : x.toNat = 2) (hl : RdR m (way ++ [0]) B (p + 1) 0 (N + 1) L pl el) (hr : RdR m (way ++ [1]) B pl el (N + 1 + L.length) R pr er)
    (ha : ∀ ns : List ND, ns.length = N + 1 → ∀ u, (ns ++ (L ++ R))[N + 1]? = some u → a = u.k) (hb : ∀ ns : List ND, ns.length = N + 1 → ∀ u, (ns ++ (L ++ R))[N + 1 + L.length]? = some u → b = u.k) :
    RdR (m + 1) way B p 0 N (⟨2, z32T, z32T, ((N + 1 : Nat) : Int), ((N + 1 + L.length : Nat) : Int)⟩ :: (L ++ R)) pr (formQ (badK a b) er) := by
  obtain rfl : x = 2 := UInt8.toNat_inj.1 hx
  have hlt := (List.getElem?_eq_some_iff.1 h).1
  have h1 := hl.up
  have h2 := hr.up
  have h3 := hl.few
  have h4 := hr.few
  refine ⟨by simp, by omega, hr.le, by rw [List.length_cons, List.length_append]; omega, fun h => absurd rfl h, fun _ => ?_⟩
  have hol := hl.out rfl
  rw [drop_byte h]
  unfold PW.read
  rw [if_neg (by decide), if_neg (by decide), if_pos rfl]
  dsimp only
  cases hrl : PW.read m (way ++ [0]) (B.drop (p + 1)) with
  | error e1 =>
    rw [hrl] at hol
    obtain ⟨rfl, hne⟩ := hol
    obtain ⟨-, rfl⟩ := hr.stuck hne
    exact ⟨if_neg fun h => hne h.2, hne⟩
  | ok u =>
    obtain ⟨wl, b1⟩ := u
    rw [hrl] at hol
    obtain ⟨rfl, hb1, hAl⟩ := hol
    dsimp only
    have hor := hr.out rfl
    rw [hb1] at hor
    cases hrr : PW.read m (way ++ [1]) b1 with
    | error e1 =>
      rw [hrr] at hor
      obtain ⟨rfl, hne⟩ := hor
      exact ⟨if_neg fun h => hne h.2, hne⟩
    | ok u =>
      obtain ⟨wr, b2⟩ := u
      rw [hrr] at hor
      obtain ⟨rfl, hb2, hAr⟩ := hor
      dsimp only
      have hL : ∀ ns : List ND, ns.length = N + 1 → At (ns ++ (L ++ R)) wl (N + 1) := fun ns hns => by
        rw [← List.append_assoc]
        exact (hAl ns hns).app
      have hR : ∀ ns : List ND, ns.length = N + 1 → At (ns ++ (L ++ R)) wr (N + 1 + L.length) := fun ns hns => by
        rw [← List.append_assoc]
        exact hAr (ns ++ L) (by rw [List.length_append, hns])
      have hbad : badK a b = PW.bad wl wr := by
        have hns : (List.replicate (N + 1) (⟨0, [], [], 0, 0⟩ : ND)).length = N + 1 := List.length_replicate
        obtain ⟨u, hu, hk⟩ := (hL _ hns).kind
        obtain ⟨v, hv, hk2⟩ := (hR _ hns).kind
        rw [ha _ hns u hu, hb _ hns v hv, hk, hk2]
        rfl
      rw [hbad]
      by_cases hbd : PW.bad wl wr = true
      · rw [if_pos hbd]
        exact ⟨if_pos ⟨hbd, rfl⟩, by decide⟩
      · rw [if_neg hbd]
        refine ⟨if_neg fun h => hbd h.1, hb2, fun ns hns => ?_⟩
        have e : ns ++ (⟨2, z32T, z32T, ((N + 1 : Nat) : Int), ((N + 1 + L.length : Nat) : Int)⟩ : ND) :: (L ++ R) = (ns ++ [⟨2, z32T, z32T, ((N + 1 : Nat) : Int), ((N + 1 + L.length : Nat) : Int)⟩]) ++ (L ++ R) := by simp
        rw [e]
        refine ⟨N + 1, N + 1 + L.length, ?_, hL _ (by rw [List.length_append, hns]; rfl), hR _ (by rw [List.length_append, hns]; rfl)⟩
        rw [List.getElem?_append_left (by rw [List.length_append, hns]; exact Nat.lt_succ_self _)]
        exact at_new hns
end
end Go.Proofs.YtoecohpcnojokaaDoor
