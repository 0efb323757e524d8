/-
  SEVERAL TEXTS IN ONE: Na, Nb, Nc, Nd, Wt, Ne, Nf.
-/
import Derived.Test.YtoecohpcnojokaaDoorMj
/-
  THE PROGRAM'S PARTS: nodes behind an interface, their values; a key's bit; leaves are made; roots.
-/
namespace Go.Proofs.YtoecohpcnojokaaDoor
open Go.RowKit Go.IntWalk Nums

/-! ### Values -/
namespace PW
def ty : PW → TypeId
  | .empty => 102
  | .leaf _ => 92
  | .inner _ _ => 113
  | .hid _ => 104
/-- As the program has it. -/
def val : PW → Value
  | .empty => .iface 102 (SQ.p []).den
  | .leaf p => .iface 92 (SQ.p [.agg 32 (By (leafT p)).toArray, .agg 32 (By p.1).toArray, .agg 32 (By p.2).toArray]).den
  | .inner a b => .iface 113 (SQ.p [.agg 32 (By (nodeT a.root b.root)).toArray, .agg 2 #[a.val, b.val]]).den
  | .hid h => .iface 104 (SQ.p [.agg 32 (By h).toArray]).den
/-- What lies in the interface. -/
def ps : PW → List Pt
  | .empty => []
  | .leaf p => [.agg 32 (By (leafT p)).toArray, .agg 32 (By p.1).toArray, .agg 32 (By p.2).toArray]
  | .inner a b => [.agg 32 (By (nodeT a.root b.root)).toArray, .agg 2 #[a.val, b.val]]
  | .hid h => [.agg 32 (By h).toArray]
theorem val_eq (w : PW) : w.val = .iface w.ty (SQ.p w.ps).den := by cases w <;> rfl
theorem val_cells (w : PW) : w.val.cells = #[w.val] := by cases w <;> rfl
theorem val_one (w : PW) : w.val.oneCell' = true := by cases w <;> rfl
end PW
theorem agg_ok {l : List UInt8} (h : l.length = 32) : (Pt.agg 32 (By l).toArray).Ok := (eY_ok h).1 _ (by simp [SQ.parts1, eY])
def sdW (a b : PW) : List Pt := [.agg 2 #[a.val, b.val]]
theorem sdW_ok (a b : PW) : OkP (sdW a b) := fun p hp => by
  rw [List.mem_singleton.1 hp]
  refine ⟨rfl, fun v hv => ?_⟩
  rcases List.mem_cons.1 hv with rfl | hv
  · exact a.val_one
  · rw [List.mem_singleton.1 hv]
    exact b.val_one
theorem PW.ps_ok {w : PW} (h : w.Good) : OkP w.ps := by
  cases w with
  | empty => intro p hp; cases hp
  | leaf p =>
    intro x hx
    simp only [PW.ps, List.mem_cons, List.not_mem_nil, or_false] at hx
    rcases hx with rfl | rfl | rfl
    · exact agg_ok (digest256_len _)
    · exact agg_ok h.1
    · exact agg_ok h.2
  | inner a b =>
    intro x hx
    rcases List.mem_cons.1 hx with rfl | hx
    · exact agg_ok (digest256_len _)
    · exact sdW_ok a b x hx
  | hid l =>
    intro x hx
    rw [List.mem_singleton.1 hx]
    exact agg_ok h

/-! ### A key's bit -/
theorem own_wbit : Own 55 := fun _ _ => by go_simp
set_option maxRecDepth 100000 in
set_option maxHeartbeats 1000000 in
theorem wbit_S {k : List UInt8} (hk : k.length = 32) (n : Nat) (hn : n < 256) : Spec 55 [(eY 32 k).den, .int .u8 (n : Int)] [] (fun _ => True) (one (.v (.int .u8 ((bitT k n : Nat) : Int)))) := by
  refine spec_S [eY 32 k, .c (.v (.int .u8 (n : Int)))] 14 Tryd.func55 rfl (by rw [Tryd.ntmps55]; rfl) (two_ok (eY_ok hk).1 trivial) fun b => ?_
  refine s_auto TY_ok rfl ?_
  refine s_regA TY_ok rfl fun K hK => ?_
  refine l_num 6 ((n / 8 : Nat) : Int) rfl (wrapB (by rw [Int.tdiv_eq_ediv_of_nonneg (by omega)]; omega) (by omega) (by omega)) ?_
  refine l_op (.a 2 (0 + 1 * (n / 8))) trivial rfl rfl rfl (runO_ixA (n / 8) rfl Tryd.underlying38 rfl rfl rfl (by omega)) ?_
  refine l_opV (.v (.int .u8 ((k[n / 8]!).toNat : Int))) trivial rfl rfl rfl (runO_ldA _ rfl rfl rfl (row_at (by omega)) Tryd.underlying5 rfl) ?_
  have hlt := (k[n / 8]!).toNat_lt
  have hb : bitT k n = (k[n / 8]!).toNat / 2 ^ (7 - n % 8) % 2 := rfl
  generalize (k[n / 8]!).toNat = v at *
  refine l_autoS TY_ok rfl ?_
  refine l_num 11 ((7 - n % 8 : Nat) : Int) rfl (wrapB (by rw [Int.tmod_eq_emod_of_nonneg (by omega)]; omega) (by omega) (by omega)) ?_
  refine l_op (.v (.int .u8 ((v / 2 ^ (7 - n % 8) : Nat) : Int))) trivial rfl rfl rfl (run_shr8 (by omega) rfl rfl rfl) ?_
  have h2 : v / 2 ^ (7 - n % 8) < 256 := Nat.lt_of_le_of_lt (Nat.div_le_self _ _) hlt
  generalize v / 2 ^ (7 - n % 8) = z at *
  refine l_op (.v (.int .u8 (bits .and .u8 (z : Int) 1))) trivial rfl rfl rfl (run_and8 rfl rfl rfl) ?_
  refine l_num 13 ((z % 2 : Nat) : Int) rfl (low1T z h2) ?_
  refine l_autoS TY_ok rfl ?_
  refine s_end (hK _ ?_)
  exact s_ret (k_ret TY_ok () rfl (by decide) rfl (congrArg (fun x : Nat => RV.v (.int .u8 (x : Int))) hb) rfl (fun _ _ _ => trivial) (fun _ _ => trivial))

/-! ### Roots behind the interface -/
def PW.rootF : PW → FuncId
  | .empty => 97
  | .leaf _ => 95
  | .inner _ _ => 101
  | .hid _ => 99
theorem own_wroot (w : PW) : Own w.rootF := by
  cases w
  · exact fun _ _ => by unfold PW.rootF; go_simp
  · exact fun _ _ => by unfold PW.rootF; go_simp
  · exact fun _ _ => by unfold PW.rootF; go_simp
  · exact fun _ _ => by unfold PW.rootF; go_simp
theorem has_root (w : PW) : ownM Tryd.prog w.ty "witan/witness.root" w.rootF = true := by
  cases w
  · show ownM Tryd.prog 102 "witan/witness.root" 97 = true
    kernel_rfl
  · show ownM Tryd.prog 92 "witan/witness.root" 95 = true
    kernel_rfl
  · show ownM Tryd.prog 113 "witan/witness.root" 101 = true
    kernel_rfl
  · show ownM Tryd.prog 104 "witan/witness.root" 99 = true
    kernel_rfl
set_option maxRecDepth 100000 in
set_option maxHeartbeats 1000000 in
theorem wroot_S {w : PW} (h : w.Good) : Spec w.rootF [(SQ.p w.ps).den] [] (fun _ => True) (one (.q (eY 32 w.root))) := by
  cases w with
  | empty =>
    refine spec_S [.p []] 4 Tryd.func97 rfl (by rw [Tryd.ntmps97]; rfl) (one_ok (PW.ps_ok h)) fun b => ?_
    refine s_auto TY_ok rfl ?_
    refine s_auto TY_ok rfl ?_
    exact s_ret (k_ret TY_ok () rfl (by decide) rfl rfl rfl (fun _ _ _ => trivial) (fun _ _ => trivial))
  | leaf p =>
    refine spec_S [.p (PW.leaf p).ps] 5 Tryd.func95 rfl (by rw [Tryd.ntmps95]; rfl) (one_ok (PW.ps_ok h)) fun b => ?_
    refine s_auto TY_ok rfl ?_
    refine s_auto TY_ok rfl ?_
    exact s_ret (k_ret TY_ok () rfl (by decide) rfl rfl rfl (fun _ _ _ => trivial) (fun _ _ => trivial))
  | inner a b =>
    refine spec_S [.p (PW.inner a b).ps] 5 Tryd.func101 rfl (by rw [Tryd.ntmps101]; rfl) (one_ok (PW.ps_ok h)) fun b => ?_
    refine s_auto TY_ok rfl ?_
    refine s_auto TY_ok rfl ?_
    exact s_ret (k_ret TY_ok () rfl (by decide) rfl rfl rfl (fun _ _ _ => trivial) (fun _ _ => trivial))
  | hid l =>
    refine spec_S [.p (PW.hid l).ps] 5 Tryd.func99 rfl (by rw [Tryd.ntmps99]; rfl) (one_ok (PW.ps_ok h)) fun b => ?_
    refine s_auto TY_ok rfl ?_
    refine s_auto TY_ok rfl ?_
    exact s_ret (k_ret TY_ok () rfl (by decide) rfl rfl rfl (fun _ _ _ => trivial) (fun _ _ => trivial))
end Go.Proofs.YtoecohpcnojokaaDoor
/-
  THE PROGRAM'S PARTS: leaves and inner nodes are made.
-/
namespace Go.Proofs.YtoecohpcnojokaaDoor
open Go.RowKit Go.IntWalk Nums

section
variable {b : Base} {ops : Array Oper} {Q : Exit → Act → World → Prop} {N : Nat} {E : SE} {L : List LV} {R R' own : List Res} {F M F' : World → Prop} {o : Oper} {rest : List Oper} {k : Nat} {α : Type} {post : Post α} {f : FuncId} {x : Operand} {name : String} {xs : Array Operand} {ats : Array TypeId} {svs : List SV} {G : Nat → Nat} {S : Nat → Prop} {w0 : World} {vs : List NV} {T' : List Oper} {W : PW}
/-- A method of a node is called, the order forced. -/
theorem l_callW (args : List Value) (hg : o.guard = none) (hd : o.dst = some k) (hk : Nat.blt k N = true) (hf : Own f) (ho : o.op = .call { callee := .invoke x name, args := xs, argTypes := ats }) (hx0 : evS E x = some (.v W.val)) (hm : ownM Tryd.prog W.ty name f = true) (hx : evSs E xs.toList = some svs)
    (ha : ∀ G : Nat → Nat, (∀ x ∈ L, ∀ g, x.g = some g → G x.j = g) → svs.map (SV.den G) = args) (hs : Spec f ((SQ.p W.ps).den :: args) own F' post) (hF : ∀ w, F w → M w → F' w)
    (hn : ∀ x, lS Tryd.prog b ops Q N rest ⟨(k, (post.ret x).sv) :: E, L, post.own x ++ R', fun w => post.p x w ∧ F w, fun w => post.n x w ∧ M w⟩) : lS Tryd.prog b ops Q N (o :: rest) ⟨E, L, own ++ R', F, M⟩ :=
  l_callI args hg hd hk hf ho (by rw [hx0, W.val_eq]) hm hx ha hs hF hn
/-- .. that hands back one value and leaves nothing, ahead of new variables. -/
theorem n_callW {r : RV} (hst : StW b G S L R F M w0) (args : List Value) (hg : o.guard = none) (hd : o.dst = some k) (hk : Nat.blt k N = true) (hf : Own f) (ho : o.op = .call { callee := .invoke x name, args := xs, argTypes := ats }) (hx0 : evS E x = some (.v W.val)) (hm : ownM Tryd.prog W.ty name f = true) (hx : evSs E xs.toList = some svs)
    (ha : svs.map (SV.den G) = args) (hs : Spec f ((SQ.p W.ps).den :: args) [] (fun _ => True) (one r)) (hr : r.sv.Ok)
    (hn : nS Tryd.prog ops Q N vs T' G w0 rest ((k, r.sv) :: E)) : nS Tryd.prog ops Q N vs T' G w0 (o :: rest) E := by
  refine n_f hst r.sv hr (fun C0 Q' _ hQ => fun a ha' => ?_) hn
  rw [RV.sv_den] at hQ
  refine b_call1 (f := f) (args := ((SQ.p W.ps).den :: args).toArray) (v := r.den) (by simp [Region.wanted, hg]) (fun w _ => (hs w (fun _ => False) (fun _ => False) (fun _ h => h) (fun _ h => h.elim) (fun _ _ => trivial)).mono fun _ _ ⟨_, _, h1, _, h2, _⟩ => ⟨h1, h2.up fun _ _ h => h⟩) (fun w => ?_) (by rw [hd]; exact hQ _ (ha'.put hk _))
  have h0 : a.eval x = .iface W.ty (SQ.p W.ps).den := by rw [← W.val_eq]; exact ha'.eval (evS_ok hx0)
  have h1 := run_callI hf hm ho h0 w
  rw [map_eval (args := (svs.map (SV.den G)).toArray) (ha'.evals _ _ (by rw [evSs_ok hx])), ha, show #[(SQ.p W.ps).den] ++ args.toArray = ((SQ.p W.ps).den :: args).toArray by simp] at h1
  exact h1
end

theorem own_wleafOf : Own 39 := fun _ _ => by go_simp
def lfQ (p : PairT) : SQ := .p (PW.leaf p).ps
set_option maxRecDepth 100000 in
set_option maxHeartbeats 1000000 in
theorem wleafOf_S {p : PairT} (hp : OkT2 p) : Spec 39 [(eY 32 p.1).den, (eY 32 p.2).den] [] Tsh (one (.q (lfQ p))) := by
  refine spec_S [eY 32 p.1, eY 32 p.2] 13 Tryd.func39 rfl (by rw [Tryd.ntmps39]; rfl) (two_ok (eY_ok hp.1).1 (eY_ok hp.2).1) fun b => ?_
  refine s_auto TY_ok rfl ?_
  refine s_regH 8 (by decide) (by kernel_rfl) (by kernel_rfl) fun K hK G S w0 hst => ?_
  refine h_lit TY_ok [(0 : UInt8)] rfl rfl rfl rfl rfl rfl (fun _ => rfl) rfl (by decide) (by decide) fun B => ?_
  refine h_op hst (.s 2 0 32 32) trivial rfl rfl rfl rfl (runO_all rfl Tryd.underlying38 rfl rfl) ?_
  refine h_op hst (.s 3 0 32 32) trivial rfl rfl rfl rfl (runO_all rfl Tryd.underlying38 rfl rfl) ?_
  refine h_parts [.slice (some ⟨B, 0, none⟩) 1 1, (SV.s 2 0 32 32).den G, (SV.s 3 0 32 32).den G] [[0], p.1, p.2] hst rfl rfl rfl rfl rfl rfl rfl (by decide) (by decide) (fun w hw hu => ?_) fun A => ?_
  · have h2 : Rd 1 eB (some ⟨B, 0, none⟩) 1 [0] w := hu 0 _ rfl (by kernel_rfl)
    exact ⟨h2.sb, sb_var (j := 2) rfl hp.1 (by decide) G S w hw, sb_var (j := 3) rfl hp.2 (by decide) G S w hw, trivial⟩
  refine h_call (r := .q (eY 32 (leafT p))) hst [.slice (some ⟨A, 0, none⟩) 3 3] rfl rfl rfl rfl own_tsum rfl rfl (fun _ => rfl) (eY_ok (n := 32) (digest256_len _)).1 (fun w hw hu => ?_) ?_
  · have hA : PT w (some ⟨A, 0, none⟩) [[0], p.1, p.2] := hu 3 _ rfl (by kernel_rfl)
    have hr2 := sum256_f (some ⟨A, 0, none⟩) [[0], p.1, p.2] 3 w hw.fact hA (by simp) (by simp)
    have e : leafT p = digest s256 [[0], p.1, p.2].flatten := by simp [leafT]
    show Calls Tryd.prog _ _ w fun e w' => e = .returned (.agg (By (leafT p)).toArray) ∧ _
    rw [e]
    exact hr2
  refine h_auto TY_ok hst rfl ?_
  refine h_end hst ?_
  refine l_autoS TY_ok rfl ?_
  refine s_end (hK _ ?_)
  exact s_ret (k_ret TY_ok () rfl (by decide) rfl rfl rfl (fun _ _ _ => trivial) (fun _ _ => trivial))

theorem own_winnerOf : Own 56 := fun _ _ => by go_simp
set_option maxRecDepth 100000 in
set_option maxHeartbeats 1000000 in
theorem winnerOf_S {x y : PW} (hx : x.Good) (hy : y.Good) : Spec 56 [.agg #[x.val, y.val]] [] Tsh (one (.q (.p (PW.inner x y).ps))) := by
  refine spec_S [.p (sdW x y)] 18 Tryd.func56 rfl (by rw [Tryd.ntmps56]; rfl) (one_ok (sdW_ok x y)) fun b => ?_
  have hx32 := hx.root_len
  have hy32 := hy.root_len
  have sz : ∀ l : List UInt8, l.length = 32 → (By l).toArray.size = 32 := fun l h => by rw [List.size_toArray, By_len, h]
  refine s_auto TY_ok rfl ?_
  refine s_new 6 [⟨3, 38, (By z32T).toArray⟩, ⟨4, 38, (By z32T).toArray⟩] (by decide) rfl ⟨⟨rfl, rfl, rfl, rfl, rfl⟩, ⟨rfl, rfl, rfl, rfl, rfl⟩, trivial⟩ (by kernel_rfl) (by kernel_rfl) (by kernel_rfl) fun K hK G S w0 hst => ?_
  refine n_op hst (.a 1 (0 + 1 * 0)) trivial rfl rfl rfl (runO_ixA 0 rfl Tryd.underlying111 rfl rfl rfl (by decide)) ?_
  refine n_opV hst (.v x.val) trivial rfl rfl rfl (runO_ldA _ rfl rfl rfl rfl Tryd.underlying31 rfl) ?_
  refine n_callW hst [] rfl rfl rfl (own_wroot x) rfl rfl (has_root x) rfl rfl (wroot_S hx) (eY_ok hx32).1 ?_
  refine n_op hst (.a 1 (0 + 1 * 1)) trivial rfl rfl rfl (runO_ixA 1 rfl Tryd.underlying111 rfl rfl rfl (by decide)) ?_
  refine n_opV hst (.v y.val) trivial rfl rfl rfl (runO_ldA _ rfl rfl rfl rfl Tryd.underlying31 rfl) ?_
  refine n_callW hst [] rfl rfl rfl (own_wroot y) rfl rfl (has_root y) rfl rfl (wroot_S hy) (eY_ok hy32).1 ?_
  refine n_new hst [⟨3, none, 38, [.agg 32 (By x.root).toArray]⟩, ⟨4, none, 38, [.agg 32 (By y.root).toArray]⟩] [(By z32T).toArray, (By z32T).toArray] [.tmp 7, .tmp 10] rfl rfl rfl (fun u hu => ?_) ⟨rfl, rfl, trivial⟩ rfl ⟨⟨rfl, rfl, rfl⟩, ⟨rfl, rfl, rfl⟩, rfl⟩ ⟨⟨rfl, ?_, ?_, By_one _⟩, ⟨rfl, ?_, ?_, By_one _⟩, trivial⟩ ?_
  · rcases List.mem_cons.1 hu with rfl | hu
    · exact (eY_ok hx32).1
    · rw [List.mem_singleton.1 hu]
      exact (eY_ok hy32).1
  · exact (sz z32T rfl).trans (sz _ hx32).symm
  · show _ = some (By x.root).toArray.size
    rw [sz _ hx32]
    rfl
  · exact (sz z32T rfl).trans (sz _ hy32).symm
  · show _ = some (By y.root).toArray.size
    rw [sz _ hy32]
    rfl
  refine s_end (hK _ ?_)
  refine s_keep [1, 2, 3, 4] [1, 2, 3, 4] rfl rfl ?_
  refine s_regH 7 (by decide) (by kernel_rfl) (by kernel_rfl) fun K hK G S w0 hst => ?_
  refine h_lit TY_ok [(1 : UInt8)] rfl rfl rfl rfl rfl rfl (fun _ => rfl) rfl (by decide) (by decide) fun B => ?_
  refine h_op hst (.s 3 0 32 32) trivial rfl rfl rfl rfl (runO_all rfl Tryd.underlying38 rfl rfl) ?_
  refine h_op hst (.s 4 0 32 32) trivial rfl rfl rfl rfl (runO_all rfl Tryd.underlying38 rfl rfl) ?_
  refine h_parts [.slice (some ⟨B, 0, none⟩) 1 1, (SV.s 3 0 32 32).den G, (SV.s 4 0 32 32).den G] [[1], x.root, y.root] hst rfl rfl rfl rfl rfl rfl rfl (by decide) (by decide) (fun w hw hu => ?_) fun A => ?_
  · have h2 : Rd 1 eB (some ⟨B, 0, none⟩) 1 [1] w := hu 0 _ rfl (by kernel_rfl)
    exact ⟨h2.sb, sb_var (j := 3) rfl hx32 (by decide) G S w hw, sb_var (j := 4) rfl hy32 (by decide) G S w hw, trivial⟩
  refine h_call (r := .q (eY 32 (nodeT x.root y.root))) hst [.slice (some ⟨A, 0, none⟩) 3 3] rfl rfl rfl rfl own_tsum rfl rfl (fun _ => rfl) (eY_ok (n := 32) (digest256_len _)).1 (fun w hw hu => ?_) ?_
  · have hA : PT w (some ⟨A, 0, none⟩) [[1], x.root, y.root] := hu 3 _ rfl (by kernel_rfl)
    have hr2 := sum256_f (some ⟨A, 0, none⟩) [[1], x.root, y.root] 3 w hw.fact hA (by simp) (by simp)
    have e : nodeT x.root y.root = digest s256 [[1], x.root, y.root].flatten := by simp [nodeT]
    show Calls Tryd.prog _ _ w fun e w' => e = .returned (.agg (By (nodeT x.root y.root)).toArray) ∧ _
    rw [e]
    exact hr2
  refine h_auto TY_ok hst rfl ?_
  refine h_end hst ?_
  refine l_autoS TY_ok rfl ?_
  refine s_end (hK _ ?_)
  exact s_ret (k_ret TY_ok () rfl (by decide) rfl rfl rfl (fun _ _ _ => trivial) (fun _ _ => trivial))
end Go.Proofs.YtoecohpcnojokaaDoor
/-
  THE PROGRAM'S PARTS: their bytes, laid behind others.
-/
namespace Go.Proofs.YtoecohpcnojokaaDoor
open Go.RowKit Go.IntWalk Nums

section
variable {N : Nat} {E : SE} {o : Oper} {x : Operand} {W : PW}
/-- A node behind an interface is none that isn't there. -/
theorem run_nilI (ho : o.op = .nilCheck x) (hx : evS E x = some (.v W.val)) :
    ∀ (G : Nat → Nat) (a : Act) (w : World), Fr N (denE G E) a → (execOp a.eval o).run Tryd.prog w = .ok (.value ((SV.v W.val).den G)) w := fun G a w ha => by
  have h1 : a.eval x = W.val := ha.eval (evS_ok hx)
  unfold execOp
  rw [ho]
  dsimp only
  rw [h1, W.val_eq]
  rfl
end
theorem row32 {l : List UInt8} (h : l.length = 32) : (By l).toArray.size = 32 := by rw [List.size_toArray, By_len, h]
/-- The sides, as they lie in an inner node. -/
theorem inner_cell {a b : PW} : (catP (PW.inner a b).ps)[32]? = some a.val ∧ (catP (PW.inner a b).ps)[33]? = some b.val := by
  have h := row32 (l := nodeT a.root b.root) (digest256_len _)
  show ((By (nodeT a.root b.root)).toArray ++ #[a.val, b.val])[32]? = _ ∧ ((By (nodeT a.root b.root)).toArray ++ #[a.val, b.val])[33]? = _
  rw [Array.getElem?_append_right (by omega), Array.getElem?_append_right (by omega), h]
  exact ⟨rfl, rfl⟩

def PW.layF : PW → FuncId
  | .empty => 96
  | .leaf _ => 94
  | .inner _ _ => 100
  | .hid _ => 98
theorem own_wlay (w : PW) : Own w.layF := by
  cases w
  · exact fun _ _ => by unfold PW.layF; go_simp
  · exact fun _ _ => by unfold PW.layF; go_simp
  · exact fun _ _ => by unfold PW.layF; go_simp
  · exact fun _ _ => by unfold PW.layF; go_simp
theorem has_lay (w : PW) : ownM Tryd.prog w.ty "witan/witness.lay" w.layF = true := by
  cases w
  · show ownM Tryd.prog 102 "witan/witness.lay" 96 = true
    kernel_rfl
  · show ownM Tryd.prog 92 "witan/witness.lay" 94 = true
    kernel_rfl
  · show ownM Tryd.prog 113 "witan/witness.lay" 100 = true
    kernel_rfl
  · show ownM Tryd.prog 104 "witan/witness.lay" 98 = true
    kernel_rfl
/-- Bytes of one's own are handed back. -/
abbrev outO (l : List UInt8) : Post PX := { ret := fun x => .v (.slice x.1 l.length x.2), own := fun x => [OwnS 0 5 1 eB x.1 x.2 l] }
set_option maxRecDepth 100000 in
set_option maxHeartbeats 1000000 in
theorem wlay_S : ∀ (w : PW), w.Good → ∀ (A : Option Addr) (c : Nat) (l : List UInt8), l.length + w.bytes.length ≤ 1000000 → Spec w.layF [(SQ.p w.ps).den, .slice A l.length c] [OwnS 0 5 1 eB A c l] (fun _ => True) (outO (l ++ w.bytes)) := by
  intro w
  induction w with
  | empty =>
    intro hg A c l hl
    refine spec_S [.p [], .c (.v (.slice A l.length c))] 8 Tryd.func96 rfl (by rw [Tryd.ntmps96]; rfl) (two_ok (PW.ps_ok hg) trivial) fun b => ?_
    have hl : l.length + 1 ≤ 1000000 := hl
    refine s_auto TY_ok rfl ?_
    refine s_regA TY_ok rfl fun K hK => ?_
    refine l_push TY_ok 0 (0 : UInt8) rfl rfl rfl rfl rfl rfl rfl (okF_B [0] 0 List.mem_cons_self) (by decide) (by decide) (by show (l.length + 1) * 1 ≤ _; omega) (by omega) (Nat.zero_le _) fun A1 c1 => ?_
    refine l_autoS TY_ok rfl ?_
    refine s_end (hK _ ?_)
    exact s_ret (k_ret TY_ok (A1, c1) rfl (by decide) rfl rfl rfl (fun _ _ _ => trivial) (fun _ _ => trivial))
  | leaf p =>
    intro hg A c l hl
    have hp : OkT2 p := hg
    have e : l ++ (PW.leaf p).bytes = l ++ [1] ++ p.1 ++ p.2 := by simp [PW.bytes]
    have hl : l.length + (1 + 64) ≤ 1000000 := by
      have : (PW.leaf p).bytes.length = 1 + 64 := by simp [PW.bytes, hp.1, hp.2]
      omega
    rw [e]
    refine spec_S [.p (PW.leaf p).ps, .c (.v (.slice A l.length c))] 14 Tryd.func94 rfl (by rw [Tryd.ntmps94]; rfl) (two_ok (PW.ps_ok hg) trivial) fun b => ?_
    refine s_auto TY_ok rfl ?_
    refine s_seq fun K hK => ?_
    refine s_anyP [0, 3, 4, 6, 7] 8 2 (fun _ => True) (by kernel_rfl) rfl (fun _ _ _ => trivial) ?_
    refine p_frontS (L0 := []) TY_ok 0 (by kernel_rfl) rfl rfl rfl rfl rfl rfl (fun _ h => by cases h) (fun _ _ _ h => by cases h) ?_
    refine p_frontS (L0 := []) TY_ok 3 (by kernel_rfl) rfl rfl rfl rfl rfl rfl (fun _ h => by cases h) (fun _ _ _ h => by cases h) ?_
    refine p_frontO (.s 2 32 32 32) trivial 4 (by kernel_rfl) rfl rfl rfl rfl rfl (runO_all rfl Tryd.underlying38 rfl rfl) ?_
    refine p_frontS (L0 := []) TY_ok 6 (by kernel_rfl) rfl rfl rfl rfl rfl rfl (fun _ h => by cases h) (fun _ _ _ h => by cases h) ?_
    refine p_frontO (.s 2 64 32 32) trivial 7 (by kernel_rfl) rfl rfl rfl rfl rfl (runO_all rfl Tryd.underlying38 rfl rfl) ?_
    refine p_step 1 (by kernel_rfl) rfl fun K1 hK1 => ?_
    refine l_list TY_ok 0 [(1 : UInt8)] rfl rfl rfl rfl rfl (fun _ => rfl) rfl (by decide) (by decide) (okF_B _) (Nat.zero_le _) fun B => ?_
    refine l_free 0 rfl ?_
    refine s_end (hK1 _ (fun _ _ _ => trivial) ?_)
    refine p_step 2 (by kernel_rfl) rfl fun K2 hK2 => ?_
    refine l_appY TY_ok 0 [(1 : UInt8)] rfl rfl rfl rfl rfl rfl rfl rfl rfl (rd_fact fun _ h _ => h.1) (by decide) (by show (l.length + 1) * 1 ≤ _; omega) (by show l.length + 1 ≤ _; omega) (Nat.zero_le _) fun A1 c1 => ?_
    refine s_end (hK2 _ (fun _ _ _ => trivial) ?_)
    refine p_step 5 (by kernel_rfl) rfl fun K3 hK3 => ?_
    refine l_appZ (A2' := fun G => some ⟨G 2, 32, none⟩) (c2 := 32) TY_ok 0 p.1 rfl rfl rfl rfl rfl rfl rfl (fun _ => by rw [hp.1]; rfl) rfl rfl (rd_part (PW.leaf p).ps rfl rfl hp.1 (by decide)) (by decide) (by simp [hp.1]; omega) (by simp [hp.1]; omega) (Nat.zero_le _) fun A2 c2 => ?_
    refine s_end (hK3 _ (fun _ _ _ => trivial) ?_)
    refine p_tail [8, 9] (by kernel_rfl) rfl ?_
    refine l_appZ (A2' := fun G => some ⟨G 2, 64, none⟩) (c2 := 32) TY_ok 0 p.2 rfl rfl rfl rfl rfl rfl rfl (fun _ => by rw [hp.2]; rfl) rfl rfl (rd_part (PW.leaf p).ps rfl rfl hp.2 (by decide)) (by decide) (by simp [hp.1, hp.2]; omega) (by simp [hp.1, hp.2]; omega) (Nat.zero_le _) fun A3 c3 => ?_
    refine l_autoS TY_ok rfl ?_
    refine s_end (hK _ ?_)
    exact s_ret (k_ret TY_ok (A3, c3) rfl (by decide) rfl rfl rfl (fun _ _ _ => trivial) (fun _ _ => trivial))
  | hid h =>
    intro hg A c l hl
    have hp : h.length = 32 := hg
    have e : l ++ (PW.hid h).bytes = l ++ [3] ++ h := by simp [PW.bytes]
    have hl : l.length + (1 + 32) ≤ 1000000 := by
      have : (PW.hid h).bytes.length = 1 + 32 := by simp [PW.bytes, hp]
      omega
    rw [e]
    refine spec_S [.p (PW.hid h).ps, .c (.v (.slice A l.length c))] 11 Tryd.func98 rfl (by rw [Tryd.ntmps98]; rfl) (two_ok (PW.ps_ok hg) trivial) fun b => ?_
    refine s_auto TY_ok rfl ?_
    refine s_seq fun K hK => ?_
    refine s_anyP [0, 3, 4] 5 2 (fun _ => True) (by kernel_rfl) rfl (fun _ _ _ => trivial) ?_
    refine p_frontS (L0 := []) TY_ok 0 (by kernel_rfl) rfl rfl rfl rfl rfl rfl (fun _ h => by cases h) (fun _ _ _ h => by cases h) ?_
    refine p_frontS (L0 := []) TY_ok 3 (by kernel_rfl) rfl rfl rfl rfl rfl rfl (fun _ h => by cases h) (fun _ _ _ h => by cases h) ?_
    refine p_frontO (.s 2 0 32 32) trivial 4 (by kernel_rfl) rfl rfl rfl rfl rfl (runO_all rfl Tryd.underlying38 rfl rfl) ?_
    refine p_step 1 (by kernel_rfl) rfl fun K1 hK1 => ?_
    refine l_list TY_ok 0 [(3 : UInt8)] rfl rfl rfl rfl rfl (fun _ => rfl) rfl (by decide) (by decide) (okF_B _) (Nat.zero_le _) fun B => ?_
    refine l_free 0 rfl ?_
    refine s_end (hK1 _ (fun _ _ _ => trivial) ?_)
    refine p_step 2 (by kernel_rfl) rfl fun K2 hK2 => ?_
    refine l_appY TY_ok 0 [(3 : UInt8)] rfl rfl rfl rfl rfl rfl rfl rfl rfl (rd_fact fun _ h _ => h.1) (by decide) (by show (l.length + 1) * 1 ≤ _; omega) (by show l.length + 1 ≤ _; omega) (Nat.zero_le _) fun A1 c1 => ?_
    refine s_end (hK2 _ (fun _ _ _ => trivial) ?_)
    refine p_tail [5, 6] (by kernel_rfl) rfl ?_
    refine l_appZ (A2' := fun G => some ⟨G 2, 0, none⟩) (c2 := 32) TY_ok 0 h rfl rfl rfl rfl rfl rfl rfl (fun _ => by rw [hp]; rfl) rfl rfl (rd_part (PW.hid h).ps rfl rfl hp (by decide)) (by decide) (by simp [hp]; omega) (by simp [hp]; omega) (Nat.zero_le _) fun A3 c3 => ?_
    refine l_autoS TY_ok rfl ?_
    refine s_end (hK _ ?_)
    exact s_ret (k_ret TY_ok (A3, c3) rfl (by decide) rfl rfl rfl (fun _ _ _ => trivial) (fun _ _ => trivial))
  | inner x y ihx ihy =>
    intro hg A c l hl
    have e : l ++ (PW.inner x y).bytes = l ++ [2] ++ x.bytes ++ y.bytes := by simp [PW.bytes]
    have hl : l.length + (1 + x.bytes.length + y.bytes.length) ≤ 1000000 := by
      have : (PW.inner x y).bytes.length = 1 + x.bytes.length + y.bytes.length := by simp [PW.bytes]; omega
      omega
    rw [e]
    refine spec_S [.p (PW.inner x y).ps, .c (.v (.slice A l.length c))] 20 Tryd.func100 rfl (by rw [Tryd.ntmps100]; rfl) (two_ok (PW.ps_ok hg) trivial) fun b => ?_
    have hpo := PW.ps_ok hg
    obtain ⟨hca, hcb⟩ := inner_cell (a := x) (b := y)
    generalize hps : (PW.inner x y).ps = ps at *
    refine s_auto TY_ok rfl ?_
    refine s_locs fun G => ?_
    have hsub : ∀ u ∈ ([⟨2, some (G 2), 113, ps⟩] : List LV), u ∈ withG G [⟨2, none, 113, ps⟩] ∧ u.g.isSome = true := fun u hu => ⟨hu, by rw [List.mem_singleton.1 hu]; rfl⟩
    refine s_seq fun K hK => ?_
    refine s_anyP [0, 1, 2, 3, 4, 5, 6, 9, 10, 12, 13] 14 2 (InvL [⟨2, some (G 2), 113, ps⟩]) (by kernel_rfl) rfl (inv_of hsub) ?_
    refine p_frontS TY_ok 0 (by kernel_rfl) rfl rfl rfl rfl rfl rfl (fun x hx => (hsub x hx).1) (fun _ h => h) ?_
    refine p_frontO (.a 2 (0 + 32 + 1 * 1)) trivial 1 (by kernel_rfl) rfl rfl rfl rfl rfl (runO_ixA 1 rfl Tryd.underlying111 rfl rfl rfl (by decide)) ?_
    refine p_frontA (.v y.val) trivial 2 (by kernel_rfl) rfl rfl rfl rfl rfl (fun x hx => (hsub x hx).1) (fun _ h => h) (runO_ldL _ rfl rfl rfl hcb Tryd.underlying31 rfl) ?_
    refine p_frontS TY_ok 3 (by kernel_rfl) rfl rfl rfl rfl rfl rfl (fun x hx => (hsub x hx).1) (fun _ h => h) ?_
    refine p_frontO (.a 2 (0 + 32 + 1 * 0)) trivial 4 (by kernel_rfl) rfl rfl rfl rfl rfl (runO_ixA 0 rfl Tryd.underlying111 rfl rfl rfl (by decide)) ?_
    refine p_frontA (.v x.val) trivial 5 (by kernel_rfl) rfl rfl rfl rfl rfl (fun x hx => (hsub x hx).1) (fun _ h => h) (runO_ldL _ rfl rfl rfl hca Tryd.underlying31 rfl) ?_
    refine p_frontS TY_ok 6 (by kernel_rfl) rfl rfl rfl rfl rfl rfl (fun x hx => (hsub x hx).1) (fun _ h => h) ?_
    refine p_frontO (.v x.val) trivial 9 (by kernel_rfl) rfl rfl rfl rfl rfl (run_nilI rfl rfl) ?_
    refine p_frontS TY_ok 10 (by kernel_rfl) rfl rfl rfl rfl rfl rfl (fun x hx => (hsub x hx).1) (fun _ h => h) ?_
    refine p_frontO (.v y.val) trivial 12 (by kernel_rfl) rfl rfl rfl rfl rfl (run_nilI rfl rfl) ?_
    refine p_frontS TY_ok 13 (by kernel_rfl) rfl rfl rfl rfl rfl rfl (fun x hx => (hsub x hx).1) (fun _ h => h) ?_
    refine p_step 7 (by kernel_rfl) rfl fun K1 hK1 => ?_
    refine l_list TY_ok 0 [(2 : UInt8)] rfl rfl rfl rfl rfl (fun _ => rfl) rfl (by decide) (by decide) (okF_B _) (Nat.zero_le _) fun B => ?_
    refine l_free 0 rfl ?_
    refine s_end (hK1 _ (inv_of hsub) ?_)
    refine p_step 8 (by kernel_rfl) rfl fun K2 hK2 => ?_
    refine l_appY TY_ok 0 [(2 : UInt8)] rfl rfl rfl rfl rfl rfl rfl rfl rfl (rd_fact fun _ h _ => h.1) (by decide) (by show (l.length + 1) * 1 ≤ _; omega) (by show l.length + 1 ≤ _; omega) (Nat.zero_le _) fun A1 c1 => ?_
    refine s_end (hK2 _ (inv_of hsub) ?_)
    refine p_step 11 (by kernel_rfl) rfl fun K3 hK3 => ?_
    refine l_R ([OwnS 0 5 1 eB A1 c1 (l ++ [2])] ++ []) rfl ?_
    have hspx := ihx hg.1 A1 c1 (l ++ [2]) (by rw [List.length_append, List.length_singleton]; omega)
    refine l_callW (W := x) (own := [OwnS 0 5 1 eB A1 c1 (l ++ [2])]) (R' := []) (post := outO (l ++ [2] ++ x.bytes)) (F' := fun _ => True) (f := x.layF) [.slice A1 (l ++ [2]).length c1] rfl rfl rfl (own_wlay x) rfl rfl (has_lay x) rfl (fun _ _ => rfl) ?_ ?_ ?_
    · exact hspx
    · exact fun _ _ _ => trivial
    rintro ⟨A2, c2⟩
    refine s_end (hK3 _ (inv_of hsub) ?_)
    refine p_tail [14, 15] (by kernel_rfl) rfl ?_
    refine l_R ([OwnS 0 5 1 eB A2 c2 (l ++ [2] ++ x.bytes)] ++ []) rfl ?_
    have hspy := ihy hg.2 A2 c2 (l ++ [2] ++ x.bytes) (by rw [List.length_append, List.length_append, List.length_singleton]; omega)
    refine l_callW (W := y) (own := [OwnS 0 5 1 eB A2 c2 (l ++ [2] ++ x.bytes)]) (R' := []) (post := outO (l ++ [2] ++ x.bytes ++ y.bytes)) (F' := fun _ => True) (f := y.layF) [.slice A2 (l ++ [2] ++ x.bytes).length c2] rfl rfl rfl (own_wlay y) rfl rfl (has_lay y) rfl (fun _ _ => rfl) ?_ ?_ ?_
    · exact hspy
    · exact fun _ _ _ => trivial
    rintro ⟨A3, c3⟩
    refine l_autoS TY_ok rfl ?_
    refine s_end (hK _ ?_)
    exact s_ret (k_ret TY_ok (A3, c3) rfl (by decide) rfl rfl rfl (fun _ _ _ => trivial) (fun _ _ => trivial))
end Go.Proofs.YtoecohpcnojokaaDoor
/-
  THE PROGRAM'S PARTS: a part by its top node; its bytes, its root.
-/
namespace Go.Proofs.YtoecohpcnojokaaDoor
open Go.RowKit Go.IntWalk Nums

section
variable {P : Program} {ti a b : TypeId} {ms : Array (String × TypeId)} {v u : Value} {w : World}
theorem equalI_ne (d : Nat) (hi : P.underlying ti = some (.interface ms)) (hne : a ≠ b) : (Op.equalIn (d + 1) ti (.iface a v) (.iface b u)).run P w = .ok false w := by
  rw [Op.equalIn]
  simp only [Sem.run_bind, run_underlying hi, Result.andThen_ok, if_pos hne, Sem.run_pure]
theorem equalI_eq (d : Nat) {i : TypeInfo} (hi : P.underlying ti = some (.interface ms)) (hinfo : P.info? a = some i) (hc : i.comparable = true) : (Op.equalIn (d + 1) ti (.iface a v) (.iface a u)).run P w = (Op.equalIn d a v u).run P w := by
  rw [Op.equalIn]
  simp [run_underlying hi, typeInfo, hinfo, hc]
theorem eq_iface {r : Bool} (hne : (Op.equalIn 10000 ti (.iface a v) (.iface b u)).run P w = .ok r w) : (binOp .eql ti (.iface a v) (.iface b u)).run P w = .ok (.bool r) w := by
  simp only [binOp]
  simp [Op.equal, Op.maxDepth, hne]
theorem guard_iface {op : BinOp} {x y : Operand} : (eqGuard op ti x y (.iface a v) (.iface b u)).run P w = .ok () w := by
  cases op <;> simp [eqGuard]
end
theorem fields_empty : Tryd.prog.underlying 102 = some (.struct (Tryd.prog.fieldsOf 102)) ∧ (Tryd.prog.fieldsOf 102).toList = [] := by
  unfold Program.fieldsOf
  rw [Tryd.underlying102]
  exact ⟨rfl, rfl⟩
theorem comparable_empty : (Tryd.prog.info? 102).map (·.comparable) = some true := by kernel_rfl
theorem stood_empty : Tryd.prog.stoodInHeld 102 = false := by kernel_rfl
/-- Is it the empty one? -/
def PW.isE : PW → Bool
  | .empty => true
  | _ => false
section
variable {N : Nat} {E : SE} {o : Oper} {x y : Operand} {t' : TypeId} {W : PW}
/-- '== empty{}'. -/
theorem run_isE (ho : o.op = .binOp .eql 31 x y t') (hx : evS E x = some (.v W.val)) (hy : evS E y = some (.v PW.empty.val)) :
    ∀ (G : Nat → Nat) (a : Act) (w : World), Fr N (denE G E) a → (execOp a.eval o).run Tryd.prog w = .ok (.value ((SV.v (.bool W.isE)).den G)) w := fun G a w ha => by
  have h1 : a.eval x = .iface W.ty (SQ.p W.ps).den := by rw [← W.val_eq]; exact ha.eval (evS_ok hx)
  have h2 : a.eval y = .iface 102 (.agg #[]) := ha.eval (evS_ok hy)
  obtain ⟨i, hi, hc⟩ := Option.map_eq_some_iff.1 comparable_empty
  have key : (Op.equalIn 10000 31 (.iface W.ty (SQ.p W.ps).den) (.iface 102 (.agg #[]))).run Tryd.prog w = .ok W.isE w := by
    cases W with
    | empty =>
      show (Op.equalIn (9999 + 1) 31 (.iface 102 (.agg #[])) (.iface 102 (.agg #[]))).run Tryd.prog w = .ok true w
      rw [equalI_eq 9999 Tryd.underlying31 hi hc, run_equalIn_struct w 9998 _ _ _ fields_empty.1 stood_empty, fields_empty.2, Op.eqFields, Sem.run_pure]
    | leaf => exact equalI_ne 9999 Tryd.underlying31 (by show (92 : Nat) ≠ 102; decide)
    | inner => exact equalI_ne 9999 Tryd.underlying31 (by show (113 : Nat) ≠ 102; decide)
    | hid => exact equalI_ne 9999 Tryd.underlying31 (by show (104 : Nat) ≠ 102; decide)
  unfold execOp
  simp only [ho, h1, h2, Sem.run_bind, guard_iface, Result.andThen_ok, eq_iface key, Sem.run_pure]
  rfl
end

/-! ### Parts -/
/-- The top, nil where it is empty. -/
def PW.top : PW → Value
  | .empty => .nilIface
  | w => w.val
theorem PW.top_ok (w : PW) : w.top.oneCell' = true ∧ w.top.cells = #[w.top] := by cases w <;> exact ⟨rfl, rfl⟩
def prQ (w : PW) : SQ := .p [.one (.v w.top)]
theorem prQ_ok (w : PW) : (prQ w).Ok := fun p hp => by
  rw [List.mem_singleton.1 hp]
  exact ⟨trivial, w.top_ok⟩
theorem own_wpart : Own 26 := fun _ _ => by go_simp
theorem own_wnode : Own 29 := fun _ _ => by go_simp
set_option maxRecDepth 100000 in
set_option maxHeartbeats 1000000 in
theorem wpart_S (w : PW) : Spec 26 [w.val] [] (fun _ => True) (one (.q (prQ w))) := by
  refine spec_S [.c (.v w.val)] 10 Tryd.func26 rfl (by rw [Tryd.ntmps26]; rfl) (one_ok trivial) fun b => ?_
  refine s_auto TY_ok rfl ?_
  refine s_seq fun K hK => ?_
  refine s_regA TY_ok rfl fun K1 hK1 => ?_
  refine l_op (.v PW.empty.val) trivial rfl rfl rfl (run_mkI rfl Tryd.underlying102 rfl rfl) ?_
  refine l_op (.v (.bool w.isE)) trivial rfl rfl rfl (run_isE rfl rfl rfl) ?_
  refine s_end (hK1 _ ?_)
  cases w with
  | empty =>
    refine s_yes rfl ?_
    refine s_auto TY_ok rfl ?_
    exact s_ret (k_ret TY_ok () rfl (by decide) rfl rfl rfl (fun _ _ _ => trivial) (fun _ _ => trivial))
  | leaf =>
    refine s_no rfl ?_
    refine s_skip (hK _ ?_)
    refine s_auto TY_ok rfl ?_
    exact s_ret (k_ret TY_ok () rfl (by decide) rfl rfl rfl (fun _ _ _ => trivial) (fun _ _ => trivial))
  | inner =>
    refine s_no rfl ?_
    refine s_skip (hK _ ?_)
    refine s_auto TY_ok rfl ?_
    exact s_ret (k_ret TY_ok () rfl (by decide) rfl rfl rfl (fun _ _ _ => trivial) (fun _ _ => trivial))
  | hid =>
    refine s_no rfl ?_
    refine s_skip (hK _ ?_)
    refine s_auto TY_ok rfl ?_
    exact s_ret (k_ret TY_ok () rfl (by decide) rfl rfl rfl (fun _ _ _ => trivial) (fun _ _ => trivial))
set_option maxRecDepth 100000 in
set_option maxHeartbeats 1000000 in
theorem wnode_S (w : PW) : Spec 29 [(prQ w).den] [] (fun _ => True) (one (.v w.val)) := by
  refine spec_S [prQ w] 10 Tryd.func29 rfl (by rw [Tryd.ntmps29]; rfl) (one_ok (prQ_ok w)) fun b => ?_
  refine s_auto TY_ok rfl ?_
  refine s_seq fun K hK => ?_
  cases w with
  | empty =>
    refine s_regA TY_ok rfl fun K1 hK1 => ?_
    refine l_op (.v (.bool true)) trivial rfl rfl rfl (run_eqNilN _ Tryd.underlying31 rfl rfl) ?_
    refine s_end (hK1 _ ?_)
    refine s_yes rfl ?_
    refine s_regA TY_ok rfl fun K2 hK2 => ?_
    refine l_op (.v PW.empty.val) trivial rfl rfl rfl (run_mkI rfl Tryd.underlying102 rfl rfl) ?_
    refine l_autoS TY_ok rfl ?_
    refine s_end (hK2 _ ?_)
    exact s_ret (k_ret TY_ok () rfl (by decide) rfl rfl rfl (fun _ _ _ => trivial) (fun _ _ => trivial))
  | leaf p =>
    refine s_regA TY_ok rfl fun K1 hK1 => ?_
    refine l_op (.v (.bool false)) trivial rfl rfl rfl (run_eqNilI _ Tryd.underlying31 rfl rfl) ?_
    refine s_end (hK1 _ ?_)
    refine s_no rfl ?_
    refine s_skip (hK _ ?_)
    refine s_auto TY_ok rfl ?_
    exact s_ret (k_ret TY_ok () rfl (by decide) rfl rfl rfl (fun _ _ _ => trivial) (fun _ _ => trivial))
  | inner x y =>
    refine s_regA TY_ok rfl fun K1 hK1 => ?_
    refine l_op (.v (.bool false)) trivial rfl rfl rfl (run_eqNilI _ Tryd.underlying31 rfl rfl) ?_
    refine s_end (hK1 _ ?_)
    refine s_no rfl ?_
    refine s_skip (hK _ ?_)
    refine s_auto TY_ok rfl ?_
    exact s_ret (k_ret TY_ok () rfl (by decide) rfl rfl rfl (fun _ _ _ => trivial) (fun _ _ => trivial))
  | hid h =>
    refine s_regA TY_ok rfl fun K1 hK1 => ?_
    refine l_op (.v (.bool false)) trivial rfl rfl rfl (run_eqNilI _ Tryd.underlying31 rfl rfl) ?_
    refine s_end (hK1 _ ?_)
    refine s_no rfl ?_
    refine s_skip (hK _ ?_)
    refine s_auto TY_ok rfl ?_
    exact s_ret (k_ret TY_ok () rfl (by decide) rfl rfl rfl (fun _ _ _ => trivial) (fun _ _ => trivial))
theorem own_wRoot : Own 13 := fun _ _ => by go_simp
theorem own_wBytes : Own 11 := fun _ _ => by go_simp
set_option maxRecDepth 100000 in
set_option maxHeartbeats 1000000 in
theorem wRoot_S {w : PW} (h : w.Good) : Spec 13 [(prQ w).den] [] (fun _ => True) (one (.q (eY 32 w.root))) := by
  refine spec_S [prQ w] 6 Tryd.func13 rfl (by rw [Tryd.ntmps13]; rfl) (one_ok (prQ_ok w)) fun b => ?_
  refine s_auto TY_ok rfl ?_
  refine s_regA TY_ok rfl fun K hK => ?_
  refine l_call0 [(prQ w).den] rfl rfl rfl own_wnode rfl rfl (fun _ _ => rfl) (wnode_S w) (fun _ _ _ => trivial) fun _ => ?_
  have hr := wroot_S h
  refine l_R ([] ++ []) rfl ?_
  refine l_callW (W := w) (own := []) (R' := []) (post := one (.q (eY 32 w.root))) (F' := fun _ => True) (f := w.rootF) [] rfl rfl rfl (own_wroot w) rfl rfl (has_root w) rfl (fun _ _ => rfl) ?_ ?_ ?_
  · exact hr
  · exact fun _ _ _ => trivial
  intro _
  refine l_autoS TY_ok rfl ?_
  refine s_end (hK _ ?_)
  exact s_ret (k_ret TY_ok () rfl (by decide) rfl rfl rfl (fun _ _ _ => trivial) (fun _ _ => trivial))
set_option maxRecDepth 100000 in
set_option maxHeartbeats 1000000 in
theorem wBytes_S {w : PW} (h : w.Good) (hl : w.bytes.length ≤ 1000000) : Spec 11 [(prQ w).den] [] (fun _ => True) (outO w.bytes) := by
  refine spec_S [prQ w] 6 Tryd.func11 rfl (by rw [Tryd.ntmps11]; rfl) (one_ok (prQ_ok w)) fun b => ?_
  refine s_auto TY_ok rfl ?_
  refine s_regA TY_ok rfl fun K hK => ?_
  refine l_call0 [(prQ w).den] rfl rfl rfl own_wnode rfl rfl (fun _ _ => rfl) (wnode_S w) (fun _ _ _ => trivial) fun _ => ?_
  have hr := wlay_S w h none 0 [] (by simpa using hl)
  refine l_nil0 0 5 1 eB ?_
  refine l_R ([OwnS 0 5 1 eB none 0 []] ++ []) rfl ?_
  refine l_callW (W := w) (own := [OwnS 0 5 1 eB none 0 []]) (R' := []) (post := outO w.bytes) (F' := fun _ => True) (f := w.layF) [.slice none 0 0] rfl rfl rfl (own_wlay w) rfl rfl (has_lay w) rfl (fun _ _ => rfl) ?_ ?_ ?_
  · exact hr
  · exact fun _ _ _ => trivial
  rintro ⟨A, c⟩
  refine l_autoS TY_ok rfl ?_
  refine s_end (hK _ ?_)
  exact s_ret (k_ret TY_ok (A, c) rfl (by decide) rfl rfl rfl (fun _ _ _ => trivial) (fun _ _ => trivial))
end Go.Proofs.YtoecohpcnojokaaDoor
/-
  THE DOCUMENT'S PARTS: what a key leads to.
-/
namespace Go.Proofs.YtoecohpcnojokaaDoor
open Go.RowKit Go.IntWalk Nums

/-- A part of an element is read. -/
theorem run_ldR {α : Type} {P : Program} {T : List TyR} {N : Nat} {E : SE} {o : Oper} {x : Operand} {t : TypeId} {k' c j off g a : Nat} {fe : α → SQ} {l : List α} {y : α} {q : SQ} {L : List LV} {R : List Res} {F M : World → Prop} (hT : OkT P T) (ho : o.op = .load t x) (hx : evS E x = some (.v (.pointer (some ⟨g, a + k' * j + off, none⟩)))) (hi : l[j]? = some y) (hl : loadS T (fe y).parts1 t off = some q) (hok : OkP (fe y).parts1) (h : ∀ G S w, View G S L R F M w → Rd k' fe (some ⟨g, a, none⟩) c l w) :
    ∀ (G : Nat → Nat) (S : Nat → Prop) (ac : Act) (w : World), Fr N (denE G E) ac → View G S L R F M w → (execOp ac.eval o).run P w = .ok (.value ((SV.q q).den G)) w := fun G S ac w ha hv => by
  have e1 := ha.eval (evS_ok hx)
  obtain ⟨b', o', e, _, hr⟩ := (h G S w hv).2.2.2.2 (Nat.lt_of_le_of_lt (Nat.zero_le _) (List.getElem?_eq_some_iff.1 hi).1)
  injection e with e
  injection e with e2 e3
  subst e2 e3
  have h13 := (loadS_at hT hok hl).2 (w := w) (g := g) (base := a + k' * j) (by rw [← SQ.cl_parts hok]; exact hr j y hi)
  unfold execOp
  simp only [ho, e1, SV.den, SQ.den, SC.den, h13, Sem.run_bind, Sem.run_pure, Result.andThen_ok]
theorem nd_ok {g : Nat} {B : Option Addr} {c : Nat} {ns : List ND} {w : World} (h : PartF g B c ns w) {n : Nat} {x : ND} (hx : ns[n]? = some x) : OkP (nwPs x) := (h.2.2.2.2.1 x (List.mem_of_getElem? hx)).1
theorem own_rpget : Own 19 := fun _ _ => by go_simp
def PW.isInner : PW → Bool
  | .inner _ _ => true
  | _ => false
set_option maxRecDepth 100000 in
set_option maxHeartbeats 2000000 in
theorem rpget_S {g : Nat} {B : Option Addr} {c : Nat} {ns : List ND} {k : List UInt8} (hk : k.length = 32) (w : PW) (hat : At ns w 0) (hr : w.Right []) : Spec 19 [.pointer (some ⟨g, 0, none⟩), (eY 32 k).den] [] (PartF g B c ns)
    (one (.t [eY 32 (PW.tell k (PW.find k 0 w)).1, .c (.v (.bool (PW.tell k (PW.find k 0 w)).2.1)), .c (.v (.bool (PW.tell k (PW.find k 0 w)).2.2))])) := by
  obtain ⟨res, hres⟩ : ∃ r, PW.tell k (PW.find k 0 w) = r := ⟨_, rfl⟩
  rw [hres]
  refine spec_S [.c (.v (.pointer (some ⟨g, 0, none⟩))), eY 32 k] 64 Tryd.func19 rfl (by rw [Tryd.ntmps19]; rfl) (two_ok trivial (eY_ok hk).1) fun b => ?_
  have h0 : ∃ x, ns[0]? = some x := by
    cases w with
    | inner => obtain ⟨i, j, h, _⟩ := hat; exact ⟨_, h⟩
    | _ => exact ⟨_, hat⟩
  refine s_pure (ns.length ≤ 9223372036854775807 ∧ (∃ gB oB, B = some ⟨gB, oB, none⟩) ∧ ∀ n x, ns[n]? = some x → OkP (nwPs x)) (fun _ h _ => ⟨Nat.le_trans h.2.1 h.2.2.1, by
    obtain ⟨x, hx⟩ := h0
    obtain ⟨b', o', e, _⟩ := h.2.2.2.2.2 (List.getElem?_eq_some_iff.1 hx).1
    exact ⟨b', o', e⟩, fun n x hx => nd_ok h hx⟩) fun ⟨hl, ⟨gB, oB, hB⟩, hoks⟩ => ?_
  subst hB
  refine s_auto TY_ok rfl ?_
  refine s_auto TY_ok rfl ?_
  refine s_seq fun K hK => ?_
  refine s_auto TY_ok rfl ?_
  refine s_block ?_
  let F : PW × Nat × List Nat → Env := fun ⟨_, n, way⟩ => ⟨[(7, .v (.int .i64 (n : Int))), (8, .v (.int .i64 (way.length : Int))), (0, .v (.pointer (some ⟨g, 0, none⟩))), (3, .a 3 0), (4, .a 4 0)], [⟨4, none, 38, [.agg 32 (By z32T).toArray]⟩, ⟨3, none, 38, [.agg 32 (By k).toArray]⟩], [], PartF g (some ⟨gB, oB, none⟩) c ns, fun _ => True⟩
  let Iv : PW × Nat × List Nat → Prop := fun y => At ns y.1 y.2.1 ∧ PW.find k y.2.2.length y.1 = PW.find k 0 w ∧ y.1.Right y.2.2
  have hend : ∀ y, Iv y → y.1.isInner = false → kS b K 64 (F y) := by
    rintro ⟨u, n, way⟩ ⟨hat, hf, hrt⟩ hni
    dsimp only at hat hf hrt hni
    refine hK _ ?_
    cases u with
    | inner => cases hni
    | empty =>
      obtain rfl : res = (z32T, false, false) := by rw [← hres, ← hf]; rfl
      refine s_regA TY_ok rfl fun K2 hK2 => ?_
      refine l_ldO TY_ok rfl rfl rfl rfl rfl rfl (obj_fact fun _ h _ => h.1) ?_
      refine l_autoS TY_ok rfl ?_
      refine l_elem TY_ok rfl rfl rfl n rfl hat rfl rfl (rd_fact fun _ h _ => h.2) ?_
      refine l_autoS TY_ok rfl ?_
      refine s_end (hK2 _ ?_)
      refine s_seq fun K3 hK3 => ?_
      refine s_auto TY_ok rfl ?_
      refine s_ifD (((0 : Nat) : Int) = 3) rfl (fun h => absurd h (by decide)) (fun _ => ?_)
      refine s_skip (hK3 _ ?_)
      refine s_seq fun K5 hK5 => ?_
      refine s_regA TY_ok rfl fun K6 hK6 => ?_
      refine l_is 55 false rfl (by simp) ?_
      refine l_autoS TY_ok rfl ?_
      refine s_end (hK6 _ ?_)
      refine s_no rfl ?_
      refine s_skip (hK5 _ ?_)
      refine s_auto TY_ok rfl ?_
      exact s_ret (k_ret TY_ok () rfl (by decide) rfl rfl rfl (fun _ _ _ => trivial) (fun _ _ => trivial))
    | leaf p =>
      have hp : OkT2 p := ⟨hrt.1, hrt.2.1⟩
      refine s_regA TY_ok rfl fun K2 hK2 => ?_
      refine l_ldO TY_ok rfl rfl rfl rfl rfl rfl (obj_fact fun _ h _ => h.1) ?_
      refine l_autoS TY_ok rfl ?_
      refine l_elem TY_ok rfl rfl rfl n rfl hat rfl rfl (rd_fact fun _ h _ => h.2) ?_
      refine l_autoS TY_ok rfl ?_
      refine s_end (hK2 _ ?_)
      refine s_seq fun K3 hK3 => ?_
      refine s_auto TY_ok rfl ?_
      refine s_ifD (((1 : Nat) : Int) = 3) rfl (fun h => absurd h (by decide)) (fun _ => ?_)
      refine s_skip (hK3 _ ?_)
      refine s_seq fun K5 hK5 => ?_
      refine s_regA TY_ok rfl fun K6 hK6 => ?_
      refine l_is 55 true rfl (by simp) ?_
      refine l_autoS TY_ok rfl ?_
      refine l_op (.b (decide (p.1 = k))) trivial rfl rfl rfl (run_eqY rfl rfl rfl Tryd.underlying38 (by kernel_rfl) hp.1 hk) ?_
      refine l_autoS TY_ok rfl ?_
      refine s_end (hK6 _ ?_)
      refine s_ifD (p.1 = k) rfl (fun he => ?_) (fun he => ?_)
      · obtain rfl : res = (p.2, true, false) := by rw [← hres, ← hf]; exact if_pos he
        refine s_auto TY_ok rfl ?_
        exact s_ret (k_ret TY_ok () rfl (by decide) rfl rfl rfl (fun _ _ _ => trivial) (fun _ _ => trivial))
      · obtain rfl : res = (z32T, false, false) := by rw [← hres, ← hf]; exact if_neg he
        refine s_skip (hK5 _ ?_)
        refine s_auto TY_ok rfl ?_
        exact s_ret (k_ret TY_ok () rfl (by decide) rfl rfl rfl (fun _ _ _ => trivial) (fun _ _ => trivial))
    | hid h =>
      obtain rfl : res = (z32T, false, true) := by rw [← hres, ← hf]; rfl
      refine s_regA TY_ok rfl fun K2 hK2 => ?_
      refine l_ldO TY_ok rfl rfl rfl rfl rfl rfl (obj_fact fun _ h _ => h.1) ?_
      refine l_autoS TY_ok rfl ?_
      refine l_elem TY_ok rfl rfl rfl n rfl hat rfl rfl (rd_fact fun _ h _ => h.2) ?_
      refine l_autoS TY_ok rfl ?_
      refine s_end (hK2 _ ?_)
      refine s_seq fun K3 hK3 => ?_
      refine s_auto TY_ok rfl ?_
      refine s_ifD (((3 : Nat) : Int) = 3) rfl (fun _ => ?_) (fun h => absurd rfl h)
      refine s_auto TY_ok rfl ?_
      exact s_ret (k_ret TY_ok () rfl (by decide) rfl rfl rfl (fun _ _ _ => trivial) (fun _ _ => trivial))
  refine c_weak (e' := F (w, 0, [])) ⟨⟨rfl, rfl, rfl, rfl, rfl, trivial⟩, ⟨rfl, rfl, rfl, rfl, trivial⟩, .refl _, fun _ h _ => h, fun _ _ => trivial⟩ (s_loop (fun y => y.1.bytes.length) F Iv ?_ (w, 0, []) ⟨hat, rfl, hr⟩)
  rintro ⟨u, n, way⟩ ⟨hat, hf, hrt⟩
  dsimp only at hat hf hrt
  refine s_seq fun K1 hK1 => ?_
  cases u with
  | inner y z =>
    obtain ⟨i, j, hat, hi, hj⟩ := hat
    obtain ⟨hw256, hry, hrz, _⟩ := hrt
    refine s_regA TY_ok rfl fun K2 hK2 => ?_
    refine l_ldO TY_ok rfl rfl rfl rfl rfl rfl (obj_fact fun _ h _ => h.1) ?_
    refine l_autoS TY_ok rfl ?_
    refine l_op (.v (.pointer (some ⟨gB, oB + 67 * n, none⟩))) trivial rfl rfl rfl (runO_ixS n rfl Tryd.underlying81 rfl rfl rfl (List.getElem?_eq_some_iff.1 hat).1) ?_
    refine l_autoS TY_ok rfl ?_
    refine l_opV (.q (.c (.v (.int .i64 ((2 : Nat) : Int))))) trivial rfl rfl rfl (run_ldR (fe := eND) TY_ok rfl rfl hat rfl (hoks _ _ hat) (rd_fact fun _ h _ => h.2)) ?_
    refine l_autoS TY_ok rfl ?_
    refine s_end (hK2 _ ?_)
    refine s_ifD (((2 : Nat) : Int) = 2) rfl (fun _ => ?_) (fun h => absurd rfl h)
    refine s_skip (hK1 _ ?_)
    refine s_seq fun K3 hK3 => ?_
    refine s_block ?_
    refine s_regA TY_ok rfl fun K4 hK4 => ?_
    refine l_call0 [.agg (By k).toArray, .int .i64 (way.length : Int)] rfl rfl rfl own_rbit9 rfl rfl (fun _ _ => rfl) (rbit_S hk way.length hw256) (fun _ _ _ => trivial) fun _ => ?_
    refine l_autoS TY_ok rfl ?_
    refine s_end (hK4 _ ?_)
    have hb2 := bitT_lt k way.length
    have hf : (if bitT k way.length = 0 then PW.find k (way.length + 1) y else PW.find k (way.length + 1) z) = PW.find k 0 w := hf
    have hgo : ∀ (v : PW) (m bb : Nat), At ns v m → PW.find k (way.length + 1) v = PW.find k 0 w → v.Right (way ++ [bb]) → v.bytes.length < (PW.inner y z).bytes.length → ∀ en, Weak en ⟨[(7, .v (.int .i64 (m : Int))), (8, .v (.int .i64 (way.length : Int))), (0, .v (.pointer (some ⟨g, 0, none⟩))), (3, .a 3 0), (4, .a 4 0)], [⟨4, none, 38, [.agg 32 (By z32T).toArray]⟩, ⟨3, none, 38, [.agg 32 (By k).toArray]⟩], [], PartF g (some ⟨gB, oB, none⟩) c ns, fun _ => True⟩ → kS b K3 64 en := by
      intro v m bb hv hfv hrv hlt en hw
      refine k_weak hw (hK3 _ ?_)
      refine s_autoE TY_ok rfl ?_
      exact k_next (v, m, way ++ [bb]) ⟨hv, by show PW.find k (way ++ [bb]).length v = _; rw [List.length_append, List.length_singleton]; exact hfv, hrv⟩ hlt ⟨⟨rfl, congrArg some (congrArg SV.v (congrArg (Value.int .i64) (by rw [List.length_append, List.length_singleton]; exact wrapI rfl (by omega) (by omega)))), rfl, rfl, rfl, trivial⟩, ⟨rfl, rfl, rfl, rfl, trivial⟩, .refl _, fun _ h _ => h, fun _ _ => trivial⟩
    refine s_ifD (((bitT k way.length : Nat) : Int) = 0) rfl (fun h0 => ?_) (fun h0 => ?_)
    · rw [if_pos (by omega)] at hf
      refine s_lit ?_
      refine l_autoS TY_ok rfl ?_
      refine l_ldO TY_ok rfl rfl rfl rfl rfl rfl (obj_fact fun _ h _ => h.2.1) ?_
      refine l_autoS TY_ok rfl ?_
      refine l_op (.v (.pointer (some ⟨gB, oB + 67 * n, none⟩))) trivial rfl rfl rfl (runO_ixS n rfl Tryd.underlying81 rfl rfl rfl (List.getElem?_eq_some_iff.1 hat).1) ?_
      refine l_autoS TY_ok rfl ?_
      refine l_opV (.q (.c (.v (.int .i64 (i : Int))))) trivial rfl rfl rfl (run_ldR (fe := eND) TY_ok rfl rfl hat rfl (hoks _ _ hat) (rd_fact fun _ h _ => h.2.2)) ?_
      refine l_autoS TY_ok rfl ?_
      refine s_end (hgo y i 0 hi hf hry (by simp only [PW.bytes, List.length_cons, List.length_append]; omega) _ ?_)
      exact ⟨⟨rfl, rfl, rfl, rfl, rfl, trivial⟩, ⟨rfl, rfl, rfl, rfl, trivial⟩, .refl _, fun _ h _ => h.2, fun _ _ => trivial⟩
    · rw [if_neg (by omega)] at hf
      refine s_lit ?_
      refine l_autoS TY_ok rfl ?_
      refine l_ldO TY_ok rfl rfl rfl rfl rfl rfl (obj_fact fun _ h _ => h.2.1) ?_
      refine l_autoS TY_ok rfl ?_
      refine l_op (.v (.pointer (some ⟨gB, oB + 67 * n, none⟩))) trivial rfl rfl rfl (runO_ixS n rfl Tryd.underlying81 rfl rfl rfl (List.getElem?_eq_some_iff.1 hat).1) ?_
      refine l_autoS TY_ok rfl ?_
      refine l_opV (.q (.c (.v (.int .i64 (j : Int))))) trivial rfl rfl rfl (run_ldR (fe := eND) TY_ok rfl rfl hat rfl (hoks _ _ hat) (rd_fact fun _ h _ => h.2.2)) ?_
      refine l_autoS TY_ok rfl ?_
      refine s_end (hgo z j 1 hj hf hrz (by simp only [PW.bytes, List.length_cons, List.length_append]; omega) _ ?_)
      exact ⟨⟨rfl, rfl, rfl, rfl, rfl, trivial⟩, ⟨rfl, rfl, rfl, rfl, trivial⟩, .refl _, fun _ h _ => h.2, fun _ _ => trivial⟩
  | empty =>
    refine s_regA TY_ok rfl fun K2 hK2 => ?_
    refine l_ldO TY_ok rfl rfl rfl rfl rfl rfl (obj_fact fun _ h _ => h.1) ?_
    refine l_autoS TY_ok rfl ?_
    refine l_op (.v (.pointer (some ⟨gB, oB + 67 * n, none⟩))) trivial rfl rfl rfl (runO_ixS n rfl Tryd.underlying81 rfl rfl rfl (List.getElem?_eq_some_iff.1 hat).1) ?_
    refine l_autoS TY_ok rfl ?_
    refine l_opV (.q (.c (.v (.int .i64 ((0 : Nat) : Int))))) trivial rfl rfl rfl (run_ldR (fe := eND) TY_ok rfl rfl hat rfl (hoks _ _ hat) (rd_fact fun _ h _ => h.2)) ?_
    refine l_autoS TY_ok rfl ?_
    refine s_end (hK2 _ ?_)
    refine s_ifD (((0 : Nat) : Int) = 2) rfl (fun h => absurd h (by decide)) (fun _ => ?_)
    refine s_exit (k_pass (k_pass (k_out ?_)))
    exact k_weak (e' := F (PW.empty, n, way)) ⟨⟨rfl, rfl, rfl, rfl, rfl, trivial⟩, ⟨rfl, rfl, rfl, rfl, trivial⟩, .refl _, fun _ h _ => h, fun _ h => h⟩ (hend (PW.empty, n, way) ⟨hat, hf, hrt⟩ rfl)
  | leaf p =>
    refine s_regA TY_ok rfl fun K2 hK2 => ?_
    refine l_ldO TY_ok rfl rfl rfl rfl rfl rfl (obj_fact fun _ h _ => h.1) ?_
    refine l_autoS TY_ok rfl ?_
    refine l_op (.v (.pointer (some ⟨gB, oB + 67 * n, none⟩))) trivial rfl rfl rfl (runO_ixS n rfl Tryd.underlying81 rfl rfl rfl (List.getElem?_eq_some_iff.1 hat).1) ?_
    refine l_autoS TY_ok rfl ?_
    refine l_opV (.q (.c (.v (.int .i64 ((1 : Nat) : Int))))) trivial rfl rfl rfl (run_ldR (fe := eND) TY_ok rfl rfl hat rfl (hoks _ _ hat) (rd_fact fun _ h _ => h.2)) ?_
    refine l_autoS TY_ok rfl ?_
    refine s_end (hK2 _ ?_)
    refine s_ifD (((1 : Nat) : Int) = 2) rfl (fun h => absurd h (by decide)) (fun _ => ?_)
    refine s_exit (k_pass (k_pass (k_out ?_)))
    exact k_weak (e' := F (PW.leaf p, n, way)) ⟨⟨rfl, rfl, rfl, rfl, rfl, trivial⟩, ⟨rfl, rfl, rfl, rfl, trivial⟩, .refl _, fun _ h _ => h, fun _ h => h⟩ (hend (PW.leaf p, n, way) ⟨hat, hf, hrt⟩ rfl)
  | hid h =>
    refine s_regA TY_ok rfl fun K2 hK2 => ?_
    refine l_ldO TY_ok rfl rfl rfl rfl rfl rfl (obj_fact fun _ h _ => h.1) ?_
    refine l_autoS TY_ok rfl ?_
    refine l_op (.v (.pointer (some ⟨gB, oB + 67 * n, none⟩))) trivial rfl rfl rfl (runO_ixS n rfl Tryd.underlying81 rfl rfl rfl (List.getElem?_eq_some_iff.1 hat).1) ?_
    refine l_autoS TY_ok rfl ?_
    refine l_opV (.q (.c (.v (.int .i64 ((3 : Nat) : Int))))) trivial rfl rfl rfl (run_ldR (fe := eND) TY_ok rfl rfl hat rfl (hoks _ _ hat) (rd_fact fun _ h _ => h.2)) ?_
    refine l_autoS TY_ok rfl ?_
    refine s_end (hK2 _ ?_)
    refine s_ifD (((3 : Nat) : Int) = 2) rfl (fun h => absurd h (by decide)) (fun _ => ?_)
    refine s_exit (k_pass (k_pass (k_out ?_)))
    exact k_weak (e' := F (PW.hid h, n, way)) ⟨⟨rfl, rfl, rfl, rfl, rfl, trivial⟩, ⟨rfl, rfl, rfl, rfl, trivial⟩, .refl _, fun _ h _ => h, fun _ h => h⟩ (hend (PW.hid h, n, way) ⟨hat, hf, hrt⟩ rfl)
end Go.Proofs.YtoecohpcnojokaaDoor
/-
  THE PROGRAM'S PARTS: which kind a node is; what is told of a key.
-/
namespace Go.Proofs.YtoecohpcnojokaaDoor
open Go.RowKit Go.IntWalk Nums

/-! ### Which kind -/
def tyK : Nat → TypeId
  | 0 => 102
  | 1 => 92
  | 2 => 113
  | _ => 104
def zK : Nat → List Pt
  | 0 => []
  | 1 => [.agg 32 (By z32T).toArray, .agg 32 (By z32T).toArray, .agg 32 (By z32T).toArray]
  | 2 => [.agg 32 (By z32T).toArray, .agg 2 #[.nilIface, .nilIface]]
  | _ => [.agg 32 (By z32T).toArray]
theorem zK_ok (k : Nat) : OkP (zK k) := by
  match k with
  | 0 => exact okPB_ok (by kernel_rfl)
  | 1 => exact okPB_ok (by kernel_rfl)
  | 2 => exact okPB_ok (by kernel_rfl)
  | _ + 3 => exact okPB_ok (by show okPB [.agg 32 (By z32T).toArray] = true; kernel_rfl)
def PW.asK (W : PW) (k : Nat) : List Pt := match Nat.beq W.kind k with
  | true => W.ps
  | false => zK k
theorem PW.asK_ok {W : PW} (h : W.Good) (k : Nat) : OkP (W.asK k) := by
  unfold PW.asK
  split
  · exact PW.ps_ok h
  · exact zK_ok k
theorem ty_kind (W : PW) : W.ty = tyK W.kind := by cases W <;> rfl
theorem zero_K : ∀ k, k < 4 → (Tryd.prog.info? (tyK k)).map (·.zero) = some (some (SQ.p (zK k)).den)
  | 0, _ => by show (Tryd.prog.info? 102).map (·.zero) = some (some (SQ.p []).den); kernel_rfl
  | 1, _ => by show (Tryd.prog.info? 92).map (·.zero) = some (some (SQ.p (zK 1)).den); kernel_rfl
  | 2, _ => by show (Tryd.prog.info? 113).map (·.zero) = some (some (SQ.p (zK 2)).den); kernel_rfl
  | 3, _ => by show (Tryd.prog.info? 104).map (·.zero) = some (some (SQ.p (zK 3)).den); kernel_rfl
  | k + 4, h => absurd h (by omega)
theorem under_K : ∀ k, k < 4 → ∃ d, Tryd.prog.underlying (tyK k) = some d ∧ isI d = false
  | 0, _ => ⟨_, Tryd.underlying102, rfl⟩
  | 1, _ => ⟨_, Tryd.underlying92, rfl⟩
  | 2, _ => ⟨_, Tryd.underlying113, rfl⟩
  | 3, _ => ⟨_, Tryd.underlying104, rfl⟩
  | k + 4, h => absurd h (by omega)
theorem tyK_inj : ∀ i j, i < 4 → j < 4 → tyK i = tyK j → i = j := by
  have h : ∀ i : Fin 4, ∀ j : Fin 4, tyK i.1 = tyK j.1 → i.1 = j.1 := by decide +kernel
  exact fun i j hi hj => h ⟨i, hi⟩ ⟨j, hj⟩
theorem kind_lt (W : PW) : W.kind < 4 := by cases W <;> simp [PW.kind]
section
variable {b : Base} {ops : Array Oper} {Q : Exit → Act → World → Prop} {N : Nat} {E : SE} {L : List LV} {R : List Res} {F M : World → Prop} {o : Oper} {rest : List Oper} {j : Nat} {x : Operand} {ti : TypeId}
/-- 'x, ok := n.(kind)'. -/
theorem l_kind (k : Nat) {W : PW} (hW : W.Good) (h4 : k < 4) (hg : o.guard = none) (hd : o.dst = some j) (hj : Nat.blt j N = true) (ho : o.op = .typeAssert x ti (tyK k) true) (hx : evS E x = some (.v W.val))
    (hn : lS Tryd.prog b ops Q N rest ⟨(j, .t [.p (W.asK k), .c (.v (.bool (Nat.beq W.kind k)))]) :: E, L, R, F, M⟩) : lS Tryd.prog b ops Q N (o :: rest) ⟨E, L, R, F, M⟩ := by
  obtain ⟨d, hu, hi⟩ := under_K k h4
  refine l_op (.t [.p (W.asK k), .c (.v (.bool (Nat.beq W.kind k)))]) (fun y hy => ?_) hg hd hj ?_ hn
  · rcases List.mem_cons.1 hy with rfl | hy
    · exact PW.asK_ok hW k
    · rw [List.mem_singleton.1 hy]; exact trivial
  · unfold PW.asK
    by_cases e : W.kind = k
    · have e2 : Nat.beq W.kind k = true := by rw [e]; exact Nat.beq_refl k
      rw [e2]
      exact run_asYes ho hu hi (by rw [hx, W.val_eq, ty_kind, e]) rfl
    · have e2 : Nat.beq W.kind k = false := by
        cases h : Nat.beq W.kind k with
        | true => exact absurd (Nat.eq_of_beq_eq_true h) e
        | false => rfl
      rw [e2]
      exact run_asNo ho hu hi (by rw [hx, W.val_eq]) (fun h => e (tyK_inj _ _ (kind_lt W) h4 (by rw [← ty_kind, h]))) (zero_K k h4)
end

/-! ### Get -/
theorem wrap_u8 (d : Nat) : IntKind.u8.wrap (((d % 256 : Nat) : Int) + 1) = (((d + 1) % 256 : Nat) : Int) := by
  unfold IntKind.wrap
  simp [IntKind.bits, IntKind.signed]
def tellR (u : List UInt8 × Bool × Bool) : RV := .t [eY 32 u.1, .c (.v (.bool u.2.1)), .c (.v (.int .i64 (if u.2.2 then 100 else 0)))]
theorem own_wget : Own 37 := fun _ _ => by go_simp
set_option maxRecDepth 100000 in
set_option maxHeartbeats 1000000 in
theorem wget_S {k : List UInt8} (hk : k.length = 32) (w : PW) (hr : w.Right []) : Spec 37 [w.val, (eY 32 k).den] [] (fun _ => True) (one (tellR (PW.tell k (PW.find k 0 w)))) := by
  refine spec_S [.c (.v w.val), eY 32 k] 37 Tryd.func37 rfl (by rw [Tryd.ntmps37]; rfl) (two_ok trivial (eY_ok hk).1) fun b => ?_
  generalize hres : PW.tell k (PW.find k 0 w) = res
  refine s_auto TY_ok rfl ?_
  refine s_auto TY_ok rfl ?_
  refine s_block ?_
  let F : PW × List Nat → Env := fun ⟨W, way⟩ => ⟨[(0, .v W.val), (3, .a 3 0), (4, .a 4 0), (7, .v (.int .u8 ((way.length % 256 : Nat) : Int)))], [⟨4, none, 38, [.agg 32 (By z32T).toArray]⟩, ⟨3, none, 38, [.agg 32 (By k).toArray]⟩], [], fun _ => True, fun _ => True⟩
  refine c_weak (e' := F (w, [])) ⟨⟨rfl, rfl, rfl, rfl, trivial⟩, ⟨rfl, rfl, rfl, rfl, trivial⟩, .refl _, fun _ _ _ => trivial, fun _ _ => trivial⟩ (s_loop (fun y => 256 - y.2.length) F (fun y => y.1.Right y.2 ∧ PW.tell k (PW.find k y.2.length y.1) = res) ?_ (w, []) ⟨hr, hres⟩)
  rintro ⟨W, way⟩ ⟨hW, hres⟩
  dsimp only at hW hres
  refine s_seq fun K hK => ?_
  refine s_block ?_
  refine s_seq fun K1 hK1 => ?_
  refine s_auto TY_ok rfl ?_
  refine s_block ?_
  refine s_regA TY_ok rfl fun K2 hK2 => ?_
  refine l_kind 2 hW.good (by decide) rfl rfl rfl rfl rfl ?_
  refine l_autoS TY_ok rfl ?_
  refine s_end (hK2 _ ?_)
  cases W with
  | inner x y =>
    obtain ⟨hlt, hx, hy, _⟩ := hW
    refine s_yes rfl ?_
    refine s_auto TY_ok rfl ?_
    refine s_seq fun K3 hK3 => ?_
    refine s_lit ?_
    refine l_autoS TY_ok rfl ?_
    obtain ⟨hca, hcb⟩ := inner_cell (a := x) (b := y)
    have e256 : way.length % 256 = way.length := Nat.mod_eq_of_lt hlt
    refine l_num 18 (way.length : Int) rfl (by rw [e256]) ?_
    refine l_call0 [(eY 32 k).den, .int .u8 (way.length : Int)] rfl rfl rfl own_wbit rfl rfl (fun _ _ => rfl) (wbit_S hk way.length hlt) (fun _ _ _ => trivial) fun _ => ?_
    refine l_autoS TY_ok rfl ?_
    have hb2 := bitT_lt k way.length
    by_cases hb : bitT k way.length = 0
    · refine l_num 19 0 rfl (by rw [hb]; rfl) ?_
      refine l_op (.a 8 (0 + 32 + 1 * 0)) trivial rfl rfl rfl (runO_ixA 0 rfl Tryd.underlying111 rfl rfl rfl (by decide)) ?_
      refine l_opV (.v x.val) trivial rfl rfl rfl (runO_ldA _ rfl rfl rfl hca Tryd.underlying31 rfl) ?_
      refine l_autoS TY_ok rfl ?_
      refine s_end (hK3 _ (s_exit (k_passB rfl (k_pass (k_out (hK _ ?_))))))
      refine s_autoE TY_ok rfl ?_
      exact k_next (x, way ++ [0]) ⟨hx, by rw [← hres, List.length_append, List.length_singleton]; show _ = PW.tell k (if bitT k way.length = 0 then _ else _); rw [if_pos hb]⟩ (by rw [List.length_append, List.length_singleton]; show 256 - (way.length + 1) < 256 - way.length; omega) ⟨⟨rfl, rfl, rfl, congrArg some (congrArg SV.v (congrArg (Value.int .u8) (by rw [List.length_append, List.length_singleton]; exact wrap_u8 way.length))), trivial⟩, ⟨rfl, rfl, rfl, rfl, trivial⟩, .refl _, fun _ _ _ => trivial, fun _ _ => trivial⟩
    · refine l_num 19 1 rfl (by rw [show bitT k way.length = 1 by omega]; rfl) ?_
      refine l_op (.a 8 (0 + 32 + 1 * 1)) trivial rfl rfl rfl (runO_ixA 1 rfl Tryd.underlying111 rfl rfl rfl (by decide)) ?_
      refine l_opV (.v y.val) trivial rfl rfl rfl (runO_ldA _ rfl rfl rfl hcb Tryd.underlying31 rfl) ?_
      refine l_autoS TY_ok rfl ?_
      refine s_end (hK3 _ (s_exit (k_passB rfl (k_pass (k_out (hK _ ?_))))))
      refine s_autoE TY_ok rfl ?_
      exact k_next (y, way ++ [1]) ⟨hy, by rw [← hres, List.length_append, List.length_singleton]; show _ = PW.tell k (if bitT k way.length = 0 then _ else _); rw [if_neg hb]⟩ (by rw [List.length_append, List.length_singleton]; show 256 - (way.length + 1) < 256 - way.length; omega) ⟨⟨rfl, rfl, rfl, congrArg some (congrArg SV.v (congrArg (Value.int .u8) (by rw [List.length_append, List.length_singleton]; exact wrap_u8 way.length))), trivial⟩, ⟨rfl, rfl, rfl, rfl, trivial⟩, .refl _, fun _ _ _ => trivial, fun _ _ => trivial⟩
  | empty =>
    refine s_no rfl ?_
    refine s_regA TY_ok rfl fun K4 hK4 => ?_
    refine l_kind (W := .empty) 1 hW.good (by decide) rfl rfl rfl rfl rfl ?_
    refine l_autoS TY_ok rfl ?_
    refine s_end (hK4 _ ?_)
    refine s_no rfl ?_
    refine s_regA TY_ok rfl fun K5 hK5 => ?_
    refine l_kind (W := .empty) 3 hW.good (by decide) rfl rfl rfl rfl rfl ?_
    refine l_autoS TY_ok rfl ?_
    refine s_end (hK5 _ ?_)
    refine s_no rfl ?_
    refine s_skip (hK1 _ ?_)
    refine s_auto TY_ok rfl ?_
    exact s_ret (k_ret TY_ok () rfl (by decide) rfl (by rw [← hres]; rfl) rfl (fun _ _ _ => trivial) (fun _ _ => trivial))
  | leaf p =>
    have hp : OkT2 p := hW.good
    refine s_no rfl ?_
    refine s_regA TY_ok rfl fun K4 hK4 => ?_
    refine l_kind (W := .leaf p) 1 hW.good (by decide) rfl rfl rfl rfl rfl ?_
    refine l_autoS TY_ok rfl ?_
    refine s_end (hK4 _ ?_)
    refine s_yes rfl ?_
    refine s_auto TY_ok rfl ?_
    refine s_regA TY_ok rfl fun K6 hK6 => ?_
    refine l_op (.b (decide (p.1 = k))) trivial rfl rfl rfl (run_eqY rfl rfl rfl Tryd.underlying38 (by kernel_rfl) hp.1 hk) ?_
    refine s_end (hK6 _ ?_)
    refine s_ifD (p.1 = k) rfl (fun he => ?_) (fun he => ?_)
    · refine s_auto TY_ok rfl ?_
      exact s_ret (k_ret TY_ok () rfl (by decide) rfl (by rw [← hres]; show tellR (if p.1 = k then _ else _) = _; rw [if_pos he]; rfl) rfl (fun _ _ _ => trivial) (fun _ _ => trivial))
    · refine s_skip (hK1 _ ?_)
      refine s_auto TY_ok rfl ?_
      exact s_ret (k_ret TY_ok () rfl (by decide) rfl (by rw [← hres]; show tellR (if p.1 = k then _ else _) = _; rw [if_neg he]; rfl) rfl (fun _ _ _ => trivial) (fun _ _ => trivial))
  | hid h =>
    refine s_no rfl ?_
    refine s_regA TY_ok rfl fun K4 hK4 => ?_
    refine l_kind (W := .hid h) 1 hW.good (by decide) rfl rfl rfl rfl rfl ?_
    refine l_autoS TY_ok rfl ?_
    refine s_end (hK4 _ ?_)
    refine s_no rfl ?_
    refine s_regA TY_ok rfl fun K5 hK5 => ?_
    refine l_kind (W := .hid h) 3 hW.good (by decide) rfl rfl rfl rfl rfl ?_
    refine l_autoS TY_ok rfl ?_
    refine s_end (hK5 _ ?_)
    refine s_yes rfl ?_
    refine s_auto TY_ok rfl ?_
    refine s_auto TY_ok rfl ?_
    exact s_ret (k_ret TY_ok () rfl (by decide) rfl (by rw [← hres]; rfl) rfl (fun _ _ _ => trivial) (fun _ _ => trivial))
theorem PW.tell_len {k : List UInt8} : ∀ {d : Nat} {w : PW}, w.Good → (PW.tell k (PW.find k d w)).1.length = 32
  | _, .empty, _ => rfl
  | _, .leaf p, h => by
    show (if p.1 = k then (p.2, true, false) else (z32T, false, false)).1.length = 32
    split
    · exact h.2
    · rfl
  | _, .hid _, _ => rfl
  | d, .inner a b, h => by
    show (PW.tell k (if bitT k d = 0 then PW.find k (d + 1) a else PW.find k (d + 1) b)).1.length = 32
    split
    · exact PW.tell_len h.1
    · exact PW.tell_len h.2
theorem tellR_ok {u : List UInt8 × Bool × Bool} (h : u.1.length = 32) : (tellR u).sv.Ok := fun x hx => by
  simp only [List.mem_cons, List.not_mem_nil, or_false] at hx
  rcases hx with rfl | rfl | rfl
  · exact (eY_ok h).1
  · exact trivial
  · exact trivial
theorem own_wGet : Own 18 := fun _ _ => by go_simp
set_option maxRecDepth 100000 in
set_option maxHeartbeats 1000000 in
theorem wGet_S {k : List UInt8} (hk : k.length = 32) (w : PW) (hr : w.Right []) : Spec 18 [(prQ w).den, (eY 32 k).den] [] (fun _ => True) (one (tellR (PW.tell k (PW.find k 0 w)))) := by
  refine spec_S [prQ w, eY 32 k] 14 Tryd.func18 rfl (by rw [Tryd.ntmps18]; rfl) (two_ok (prQ_ok w) (eY_ok hk).1) fun b => ?_
  have hget := wget_S hk w hr
  have hl := PW.tell_len (k := k) (d := 0) hr.good
  generalize PW.tell k (PW.find k 0 w) = res at *
  refine s_auto TY_ok rfl ?_
  refine s_regD 7 (by decide) (by kernel_rfl) (by kernel_rfl) fun K1 hK1 G S w0 hst => ?_
  refine g_autoS TY_ok hst rfl ?_
  refine g_callS (F' := fun _ => True) hst [(prQ w).den] rfl rfl rfl own_wnode rfl rfl (fun _ => rfl) (wnode_S w) trivial (fun _ _ _ _ => trivial) ?_
  refine g_autoS TY_ok hst rfl ?_
  refine g_callS (F' := fun _ => True) (r := tellR res) hst [w.val, (eY 32 k).den] rfl rfl rfl own_wget rfl rfl (fun _ => rfl) hget ?_ (fun _ _ _ _ => trivial) ?_
  · exact tellR_ok hl
  refine g_autoS TY_ok hst rfl ?_
  refine g_endS hst ?_
  refine l_autoS TY_ok rfl ?_
  refine s_end (hK1 _ ?_)
  exact s_ret (k_ret TY_ok () rfl (by decide) rfl rfl rfl (fun _ _ _ => trivial) (fun _ _ => trivial))
end Go.Proofs.YtoecohpcnojokaaDoor
/-
  THE PROGRAM'S PARTS: a pair is put in.
-/
namespace Go.Proofs.YtoecohpcnojokaaDoor
open Go.RowKit Go.IntWalk Nums

/-- What is handed back: nil and an error where that is unknown. -/
def nodeR (unk : Bool) (w : PW) : RV := match unk with
  | true => .t [.c (.v .nilIface), .c (.v (.int .i64 100))]
  | false => .t [.c (.v w.val), .c (.v (.int .i64 0))]
def PW.unk (k : List UInt8) (d : Nat) (w : PW) : Bool := (PW.tell k (PW.find k d w)).2.2
def putS (p : PairT) (d : Nat) (x y : PW) : RV := if bitT p.1 d = 0 then nodeR (PW.unk p.1 (d + 1) x) (.inner (PW.put p (d + 1) x) y) else nodeR (PW.unk p.1 (d + 1) y) (.inner x (PW.put p (d + 1) y))
def putR (p : PairT) (d : Nat) (w : PW) : RV := nodeR (PW.unk p.1 d w) (PW.put p d w)
theorem nodeR_ok (u : Bool) (w : PW) : (nodeR u w).sv.Ok := by
  cases u <;> exact fun x hx => by
    simp only [List.mem_cons, List.not_mem_nil, or_false] at hx
    rcases hx with rfl | rfl <;> exact trivial
theorem putR_inner (p : PairT) (d : Nat) (x y : PW) : putS p d x y = putR p d (.inner x y) := by
  unfold putR putS PW.unk
  show _ = nodeR (PW.tell p.1 (if bitT p.1 d = 0 then PW.find p.1 (d + 1) x else PW.find p.1 (d + 1) y)).2.2 (if bitT p.1 d = 0 then .inner (PW.put p (d + 1) x) y else .inner x (PW.put p (d + 1) y))
  split <;> rfl
theorem unk_leaf {q : PairT} {k : List UInt8} {d : Nat} : PW.unk k d (.leaf q) = false := by
  show (if q.1 = k then (q.2, true, false) else (z32T, false, false)).2.2 = false
  split <;> rfl
theorem put_two {q p : PairT} {d n : Nat} (hn : n + d = 256) (hne : q.1 ≠ p.1) : PW.put p d (.leaf q) = PW.two n d q p := by
  show (if q.1 = p.1 then _ else PW.two (256 - d) d q p) = _
  rw [if_neg hne, show 256 - d = n by omega]
theorem putR_left {q p : PairT} {d n : Nat} (hn : n + 1 + d = 256) (hne : q.1 ≠ p.1) (hq : bitT q.1 d = 0) : putS p d (.leaf q) .empty = putR p d (.leaf q) := by
  have hb := bitT_lt p.1 d
  have h1 := put_two (d := d) (n := n + 1) (by omega) hne
  have h2 := put_two (d := d + 1) (n := n) (by omega) hne
  unfold putR putS
  rw [unk_leaf, unk_leaf, h1, h2, two_succ]
  by_cases e : bitT p.1 d = 0
  · rw [if_pos e, if_pos (by omega), if_pos hq]
  · rw [if_neg e, if_neg (by omega), if_pos hq]
    rfl
theorem putR_right {q p : PairT} {d n : Nat} (hn : n + 1 + d = 256) (hne : q.1 ≠ p.1) (hq : bitT q.1 d ≠ 0) : putS p d .empty (.leaf q) = putR p d (.leaf q) := by
  have hb := bitT_lt p.1 d
  have hb2 := bitT_lt q.1 d
  have h1 := put_two (d := d) (n := n + 1) (by omega) hne
  have h2 := put_two (d := d + 1) (n := n) (by omega) hne
  unfold putR putS
  rw [unk_leaf, unk_leaf, h1, h2, two_succ]
  by_cases e : bitT p.1 d = 0
  · rw [if_pos e, if_neg (by omega), if_neg hq]
    rfl
  · rw [if_neg e, if_pos (by omega), if_neg hq]
theorem built_sides (t1 t2 : TypeId) (v1 v2 : Value) : Tryd.prog.built 111 [(0, .iface t1 v1), (1, .iface t2 v2)] = some #[.iface t1 v1, .iface t2 v2] := by kernel_rfl
theorem run_sides {N : Nat} {E : SE} {o : Oper} {x y : Operand} {X Y : PW} (ho : o.op = .build 111 #[(0, x), (1, y)]) (hx : evS E x = some (.v X.val)) (hy : evS E y = some (.v Y.val)) :
    ∀ (G : Nat → Nat) (a : Act) (w : World), Fr N (denE G E) a → (execOp a.eval o).run Tryd.prog w = .ok (.value ((SV.p (sdW X Y)).den G)) w := fun G a w ha => by
  have h1 : a.eval x = .iface X.ty (SQ.p X.ps).den := by rw [← X.val_eq]; exact ha.eval (evS_ok hx)
  have h2 : a.eval y = .iface Y.ty (SQ.p Y.ps).den := by rw [← Y.val_eq]; exact ha.eval (evS_ok hy)
  unfold execOp
  have h : Tryd.prog.built 111 (Array.map (fun x : Nat × Operand => (x.1, a.eval x.2)) #[(0, x), (1, y)]).toList = some #[.iface X.ty (SQ.p X.ps).den, .iface Y.ty (SQ.p Y.ps).den] := by
    rw [Array.toList_map]
    show Tryd.prog.built 111 [(0, a.eval x), (1, a.eval y)] = _
    rw [h1, h2]
    exact built_sides _ _ _ _
  simp only [ho, Sem.run_bind, run_build w 111 _ _ h, Result.andThen_ok, Sem.run_pure]
  rw [← X.val_eq, ← Y.val_eq]
  rfl
theorem bad_mono {a b a' b' : PW} (ha : a.kind ≤ a'.kind) (hb : b.kind ≤ b'.kind) (h : PW.bad a b = false) : PW.bad a' b' = false := by
  unfold PW.bad at *
  generalize a.kind = x at *
  generalize b.kind = y at *
  generalize a'.kind = x' at *
  generalize b'.kind = y' at *
  simp only [Bool.or_eq_false_iff, Bool.and_eq_false_iff, beq_eq_false_iff_ne] at *
  omega
theorem two_kind (n d : Nat) (q p : PairT) : (PW.two (n + 1) d q p).kind = 2 := by
  rw [two_succ]
  split
  · split <;> rfl
  · split <;> rfl
/-- A part stays right. -/
theorem PW.Right.put {p : PairT} (hp : OkT2 p) : ∀ {n : Nat} {way : List Nat} {w : PW}, n + way.length = 256 → PW.Right way w → Leads way p.1 → PW.Right way (PW.put p way.length w) ∧ w.kind ≤ (PW.put p way.length w).kind
  | _, way, .empty, _, _, hk => ⟨⟨hp.1, hp.2, hk⟩, Nat.zero_le _⟩
  | n, way, .leaf q, hn, hr, hk => by
    obtain ⟨h1, h2, h3⟩ := hr
    by_cases e : q.1 = p.1
    · have : PW.put p way.length (.leaf q) = .leaf p := by
        show (if q.1 = p.1 then _ else _) = _
        rw [if_pos e]
      rw [this]
      exact ⟨⟨hp.1, hp.2, hk⟩, Nat.le_refl _⟩
    · rw [put_two hn e]
      obtain ⟨m, rfl⟩ : ∃ m, n = m + 1 := ⟨n - 1, by
        by_cases e0 : n = 0
        · subst e0
          have := Leads.share h3 hk
          rw [show way.length = 256 by omega] at this
          exact absurd (this.all h1 hp.1) e
        · omega⟩
      refine ⟨PW.Of.right (ks := []) (l := putT [q] p) (PW.two_of (m + 1) hn h1 hp.1 e (Leads.share h3 hk)) fun y hy => ?_, by rw [two_kind]; exact Nat.le_succ _⟩
      have : y = q ∨ y = p := by
        rcases PW.putT_pair e with e2 | e2 <;> rw [e2] at hy <;> simp at hy <;> rcases hy with h | h <;> simp [h]
      rcases this with rfl | rfl
      · exact ⟨h1, h2, h3⟩
      · exact ⟨hp.1, hp.2, hk⟩
  | n, way, .inner a b, hn, hr, hk => by
    obtain ⟨h1, h2, h3, h4⟩ := hr
    obtain ⟨m, rfl⟩ : ∃ m, n = m + 1 := ⟨n - 1, by omega⟩
    have elen : ∀ x : Nat, (way ++ [x]).length = way.length + 1 := fun x => by rw [List.length_append, List.length_singleton]
    have hb2 := bitT_lt p.1 way.length
    show PW.Right way (if bitT p.1 way.length = 0 then _ else _) ∧ 2 ≤ PW.kind (if bitT p.1 way.length = 0 then _ else _)
    by_cases hb : bitT p.1 way.length = 0
    · rw [if_pos hb]
      have := PW.Right.put hp (n := m) (way := way ++ [0]) (by rw [elen]; omega) h2 (Leads.more.2 ⟨hk, hb⟩)
      rw [elen] at this
      exact ⟨⟨h1, this.1, h3, bad_mono this.2 (Nat.le_refl _) h4⟩, Nat.le_refl _⟩
    · rw [if_neg hb]
      have := PW.Right.put hp (n := m) (way := way ++ [1]) (by rw [elen]; omega) h3 (Leads.more.2 ⟨hk, by omega⟩)
      rw [elen] at this
      exact ⟨⟨h1, h2, this.1, bad_mono (Nat.le_refl _) this.2 h4⟩, Nat.le_refl _⟩
  | _, way, .hid h, _, hr, _ => ⟨hr, Nat.le_refl _⟩
theorem own_wput : Own 38 := fun _ _ => by go_simp
set_option maxRecDepth 100000 in
set_option maxHeartbeats 1000000 in
theorem wput_S {p : PairT} (hp : OkT2 p) : ∀ (n : Nat) (w : PW) (way : List Nat), n + way.length = 256 → w.Right way → Leads way p.1 → Spec 38 [w.val, (lfQ p).den, .int .u8 ((way.length % 256 : Nat) : Int)] [] Tsh (one (putR p way.length w)) := by
  intro n
  induction n using Nat.strongRecOn with
  | ind n ih =>
  intro w way hn hr hk
  obtain ⟨D, hD⟩ : ∃ D, way.length % 256 = D := ⟨_, rfl⟩
  rw [hD]
  refine spec_S [.c (.v w.val), lfQ p, .c (.v (.int .u8 (D : Int)))] 75 Tryd.func38 rfl (by rw [Tryd.ntmps38]; rfl) (more_ok trivial (two_ok (PW.ps_ok (w := .leaf p) hp) trivial)) fun b => ?_
  have elen : ∀ x : Nat, (way ++ [x]).length = way.length + 1 := fun x => by rw [List.length_append, List.length_singleton]
  refine s_auto TY_ok rfl ?_
  refine s_regA TY_ok rfl fun K1 hK1 => ?_
  refine l_op (.v PW.empty.val) trivial rfl rfl rfl (run_mkI rfl Tryd.underlying102 rfl rfl) ?_
  refine l_autoS TY_ok rfl ?_
  refine l_op (.v PW.empty.val) trivial rfl rfl rfl (run_mkI rfl Tryd.underlying102 rfl rfl) ?_
  refine l_op (.p (sdW .empty .empty)) (sdW_ok _ _) rfl rfl rfl (run_sides rfl rfl rfl) ?_
  refine l_autoS TY_ok rfl ?_
  refine s_end (hK1 _ ?_)
  refine s_keep [0, 2, 4, 8] [4, 8] rfl rfl ?_
  refine s_seq fun K hK => ?_
  have hrest : ∀ x y : PW, x.Right (way ++ [0]) → y.Right (way ++ [1]) → putS p way.length x y = putR p way.length w → D = way.length → ∀ m, n = m + 1 → ∀ en, Weak en ⟨[(2, .v (.int .u8 (D : Int))), (4, .a 4 0), (8, .a 8 0)], [⟨8, none, 111, sdW x y⟩, ⟨4, none, 92, (PW.leaf p).ps⟩], [], Tsh, fun _ => True⟩ → kS b K 75 en := by
    intro x y hx hy heq hDw n hnn en hw
    subst hDw hnn
    refine k_weak hw (hK _ ?_)
    have hb2 := bitT_lt p.1 way.length
    have hlt : way.length < 256 := by omega
    obtain ⟨e8, he8⟩ : ∃ e, (way.length + 1) % 256 = e := ⟨_, rfl⟩
    have hw8 : IntKind.u8.wrap ((way.length : Int) + 1) = (e8 : Int) := by
      have := wrap_u8 way.length
      rwa [Nat.mod_eq_of_lt hlt, he8] at this
    refine s_regA TY_ok rfl fun K3 hK3 => ?_
    refine l_call0 [(eY 32 p.1).den, .int .u8 (way.length : Int)] rfl rfl rfl own_wbit rfl rfl (fun _ _ => rfl) (wbit_S hp.1 way.length hlt) (fun _ _ _ => trivial) fun _ => ?_
    by_cases hb : bitT p.1 way.length = 0
    · refine l_num 55 0 rfl (by rw [hb]; rfl) ?_
      refine l_autoS TY_ok rfl ?_
      refine s_end (hK3 _ ?_)
      refine s_keep [2, 4, 8, 13] [4, 8] rfl rfl ?_
      have ihx := ih n (Nat.lt_succ_self n) x (way ++ [0]) (by rw [elen]; omega) hx (Leads.more.2 ⟨hk, hb⟩)
      rw [elen, he8] at ihx
      unfold putR at ihx
      cases hu : PW.unk p.1 (way.length + 1) x with
      | true =>
        rw [hu] at ihx
        replace ihx : Spec 38 [x.val, (lfQ p).den, .int .u8 (e8 : Int)] [] Tsh (one (.t [.c (.v .nilIface), .c (.v (.int .i64 100))])) := ihx
        refine s_regD 12 (by decide) (by kernel_rfl) (by kernel_rfl) fun K4 hK4 G S w0 hst => ?_
        refine g_autoS TY_ok hst rfl ?_
        refine g_opS (.a 8 (0 + 1 * 0)) trivial rfl rfl rfl (runO_ixA 0 rfl Tryd.underlying111 rfl rfl rfl (by decide)) ?_
        refine g_opV hst (.v x.val) trivial rfl rfl rfl (runO_ldA _ rfl rfl rfl rfl Tryd.underlying31 rfl) ?_
        refine g_autoS TY_ok hst rfl ?_
        refine g_num 62 (e8 : Int) rfl hw8 ?_
        refine g_callS (F' := Tsh) hst [x.val, (lfQ p).den, .int .u8 (e8 : Int)] rfl rfl rfl own_wput rfl rfl (fun _ => rfl) ihx (fun u hu => by
          rcases List.mem_cons.1 hu with rfl | hu
          · exact trivial
          · rw [List.mem_singleton.1 hu]; exact trivial) (fun _ _ _ hv => hv.fact.2) ?_
        refine g_autoS TY_ok hst rfl ?_
        refine g_endS hst ?_
        refine l_autoS TY_ok rfl ?_
        refine s_end (hK4 _ ?_)
        refine s_keep [8, 13, 14, 15] [8] rfl rfl ?_
        refine s_seq fun K5 hK5 => ?_
        refine s_auto TY_ok rfl ?_
        refine s_ifD ((100 : Int) ≠ 0) rfl (fun _ => ?_) (fun h => absurd (by decide) h)
        refine s_auto TY_ok rfl ?_
        exact s_ret (k_ret TY_ok () rfl (by decide) rfl (by rw [← heq]; unfold putS; rw [if_pos hb, hu]; rfl) rfl (fun _ _ _ => trivial) (fun _ _ => trivial))
      | false =>
        rw [hu] at ihx
        replace ihx : Spec 38 [x.val, (lfQ p).den, .int .u8 (e8 : Int)] [] Tsh (one (.t [.c (.v (PW.put p (way.length + 1) x).val), .c (.v (.int .i64 0))])) := ihx
        refine s_regD 12 (by decide) (by kernel_rfl) (by kernel_rfl) fun K4 hK4 G S w0 hst => ?_
        refine g_autoS TY_ok hst rfl ?_
        refine g_opS (.a 8 (0 + 1 * 0)) trivial rfl rfl rfl (runO_ixA 0 rfl Tryd.underlying111 rfl rfl rfl (by decide)) ?_
        refine g_opV hst (.v x.val) trivial rfl rfl rfl (runO_ldA _ rfl rfl rfl rfl Tryd.underlying31 rfl) ?_
        refine g_autoS TY_ok hst rfl ?_
        refine g_num 62 (e8 : Int) rfl hw8 ?_
        refine g_callS (F' := Tsh) hst [x.val, (lfQ p).den, .int .u8 (e8 : Int)] rfl rfl rfl own_wput rfl rfl (fun _ => rfl) ihx (fun u hu => by
          rcases List.mem_cons.1 hu with rfl | hu
          · exact trivial
          · rw [List.mem_singleton.1 hu]; exact trivial) (fun _ _ _ hv => hv.fact.2) ?_
        refine g_autoS TY_ok hst rfl ?_
        refine g_endS hst ?_
        refine l_autoS TY_ok rfl ?_
        refine s_end (hK4 _ ?_)
        refine s_keep [8, 13, 14, 15] [8] rfl rfl ?_
        refine s_seq fun K5 hK5 => ?_
        refine s_auto TY_ok rfl ?_
        refine s_ifD ((0 : Int) ≠ 0) rfl (fun h => absurd rfl h) (fun _ => ?_)
        refine s_skip (hK5 _ ?_)
        refine s_regA TY_ok rfl fun K6 hK6 => ?_
        refine l_op (.a 8 (0 + 1 * 0)) trivial rfl rfl rfl (runO_ixA 0 rfl Tryd.underlying111 rfl rfl rfl (by decide)) ?_
        refine l_stA (sdW (PW.put p (way.length + 1) x) y) rfl rfl rfl rfl rfl rfl rfl (PW.val_cells _) (PW.val_one _) (show _ < 2 by decide) (sdW_ok _ _) rfl ?_
        refine s_end (hK6 _ ?_)
        refine s_keep [8] [8] rfl rfl ?_
        have hxr : (PW.put p (way.length + 1) x).Good := by
          have := PW.Right.put hp (n := n) (way := way ++ [0]) (by rw [elen]; omega) hx (Leads.more.2 ⟨hk, hb⟩)
          rw [elen] at this
          exact this.1.good
        refine s_regA TY_ok rfl fun K7 hK7 => ?_
        refine l_call0 [(SQ.p (sdW (PW.put p (way.length + 1) x) y)).den] rfl rfl rfl own_winnerOf rfl rfl (fun _ _ => rfl) (winnerOf_S hxr hy.good) (fun _ h _ => h.2) fun _ => ?_
        refine l_op (.v (PW.inner (PW.put p (way.length + 1) x) y).val) trivial rfl rfl rfl (run_mkI (q := .p (PW.inner (PW.put p (way.length + 1) x) y).ps) rfl Tryd.underlying113 rfl rfl) ?_
        refine l_autoS TY_ok rfl ?_
        refine s_end (hK7 _ ?_)
        exact s_ret (k_ret TY_ok () rfl (by decide) rfl (by rw [← heq]; unfold putS; rw [if_pos hb, hu]; rfl) rfl (fun _ _ _ => trivial) (fun _ _ => trivial))
    · refine l_num 55 1 rfl (by rw [show bitT p.1 way.length = 1 by omega]; rfl) ?_
      refine l_autoS TY_ok rfl ?_
      refine s_end (hK3 _ ?_)
      refine s_keep [2, 4, 8, 13] [4, 8] rfl rfl ?_
      have ihx := ih n (Nat.lt_succ_self n) y (way ++ [1]) (by rw [elen]; omega) hy (Leads.more.2 ⟨hk, by omega⟩)
      rw [elen, he8] at ihx
      unfold putR at ihx
      cases hu : PW.unk p.1 (way.length + 1) y with
      | true =>
        rw [hu] at ihx
        replace ihx : Spec 38 [y.val, (lfQ p).den, .int .u8 (e8 : Int)] [] Tsh (one (.t [.c (.v .nilIface), .c (.v (.int .i64 100))])) := ihx
        refine s_regD 12 (by decide) (by kernel_rfl) (by kernel_rfl) fun K4 hK4 G S w0 hst => ?_
        refine g_autoS TY_ok hst rfl ?_
        refine g_opS (.a 8 (0 + 1 * 1)) trivial rfl rfl rfl (runO_ixA 1 rfl Tryd.underlying111 rfl rfl rfl (by decide)) ?_
        refine g_opV hst (.v y.val) trivial rfl rfl rfl (runO_ldA _ rfl rfl rfl rfl Tryd.underlying31 rfl) ?_
        refine g_autoS TY_ok hst rfl ?_
        refine g_num 62 (e8 : Int) rfl hw8 ?_
        refine g_callS (F' := Tsh) hst [y.val, (lfQ p).den, .int .u8 (e8 : Int)] rfl rfl rfl own_wput rfl rfl (fun _ => rfl) ihx (fun u hu => by
          rcases List.mem_cons.1 hu with rfl | hu
          · exact trivial
          · rw [List.mem_singleton.1 hu]; exact trivial) (fun _ _ _ hv => hv.fact.2) ?_
        refine g_autoS TY_ok hst rfl ?_
        refine g_endS hst ?_
        refine l_autoS TY_ok rfl ?_
        refine s_end (hK4 _ ?_)
        refine s_keep [8, 13, 14, 15] [8] rfl rfl ?_
        refine s_seq fun K5 hK5 => ?_
        refine s_auto TY_ok rfl ?_
        refine s_ifD ((100 : Int) ≠ 0) rfl (fun _ => ?_) (fun h => absurd (by decide) h)
        refine s_auto TY_ok rfl ?_
        exact s_ret (k_ret TY_ok () rfl (by decide) rfl (by rw [← heq]; unfold putS; rw [if_neg hb, hu]; rfl) rfl (fun _ _ _ => trivial) (fun _ _ => trivial))
      | false =>
        rw [hu] at ihx
        replace ihx : Spec 38 [y.val, (lfQ p).den, .int .u8 (e8 : Int)] [] Tsh (one (.t [.c (.v (PW.put p (way.length + 1) y).val), .c (.v (.int .i64 0))])) := ihx
        refine s_regD 12 (by decide) (by kernel_rfl) (by kernel_rfl) fun K4 hK4 G S w0 hst => ?_
        refine g_autoS TY_ok hst rfl ?_
        refine g_opS (.a 8 (0 + 1 * 1)) trivial rfl rfl rfl (runO_ixA 1 rfl Tryd.underlying111 rfl rfl rfl (by decide)) ?_
        refine g_opV hst (.v y.val) trivial rfl rfl rfl (runO_ldA _ rfl rfl rfl rfl Tryd.underlying31 rfl) ?_
        refine g_autoS TY_ok hst rfl ?_
        refine g_num 62 (e8 : Int) rfl hw8 ?_
        refine g_callS (F' := Tsh) hst [y.val, (lfQ p).den, .int .u8 (e8 : Int)] rfl rfl rfl own_wput rfl rfl (fun _ => rfl) ihx (fun u hu => by
          rcases List.mem_cons.1 hu with rfl | hu
          · exact trivial
          · rw [List.mem_singleton.1 hu]; exact trivial) (fun _ _ _ hv => hv.fact.2) ?_
        refine g_autoS TY_ok hst rfl ?_
        refine g_endS hst ?_
        refine l_autoS TY_ok rfl ?_
        refine s_end (hK4 _ ?_)
        refine s_keep [8, 13, 14, 15] [8] rfl rfl ?_
        refine s_seq fun K5 hK5 => ?_
        refine s_auto TY_ok rfl ?_
        refine s_ifD ((0 : Int) ≠ 0) rfl (fun h => absurd rfl h) (fun _ => ?_)
        refine s_skip (hK5 _ ?_)
        refine s_regA TY_ok rfl fun K6 hK6 => ?_
        refine l_op (.a 8 (0 + 1 * 1)) trivial rfl rfl rfl (runO_ixA 1 rfl Tryd.underlying111 rfl rfl rfl (by decide)) ?_
        refine l_stA (sdW x (PW.put p (way.length + 1) y)) rfl rfl rfl rfl rfl rfl rfl (PW.val_cells _) (PW.val_one _) (show _ < 2 by decide) (sdW_ok _ _) rfl ?_
        refine s_end (hK6 _ ?_)
        refine s_keep [8] [8] rfl rfl ?_
        have hxr : (PW.put p (way.length + 1) y).Good := by
          have := PW.Right.put hp (n := n) (way := way ++ [1]) (by rw [elen]; omega) hy (Leads.more.2 ⟨hk, by omega⟩)
          rw [elen] at this
          exact this.1.good
        refine s_regA TY_ok rfl fun K7 hK7 => ?_
        refine l_call0 [(SQ.p (sdW x (PW.put p (way.length + 1) y))).den] rfl rfl rfl own_winnerOf rfl rfl (fun _ _ => rfl) (winnerOf_S hx.good hxr) (fun _ h _ => h.2) fun _ => ?_
        refine l_op (.v (PW.inner x (PW.put p (way.length + 1) y)).val) trivial rfl rfl rfl (run_mkI (q := .p (PW.inner x (PW.put p (way.length + 1) y)).ps) rfl Tryd.underlying113 rfl rfl) ?_
        refine l_autoS TY_ok rfl ?_
        refine s_end (hK7 _ ?_)
        exact s_ret (k_ret TY_ok () rfl (by decide) rfl (by rw [← heq]; unfold putS; rw [if_neg hb, hu]; rfl) rfl (fun _ _ _ => trivial) (fun _ _ => trivial))
  refine s_auto TY_ok rfl ?_
  refine s_block ?_
  refine s_regA TY_ok rfl fun K2 hK2 => ?_
  refine l_kind 0 hr.good (by decide) rfl rfl rfl rfl rfl ?_
  refine l_autoS TY_ok rfl ?_
  refine s_end (hK2 _ ?_)
  cases w with
  | empty =>
    refine s_yes rfl ?_
    refine s_auto TY_ok rfl ?_
    refine s_regA TY_ok rfl fun K3 hK3 => ?_
    refine l_op (.v (PW.leaf p).val) trivial rfl rfl rfl (run_mkI (q := lfQ p) rfl Tryd.underlying92 rfl rfl) ?_
    refine l_autoS TY_ok rfl ?_
    refine s_end (hK3 _ ?_)
    exact s_ret (k_ret TY_ok () rfl (by decide) rfl rfl rfl (fun _ _ _ => trivial) (fun _ _ => trivial))
  | hid h =>
    refine s_no rfl ?_
    refine s_regA TY_ok rfl fun K3 hK3 => ?_
    refine l_kind (W := .hid h) 3 hr.good (by decide) rfl rfl rfl rfl rfl ?_
    refine l_autoS TY_ok rfl ?_
    refine s_end (hK3 _ ?_)
    refine s_yes rfl ?_
    refine s_auto TY_ok rfl ?_
    refine s_auto TY_ok rfl ?_
    exact s_ret (k_ret TY_ok () rfl (by decide) rfl rfl rfl (fun _ _ _ => trivial) (fun _ _ => trivial))
  | leaf q =>
    have hq : OkT2 q := hr.good
    refine s_no rfl ?_
    refine s_regA TY_ok rfl fun K3 hK3 => ?_
    refine l_kind (W := .leaf q) 3 hr.good (by decide) rfl rfl rfl rfl rfl ?_
    refine l_autoS TY_ok rfl ?_
    refine s_end (hK3 _ ?_)
    refine s_no rfl ?_
    refine s_regA TY_ok rfl fun K4 hK4 => ?_
    refine l_kind (W := .leaf q) 1 hr.good (by decide) rfl rfl rfl rfl rfl ?_
    refine l_autoS TY_ok rfl ?_
    refine s_end (hK4 _ ?_)
    refine s_yes rfl ?_
    refine s_auto TY_ok rfl ?_
    refine s_seq fun K5 hK5 => ?_
    refine s_regA TY_ok rfl fun K6 hK6 => ?_
    refine l_op (.b (decide (q.1 = p.1))) trivial rfl rfl rfl (run_eqY rfl rfl rfl Tryd.underlying38 (by kernel_rfl) hq.1 hp.1) ?_
    refine s_end (hK6 _ ?_)
    refine s_ifD (q.1 = p.1) rfl (fun he => ?_) (fun he => ?_)
    · refine s_regA TY_ok rfl fun K7 hK7 => ?_
      refine l_op (.v (PW.leaf p).val) trivial rfl rfl rfl (run_mkI (q := lfQ p) rfl Tryd.underlying92 rfl rfl) ?_
      refine l_autoS TY_ok rfl ?_
      refine s_end (hK7 _ ?_)
      exact s_ret (k_ret TY_ok () rfl (by decide) rfl (by show putR p way.length (.leaf q) = _; unfold putR; rw [unk_leaf]; show nodeR false (if q.1 = p.1 then _ else _) = _; rw [if_pos he]; rfl) rfl (fun _ _ _ => trivial) (fun _ _ => trivial))
    refine s_skip (hK5 _ ?_)
    obtain ⟨m, rfl⟩ : ∃ m, n = m + 1 := ⟨n - 1, by
      by_cases e0 : n = 0
      · subst e0
        have := Leads.share hr.2.2 hk
        rw [show way.length = 256 by omega] at this
        exact absurd (this.all hq.1 hp.1) he
      · omega⟩
    have hDw : D = way.length := by omega
    have hlt : way.length < 256 := by omega
    have hqb2 := bitT_lt q.1 way.length
    refine s_drawn 6 (by decide) (by kernel_rfl) (by kernel_rfl) fun G S w0 hst => ?_
    refine g_autoS TY_ok hst rfl ?_
    refine g_num 42 (way.length : Int) rfl (by rw [hDw]) ?_
    refine g_callS (F' := fun _ => True) hst [(eY 32 q.1).den, .int .u8 (way.length : Int)] rfl rfl rfl own_wbit rfl rfl (fun _ => rfl) (wbit_S hq.1 way.length hlt) trivial (fun _ _ _ _ => trivial) ?_
    refine g_autoS TY_ok hst rfl ?_
    refine g_opS (.v (PW.leaf q).val) trivial rfl rfl rfl (run_mkI (q := .p (PW.leaf q).ps) rfl Tryd.underlying92 rfl rfl) ?_
    refine g_endS hst ?_
    by_cases hqb : bitT q.1 way.length = 0
    · refine l_num 43 0 rfl (by rw [hqb]; rfl) ?_
      refine l_op (.a 8 (0 + 1 * 0)) trivial rfl rfl rfl (runO_ixA 0 rfl Tryd.underlying111 rfl rfl rfl (by decide)) ?_
      refine l_stA (sdW (.leaf q) .empty) rfl rfl rfl rfl rfl rfl rfl (PW.val_cells (.leaf q)) (PW.val_one (.leaf q)) (show _ < 2 by decide) (sdW_ok _ _) rfl ?_
      exact s_end (hrest (.leaf q) .empty ⟨hq.1, hq.2, Leads.more.2 ⟨hr.2.2, hqb⟩⟩ trivial (putR_left (n := m) (by omega) he hqb) hDw m rfl _ ⟨⟨rfl, rfl, rfl, trivial⟩, ⟨rfl, rfl, rfl, rfl, trivial⟩, .refl _, fun _ h _ => h, fun _ _ => trivial⟩)
    · refine l_num 43 1 rfl (by rw [show bitT q.1 way.length = 1 by omega]; rfl) ?_
      refine l_op (.a 8 (0 + 1 * 1)) trivial rfl rfl rfl (runO_ixA 1 rfl Tryd.underlying111 rfl rfl rfl (by decide)) ?_
      refine l_stA (sdW .empty (.leaf q)) rfl rfl rfl rfl rfl rfl rfl (PW.val_cells (.leaf q)) (PW.val_one (.leaf q)) (show _ < 2 by decide) (sdW_ok _ _) rfl ?_
      exact s_end (hrest .empty (.leaf q) trivial ⟨hq.1, hq.2, Leads.more.2 ⟨hr.2.2, by omega⟩⟩ (putR_right (n := m) (by omega) he hqb) hDw m rfl _ ⟨⟨rfl, rfl, rfl, trivial⟩, ⟨rfl, rfl, rfl, rfl, trivial⟩, .refl _, fun _ h _ => h, fun _ _ => trivial⟩)
  | inner x y =>
    have hgood := hr.good
    obtain ⟨hlt, hx, hy, _⟩ := hr
    refine s_no rfl ?_
    refine s_regA TY_ok rfl fun K3 hK3 => ?_
    refine l_kind (W := .inner x y) 3 hgood (by decide) rfl rfl rfl rfl rfl ?_
    refine l_autoS TY_ok rfl ?_
    refine s_end (hK3 _ ?_)
    refine s_no rfl ?_
    refine s_regA TY_ok rfl fun K4 hK4 => ?_
    refine l_kind (W := .inner x y) 1 hgood (by decide) rfl rfl rfl rfl rfl ?_
    refine l_autoS TY_ok rfl ?_
    refine s_end (hK4 _ ?_)
    refine s_no rfl ?_
    refine s_regA TY_ok rfl fun K5 hK5 => ?_
    refine l_kind (W := .inner x y) 2 hgood (by decide) rfl rfl rfl rfl rfl ?_
    refine l_autoS TY_ok rfl ?_
    refine s_end (hK5 _ ?_)
    refine s_yes rfl ?_
    refine s_auto TY_ok rfl ?_
    refine s_autoE TY_ok rfl ?_
    obtain ⟨m, rfl⟩ : ∃ m, n = m + 1 := ⟨n - 1, by omega⟩
    exact hrest x y hx hy (putR_inner p way.length x y) (by omega) m rfl _ ⟨⟨rfl, rfl, rfl, trivial⟩, ⟨rfl, rfl, rfl, rfl, trivial⟩, .refl _, fun _ h _ => h, fun _ _ => trivial⟩
theorem own_wPut : Own 20 := fun _ _ => by go_simp
/-- What Put hands back. -/
def partR (unk : Bool) (w : PW) : RV := match unk with
  | true => .t [prQ .empty, .c (.v (.int .i64 100))]
  | false => .t [prQ w, .c (.v (.int .i64 0))]
set_option maxRecDepth 100000 in
set_option maxHeartbeats 1000000 in
theorem wPut_S {p : PairT} (hp : OkT2 p) (w : PW) (hr : w.Right []) : Spec 20 [(prQ w).den, (eY 32 p.1).den, (eY 32 p.2).den] [] Tsh (one (partR (PW.unk p.1 0 w) (PW.put p 0 w))) := by
  refine spec_S [prQ w, eY 32 p.1, eY 32 p.2] 25 Tryd.func20 rfl (by rw [Tryd.ntmps20]; rfl) (more_ok (prQ_ok w) (two_ok (eY_ok hp.1).1 (eY_ok hp.2).1)) fun b => ?_
  have hput := wput_S hp 256 w [] rfl hr (Leads.nil _)
  replace hput : Spec 38 [w.val, (lfQ p).den, .int .u8 0] [] Tsh (one (nodeR (PW.unk p.1 0 w) (PW.put p 0 w))) := hput
  generalize PW.unk p.1 0 w = u at *
  generalize PW.put p 0 w = w' at *
  refine s_auto TY_ok rfl ?_
  cases u with
  | true =>
    refine s_regD 11 (by decide) (by kernel_rfl) (by kernel_rfl) fun K1 hK1 G S w0 hst => ?_
    refine g_autoS TY_ok hst rfl ?_
    refine g_callS (F' := fun _ => True) hst [(prQ w).den] rfl rfl rfl own_wnode rfl rfl (fun _ => rfl) (wnode_S w) trivial (fun _ _ _ _ => trivial) ?_
    refine g_autoS TY_ok hst rfl ?_
    refine g_callS (F' := Tsh) hst [(eY 32 p.1).den, (eY 32 p.2).den] rfl rfl rfl own_wleafOf rfl rfl (fun _ => rfl) (wleafOf_S hp) (PW.ps_ok (w := .leaf p) hp) (fun _ _ _ hv => hv.fact) ?_
    refine g_callS (F' := Tsh) hst [w.val, (lfQ p).den, .int .u8 0] rfl rfl rfl own_wput rfl rfl (fun _ => rfl) hput (nodeR_ok _ _) (fun _ _ _ hv => hv.fact) ?_
    refine g_autoS TY_ok hst rfl ?_
    refine g_endS hst ?_
    refine l_autoS TY_ok rfl ?_
    refine s_end (hK1 _ ?_)
    refine s_seq fun K5 hK5 => ?_
    refine s_auto TY_ok rfl ?_
    refine s_ifD ((100 : Int) ≠ 0) rfl (fun _ => ?_) (fun h => absurd (by decide) h)
    refine s_auto TY_ok rfl ?_
    exact s_ret (k_ret TY_ok () rfl (by decide) rfl rfl rfl (fun _ _ _ => trivial) (fun _ _ => trivial))
  | false =>
    refine s_regD 11 (by decide) (by kernel_rfl) (by kernel_rfl) fun K1 hK1 G S w0 hst => ?_
    refine g_autoS TY_ok hst rfl ?_
    refine g_callS (F' := fun _ => True) hst [(prQ w).den] rfl rfl rfl own_wnode rfl rfl (fun _ => rfl) (wnode_S w) trivial (fun _ _ _ _ => trivial) ?_
    refine g_autoS TY_ok hst rfl ?_
    refine g_callS (F' := Tsh) hst [(eY 32 p.1).den, (eY 32 p.2).den] rfl rfl rfl own_wleafOf rfl rfl (fun _ => rfl) (wleafOf_S hp) (PW.ps_ok (w := .leaf p) hp) (fun _ _ _ hv => hv.fact) ?_
    refine g_callS (F' := Tsh) hst [w.val, (lfQ p).den, .int .u8 0] rfl rfl rfl own_wput rfl rfl (fun _ => rfl) hput (nodeR_ok _ _) (fun _ _ _ hv => hv.fact) ?_
    refine g_autoS TY_ok hst rfl ?_
    refine g_endS hst ?_
    refine l_autoS TY_ok rfl ?_
    refine s_end (hK1 _ ?_)
    refine s_seq fun K5 hK5 => ?_
    refine s_auto TY_ok rfl ?_
    refine s_ifD ((0 : Int) ≠ 0) rfl (fun h => absurd rfl h) (fun _ => ?_)
    refine s_skip (hK5 _ ?_)
    refine s_regA TY_ok rfl fun K6 hK6 => ?_
    refine l_call0 [w'.val] rfl rfl rfl own_wpart rfl rfl (fun _ _ => rfl) (wpart_S w') (fun _ _ _ => trivial) fun _ => ?_
    refine l_autoS TY_ok rfl ?_
    refine s_end (hK6 _ ?_)
    exact s_ret (k_ret TY_ok () rfl (by decide) rfl rfl rfl (fun _ _ _ => trivial) (fun _ _ => trivial))
end Go.Proofs.YtoecohpcnojokaaDoor
