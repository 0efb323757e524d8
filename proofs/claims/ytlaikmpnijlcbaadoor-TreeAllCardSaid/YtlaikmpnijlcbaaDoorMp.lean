/-
  SEVERAL TEXTS IN ONE: TrK, TrD, TrX, Law, OpenR, LawW, OpenT.
-/
import Derived.Test.YtlaikmpnijlcbaaDoorMo
import Derived.Maps.OwnSet
import Derived.DeepKeys4
import Derived.Carry
import Derived.Test.YtlaikmpnijlcbaaDoorRows
import Derived.Test.YtlaikmpnijlcbaaDoorMb
import Derived.ProofKit
import Derived.OpenShut
import Derived.SizedLaws
import Derived.Test.YtlaikmpnijlcbaaDoorMe
import Derived.LaidMore
import Derived.SevenTiedAt
import Derived.Stop.Joined
import Derived.Test.YtlaikmpnijlcbaaDoorMn
import Derived.Test.YtlaikmpnijlcbaaDoorMi
import Derived.Test.YtlaikmpnijlcbaaDoorMf
import Derived.Test.YtlaikmpnijlcbaaDoorCards
import Derived.Test.YtlaikmpnijlcbaaDoorTie
/-
  A MAP OF HASHES, over states: made, written, looked up, counted.
-/
namespace Go.Proofs.YtlaikmpnijlcbaaDoor
open Go.RowKit Go.IntWalk Nums

theorem laidOut9 : laidOutB Tryd.prog = true := by kernel_rfl
theorem hash_keyed : Maps.Keyed Tryd.prog 30 := Maps.Keyed.of_law (deep_law_laid (m := 4) laidOut9 (by decide) (of_decide_eq_true (by kernel_rfl)) (by kernel_rfl) (by kernel_rfl))
def KVT (s : List UInt8) : Value := .agg (By s).toArray
theorem KVT_inj : ∀ {l m : List UInt8}, KVT l = KVT m → l = m := by
  intro l m h
  have h8 : By l = By m := by
    injection h with h
    exact List.toArray_inj h
  clear h
  induction l generalizing m with
  | nil => cases m with
    | nil => rfl
    | cons => cases h8
  | cons x l ih => cases m with
    | nil => cases h8
    | cons y m =>
      injection h8 with h1 h2
      injection h1 with _ h1
      rw [ih h2, UInt8.toNat_inj.1 (by omega : x.toNat = y.toNat)]
theorem key_u8T (d : Nat) (n : Nat) (h : n < 256) : Tryd.prog.keyLits (d + 1) 5 [.int .u8 (n : Int)] = some [.int .u8 (n : Int)] := by
  have hw : (Lit.int .u8 (n : Int)).wf = true := by
    simp [Lit.wf, IntKind.min, IntKind.max, IntKind.signed, IntKind.bits]
    omega
  simp [Program.keyLits, Tryd.underlying5, hw]
theorem key_hashL (d : Nat) {s : List UInt8} (hs : s.length = 32) : ∃ l, Tryd.prog.keyLits (d + 2) 30 (By s) = some l := by
  have hc : Tryd.prog.cellsOf 30 = 32 := by kernel_rfl
  have h8 : Tryd.prog.cellsOf 5 = 1 := by kernel_rfl
  have hm : ∀ i, i < 32 → ∃ l, Tryd.prog.keyLits (d + 1) 5 (((By s).drop (i * 1)).take 1) = some l := fun i hi => by
    have e : ((By s).drop (i * 1)).take 1 = [.int .u8 ((s[i]'(by omega)).toNat : Int)] := by
      rw [Nat.mul_one, List.drop_eq_getElem_cons (by rw [By_len]; omega)]
      simp [By]
    rw [e]
    exact ⟨_, key_u8T d _ (UInt8.toNat_lt _)⟩
  have key : ∀ (is : List Nat), (∀ i ∈ is, i < 32) → ∃ L, is.mapM (fun i => Tryd.prog.keyLits (d + 1) 5 (((By s).drop (i * 1)).take 1)) = some L := by
    intro is
    induction is with
    | nil => intro _; exact ⟨[], rfl⟩
    | cons i is ih =>
      intro h
      obtain ⟨l, hl⟩ := hm i (h i (by simp))
      obtain ⟨L, hL⟩ := ih fun j hj => h j (by simp [hj])
      exact ⟨l :: L, by simp only [List.mapM_cons, hl, hL]; rfl⟩
  obtain ⟨L, hL⟩ := key (List.range 32) (fun i hi => List.mem_range.1 hi)
  refine ⟨L.flatten, ?_⟩
  unfold Program.keyLits
  simp only [Tryd.underlying30]
  rw [if_pos (by rw [By_len, hs, hc]), h8, hL]
  rfl
theorem hash_key {s : List UInt8} (hs : s.length = 32) : ∃ l, keyOf Tryd.prog 30 (KVT s) = some l := by
  have hk : Tryd.prog.keyType 30 = true := by kernel_rfl
  have hc : Tryd.prog.cellsOf 30 = 32 := by kernel_rfl
  have hf : (KVT s).formed Tryd.prog 30 = true := by
    unfold KVT Value.formed
    simp only [Tryd.underlying30, hc]
    simp [By_len, hs]
  obtain ⟨n, hn⟩ : ∃ n, Tryd.prog.types.size + 1 = n + 2 := ⟨Tryd.prog.types.size - 1, by
    have : decide (2 ≤ Tryd.prog.types.size) = true := by kernel_rfl
    have := of_decide_eq_true this
    omega⟩
  obtain ⟨ls, hls⟩ := key_hashL n hs
  have hcs : (KVT s).cells.toList = By s := rfl
  refine ⟨.string (keyBytes ls), ?_⟩
  unfold keyOf
  simp only [Tryd.underlying30, hk, hf, Bool.and_self, if_true, hn, hcs, hls]
  rfl
/-- A map's entries are just these pairs. -/
def MapOk (es : Array MapEntry) (o : List PairT) : Prop :=
  es.size = o.length ∧ (∀ e ∈ es.toList, ∃ p ∈ o, e.key = KVT p.1 ∧ e.val = KVT p.2) ∧ (∀ p ∈ o, ∃ e ∈ es.toList, e.key = KVT p.1 ∧ e.val = KVT p.2) ∧ ∀ (i j : Nat) (e f : MapEntry), es[i]? = some e → es[j]? = some f → e.key = f.key → i = j
def MapR (m : Nat) (o : List PairT) : Res where
  holds w S := (∃ es clock, w.heap[m]? = some (.map es clock) ∧ MapOk es o) ∧ ∀ k, S k ↔ k = m
  keep := fun ⟨⟨es, c, h1, h2⟩, h3⟩ hk => ⟨⟨es, c, (hk m ((h3 m).2 rfl)).trans h1, h2⟩, h3⟩
  lt := fun ⟨⟨es, c, h1, _⟩, h3⟩ k hk => by rw [(h3 k).1 hk]; exact (Array.getElem?_eq_some_iff.1 h1).1
set_option maxRecDepth 100000 in
theorem map_look {w : World} {m : Nat} {es : Array MapEntry} {clock : Nat} {o : List PairT} {k v : List UInt8} (hb : w.heap[m]? = some (.map es clock)) (h : MapOk es o) (hs : SortT o) (hkk : KeysT o) (hk : k.length = 32) (hv : getT o k = some v) :
    (Instr.lookup 55 (.map (some m)) (KVT k) true).run Tryd.prog w = .ok (.tuple #[KVT v, .bool true]) w := by
  obtain ⟨_, h1, h2, _⟩ := h
  obtain ⟨kl, hkl⟩ := hash_key hk
  have hck := hash_keyed.check w es.isEmpty hkl
  have hes : ∀ e ∈ es.toList, ∃ l, keyOf Tryd.prog 30 e.key = some l := fun e he => by
    obtain ⟨p, hp, e1, _⟩ := h1 e he
    rw [e1]
    exact hash_key (hkk p hp)
  rcases hash_keyed.find w hkl es.toList hes with ⟨f1, f2⟩ | ⟨j, e, f1, f2, f3⟩
  · obtain ⟨e, he, e1, _⟩ := h2 _ ((getT_some hs).1 hv)
    exact absurd e1 (f2 e he)
  · obtain ⟨p, hp, e1, e2⟩ := h1 e (List.mem_of_getElem? f2)
    obtain ⟨p1, p2⟩ := p
    have e3 : p1 = k := KVT_inj (e1.symm.trans f3)
    subst e3
    have e4 := (getT_some hs).2 hp
    rw [hv] at e4
    injection e4 with e4
    subst e4
    simp [Instr.lookup, run_underlying Tryd.underlying55, MapKept.run_getObj_map hb, hck, f1, e2, Result.andThen]
theorem putT_len_new : ∀ {l : List PairT} {p : PairT}, (∀ q ∈ l, q.1 ≠ p.1) → (putT l p).length = l.length + 1
  | [], _, _ => rfl
  | x :: l, p, h => by
    unfold putT
    by_cases hl : lessT x.1 p.1 = true
    · rw [if_pos hl, List.length_cons, List.length_cons, putT_len_new fun q hq => h q (List.mem_cons_of_mem _ hq)]
    · rw [if_neg hl, if_neg (h x List.mem_cons_self)]
      rfl
set_option maxRecDepth 100000 in
theorem map_put {w : World} {m : Nat} {es : Array MapEntry} {clock : Nat} {o : List PairT} {p : PairT} (hb : w.heap[m]? = some (.map es clock)) (h : MapOk es o) (hs : SortT o) (hkk : KeysT o) (hp : p.1.length = 32) :
    ∃ w' es' c', (Instr.mapUpdate 55 (.map (some m)) (KVT p.1) (KVT p.2)).run Tryd.prog w = .ok () w' ∧ w'.heap[m]? = some (.map es' c') ∧ MapOk es' (putT o p) ∧ w.grownBy w' (some m) := by
  obtain ⟨h0, h1, h2, h3⟩ := h
  obtain ⟨kl, hkl⟩ := hash_key hp
  have hck := hash_keyed.check w false hkl
  have hst := hash_keyed.stays w hkl
  have hes : ∀ e ∈ es.toList, ∃ l, keyOf Tryd.prog 30 e.key = some l := fun e he => by
    obtain ⟨q, hq, e1, _⟩ := h1 e he
    rw [e1]
    exact hash_key (hkk q hq)
  have hgr : ∀ es' c', w.grownBy (ChangeMaps.setBlock w m (.map es' c')) (some m) := fun es' c' => ⟨rfl, rfl, rfl, by simp [ChangeMaps.setBlock], fun i _ hi => ChangeMaps.heap_setBlock_other hb _ (fun e => hi (by rw [e]))⟩
  have hmem := putT_mem hs hkk hp
  rcases hash_keyed.find w hkl es.toList hes with ⟨f1, f2⟩ | ⟨j, e, f1, f2, f3⟩
  · have hno : ∀ q ∈ o, q.1 ≠ p.1 := fun q hq e => by
      obtain ⟨x, hx, e1, _⟩ := h2 q hq
      exact f2 x hx (by rw [e1, e])
    refine ⟨_, es.push { key := KVT p.1, val := KVT p.2, born := clock }, clock + 1, ?_, ChangeMaps.heap_setBlock_same hb _, ⟨?_, ?_, ?_, ?_⟩, hgr _ _⟩
    · simp [Instr.mapUpdate, run_underlying Tryd.underlying55, MapKept.run_getObj_map hb, MapKept.run_setObj_map _ hb, hck, f1, Result.andThen]
      rfl
    · rw [Array.size_push, h0]
      exact (putT_len_new hno).symm
    · intro x hx
      rw [Array.toList_push] at hx
      rcases List.mem_append.1 hx with hx | hx
      · obtain ⟨q, hq, e1⟩ := h1 x hx
        exact ⟨q, (hmem q).2 (.inr ⟨hq, hno q hq⟩), e1⟩
      · obtain rfl : x = { key := KVT p.1, val := KVT p.2, born := clock } := by simpa using hx
        exact ⟨p, (hmem p).2 (.inl rfl), rfl, rfl⟩
    · intro q hq
      rw [Array.toList_push]
      rcases (hmem q).1 hq with rfl | ⟨hq, _⟩
      · exact ⟨_, List.mem_append_right _ (List.mem_singleton.2 rfl), rfl, rfl⟩
      · obtain ⟨x, hx, e1⟩ := h2 q hq
        exact ⟨x, List.mem_append_left _ hx, e1⟩
    · intro i i' x y hx hy hxy
      rw [Array.getElem?_push] at hx hy
      split at hx <;> split at hy
      · omega
      · injection hx with hx
        subst hx
        exact absurd hxy.symm (f2 y (by simpa using Array.mem_of_getElem? hy))
      · injection hy with hy
        subst hy
        exact absurd hxy (f2 x (by simpa using Array.mem_of_getElem? hx))
      · exact h3 i i' x y hx hy hxy
  · have f4 : es[j]? = some e := by simpa using f2
    obtain ⟨q0, hq0, e0, _⟩ := h1 e (List.mem_of_getElem? f2)
    have hq01 : q0.1 = p.1 := KVT_inj (e0.symm.trans f3)
    have hat : ∀ i, (es.modify j fun e => { e with key := KVT p.1, val := KVT p.2 })[i]? = if j = i then (es[i]?).map fun e => { e with key := KVT p.1, val := KVT p.2 } else es[i]? := fun i => by
      rw [Array.getElem?_modify]
    refine ⟨_, es.modify j fun e => { e with key := KVT p.1, val := KVT p.2 }, clock, ?_, ChangeMaps.heap_setBlock_same hb _, ⟨?_, ?_, ?_, ?_⟩, hgr _ _⟩
    · simp [Instr.mapUpdate, run_underlying Tryd.underlying55, MapKept.run_getObj_map hb, MapKept.run_setObj_map _ hb, hck, f1, f4, f3, hst, Result.andThen]
      rfl
    · rw [Array.size_modify, h0]
      exact (putT_len_in hs hq0 hq01).symm
    · intro x hx
      obtain ⟨i, hi⟩ := List.getElem?_of_mem hx
      rw [Array.getElem?_toList, hat] at hi
      split at hi
      · rename_i hji
        subst hji
        rw [f4] at hi
        injection hi with hi
        subst hi
        exact ⟨p, (hmem p).2 (.inl rfl), rfl, rfl⟩
      · rename_i hji
        obtain ⟨q, hq, e1, e2⟩ := h1 x (by simpa using Array.mem_of_getElem? hi)
        refine ⟨q, (hmem q).2 (.inr ⟨hq, fun e => hji ?_⟩), e1, e2⟩
        exact h3 j i _ _ f4 hi (by rw [f3, e1, e])
    · intro q hq
      rcases (hmem q).1 hq with rfl | ⟨hq, hne⟩
      · refine ⟨{ e with key := KVT q.1, val := KVT q.2 }, ?_, rfl, rfl⟩
        refine List.mem_of_getElem? (i := j) ?_
        rw [Array.getElem?_toList, hat, if_pos rfl, f4]
        rfl
      · obtain ⟨x, hx, e1, e2⟩ := h2 q hq
        obtain ⟨i, hi⟩ := List.getElem?_of_mem hx
        rw [Array.getElem?_toList] at hi
        refine ⟨x, List.mem_of_getElem? (i := i) ?_, e1, e2⟩
        rw [Array.getElem?_toList, hat, if_neg, hi]
        rintro rfl
        rw [f4] at hi
        injection hi with hi
        subst hi
        exact hne (KVT_inj (e1.symm.trans f3))
    · have hkey : ∀ (i : Nat) (x : MapEntry), (es.modify j fun e => { e with key := KVT p.1, val := KVT p.2 })[i]? = some x → ∃ y, es[i]? = some y ∧ y.key = x.key := fun i x hx => by
        rw [hat] at hx
        split at hx
        · rename_i hji
          subst hji
          rw [f4] at hx
          injection hx with hx
          subst hx
          exact ⟨e, f4, f3⟩
        · exact ⟨x, hx, rfl⟩
      intro i i' x y hx hy hxy
      obtain ⟨x', hx', ex⟩ := hkey i x hx
      obtain ⟨y', hy', ey⟩ := hkey i' y hy
      exact h3 i i' x' y' hx' hy' (by rw [ex, ey, hxy])
/-! ### Steps -/
section
variable {b : Base} {ops : Array Oper} {Q : Exit → Act → World → Prop} {N : Nat} {E : SE} {L : List LV} {R : List Res} {F M : World → Prop} {o : Oper} {rest : List Oper} {k m : Nat} {l : List PairT} {x y z : Operand}
theorem l_mkMap (hg : o.guard = none) (hd : o.dst = some k) (hk : Nat.blt k N = true) (ho : o.op = .makeMap 55 none)
    (hn : ∀ m, lS Tryd.prog b ops Q N rest ⟨(k, .v (.map (some m))) :: E, L, MapR m [] :: R, F, M⟩) : lS Tryd.prog b ops Q N (o :: rest) ⟨E, L, R, F, M⟩ := fun a w ⟨G, S, f1, f2, f3⟩ => by
  obtain ⟨S', h⟩ := f3.gain (w' := w.alloc (.map #[] 0)) ((Below.refl _ w).alloc (Nat.le_refl _) _) (r := MapR w.heap.size []) (S' := fun k => k = w.heap.size) ⟨⟨#[], 0, World.alloc_heap_new w _, rfl, fun _ h => (by simp at h), fun _ h => (by cases h), fun i j e f h _ _ => (by simp at h)⟩, fun _ => Iff.rfl⟩ fun k hk => by omega
  refine wpl_go (v := .map (some w.heap.size)) (w' := w.alloc (.map #[] 0)) (oneS hg) (by
    unfold execOp
    simp only [ho, Option.map_none, Sem.run_bind, run_makeMap, Result.andThen_ok, Sem.run_pure]) ?_
  rw [hd]
  exact hn _ _ _ ⟨G, S', f1.put hk _, f2.cons trivial, h⟩
set_option maxRecDepth 100000 in
theorem l_mapUpd (i : Nat) (hi : R[i]? = some (MapR m l)) {p : PairT} (hs : SortT l) (hkk : KeysT l) (hp : OkT2 p) (hg : o.guard = none) (hd : o.dst = none) (ho : o.op = .mapUpdate 55 x y z) (hx : evS E x = some (.v (.map (some m)))) (hy : evS E y = some (.q (eY 32 p.1))) (hz : evS E z = some (.q (eY 32 p.2)))
    (hn : lS Tryd.prog b ops Q N rest ⟨E, L, R.set i (MapR m (putT l p)), F, M⟩) : lS Tryd.prog b ops Q N (o :: rest) ⟨E, L, R, F, M⟩ := fun a w ⟨G, S, f1, f2, f3⟩ => by
  obtain ⟨S1, ⟨⟨es, c, hb, hok⟩, hS1⟩, hput⟩ := f3.put hi
  have e1 : a.eval x = .map (some m) := f1.eval (evS_ok hx)
  have e2 : a.eval y = KVT p.1 := f1.eval (evS_ok hy)
  have e3 : a.eval z = KVT p.2 := f1.eval (evS_ok hz)
  obtain ⟨w', es', c', hr, hb', hok', hgr⟩ := map_put hb hok hs hkk hp.1
  obtain ⟨S'', h6⟩ := hput (MapR m (putT l p)) w' S1 ((Chg.of_grown hgr).mono fun k _ hk => (hS1 k).2 (Option.some.inj hk).symm) ⟨⟨es', c', hb', hok'⟩, hS1⟩ (fun k hk _ => hk)
  refine wpl_skip (w' := w') (oneS hg) (by
    unfold execOp
    simp only [ho, e1, e2, e3, hr, Sem.run_bind, Sem.run_pure, Result.andThen_ok]) ?_
  rw [hd]
  exact hn _ _ ⟨G, S'', f1, f2, h6⟩
theorem runO_look (i : Nat) (hi : R[i]? = some (MapR m l)) {q v : List UInt8} (hs : SortT l) (hkk : KeysT l) (hq : q.length = 32) (hv : getT l q = some v) (ho : o.op = .lookup 55 x y true) (hx : evS E x = some (.v (.map (some m)))) (hy : evS E y = some (.q (eY 32 q))) :
    ∀ (G : Nat → Nat) (S : Nat → Prop) (a : Act) (w : World), Fr N (denE G E) a → View G S L R F M w → (execOp a.eval o).run Tryd.prog w = .ok (.value ((SV.t [eY 32 v, .c (.v (.bool true))]).den G)) w := fun G S a w f1 hw => by
  obtain ⟨S1, S2, ⟨⟨es, c, hb, hok⟩, _⟩, _⟩ := hw.res.at hi
  have e1 : a.eval x = .map (some m) := f1.eval (evS_ok hx)
  have e2 : a.eval y = KVT q := f1.eval (evS_ok hy)
  unfold execOp
  simp only [ho, e1, e2, map_look hb hok hs hkk hq hv, Sem.run_bind, Sem.run_pure, Result.andThen_ok]
  rfl
theorem runO_lenMap (i : Nat) (hi : R[i]? = some (MapR m l)) (ho : o.op = .call { callee := .builtin .len, args := #[x], argTypes := #[55] }) (hx : evS E x = some (.v (.map (some m)))) :
    ∀ (G : Nat → Nat) (S : Nat → Prop) (a : Act) (w : World), Fr N (denE G E) a → View G S L R F M w → (execOp a.eval o).run Tryd.prog w = .ok (.value ((SV.v (.int .i64 (l.length : Int))).den G)) w := fun G S a w f1 hw => by
  obtain ⟨S1, S2, ⟨⟨es, c, hb, hok⟩, _⟩, _⟩ := hw.res.at hi
  have e1 : a.eval x = .map (some m) := f1.eval (evS_ok hx)
  have hl : (Builtin.len_ #[55] o.type #[.map (some m)]).run Tryd.prog w = .ok (.int .i64 (l.length : Int)) w := by
    rw [← hok.1]
    simp [Builtin.len_, run_underlying Tryd.underlying55, MapKept.run_getObj_map hb, goInt]
  unfold execOp
  simp only [ho]
  generalize a.eval = ρ at *
  show _ = Result.ok (Next.value (.int .i64 (l.length : Int))) w
  go_simp
theorem k_of_d {K : Act → World → Prop} {e : Env} (h : kD [] b K N e) : kS b K N e := fun a w hs => by
  have h1 := h a w hs
  have : withD [] a = a := by
    unfold withD
    rw [List.append_nil]
  rwa [this] at h1
theorem d_outB {ds : List Deferred} {id : Nat} {e : Env} (h : kD ds b (Q .normal) N e) : kD ds b (Exit.inBlock id Q (.exit id)) N e := fun a w hs => by
  simp only [Exit.inBlock, if_true]
  exact h a w hs
/-- Something is owned no more. -/
theorem k_loseR {K : Act → World → Prop} {r : Res} (i : Nat) (hi : R[i]? = some r) (h : kS b K N ⟨E, L, R.eraseIdx i, F, M⟩) : kS b K N ⟨E, L, R, F, M⟩ := fun a w ⟨G, S, h1, h2, h3⟩ => by
  obtain ⟨_, S2, _, _, _, h4⟩ := h3.let hi
  exact h a w ⟨G, S2, h1, h2, h4⟩
end
end Go.Proofs.YtlaikmpnijlcbaaDoor
/-
  TREEDEEP: keys that part late.
-/
namespace Go.Proofs.YtlaikmpnijlcbaaDoor
open Go.RowKit Go.IntWalk Nums

/-! ### Plain -/
theorem flip_bits (a m : Nat) (ha : a < 256) (hm : m < 8) : ∃ y : UInt8, bits .xor .u8 (a : Int) ((128 / 2 ^ m : Nat) : Int) = (y.toNat : Int) ∧ ∀ j, j < 8 → ((j = m → y.toNat / 2 ^ (7 - j) % 2 ≠ a / 2 ^ (7 - j) % 2) ∧ (j ≠ m → y.toNat / 2 ^ (7 - j) % 2 = a / 2 ^ (7 - j) % 2)) := by
  have key : ((List.range 256).all fun a => (List.range 8).all fun m => decide (0 ≤ bits .xor .u8 (a : Int) ((128 / 2 ^ m : Nat) : Int)) && decide (bits .xor .u8 (a : Int) ((128 / 2 ^ m : Nat) : Int) < 256) && (List.range 8).all fun j => decide (j = m) != decide ((bits .xor .u8 (a : Int) ((128 / 2 ^ m : Nat) : Int)).toNat / 2 ^ (7 - j) % 2 = a / 2 ^ (7 - j) % 2)) = true := by decide +kernel
  have h := List.all_eq_true.1 (List.all_eq_true.1 key a (List.mem_range.2 ha)) m (List.mem_range.2 hm)
  simp only [Bool.and_eq_true, decide_eq_true_eq] at h
  obtain ⟨⟨h1, h2⟩, h3⟩ := h
  obtain ⟨y, hy⟩ := byte_z ⟨h1, h2⟩
  refine ⟨y, hy, fun j hj => ?_⟩
  have h4 := List.all_eq_true.1 h3 j (List.mem_range.2 hj)
  rw [hy] at h4
  have e0 : ((y.toNat : Int)).toNat = y.toNat := rfl
  rw [e0] at h4
  by_cases e : j = m
  · refine ⟨fun _ h5 => ?_, fun h5 => absurd e h5⟩
    simp [e] at h4
    rw [e] at h5
    exact h4 h5
  · refine ⟨fun h5 => absurd h5 e, fun _ => ?_⟩
    simp [e] at h4
    exact h4
theorem flip_key {k : List UInt8} {n : Nat} {y : UInt8} (hk : k.length = 32) (hn : n < 256) (hy : ∀ j, j < 8 → ((j = n % 8 → y.toNat / 2 ^ (7 - j) % 2 ≠ (k[n / 8]!).toNat / 2 ^ (7 - j) % 2) ∧ (j ≠ n % 8 → y.toNat / 2 ^ (7 - j) % 2 = (k[n / 8]!).toNat / 2 ^ (7 - j) % 2))) :
    (k.set (n / 8) y).length = 32 ∧ ShareT n k (k.set (n / 8) y) ∧ bitT k n ≠ bitT (k.set (n / 8) y) n := by
  have hat : ∀ i, (k.set (n / 8) y)[i]! = if n / 8 = i then y else k[i]! := fun i => by
    by_cases e : n / 8 = i
    · subst e
      rw [if_pos rfl, getElem!_pos _ _ (by rw [List.length_set]; omega), List.getElem_set_self]
    · rw [if_neg e]
      by_cases h : i < k.length
      · rw [getElem!_pos _ _ (by rw [List.length_set]; exact h), List.getElem_set_ne e, getElem!_pos k i h]
      · rw [getElem!_neg _ _ (by rw [List.length_set]; exact h), getElem!_neg k i h]
  refine ⟨by rw [List.length_set]; exact hk, fun i hi => ?_, ?_⟩
  · unfold bitT
    rw [hat]
    by_cases e : n / 8 = i / 8
    · rw [if_pos e, ← e]
      exact ((hy (i % 8) (Nat.mod_lt _ (by decide))).2 (by omega)).symm
    · rw [if_neg e]
  · unfold bitT
    rw [hat, if_pos rfl]
    exact fun h => (hy (n % 8) (Nat.mod_lt _ (by decide))).1 rfl h.symm
theorem two_put {p q : PairT} (h : p.1 ≠ q.1) : putT [p] q = [p, q] ∨ putT [p] q = [q, p] := by
  unfold putT
  split
  · exact .inl rfl
  · exact .inr rfl
theorem deep_plain {p q : PairT} {n : Nat} (hs : ShareT n p.1 q.1) (hd : bitT p.1 n ≠ bitT q.1 n) : (putT [p] q).length = 2 ∧ (∀ d, d < n → (bitT p.1 d = 0 → leftT d (putT [p] q) = putT [p] q) ∧ (bitT p.1 d ≠ 0 → rightT d (putT [p] q) = putT [p] q)) ∧ (leftT n (putT [p] q)).length = 1 ∧ (rightT n (putT [p] q)).length = 1 := by
  have hne : p.1 ≠ q.1 := fun e => hd (by rw [e])
  have h1 := bitT_lt p.1 n
  have h2 := bitT_lt q.1 n
  have hb : (bitT p.1 n = 0 ∧ bitT q.1 n = 1) ∨ (bitT p.1 n = 1 ∧ bitT q.1 n = 0) := by omega
  have hsd : ∀ d, d < n → bitT q.1 d = bitT p.1 d := fun d hd => (hs d hd).symm
  rcases two_put hne with e | e <;> rw [e] <;> refine ⟨rfl, fun d hd => ⟨fun h => ?_, fun h => ?_⟩, ?_, ?_⟩ <;> first | (rcases hb with ⟨b1, b2⟩ | ⟨b1, b2⟩ <;> simp [leftT, rightT, b1, b2]; done) | (simp [leftT, rightT, hsd d hd, h])
theorem own_tdeep : Own 6 := fun _ _ => by go_simp
theorem run_shr8u {N : Nat} {E : SE} {o : Oper} {x y : Operand} {t' : TypeId} {m n : Nat} (hn : n ≤ 8) (ho : o.op = .binOp .shr 5 x y t') (hx : evS E x = some (.v (.int .u8 (m : Int)))) (hy : evS E y = some (.v (.int .u64 (n : Int)))) :
    ∀ (G : Nat → Nat) (a : Act) (w : World), Fr N (denE G E) a → (execOp a.eval o).run Tryd.prog w = .ok (.value ((SV.v (.int .u8 ((m / 2 ^ n : Nat) : Int))).den G)) w := fun G a w ha => by
  have h1 : a.eval x = .int .u8 (m : Int) := ha.eval (evS_ok hx)
  have h2 : a.eval y = .int .u64 (n : Int) := ha.eval (evS_ok hy)
  have h3 : (n : Int) ≤ 8 := by omega
  unfold execOp
  simp only [ho, h1, h2]
  go_simp
  rfl
theorem wrapB3 (d : Nat) : IntKind.u8.wrap ((d : Int) + 1) = (((d + 1) % 256 : Nat) : Int) := by
  unfold IntKind.wrap
  simp [IntKind.bits, IntKind.signed]
/-- A tree of more than one pair is an inner node. -/
theorem TOk.two {r : Nat} {l : List PairT} {t : TA} (h : TOk r l t) (h2 : 2 ≤ l.length) : ∃ q g a b, r = q + 1 ∧ t = .node g a b ∧ TOk q (leftT (255 - q) l) a ∧ TOk q (rightT (255 - q) l) b := by
  cases t with
  | nil => rw [h.nil_inv] at h2; cases h2
  | leaf g h0 p => rw [h.leaf_inv] at h2; simp at h2
  | node g a b =>
    cases r with
    | zero => exact h.elim
    | succ q => exact ⟨q, g, a, b, rfl, rfl, h.2.1, h.2.2⟩
set_option maxRecDepth 100000 in
set_option maxHeartbeats 4000000 in
theorem tdeep_S {k : List UInt8} (hk : k.length = 32) (f : Int) : Spec 6 [(eY 32 k).den, .int .i64 f] [] Tsh (one (.v (.bool true))) := by
  refine spec_S [eY 32 k, .c (.v (.int .i64 f))] 71 Tryd.func6 rfl (by rw [Tryd.ntmps6]; rfl) (two_ok (eY_ok hk).1 trivial) fun b => ?_
  have hl1 := hhT_len 1
  have hl2 := hhT_len 2
  obtain ⟨k1, hk1⟩ : ∃ k, hhT 1 = k := ⟨_, rfl⟩
  obtain ⟨k2, hk2⟩ : ∃ k, hhT 2 = k := ⟨_, rfl⟩
  rw [hk1] at hl1
  rw [hk2] at hl2
  refine s_auto TY_ok rfl ?_
  refine s_seq fun K hK => ?_
  refine s_regA TY_ok rfl fun K1 hK1 => ?_
  refine l_call0 [] rfl rfl rfl own_tfirst rfl rfl (fun _ _ => rfl) tfirst_S (fun _ h _ => h) fun _ => ?_
  refine l_autoS TY_ok rfl ?_
  refine s_end (hK1 _ ?_)
  refine s_no rfl ?_
  refine s_skip (hK _ ?_)
  refine c_weak (e' := ⟨[(1, .v (.int .i64 f)), (2, .a 2 0)], [⟨2, none, 30, [.agg 32 (By k).toArray]⟩], [], Tsh, fun _ => True⟩) ⟨⟨rfl, rfl, trivial⟩, ⟨rfl, rfl, trivial⟩, .refl _, fun _ h _ => h.2, fun _ _ => trivial⟩ ?_
  obtain ⟨n, hn, -, hnw⟩ := wrapU_mod f 256 (by decide) (by decide)
  refine s_regA TY_ok rfl fun K2 hK2 => ?_
  refine l_num 5 (n : Int) rfl hnw ?_
  refine s_end (hK2 _ ?_)
  refine s_keep [2, 5] [2] rfl rfl ?_
  refine s_auto TY_ok rfl ?_
  refine s_regA TY_ok rfl fun K3 hK3 => ?_
  refine l_num 20 ((n / 8 : Nat) : Int) rfl (wrapQ n 8 (by omega)) ?_
  refine l_op (.a 6 (0 + 1 * (n / 8))) trivial rfl rfl rfl (runO_ixA (n / 8) rfl Tryd.underlying30 rfl rfl rfl (by omega)) ?_
  refine l_opV (.v (.int .u8 ((k[n / 8]!).toNat : Int))) trivial rfl rfl rfl (runO_ldA _ rfl rfl rfl (row_at (by omega)) Tryd.underlying5 rfl) ?_
  refine l_autoS TY_ok rfl ?_
  refine l_num 25 ((n % 8 : Nat) : Int) rfl (wrapU (by rw [Int.tmod_eq_emod_of_nonneg (by omega)]; omega) (by omega) (by omega)) ?_
  refine l_op (.v (.int .u8 ((128 / 2 ^ (n % 8) : Nat) : Int))) trivial rfl rfl rfl (run_shr8u (m := 128) (by omega) rfl rfl rfl) ?_
  obtain ⟨y, hy, hyb⟩ := flip_bits (k[n / 8]!).toNat (n % 8) (UInt8.toNat_lt _) (Nat.mod_lt _ (by decide))
  obtain ⟨hk', hsh, hdf⟩ := flip_key hk hn hyb
  refine l_op (.v (.int .u8 (bits .xor .u8 ((k[n / 8]!).toNat : Int) ((128 / 2 ^ (n % 8) : Nat) : Int)))) trivial rfl rfl rfl (run_xor rfl rfl rfl) ?_
  refine l_num 27 (y.toNat : Int) rfl hy ?_
  refine l_op (.a 6 (0 + 1 * (n / 8))) trivial rfl rfl rfl (runO_ixA (n / 8) rfl Tryd.underlying30 rfl rfl rfl (by omega)) ?_
  refine l_stA [.agg 32 (By (k.set (n / 8) y)).toArray] rfl rfl rfl rfl rfl rfl rfl rfl rfl (by show 0 + 1 * (n / 8) < (By k).toArray.size; rw [List.size_toArray, By_len]; omega) (eY_ok hk').1 (by
    show By (k.set (n / 8) y) = (By k).set (0 + 1 * (n / 8)) _
    rw [Nat.zero_add, Nat.one_mul]
    exact List.map_set) ?_
  refine s_end (hK3 _ ?_)
  clear hyb hy
  generalize k.set (n / 8) y = k' at *
  refine s_keep [2, 5, 6] [2, 6] rfl rfl ?_
  have hp1 : OkT2 (k, k1) := ⟨hk, hl1⟩
  have hp2 : OkT2 (k', k2) := ⟨hk', hl2⟩
  have hput1 := tPut0 (l := []) (t := .nil) hp1 (TOk.nil rfl) List.Pairwise.nil (fun _ h => by cases h) (by decide)
  have hput2 : ∀ t, TOk 256 (putT [] (k, k1)) t → _ := fun t ht => tPut0 (l := [(k, k1)]) (t := t) hp2 ht (List.pairwise_singleton _ _) (fun x hx => by rw [List.mem_singleton.1 hx]; exact hk) (by show 2 ≤ 1000000; decide)
  obtain ⟨hlen, hside, hone1, hone2⟩ := deep_plain (p := (k, k1)) (q := (k', k2)) hsh hdf
  refine s_locs fun G => ?_
  have hsub : ∀ u ∈ ([⟨6, some (G 6), 30, [.agg 32 (By k').toArray]⟩, ⟨2, some (G 2), 30, [.agg 32 (By k).toArray]⟩] : List LV), u ∈ withG G [⟨6, none, 30, [.agg 32 (By k').toArray]⟩, ⟨2, none, 30, [.agg 32 (By k).toArray]⟩] ∧ u.g.isSome = true := fun u hu => by
    rcases List.mem_cons.1 hu with rfl | hu
    · exact ⟨List.mem_cons_self, rfl⟩
    rw [List.mem_singleton.1 hu]
    exact ⟨List.mem_cons_of_mem _ List.mem_cons_self, rfl⟩
  refine s_seq fun K4 hK4 => ?_
  have hend : ∀ t, TOk 256 (putT [(k, k1)] (k', k2)) t → ∀ en, Weak en ⟨[(2, .a 2 0), (5, .v (.int .i64 (n : Int))), (7, .a 7 0)], [⟨7, none, 27, trPs t 0⟩, ⟨2, none, 30, [.agg 32 (By k).toArray]⟩], [], fun w => TF t w ∧ Tsh w, fun _ => True⟩ → kS b K4 71 en := by
    intro t ht en hw
    refine k_weak hw (hK4 _ ?_)
    refine s_seq fun K8 hK8 => ?_
    refine s_auto TY_ok rfl ?_
    refine s_block ?_
    let F : Nat × TA → Env := fun ⟨d, t⟩ => ⟨[(2, .a 2 0), (5, .v (.int .i64 (n : Int))), (7, .a 7 0), (8, .v (.int .i64 (d : Int)))], [⟨7, none, 27, trPs t d⟩, ⟨2, none, 30, [.agg 32 (By k).toArray]⟩], [], fun w => TF t w ∧ Tsh w, fun _ => True⟩
    refine c_weak (e' := F (0, t)) ⟨⟨rfl, rfl, rfl, rfl, trivial⟩, ⟨rfl, rfl, rfl, rfl, trivial⟩, .refl _, fun _ h _ => h, fun _ _ => trivial⟩ (s_loop (fun x => n + 1 - x.1) F (fun x => x.1 ≤ n ∧ TOk (256 - x.1) (putT [(k, k1)] (k', k2)) x.2) ?_ (0, t) ⟨Nat.zero_le _, ht⟩)
    clear hw ht
    rintro ⟨d, t⟩ ⟨hd, ht⟩
    dsimp only at hd ht
    generalize putT [(k, k1)] (k', k2) = l at *
    obtain ⟨q, g, x, z, hq, rfl, hx, hz⟩ := ht.two (by omega)
    have hq2 : 255 - q = d := by omega
    rw [hq2] at hx hz
    have hlt := ht.len
    refine s_seq fun K9 hK9 => ?_
    refine s_auto TY_ok rfl ?_
    refine s_ifD ((d : Int) ≤ (n : Int)) rfl (fun _ => ?_) (fun h => absurd (Int.ofNat_le.2 hd) h)
    refine s_skip (hK9 _ ?_)
    refine s_seq fun K10 hK10 => ?_
    refine s_block ?_
    refine s_regA TY_ok rfl fun K11 hK11 => ?_
    refine l_call0 [(eTr (.node g x z) d).den] rfl rfl rfl own_tSides rfl rfl (fun _ _ => rfl) (tSides_S (.node g x z) d ((d + 1) % 256) (wrapB3 d)) (fun _ h _ => h.1) fun _ => ?_
    refine l_autoS TY_ok rfl ?_
    refine s_end (hK11 _ ?_)
    refine s_seq fun K12 hK12 => ?_
    refine s_regA TY_ok rfl fun K13 hK13 => ?_
    refine l_call0 [(eTr (.node g x z) d).den] rfl rfl rfl own_tLen rfl rfl (fun _ _ => rfl) (tLen_S (.node g x z) d) (fun _ h _ => h.2.1) fun _ => ?_
    refine l_num 51 2 rfl (by rw [hlt, hlen]; rfl) ?_
    refine l_autoS TY_ok rfl ?_
    refine s_end (hK13 _ ?_)
    refine s_ifD ((2 : Int) ≠ 2) rfl (fun h => absurd rfl h) (fun _ => ?_)
    refine s_skip (hK12 _ ?_)
    refine s_seq fun K14 hK14 => ?_
    refine s_auto TY_ok rfl ?_
    refine s_ifD ((d : Int) = (n : Int)) rfl (fun he => ?_) (fun hne => ?_)
    · obtain rfl : d = n := by omega
      refine s_regA TY_ok rfl fun K15 hK15 => ?_
      refine l_call0 [(eTr x ((d + 1) % 256)).den] rfl rfl rfl own_tLen rfl rfl (fun _ _ => rfl) (tLen_S x _) (fun _ h _ => h.2.2.1.2.1) fun _ => ?_
      refine l_num 58 1 rfl (by rw [hx.len, hone1]; rfl) ?_
      refine l_autoS TY_ok rfl ?_
      refine l_is 59 true rfl (by simp) ?_
      refine l_is 60 true rfl (by simp) ?_
      refine l_autoS TY_ok rfl ?_
      refine l_call0 [(eTr z ((d + 1) % 256)).den] rfl rfl rfl own_tLen rfl rfl (fun _ _ => rfl) (tLen_S z _) (fun _ h _ => h.2.2.2.1.2.2) fun _ => ?_
      refine l_num 62 1 rfl (by rw [hz.len, hone2]; rfl) ?_
      refine l_autoS TY_ok rfl ?_
      refine s_end (hK15 _ ?_)
      exact s_ret (k_retD TY_ok () rfl (by decide) rfl rfl trivial rfl (fun _ _ _ => trivial) (fun _ _ => trivial))
    · have hdn : d < n := by omega
      have hm : (d + 1) % 256 = d + 1 := Nat.mod_eq_of_lt (by omega)
      rw [hm]
      refine s_skip (hK14 _ ?_)
      refine s_auto TY_ok rfl ?_
      refine s_regA TY_ok rfl fun K15 hK15 => ?_
      refine l_call0 [.agg (By k).toArray, .int .i64 (d : Int)] rfl rfl rfl own_rbit9 rfl rfl (fun _ _ => rfl) (rbit_S hk d (by omega)) (fun _ _ _ => trivial) fun _ => ?_
      refine l_autoS TY_ok rfl ?_
      refine s_end (hK15 _ ?_)
      have hb2 := bitT_lt k d
      refine s_ifD (((bitT k d : Nat) : Int) = 1) rfl (fun hb => ?_) (fun hb => ?_)
      · have hb : bitT k d ≠ 0 := by omega
        refine s_autoE TY_ok rfl ?_
        have e : TOk (256 - (d + 1)) l z := by
          have h0 := hz
          rw [(hside d hdn).2 hb] at h0
          rw [show 256 - (d + 1) = q by omega]
          exact h0
        exact hK10 _ (s_autoE TY_ok rfl (k_next (d + 1, z) ⟨hdn, e⟩ (by show n + 1 - (d + 1) < n + 1 - d; omega) ⟨⟨rfl, rfl, rfl, congrArg some (congrArg SV.v (congrArg (Value.int .i64) (wrapI rfl (by omega) (by omega)))), trivial⟩, ⟨rfl, rfl, rfl, rfl, trivial⟩, .refl _, fun _ h _ => ⟨h.2.2.2.1.2.2, h.2.2.2.2⟩, fun _ _ => trivial⟩))
      · have hb : bitT k d = 0 := by omega
        refine s_skip ?_
        have e : TOk (256 - (d + 1)) l x := by
          have h0 := hx
          rw [(hside d hdn).1 hb] at h0
          rw [show 256 - (d + 1) = q by omega]
          exact h0
        exact hK10 _ (s_autoE TY_ok rfl (k_next (d + 1, x) ⟨hdn, e⟩ (by show n + 1 - (d + 1) < n + 1 - d; omega) ⟨⟨rfl, rfl, rfl, congrArg some (congrArg SV.v (congrArg (Value.int .i64) (wrapI rfl (by omega) (by omega)))), trivial⟩, ⟨rfl, rfl, rfl, rfl, trivial⟩, .refl _, fun _ h _ => ⟨h.2.2.2.1.2.1, h.2.2.2.2⟩, fun _ _ => trivial⟩))
  refine s_anyP [0, 1, 2, 4, 5] 8 1 (InvL [⟨6, some (G 6), 30, [.agg 32 (By k').toArray]⟩, ⟨2, some (G 2), 30, [.agg 32 (By k).toArray]⟩]) (by kernel_rfl) rfl (inv_of hsub) ?_
  refine p_frontS TY_ok 0 (by kernel_rfl) rfl rfl rfl rfl rfl rfl (fun x hx => (hsub x hx).1) (fun _ h => h) ?_
  refine p_frontS TY_ok 1 (by kernel_rfl) rfl rfl rfl rfl rfl rfl (fun x hx => (hsub x hx).1) (fun _ h => h) ?_
  refine p_frontO (.q (eY 32 k1)) (eY_ok hl1).1 2 (by kernel_rfl) rfl rfl rfl rfl rfl (run_hh 1 hk1 rfl rfl) ?_
  refine p_frontS TY_ok 4 (by kernel_rfl) rfl rfl rfl rfl rfl rfl (fun x hx => (hsub x hx).1) (fun _ h => h) ?_
  refine p_frontO (.q (eY 32 k2)) (eY_ok hl2).1 5 (by kernel_rfl) rfl rfl rfl rfl rfl (run_hh 2 hk2 rfl rfl) ?_
  refine p_step2 3 7 (by kernel_rfl) rfl rfl (fun K5 hK5 => ?_) fun K5 hK5 => ?_
  · refine l_call0 [(eTr .nil 0).den, (eY 32 k).den, (eY 32 k1).den] rfl rfl rfl own_tPut rfl rfl (fun _ _ => rfl) hput1 (fun _ h _ => ⟨trivial, h⟩) fun x1 => ?_
    refine s_end (hK5 _ (inv_of hsub) ?_)
    refine p_step2 6 7 (by kernel_rfl) rfl rfl (fun K6 hK6 => ?_) fun K6 hK6 => ?_
    · refine l_call0 [(eTr x1.1 0).den, (eY 32 k').den, (eY 32 k2).den] rfl rfl rfl own_tPut rfl rfl (fun _ _ => rfl) (hput2 x1.1 x1.2) (fun _ h _ => ⟨h.1, h.2⟩) fun x2 => ?_
      refine s_end (hK6 _ (inv_of hsub) ?_)
      refine p_step 7 (by kernel_rfl) rfl fun K7 hK7 => ?_
      refine l_autoS TY_ok rfl ?_
      refine s_end (hK7 _ (inv_of fun x hx => ⟨List.mem_cons_of_mem _ (hsub x hx).1, (hsub x hx).2⟩) ?_)
      refine p_tail [8] (by kernel_rfl) rfl ?_
      refine l_autoS TY_ok rfl ?_
      exact s_end (k_noloc (hend x2.1 x2.2 _ ⟨⟨rfl, rfl, rfl, trivial⟩, ⟨rfl, rfl, rfl, rfl, trivial⟩, .refl _, fun _ h _ => ⟨h.1, h.2.2⟩, fun _ _ => trivial⟩))
    · refine l_autoS TY_ok rfl ?_
      refine s_end (hK6 _ (inv_of fun x hx => ⟨List.mem_cons_of_mem _ (hsub x hx).1, (hsub x hx).2⟩) ?_)
      refine p_step 6 (by kernel_rfl) rfl fun K7 hK7 => ?_
      refine l_call0 [(eTr x1.1 0).den, (eY 32 k').den, (eY 32 k2).den] rfl rfl rfl own_tPut rfl rfl (fun _ _ => rfl) (hput2 x1.1 x1.2) (fun _ h _ => ⟨h.1, h.2⟩) fun x2 => ?_
      refine s_end (hK7 _ (inv_of fun x hx => ⟨List.mem_cons_of_mem _ (hsub x hx).1, (hsub x hx).2⟩) ?_)
      refine p_tail [8] (by kernel_rfl) rfl ?_
      refine l_autoS TY_ok rfl ?_
      exact s_end (k_noloc (hend x2.1 x2.2 _ ⟨⟨rfl, rfl, rfl, trivial⟩, ⟨rfl, rfl, rfl, rfl, trivial⟩, .refl _, fun _ h _ => ⟨h.1, h.2.2⟩, fun _ _ => trivial⟩))
  · refine l_autoS TY_ok rfl ?_
    refine s_end (hK5 _ (inv_of fun x hx => ⟨List.mem_cons_of_mem _ (hsub x hx).1, (hsub x hx).2⟩) ?_)
    refine p_step 3 (by kernel_rfl) rfl fun K6 hK6 => ?_
    refine l_call0 [(eTr .nil 0).den, (eY 32 k).den, (eY 32 k1).den] rfl rfl rfl own_tPut rfl rfl (fun _ _ => rfl) hput1 (fun _ h _ => ⟨trivial, h⟩) fun x1 => ?_
    refine s_end (hK6 _ (inv_of fun x hx => ⟨List.mem_cons_of_mem _ (hsub x hx).1, (hsub x hx).2⟩) ?_)
    refine p_step 6 (by kernel_rfl) rfl fun K7 hK7 => ?_
    refine l_call0 [(eTr x1.1 0).den, (eY 32 k').den, (eY 32 k2).den] rfl rfl rfl own_tPut rfl rfl (fun _ _ => rfl) (hput2 x1.1 x1.2) (fun _ h _ => ⟨h.1, h.2⟩) fun x2 => ?_
    refine s_end (hK7 _ (inv_of fun x hx => ⟨List.mem_cons_of_mem _ (hsub x hx).1, (hsub x hx).2⟩) ?_)
    refine p_tail [8] (by kernel_rfl) rfl ?_
    refine l_autoS TY_ok rfl ?_
    exact s_end (k_noloc (hend x2.1 x2.2 _ ⟨⟨rfl, rfl, rfl, trivial⟩, ⟨rfl, rfl, rfl, rfl, trivial⟩, .refl _, fun _ h _ => ⟨h.1, h.2.2⟩, fun _ _ => trivial⟩))
end Go.Proofs.YtlaikmpnijlcbaaDoor
/-
  TREEALL: a tree's pairs are told with rising keys, each with the value that was put last; telling may be left off.
-/
namespace Go.Proofs.YtlaikmpnijlcbaaDoor
open Go.RowKit Go.IntWalk Nums

theorem own_tall : Own 7 := fun _ _ => by go_simp
set_option maxRecDepth 100000 in
set_option maxHeartbeats 4000000 in
theorem tall_S {A : Option Addr} {c : Nat} (l : List PairT) (f : Int) : Spec 7 [.slice A l.length c, .int .i64 f] [] (fun w => Tsh w ∧ Rd 64 eP A c l w) (one (.v (.bool true))) := by
  refine spec_D [.c (.v (.slice A l.length c)), .c (.v (.int .i64 f))] 102 Tryd.func7 rfl (by rw [Tryd.ntmps7]; rfl) (two_ok trivial trivial) fun b => ?_
  refine d_auto TY_ok rfl ?_
  refine d_seq fun K hK => ?_
  refine d_regA TY_ok rfl fun K1 hK1 => ?_
  refine l_call0 [] rfl rfl rfl own_tfirst rfl rfl (fun _ _ => rfl) tfirst_S (fun _ h _ => h.1) fun _ => ?_
  refine l_autoS TY_ok rfl ?_
  refine d_end (hK1 _ ?_)
  refine d_no rfl ?_
  refine d_skip (hK _ ?_)
  refine d_pure (l.length ≤ 9223372036854775807 ∧ ∀ x ∈ l, OkT2 x) (fun _ h _ => ⟨Nat.le_trans h.2.2.1 h.2.2.2.1, fun x hx => eP_len (h.2.2.2.2.2.1 x hx).1⟩) fun ⟨hl, hok⟩ => ?_
  refine d_auto TY_ok rfl ?_
  refine d_regA TY_ok rfl fun K2 hK2 => ?_
  refine l_mkMap rfl rfl rfl rfl fun m => ?_
  refine l_autoS TY_ok rfl ?_
  refine d_end (hK2 _ ?_)
  refine d_seq fun K3 hK3 => ?_
  refine d_of_s ?_
  let F : Nat × TA × List PairT → Env := fun ⟨i, t, o⟩ => ⟨[(22, .v (.int .i64 (i : Int))), (21, .v (.int .i64 (l.length : Int))), (20, .v (.slice A l.length c)), (1, .v (.int .i64 f)), (4, .a 4 0), (5, .a 5 0), (6, .a 6 0)], [⟨6, none, 55, [.one (.v (.map (some m)))]⟩, ⟨5, none, 27, trPs t 0⟩, ⟨4, none, 4, [.one (.v (.bool false))]⟩], [MapR m o], fun w => Tsh w ∧ Rd 64 eP A c l w ∧ TF t w, fun _ => True⟩
  let Iv : Nat × TA × List PairT → Prop := fun x => x.1 ≤ l.length ∧ TOk 256 x.2.2 x.2.1 ∧ SortT x.2.2 ∧ (∀ y ∈ x.2.2, OkT2 y) ∧ x.2.2.length ≤ x.1 ∧ x.2.2.length ≤ 40
  have hend : ∀ x, Iv x → kS b K3 102 (F x) := by
    rintro ⟨i, t, o⟩ ⟨hi, ht, hs, ho, hlo, hlo2⟩
    dsimp only at hi ht hs ho hlo hlo2
    refine k_of_d (hK3 _ ?_)
    have hkk : KeysT o := fun y hy => (ho y hy).1
    have hsh : SharesT (256 - 256) o := fun _ _ _ _ _ h => absurd h (Nat.not_lt_zero _)
    have hta : t.all = o := ht.all_eq hs hkk hsh (Nat.le_refl _)
    have htl : t.len = o.length := TOk.len ht
    refine d_auto TY_ok rfl ?_
    refine d_auto TY_ok rfl ?_
    refine d_seqD fun K4 hK4 => ?_
    refine d_regA TY_ok rfl fun K5 hK5 => ?_
    refine l_call0 [(eTr t 0).den] rfl rfl rfl own_tAll rfl rfl (fun _ _ => rfl) (tAll_S t 0) (fun _ _ _ => trivial) fun gb => ?_
    refine d_end (hK5 _ ?_)
    refine d_block ?_
    let E0 : SE := [(42, .v (.func (.func 34) #[] #[.pointer (some ⟨gb, 0, none⟩)])), (1, .v (.int .i64 f)), (10, .a 10 0), (9, .a 9 0), (6, .a 6 0), (5, .a 5 0), (4, .a 4 0)]
    let Lf : Nat × List UInt8 → List LV := fun x => [⟨10, none, 30, [.agg 32 (By x.2).toArray]⟩, ⟨9, none, 3, [.one (.v (.int .i64 (x.1 : Int)))]⟩, ⟨6, none, 55, [.one (.v (.map (some m)))]⟩, ⟨5, none, 27, trPs t 0⟩, ⟨4, none, 4, [.one (.v (.bool false))]⟩]
    refine d_weak (e' := ⟨E0, Lf (0, z32T), [MapR m o], fun w => ObjF gb 27 (trPs t 0) w ∧ TF t w, fun _ => True⟩) ⟨⟨rfl, rfl, rfl, rfl, rfl, rfl, rfl, trivial⟩, ⟨rfl, rfl, rfl, rfl, rfl, rfl, rfl, rfl, rfl, rfl, trivial⟩, .refl _, fun _ h _ => ⟨h.1, h.2.2.2⟩, fun _ _ => trivial⟩ ?_
    refine d_range o (fun p => eY 32 p.1) (fun p => eY 32 p.2) Lf (fun _ => [MapR m o]) (fun j s => s.1 = j ∧ s.2.length = 32 ∧ ∀ q, 0 < j → o[j - 1]? = some q → s.2 = q.1) (fun _ _ => False) (0, z32T) (fun w => ObjF gb 27 (trPs t 0) w ∧ TF t w) (lb := [.pointer (some ⟨gb, 0, none⟩)]) rfl own_tAll1 (fun _ => rfl) (fun x hx => ⟨(eY_ok (ho x hx).1).1, (eY_ok (ho x hx).2).1⟩) rfl rfl (fun _ h _ => h) (fun y Fy JR JX hy => ?_) ⟨rfl, rfl, fun _ h => absurd h (Nat.lt_irrefl _)⟩ ?_ ?_ (fun _ _ _ h => h.elim)
    · have := tAll1_S y gb Fy JR JX t (by rw [hta]; exact hy)
      rw [hta] at this
      exact this
    · rintro G y D m1 ready busy b1 i2 ⟨n, was⟩ p ⟨hn, hwl, hwas⟩ hp K6 hK6
      dsimp only at hn hwl hwas
      subst hn
      have hlt : n < o.length := (List.getElem?_eq_some_iff.1 hp).1
      have hpm := List.mem_of_getElem? hp
      have hp2 := ho p hpm
      have hg : getT o p.1 = some p.2 := (getT_some hs).2 hpm
      refine r_auto rfl TY_ok rfl ?_
      refine r_autoE rfl TY_ok rfl ?_
      refine hK6 _ _ _ _ _ ?_
      refine r_block ?_
      refine r_seq fun K7 hK7 => ?_
      refine r_regA rfl TY_ok rfl fun K8 hK8 => ?_
      refine l_opV (.t [eY 32 p.2, .c (.v (.bool true))]) (more_ok (eY_ok hp2.2).1 (one_ok trivial)) rfl rfl rfl (runO_look 2 rfl hs hkk hp2.1 hg rfl rfl rfl) ?_
      refine l_autoS TY_ok rfl ?_
      refine s_end (hK8 _ ?_)
      refine r_regA rfl TY_ok rfl fun K9 hK9 => ?_
      refine l_op (.b (!decide (p.2 = p.2))) trivial rfl rfl rfl (run_neqY rfl rfl rfl Tryd.underlying30 (by kernel_rfl) hp2.2 hp2.2) ?_
      refine l_is 56 false rfl (by simp) ?_
      refine l_autoS TY_ok rfl ?_
      have hend2 : kS b1 K9 102 ⟨[(67, .v (.bool false)), (10, .a 10 0), (9, .a 9 0), (11, .a 11 0)], [⟨11, none, 30, [.agg 32 (By p.1).toArray]⟩, ⟨10, some (G 10), 30, [.agg 32 (By was).toArray]⟩, ⟨9, some (G 9), 3, [.one (.v (.int .i64 (n : Int)))]⟩, ⟨6, some (G 6), 55, [.one (.v (.map (some m)))]⟩, ⟨5, some (G 5), 27, trPs t 0⟩, ⟨4, some (G 4), 4, [.one (.v (.bool false))]⟩], [LoopR y busy, DefR D, MapR m o], fun _ => True, fun _ => True⟩ := by
        refine hK9 _ ?_
        refine r_no rfl ?_
        refine r_skip (hK7 _ ?_)
        refine r_auto rfl TY_ok rfl ?_
        refine r_autoE rfl TY_ok rfl ?_
        exact k_rnd (Ix := fun _ _ => False) (n + 1, p.1) ⟨rfl, hp2.1, fun q _ hq => by
          rw [Nat.add_sub_cancel, hp] at hq
          injection hq with hq
          rw [hq]⟩ ⟨trivial, ⟨rfl, rfl, congrArg (fun z => some (LV.mk 9 (some (G 9)) 3 [.one (.v (.int .i64 z))])) (wrapI (m := (n : Int) + 1) (r := ((n + 1 : Nat) : Int)) (by omega) (by omega) (by omega)), rfl, rfl, rfl, rfl, rfl, rfl, rfl, trivial⟩, .refl _, fun _ _ _ => trivial, fun _ _ => trivial⟩
      by_cases h0 : n = 0
      · refine l_is 61 false rfl (by simp [h0]) ?_
        refine l_autoS TY_ok rfl ?_
        refine s_end (k_weak ?_ hend2)
        exact ⟨⟨rfl, rfl, rfl, rfl, trivial⟩, ⟨rfl, rfl, rfl, rfl, rfl, rfl, rfl, rfl, rfl, rfl, rfl, rfl, trivial⟩, .refl _, fun _ _ _ => trivial, fun _ _ => trivial⟩
      · have hls : lessT was p.1 = true := by
          have hlt2 : n - 1 < o.length := by omega
          have h1 := hwas _ (by omega) (List.getElem?_eq_getElem hlt2)
          have h2 := List.pairwise_iff_getElem.1 hs (n - 1) n hlt2 hlt (by omega)
          rw [← h1, (List.getElem?_eq_some_iff.1 hp).2] at h2
          exact h2
        refine l_is 61 true rfl (by simp; omega) ?_
        refine l_autoS TY_ok rfl ?_
        refine l_call0 [.agg (By was).toArray, .agg (By p.1).toArray] rfl rfl rfl own_rless9 rfl rfl (fun _ _ => rfl) (rless_S hwl hp2.1) (fun _ _ _ => trivial) fun _ => ?_
        refine l_is 64 true rfl hls ?_
        refine l_autoS TY_ok rfl ?_
        refine s_end (k_weak ?_ hend2)
        exact ⟨⟨rfl, rfl, rfl, rfl, trivial⟩, ⟨rfl, rfl, rfl, rfl, rfl, rfl, rfl, rfl, rfl, rfl, rfl, rfl, trivial⟩, .refl _, fun _ _ _ => trivial, fun _ _ => trivial⟩
    · rintro ⟨n, was⟩ D ⟨hn, hwl, _⟩
      dsimp only at hn hwl
      subst hn
      refine hK4 _ _ ?_
      obtain ⟨q, hq, -, hqw⟩ := wrapU_mod f 20 (by decide) (by decide)
      refine d_auto TY_ok rfl ?_
      refine d_auto TY_ok rfl ?_
      refine d_seqD fun K20 hK20 => ?_
      refine d_regA TY_ok rfl fun K21 hK21 => ?_
      refine l_call0 [(eTr t 0).den] rfl rfl rfl own_tAll rfl rfl (fun _ _ => rfl) (tAll_S t 0) (fun _ _ _ => trivial) fun gb2 => ?_
      refine d_end (hK21 _ ?_)
      let E2 : SE := [(77, .v (.func (.func 34) #[] #[.pointer (some ⟨gb2, 0, none⟩)])), (16, .a 16 0), (15, .a 15 0), (9, .a 9 0), (6, .a 6 0), (5, .a 5 0), (4, .a 4 0)]
      let Lf2 : Nat → List LV := fun x => [⟨16, none, 3, [.one (.v (.int .i64 (x : Int)))]⟩, ⟨15, none, 3, [.one (.v (.int .i64 ((q + 1 : Nat) : Int)))]⟩, ⟨9, none, 3, [.one (.v (.int .i64 (o.length : Int)))]⟩, ⟨6, none, 55, [.one (.v (.map (some m)))]⟩, ⟨5, none, 27, trPs t 0⟩, ⟨4, none, 4, [.one (.v (.bool false))]⟩]
      have hfin : ∀ (x D2 : Nat), x = min (q + 1) o.length → kD [dD D2, dD D] b K20 102 ⟨E2, Lf2 x, [DefR D2, DefR D, MapR m o], fun w => ObjF gb2 27 (trPs t 0) w ∧ TF t w, fun _ => True⟩ := by
        intro x D2 hx
        refine hK20 _ _ ?_
        refine d_regH 17 (by decide) (by kernel_rfl) (by kernel_rfl) fun K22 hK22 G S w0 hst => ?_
        refine h_auto TY_ok hst rfl ?_
        refine h_opV hst (.v (.int .i64 (o.length : Int))) trivial rfl rfl rfl rfl (runO_lenMap 2 rfl rfl rfl) ?_
        refine h_auto TY_ok hst rfl ?_
        refine h_is 89 true rfl (by simp) ?_
        refine h_auto TY_ok hst rfl ?_
        refine h_callS (F' := TF t) (r := .v (.int .i64 (t.len : Int))) hst [(eTr t 0).den] rfl rfl rfl rfl own_tLen rfl rfl (fun _ => rfl) trivial (tLen_S t 0) (fun _ _ _ hv => hv.fact.2) ?_
        refine h_num 92 (o.length : Int) rfl (by rw [htl]) ?_
        refine h_auto TY_ok hst rfl ?_
        refine h_is 95 true rfl (by simp) ?_
        refine h_auto TY_ok hst rfl ?_
        refine h_op hst (.v (.int .i64 ((min (q + 1) o.length : Nat) : Int))) trivial rfl rfl rfl rfl (run_min rfl rfl rfl) ?_
        refine h_auto TY_ok hst rfl ?_
        refine h_is 101 true rfl (by rw [hx]; simp) ?_
        refine h_auto TY_ok hst rfl ?_
        refine h_end hst ?_
        refine l_autoS TY_ok rfl ?_
        refine d_end (hK22 _ ?_)
        exact d_ret (k_retM [D2, D] (R := [MapR m o]) (k_loseR 0 rfl (k_ret TY_ok () rfl (by decide) rfl rfl rfl (fun _ _ _ => trivial) (fun _ _ => trivial))))
      refine d_block ?_
      refine d_weak (e' := ⟨E2, Lf2 0, [DefR D, MapR m o], fun w => ObjF gb2 27 (trPs t 0) w ∧ TF t w, fun _ => True⟩) ⟨⟨rfl, rfl, rfl, rfl, rfl, rfl, rfl, trivial⟩, ⟨rfl, rfl, congrArg (fun z => some (LV.mk 15 none 3 [.one (.v (.int .i64 z))])) (show IntKind.i64.wrap (1 + IntKind.i64.wrap ((IntKind.u64.wrap f).tmod ((20 : Nat) : Int))) = ((q + 1 : Nat) : Int) from by rw [hqw]; exact wrapI (by omega) (by omega) (by omega)), rfl, rfl, rfl, rfl, rfl, rfl, rfl, rfl, rfl, trivial⟩, .refl _, fun _ h _ => ⟨h.1, h.2.2⟩, fun _ _ => trivial⟩ ?_
      refine d_range o (fun p => eY 32 p.1) (fun p => eY 32 p.2) Lf2 (fun _ => [DefR D, MapR m o]) (fun j s => s = j ∧ j ≤ q) (fun c s => c = some 4 ∧ s = q + 1 ∧ q + 1 ≤ o.length) 0 (fun w => ObjF gb2 27 (trPs t 0) w ∧ TF t w) (lb := [.pointer (some ⟨gb2, 0, none⟩)]) rfl own_tAll1 (fun _ => rfl) (fun x hx => ⟨(eY_ok (ho x hx).1).1, (eY_ok (ho x hx).2).1⟩) rfl rfl (fun _ h _ => h) (fun y Fy JR JX hy => ?_) ⟨rfl, Nat.zero_le _⟩ ?_ ?_ ?_
      · have := tAll1_S y gb2 Fy JR JX t (by rw [hta]; exact hy)
        rw [hta] at this
        exact this
      · rintro G y D3 m1 ready busy b1 i2 x p ⟨hx, hxq⟩ hp K6 hK6
        subst hx
        have hlt : x < o.length := (List.getElem?_eq_some_iff.1 hp).1
        refine r_skip (hK6 _ _ _ _ _ ?_)
        refine r_block ?_
        refine r_auto rfl TY_ok rfl ?_
        refine r_weak (e' := ⟨[(16, .a 16 0), (15, .a 15 0)], withG G (Lf2 (x + 1)), [LoopR y busy, DefR D3, DefR D, MapR m o], fun _ => True, fun _ => True⟩) ⟨⟨rfl, rfl, trivial⟩, ⟨congrArg (fun z => some (LV.mk 16 (some (G 16)) 3 [.one (.v (.int .i64 z))])) (wrapI (m := (x : Int) + 1) (r := ((x + 1 : Nat) : Int)) (by omega) (by omega) (by omega)), rfl, rfl, rfl, rfl, rfl, rfl, rfl, rfl, rfl, rfl, rfl, trivial⟩, .refl _, fun _ _ _ => trivial, fun _ _ => trivial⟩ ?_
        refine r_auto rfl TY_ok rfl ?_
        refine r_ifD (((x + 1 : Nat) : Int) = ((q + 1 : Nat) : Int)) rfl (fun he => ?_) (fun hne => ?_)
        · refine r_exit (k_passB rfl ?_)
          exact k_jump (I := fun s => s = x + 1 ∧ x + 1 ≤ q) (Ix := fun c s => c = some 4 ∧ s = q + 1 ∧ q + 1 ≤ o.length) (some 4) (x + 1) ⟨rfl, by omega, by omega⟩ ⟨trivial, ⟨rfl, rfl, rfl, rfl, rfl, rfl, rfl, rfl, rfl, rfl, rfl, rfl, trivial⟩, .refl _, fun _ _ _ => trivial, fun _ _ => trivial⟩
        · refine r_skip ?_
          exact k_rnd (I := fun s => s = x + 1 ∧ x + 1 ≤ q) (Ix := fun c s => c = some 4 ∧ s = q + 1 ∧ q + 1 ≤ o.length) (x + 1) ⟨rfl, by omega⟩ ⟨trivial, ⟨rfl, rfl, rfl, rfl, rfl, rfl, rfl, rfl, rfl, rfl, rfl, rfl, trivial⟩, .refl _, fun _ _ _ => trivial, fun _ _ => trivial⟩
      · rintro x D2 ⟨hx, hxq⟩
        exact hfin x D2 (by omega)
      · rintro c2 x D2 ⟨hc, hx, hxq⟩
        subst hc
        exact d_exit (d_outB (hfin x D2 (by omega)))
  refine s_auto TY_ok rfl ?_
  refine s_block ?_
  refine c_weak (e' := F (0, .nil, [])) ⟨⟨rfl, rfl, rfl, rfl, rfl, rfl, rfl, trivial⟩, ⟨rfl, rfl, rfl, rfl, rfl, rfl, trivial⟩, .refl _, fun _ h _ => ⟨h.2.1, h.2.2, trivial⟩, fun _ _ => trivial⟩ (s_loop (fun x => l.length - x.1) F Iv ?_ (0, .nil, []) ⟨Nat.zero_le _, TOk.nil rfl, List.Pairwise.nil, fun _ h => (by cases h), Nat.zero_le _, Nat.zero_le _⟩)
  rintro ⟨i, t, o⟩ ⟨hi, ht, hs, ho, hlo, hlo2⟩
  dsimp only at hi ht hs ho hlo hlo2
  have hkk : KeysT o := fun y hy => (ho y hy).1
  refine s_auto TY_ok rfl ?_
  refine s_seq fun K4 hK4 => ?_
  refine s_ifD ((i : Int) < (l.length : Int)) rfl (fun hlt => ?_) (fun hge => ?_)
  · have hlt : i < l.length := by omega
    obtain ⟨p, hp0⟩ : ∃ x, l[i]? = some x := ⟨_, List.getElem?_eq_getElem hlt⟩
    have hp := hok p (List.mem_of_getElem? hp0)
    refine s_skip (hK4 _ ?_)
    refine s_seq fun K5 hK5 => ?_
    refine s_block ?_
    refine s_regA TY_ok rfl fun K6 hK6 => ?_
    refine l_elem TY_ok rfl rfl rfl i rfl hp0 rfl rfl (rd_fact fun _ h _ => h.2.1) ?_
    refine l_autoS TY_ok rfl ?_
    refine s_end (hK6 _ ?_)
    refine s_auto TY_ok rfl ?_
    refine s_ifD ((i : Int) < 40) rfl (fun h40 => ?_) (fun h40 => ?_)
    · have h40 : i < 40 := by omega
      have hput := tPut0 hp ht hs hkk (by omega)
      refine s_regA TY_ok rfl fun K7 hK7 => ?_
      refine l_call0 [(eTr t 0).den, (eY 32 p.1).den, (eY 32 p.2).den] rfl rfl rfl own_tPut rfl rfl (fun _ _ => rfl) hput (fun _ h _ => ⟨h.2.2, h.1⟩) fun ⟨t', ht'⟩ => ?_
      refine l_autoS TY_ok rfl ?_
      refine s_end (hK7 _ ?_)
      refine s_lit ?_
      refine l_autoS TY_ok rfl ?_
      refine l_mapUpd (p := p) 0 rfl hs hkk hp rfl rfl rfl rfl rfl rfl ?_
      refine s_end (hK5 _ ?_)
      refine s_autoE TY_ok rfl ?_
      have hlo' : (putT o p).length ≤ i + 1 := Nat.le_trans (putT_len o p).2 (Nat.succ_le_succ hlo)
      exact k_next (i + 1, t', putT o p) ⟨hlt, ht', putT_sort hs hkk hp.1, fun y hy => by
        rcases (putT_mem hs hkk hp.1 y).1 hy with rfl | h
        · exact hp
        · exact ho y h.1, hlo', by show (putT o p).length ≤ 40; omega⟩ (by show l.length - (i + 1) < l.length - i; omega) ⟨⟨congrArg some (congrArg SV.v (congrArg (Value.int .i64) (wrapI rfl (by omega) (by omega)))), rfl, rfl, rfl, rfl, rfl, rfl, trivial⟩, ⟨rfl, rfl, rfl, rfl, rfl, rfl, trivial⟩, .refl _, fun _ h _ => ⟨h.2.1, h.2.2.1, h.1⟩, fun _ _ => trivial⟩
    · refine s_skip (hK5 _ ?_)
      refine s_autoE TY_ok rfl ?_
      exact k_next (i + 1, t, o) ⟨hlt, ht, hs, ho, by show o.length ≤ i + 1; omega, hlo2⟩ (by show l.length - (i + 1) < l.length - i; omega) ⟨⟨congrArg some (congrArg SV.v (congrArg (Value.int .i64) (wrapI rfl (by omega) (by omega)))), rfl, rfl, rfl, rfl, rfl, rfl, trivial⟩, ⟨rfl, rfl, rfl, rfl, rfl, rfl, trivial⟩, .refl _, fun _ h _ => h, fun _ _ => trivial⟩
  · refine s_exit (k_pass (k_pass (k_out ?_)))
    exact k_weak (e' := F (i, t, o)) ⟨⟨rfl, rfl, rfl, rfl, rfl, rfl, rfl, trivial⟩, ⟨rfl, rfl, rfl, rfl, rfl, rfl, trivial⟩, .refl _, fun _ h _ => h, fun _ h => h⟩ (hend (i, t, o) ⟨hi, ht, hs, ho, hlo, hlo2⟩)
end Go.Proofs.YtlaikmpnijlcbaaDoor
/-
  FROM A WALK TO A LAW'S ROW: the arguments read behind the call as they read before; arrays of 32 bytes, opened.
-/
namespace Go.Proofs.YtlaikmpnijlcbaaDoor
open Go.ChangeShapes Go.WideShapes Go.ChangeAt Go.RowKit

theorem own : ownKnob Tryd.prog.godebug = none := by kernel_rfl
theorem laidOut : laidOutB Tryd.prog = true := by kernel_rfl

section
variable {H : Type} {enc : TypeId × Value → H} {W W' : World}

/-- All arguments at once. -/
theorem trodAll_below : ∀ {ts : List TypeId} {vs : List Value} {ds : List (DataW H)} {p : List MemPlace}, (∀ t ∈ ts, Tryd.prog.readableRec t = true ∧ t < Tryd.prog.types.size) →
    DataW.TrodAll enc Tryd.prog W 0 (fun _ => true) true ts vs ds p → Below W.heap.size W W' → (∀ x ∈ p, x.block < W.heap.size) → DataW.TrodAll enc Tryd.prog W' 0 (fun b => decide (b < W.heap.size)) true ts vs ds p
  | [], _, _, _, _, h, _, _ => by
    obtain ⟨rfl, rfl, rfl⟩ := trodAll_nil h
    exact trodAll_mk0
  | t :: ts, _, _, _, hts, h, hb, hlt => by
    obtain ⟨v, vs', d, ds', p, q, rfl, rfl, rfl, h0, h1⟩ := trodAll_cons h
    obtain ⟨hr, hz⟩ := hts t (by simp)
    exact trodAll_cons_mk (Below.trod laidOut hr hz h0 hb (fun x hx => hlt x (by simp [hx]))) (trodAll_below (fun u hu => hts u (by simp [hu])) h1 hb (fun x hx => hlt x (by simp [hx])))

theorem law_post {f : Func} {s : ChangeSpec} {args : Array Value} {ds gs : List (DataW H)} {before : List MemPlace} (hf : f.resultTypes = #[4]) (hvars : s.vars = [])
    (hts : ∀ t ∈ f.params.toList, Tryd.prog.readableRec t = true ∧ t < Tryd.prog.types.size)
    (hW : DataW.Whole enc Tryd.prog f.params.toList s.vars false W args.toList ds gs before) (hs : s.fn H (ds ++ gs) = { results := [.lit (.bool true)], args := ds }) (hb : Below W.heap.size W W') :
    s.post enc Tryd.prog f false true false false W args (.bool true) W' := by
  have hW' := hW
  obtain ⟨p, q, hA, hV, rfl, _, _⟩ := hW
  rw [hvars] at hV
  obtain ⟨rfl, rfl⟩ := trodVars_none hV
  have hlt : ∀ x ∈ p, x.block < W.heap.size := fun x hx => hW'.lt x (by simp [hx])
  refine ⟨ds, [], p ++ [], [], p, [], hW', ?_, ?_, ?_, hb.frame _, fun h => by cases h⟩
  · rw [hs, hf]
    exact trodAll_mk1 (shut_bool Tryd.underlying4 true)
  · rw [hs]
    exact trodAll_below hts hA hb hlt
  · rw [hs, hvars]
    rfl
end

theorem cells8 : Tryd.prog.cellsOf 5 = 1 := by kernel_rfl
theorem cells_h : Tryd.prog.cellsOf 30 = 32 := by kernel_rfl
theorem one_of {l : List Value} {i : Nat} {v : Value} (h : (l.drop (i * 1)).take 1 = [v]) : l[i]? = some v := by
  rw [Nat.mul_one] at h
  have h1 : ((l.drop i).take 1)[0]? = some v := by rw [h]; rfl
  rw [List.getElem?_take, if_pos (by omega), List.getElem?_drop] at h1
  simpa using h1

/-! ### Arrays of 32 bytes -/
theorem okWide_array {P : Program} {w : World} {r : Reach} {base n : Nat} {t e : TypeId} {v : Value} (ht : P.underlying t = some (.array n e)) (h : Value.okWide P w r base t v) : ∃ cs, v = .agg cs ∧ cs.size = P.cellsOf t := by
  simp only [Value.okWide, ht] at h
  obtain ⟨cs, h1, h2, _⟩ := h
  exact ⟨cs, h1, h2⟩

theorem by_of {cs : List Value} (hl : cs.length = 32) (h : ∀ i, i < 32 → ∃ n : Int, cs[i]? = some (.int .u8 n) ∧ 0 ≤ n ∧ n < 256) : ∃ l : List UInt8, l.length = 32 ∧ cs = By l := by
  refine ⟨cs.map fun v => match v with | .int _ n => UInt8.ofNat n.toNat | _ => 0, by simp [hl], ?_⟩
  apply List.ext_getElem (by simp [By])
  intro i h1 h2
  obtain ⟨n, hn, h0, h3⟩ := h i (by omega)
  have e : cs[i] = .int .u8 n := by
    have := List.getElem?_eq_getElem h1
    rw [hn] at this
    exact (Option.some.inj this).symm
  simp only [By, List.getElem_map, e]
  congr 1
  rw [UInt8.toNat_ofNat']
  omega

set_option maxRecDepth 20000 in
theorem open_hash {H : Type} {enc : TypeId × Value → H} {W : World} {base : Nat} {v : Value} {d : DataW H} {p : List MemPlace} (hv : Value.okWide Tryd.prog W .any base 30 v) (h : DataW.Trod enc Tryd.prog W 0 (fun _ => true) true 30 v d p) :
    ∃ l : List UInt8, l.length = 32 ∧ v = .agg (By l).toArray := by
  obtain ⟨cs, rfl, _⟩ := okWide_array Tryd.underlying30 hv
  obtain ⟨fuel, hf⟩ := h
  obtain ⟨xs, m, rfl, _, hlen, hn, hel⟩ := DataW.trod_array Tryd.underlying30 hf
  rw [cells_h] at hlen
  obtain ⟨l, hl, e⟩ := by_of hlen (fun i hi => by
    have h0 := hel i hi
    rw [cells8] at h0
    obtain ⟨x, hx⟩ : ∃ x, xs[i]? = some x := ⟨xs[i]'(by omega), List.getElem?_eq_getElem (by omega)⟩
    rw [hx] at h0
    obtain ⟨n, e1, _, hw⟩ := DataW.trod_int Tryd.underlying5 h0
    have hb := bounds_u8 hw
    exact ⟨n, one_of e1, by omega, by omega⟩)
  refine ⟨l, hl, ?_⟩
  congr 1
  apply Array.ext'
  exact e
end Go.Proofs.YtlaikmpnijlcbaaDoor
/-
  FROM A WALK TO A LAW'S ROW: slices of anything, opened; hashes.
-/
namespace Go.Proofs.YtlaikmpnijlcbaaDoor
open Go.RowKit Go.IntWalk
open Go.ChangeShapes Go.WideShapes Go.ChangeAt

set_option maxRecDepth 20000 in
theorem hash_cells {H : Type} {enc : TypeId × Value → H} {W : World} {held : Bool} {fuel : Nat} {cs : List Value} {x : DataW H × List MemPlace} (h : DataW.trod enc Tryd.prog W 0 (fun _ => true) held fuel 30 cs = some x) :
    ∃ l : List UInt8, l.length = 32 ∧ cs = By l := by
  obtain ⟨xs, m, rfl, _, hlen, hn, hel⟩ := DataW.trod_array Tryd.underlying30 h
  rw [cells_h] at hlen
  exact by_of hlen (fun i hi => by
    have h0 := hel i hi
    rw [cells8] at h0
    obtain ⟨x, hx⟩ : ∃ x, xs[i]? = some x := ⟨xs[i]'(by omega), List.getElem?_eq_getElem (by omega)⟩
    rw [hx] at h0
    obtain ⟨n, e1, _, hw⟩ := DataW.trod_int Tryd.underlying5 h0
    have hb := bounds_u8 hw
    exact ⟨n, one_of e1, by omega, by omega⟩)
theorem pick_list {α : Type} (P : Nat → α → Prop) : ∀ n, (∀ i, i < n → ∃ l, P i l) → ∃ ks : List α, ks.length = n ∧ ∀ i l, ks[i]? = some l → P i l
  | 0, _ => ⟨[], rfl, fun i l h => by simp at h⟩
  | n + 1, h => by
    obtain ⟨ks, hl, hk⟩ := pick_list P n fun i hi => h i (by omega)
    obtain ⟨l, hp⟩ := h n (by omega)
    refine ⟨ks ++ [l], by simp [hl], fun i x hx => ?_⟩
    by_cases hi : i < ks.length
    · rw [List.getElem?_append_left hi] at hx
      exact hk i x hx
    · rw [List.getElem?_append_right (by omega)] at hx
      have h0 : i - ks.length = 0 := by
        by_cases e : i - ks.length = 0
        · exact e
        · rw [List.getElem?_eq_none (by simp; omega)] at hx
          cases hx
      rw [h0] at hx
      obtain rfl : l = x := by simpa using hx
      obtain rfl : i = n := by omega
      exact hp
set_option maxRecDepth 20000 in
theorem open_rd {α H : Type} {enc : TypeId × Value → H} {W : World} {held : Bool} {fuel : Nat} {t e : TypeId} {k : Nat} {fe : α → SQ} {cs : List Value} {x : DataW H × List MemPlace} (ht : Tryd.prog.underlying t = some (.slice e)) (hk : Tryd.prog.cellsOf e = k) (hk0 : 0 < k)
    (hel : ∀ n cs x, DataW.trod enc Tryd.prog W 0 (fun _ => true) held n e cs = some x → ∃ a : α, cs = (fe a).cl ∧ OkP (fe a).parts1 ∧ (fe a).cl.length = k)
    (h : DataW.trod enc Tryd.prog W 0 (fun _ => true) held fuel t cs = some x) :
    ∃ (A : Option Addr) (l : List α) (c : Nat), cs = [.slice A l.length c] ∧ Rd k fe A c l W := by
  rcases DataW.trod_slice ht h with ⟨rfl, _⟩ | ⟨a, len, cap, elems, rest, n, rfl, rfl, rfl, _, hl, hm, hlen, hel2, _⟩
  · exact ⟨none, [], 0, rfl, Rd.nil _ _ _⟩
  · rw [hk] at hel2
    obtain ⟨ks, hk1, hk2⟩ := pick_list (fun i (y : α) => (OkP (fe y).parts1 ∧ (fe y).cl.length = k) ∧ W.cells? 0 (a.add (i * k)) k = some (fe y).cl) len fun i hi => by
      have h0 := hel2 i hi
      rw [List.getElem?_eq_getElem (by omega)] at h0
      cases hc : W.cells? 0 (a.add (i * k)) k with
      | none => rw [hc] at h0; cases h0
      | some cs =>
        rw [hc] at h0
        obtain ⟨y, rfl, h1⟩ := hel _ _ _ h0
        exact ⟨y, h1, rfl⟩
    subst hk1
    refine ⟨some a, ks, cap, rfl, hl, (by unfold maxLen at hm; omega), fun e => (by cases e), fun y hy => ?_, fun hpos => ?_⟩
    · obtain ⟨i, hi, rfl⟩ := List.getElem_of_mem hy
      exact (hk2 i _ (List.getElem?_eq_getElem hi)).1
    have hcell : ∀ i y, ks[i]? = some y → ∀ j v, (fe y).cl[j]? = some v → W.cell? (a.add (i * k + j)) = some v := fun i y hi j v hj => by
      obtain ⟨⟨_, hkl⟩, hc⟩ := hk2 i y hi
      obtain ⟨_, _, h3⟩ := World.cells?_some hc
      have hjk : j < k := by
        have := (List.getElem?_eq_some_iff.1 hj).1
        omega
      have := h3 j hjk
      rw [Addr.add_add, hj] at this
      exact this
    have h00 := hk2 0 _ (List.getElem?_eq_getElem hpos)
    have hb := World.cells?_block h00.2 hk0
    rw [Nat.zero_mul] at hb
    obtain ⟨b, o, sp⟩ := a
    have hsp0 : sp = none := by
      obtain ⟨v, hv⟩ : ∃ v, (fe ks[0]).cl[0]? = some v := ⟨_, List.getElem?_eq_getElem (by rw [h00.1.2]; exact hk0)⟩
      have := hcell 0 _ (List.getElem?_eq_getElem hpos) 0 v hv
      rw [Nat.zero_mul, show (⟨b, o, sp⟩ : Addr).add (0 + 0) = ⟨b, o, sp⟩ from rfl, World.cell?] at this
      cases sp with
      | none => rfl
      | some s =>
        exfalso
        dsimp only at this
        split at this
        · simp at this
        · cases this
    subst hsp0
    refine ⟨b, o, rfl, hb, fun i y hi j v hj => ?_⟩
    have := hcell i y hi j v hj
    rw [Addr.add_mid] at this
    rwa [Nat.add_assoc, Nat.mul_comm k i]
end Go.Proofs.YtlaikmpnijlcbaaDoor
/-
  FROM A WALK TO A LAW'S ROW: the cells of a table of words, from what the row lists.
-/
namespace Go.Proofs.YtlaikmpnijlcbaaDoor
open Go.ChangeShapes Go.WideShapes Go.ChangeAt Go.RowKit

theorem cells64 : Tryd.prog.cellsOf 83 = 1 := by kernel_rfl
set_option maxRecDepth 20000 in
/-- The cells of a table of words. -/
theorem table_cells {W : World} {nm : String} {g g0 t0 tid n fuel : Nat} {l : List Nat} {datum : DataW Unit} {cs : List Value} {p : List MemPlace} (hg : Tryd.prog.globalNamed nm = some g) (ht : (Tryd.prog.globals[g]?).map (·.type) = some tid) (hu : Tryd.prog.underlying tid = some (.array n 83))
    (hd : datum = .agg (l.map fun (x : Nat) => .lit (.int .u64 (x : Int)))) (hg0 : Tryd.prog.globalNamed nm = some g0) (ht0 : (Tryd.prog.globals[g0]?).map (·.type) = some t0) (hv0 : W.var? Tryd.prog nm = some cs.toArray) (hd0 : DataW.trod (fun _ => ()) Tryd.prog W 0 (fun _ => true) false fuel t0 cs = some (datum, p)) :
    ∀ i, i < n → W.cell? ⟨g, i, none⟩ = some (.int .u64 (l[i]! : Nat)) := by
  obtain rfl := Option.some.inj (hg.symm.trans hg0)
  obtain rfl := Option.some.inj (ht.symm.trans ht0)
  obtain ⟨xs, m1, rfl, hx1, hlen, hn5, hel⟩ := DataW.trod_array hu hd0
  have hx2 := congrArg Prod.fst hx1
  rw [hd] at hx2
  injection hx2 with hx2
  intro i hi
  have h0 := hel i hi
  rw [cells64] at h0
  obtain ⟨x, hxi⟩ : ∃ x, xs[i]? = some x := ⟨xs[i]'(by omega), List.getElem?_eq_getElem (by omega)⟩
  rw [hxi] at h0
  obtain ⟨n', e1, e2, _⟩ := DataW.trod_int Tryd.underlying83 h0
  have hll : l.length = n := by
    have := congrArg List.length hx2
    simp only [List.length_map] at this
    omega
  have h3 : (l.map fun (x : Nat) => (DataW.lit (.int .u64 (x : Int)) : DataW Unit))[i]? = (xs.map (·.1))[i]? := by rw [hx2]
  rw [List.getElem?_map, List.getElem?_map, hxi, List.getElem?_eq_getElem (by omega)] at h3
  simp only [Option.map_some, Option.some.injEq] at h3
  rw [e2] at h3
  have hn : n' = ((l[i]! : Nat) : Int) := by
    rw [getElem!_pos l i (by omega)]
    injection h3 with h3
    injection h3 with _ h3
    exact h3.symm
  subst hn
  have hcell := World.var?_cell hg hv0 i
  rw [hcell]
  have := one_of e1
  simpa using this
end Go.Proofs.YtlaikmpnijlcbaaDoor
/-
  FROM A WALK TO A LAW'S ROW: the two tables of the digests; slices of pairs and of hashes, opened.
-/
namespace Go.Proofs.YtlaikmpnijlcbaaDoor
open Go.ChangeShapes Go.WideShapes Go.ChangeAt Go.RowKit Nums

def laid2 : List (String × DataW Unit) := [("witan/sha.starts", Rows.laid_witan_sha_starts), ("witan/sha.steps", Rows.laid_witan_sha_steps)]
/-- The door's own heap meets the condition. -/
theorem door_met2 (os : Os) (args : Array Value) : laidMetH Tryd.prog laid2 ((World.doorLaid Tryd.prog 400 os).forCall (fun _ _ => 0) ⟨#[], args, []⟩).memory :=
  laidMetH_of_parts3 (fuel := 8) (laidMet_of_run' 8 (by kernel_rfl) (by kernel_rfl)) (by kernel_rfl) (by kernel_rfl)
set_option maxRecDepth 20000 in
/-- What the condition gives the walks. -/
theorem of_laid2 {W : World} (h : laidMetH Tryd.prog laid2 W) : Tsh W := by
  rw [MakeChecks.laidMetH_plain _ _ _ (by kernel_rfl)] at h
  obtain ⟨ps, ⟨g1, t1, cs1, f1, p1, q1, hg1, ht1, hv1, hd1, ⟨g2, t2, cs2, f2, p2, q2, hg2, ht2, hv2, hd2, _, _⟩, _⟩, _, _⟩ := h
  have c1 := table_cells (l := sqs) (n := 8) (g := 0) (tid := 84) (by kernel_rfl) (by kernel_rfl) Tryd.underlying84 (by kernel_rfl) hg1 ht1 hv1 hd1
  have c2 := table_cells (l := cbs) (n := 80) (g := 1) (tid := 89) (by kernel_rfl) (by kernel_rfl) Tryd.underlying89 (by kernel_rfl) hg2 ht2 hv2 hd2
  exact ⟨⟨c2, World.block_lt_of_cell? W ⟨1, 0, none⟩ (c2 0 (by omega))⟩, c1, World.block_lt_of_cell? W ⟨0, 0, none⟩ (c1 0 (by omega))⟩
set_option maxRecDepth 20000 in
theorem pair_cellsT {H : Type} {enc : TypeId × Value → H} {W : World} {held : Bool} (n : Nat) (cs : List Value) (x : DataW H × List MemPlace) (h : DataW.trod enc Tryd.prog W 0 (fun _ => true) held n 32 cs = some x) :
    ∃ p : PairT, cs = (eP p).cl ∧ OkP (eP p).parts1 ∧ (eP p).cl.length = 64 := by
  obtain ⟨xs, m, _, _, hl, hlen, hf⟩ := DataW.trod_struct Tryd.underlying32 h
  have hl64 : cs.length = 64 := hl.trans (by kernel_rfl)
  obtain ⟨x0, x1, rfl⟩ : ∃ a b, xs = [a, b] := by
    match xs, (show xs.length = 2 from hlen) with
    | [a, b], _ => exact ⟨a, b, rfl⟩
  have h0 : DataW.trod enc Tryd.prog W 0 (fun _ => true) held m 30 ((cs.drop 0).take (Tryd.prog.cellsOf 30)) = some x0 := hf 0 _ rfl
  have h1 : DataW.trod enc Tryd.prog W 0 (fun _ => true) held m 30 ((cs.drop 32).take (Tryd.prog.cellsOf 30)) = some x1 := hf 1 _ rfl
  rw [cells_h] at h0 h1
  obtain ⟨l0, k0, e0⟩ := hash_cells h0
  obtain ⟨l1, k1, e1⟩ := hash_cells h1
  refine ⟨(l0, l1), ?_, eP_ok ⟨k0, k1⟩⟩
  have e2 : (cs.drop 32).take 32 = cs.drop 32 := List.take_of_length_le (by rw [List.length_drop]; omega)
  rw [e2] at e1
  rw [List.drop_zero] at e0
  rw [← List.take_append_drop 32 cs, e0, e1]
  simp [SQ.cl, SQ.den, eP, Value.cells, catP, Pt.cells]
theorem hash_cellsT {H : Type} {enc : TypeId × Value → H} {W : World} {held : Bool} (n : Nat) (cs : List Value) (x : DataW H × List MemPlace) (h : DataW.trod enc Tryd.prog W 0 (fun _ => true) held n 30 cs = some x) :
    ∃ l : List UInt8, cs = (eY 32 l).cl ∧ OkP (eY 32 l).parts1 ∧ (eY 32 l).cl.length = 32 := by
  obtain ⟨l, hl, rfl⟩ := hash_cells h
  exact ⟨l, rfl, eY_ok hl⟩
end Go.Proofs.YtlaikmpnijlcbaaDoor
