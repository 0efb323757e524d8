/-
  SEVERAL TEXTS IN ONE: RgN, RgO, EncMul, ShaK, RgOne, RgLit, RgF, Law, Opens, Law6, OpenH.
-/
import Derived.Test.YtminmeljonbogaaDoorMk
import Derived.Test.YtminmeljonbogaaDoorMc
import Derived.Test.YtminmeljonbogaaDoorMb
import Derived.Test.YtminmeljonbogaaDoorMi
import Derived.Test.YtminmeljonbogaaDoorRows
import Derived.Test.YtminmeljonbogaaDoorMa
import Derived.ProofKit
import Derived.OpenShut
import Derived.SizedLaws
import Derived.Deep.Slices
import Derived.Test.YtminmeljonbogaaDoorCards
import Derived.Test.YtminmeljonbogaaDoorTie
import Derived.LaidMore
import Derived.SevenTiedAt
import Derived.Stop.Joined
/-
  THE RING: New.
-/
namespace Go.Proofs.YtminmeljonbogaaDoor
open Go.RowKit Go.IntWalk Nums

section
variable {ops : Array Oper} {Q : Exit → Act → World → Prop} {N : Nat} {E : List (Nat × Value)} {w : World} {o : Oper} {rest : List Oper} {k : Nat}
theorem l_makeMap (hg : o.guard = none) (hd : o.dst = some k) (hk : Nat.blt k N = true) (ho : o.op = .makeMap 95 none)
  (hn : lF Tryd.prog ops Q rest N ((k,.map (some w.heap.size)) :: E) (w.alloc (.map #[] 0))) : lF Tryd.prog ops Q (o :: rest) N E w :=
 l_val _ hg hd hk (fun a _=>by
  have hr:=run_makeMap (P:=Tryd.prog) 95 w
  unfold execOp
  simp only [ho,Option.map_none,Sem.run_bind,hr,Result.andThen_ok,Sem.run_pure]) hn
end
theorem built_ring (g n c m : Nat) : Tryd.prog.built 97 [(0,.slice (some ⟨g,0,none⟩) n c),(1,.map (some m))] = some #[.slice (some ⟨g,0,none⟩) n c,.map (some m)]:=by kernel_rfl
set_option maxRecDepth 100000 in
set_option maxHeartbeats 1000000 in
theorem rnew7_yes {A : Option Addr} {ks : List (List UInt8)} {c : Nat} (hn : ks.length ≤ c) (hc : c ≤ 9223372036854775807) (hf : ks.length = 1 ∨ ks.length = 4 ∨ ks.length = 7) (hd : ks.Nodup) (w : World) (hA : HV w A ks) :
  Calls Tryd.prog 16 #[.slice A ks.length c] w fun e w'=>(∃ g m,e = .returned (.tuple #[ptr g,.int .i64 0]) ∧ RgW w' w.heap.size g m ks) ∧ Below w.heap.size w w':=by
 refine calls_F (vs:=[.slice A ks.length c]) 17 Tryd.func16 rfl (by rw [Tryd.ntmps16]; rfl) ?_;have hU:=Up.refl w;refine c_seq fun K hK=>?_;refine c_qF ?_;refine f_assign (.pointer none) rfl rfl rfl rfl rfl ?_;refine f_assign (.int .i64 0) rfl rfl rfl rfl rfl ?_;refine f_end fun w1 hw1=>hK _ _ ?_;replace hU:=hU.step hw1;clear hw1 hK K;refine c_seq fun K0 hK0=>?_;refine c_seq fun K hK=>?_;refine c_qF ?_;refine f_move (.slice A ks.length c) rfl rfl rfl rfl rfl ?_;refine f_lenH A ks.length c rfl rfl rfl rfl rfl ?_
 refine f_call #[.int .i64 (ks.length : Int)] (.bool true) rfl rfl rfl own_rfit (fun w2 h2=>by
  have:=rfit_f ks.length (by omega) w2
  rwa [decide_eq_true hf] at this) rfl rfl ?_
 refine f_not true false rfl rfl rfl rfl rfl rfl ?_;refine f_move (.bool false) rfl rfl rfl rfl rfl ?_;refine f_want rfl rfl rfl rfl ?_;refine f_move (.slice A ks.length c) rfl rfl rfl rfl rfl ?_;refine f_want rfl rfl rfl rfl ?_
 refine f_call #[.slice A ks.length c] (.bool false) rfl rfl rfl own_rtwice (fun w2 h2=>by
  have:=rtwice_f hn hc w2 (hA.later (hU.step h2))
  rwa [decide_eq_false (fun h=>h hd)] at this) rfl rfl ?_
 refine f_pickF (.bool false) rfl rfl rfl rfl rfl rfl ?_;refine f_end fun w2 hw2=>hK _ _ ?_;replace hU:=hU.step hw2;clear hw2 hK K;refine c_cond false rfl ?_;rw [if_neg (by decide)];refine c_skip ?_;refine hK0 _ _ ?_;clear hK0 K0
 have hpos : 0 < ks.length:=by omega
 refine c_seq fun K hK=>?_;refine c_lit ?_;refine l_move (.slice A ks.length c) rfl rfl rfl rfl rfl ?_
 refine l_call #[.slice A ks.length c] rfl rfl rfl own_hclone (clone_f (fun e=>by
  obtain ⟨b,o,h,_⟩:=hA hpos;rw [e] at h
  cases h) (by omega) w2 (hA.later hU)) rfl rfl ?_
 rintro e w3 ⟨⟨v,rfl,hG⟩,hb3⟩
 refine ⟨v,rfl,?_⟩;have hsz:=hU.size;replace hU:=hU.step hb3;have hG':=hG
 rcases hG.cut with ⟨_,h0⟩ | ⟨g,c',cs,rfl,hbg,hg,hn',hc',_,ht⟩
 ·rw [h0] at hpos
  cases hpos
 refine l_makeMap rfl rfl rfl rfl ?_;have hM:=MapK.new w3 (SK ks);have hal:=(Up.refl w3).alloc (.map #[] 0);have q1:=hU.size;replace hg:=hg.later hal;replace hU:=hU.step hal;generalize w3.alloc (.map #[] 0) = w4 at *;generalize w3.heap.size = m at *;refine l_ops 1 ?_;refine f_build [(0,.slice (some ⟨g,0,none⟩) ks.length c'),(1,.map (some m))] _ rfl rfl rfl rfl rfl (built_ring g ks.length c' m) ?_;refine f_tail fun w5 hw5=>?_;replace hg:=hg.later hw5;replace hM:=hM.keep (hw5.block m hM.lt);replace hU:=hU.step hw5;clear hw5;refine l_boxA #[.slice (some ⟨g,0,none⟩) ks.length c',.map (some m)] rfl rfl rfl rfl rfl fun w6 r hw6 hr b1=>?_
 have q2 : w.heap.size ≤ r:=by rw [hr]; exact hU.size
 replace hg:=hg.later hw6;replace hM:=hM.keep (hw6.block m hM.lt);replace hU:=hU.step hw6;clear hw6 hr;refine l_ops 2 ?_;refine f_assign (ptr r) rfl rfl rfl rfl rfl ?_;refine f_assign (.int .i64 0) rfl rfl rfl rfl rfl ?_;refine f_tail fun w7 hw7=>?_;refine l_nil ?_;refine hK _ _ ?_;refine c_ret fun a ha=>bodyPost_ret (results_tmp2 rfl _ _ _) ha.defers ?_;have hR : RgW w6 w.heap.size r m ks:=⟨hf,q2,q1,⟨g,0,c',b1,Nat.le_trans hsz hbg,hv_row hg hG'.1 ht,hn',hc'⟩,#[],hM⟩;refine ⟨⟨r,m,?_,hR.later hw7⟩,hU.step hw7⟩;have e1 : a.tmps.getD 2 undef = ptr r:=ha.get 2 _ rfl;have e2 : a.tmps.getD 3 undef = .int .i64 0:=ha.get 3 _ rfl;exact congrArg Ending.returned (show Value.tuple #[a.tmps.getD 2 undef,a.tmps.getD 3 undef] = _ by rw [e1,e2])
set_option maxRecDepth 100000 in
set_option maxHeartbeats 1000000 in
theorem rnew7_no {A : Option Addr} {ks : List (List UInt8)} {c : Nat} (hn : ks.length ≤ c) (hc : c ≤ 9223372036854775807) (hf : ¬ ((ks.length = 1 ∨ ks.length = 4 ∨ ks.length = 7) ∧ ks.Nodup)) (w : World) (hA : HV w A ks) :
  Calls Tryd.prog 16 #[.slice A ks.length c] w fun e w'=>e = .returned (.tuple #[.pointer none,.int .i64 2]) ∧ Below w.heap.size w w':=by
 refine calls_F (vs:=[.slice A ks.length c]) 17 Tryd.func16 rfl (by rw [Tryd.ntmps16]; rfl) ?_;have hU:=Up.refl w;refine c_seq fun K hK=>?_;refine c_qF ?_;refine f_assign (.pointer none) rfl rfl rfl rfl rfl ?_;refine f_assign (.int .i64 0) rfl rfl rfl rfl rfl ?_;refine f_end fun w1 hw1=>hK _ _ ?_;replace hU:=hU.step hw1;clear hw1 hK K;refine c_seq fun K0 hK0=>?_;refine c_seq fun K hK=>?_;refine c_qF ?_;refine f_move (.slice A ks.length c) rfl rfl rfl rfl rfl ?_;refine f_lenH A ks.length c rfl rfl rfl rfl rfl ?_;refine f_call #[.int .i64 (ks.length : Int)] (.bool (decide (ks.length = 1 ∨ ks.length = 4 ∨ ks.length = 7))) rfl rfl rfl own_rfit (fun w2 h2=>rfit_f ks.length (by omega) w2) rfl rfl ?_
 by_cases hl : ks.length = 1 ∨ ks.length = 4 ∨ ks.length = 7
 ·have hd : ¬ ks.Nodup:=fun h=>hf ⟨hl,h⟩
  rw [decide_eq_true hl];refine f_not true false rfl rfl rfl rfl rfl rfl ?_;refine f_move (.bool false) rfl rfl rfl rfl rfl ?_;refine f_want rfl rfl rfl rfl ?_;refine f_move (.slice A ks.length c) rfl rfl rfl rfl rfl ?_;refine f_want rfl rfl rfl rfl ?_
  refine f_call #[.slice A ks.length c] (.bool true) rfl rfl rfl own_rtwice (fun w2 h2=>by
   have:=rtwice_f hn hc w2 (hA.later (hU.step h2))
   rwa [decide_eq_true hd] at this) rfl rfl ?_
  refine f_pickF (.bool true) rfl rfl rfl rfl rfl rfl ?_;refine f_end fun w2 hw2=>hK _ _ ?_;refine c_cond true rfl ?_;rw [if_pos rfl];refine c_seq fun K hK=>?_;refine c_qF ?_;refine f_assign (.pointer none) rfl rfl rfl rfl rfl ?_;refine f_assign (.int .i64 2) rfl rfl rfl rfl rfl ?_;refine f_end fun w3 hw3=>hK _ _ ?_;refine c_ret ?_;refine k_then_ret fun a ha=>bodyPost_ret (results_tmp2 rfl _ _ _) ha.defers ⟨?_,(hU.step hw2).step hw3⟩;have e1 : a.tmps.getD 2 undef = .pointer none:=ha.get 2 _ rfl;have e2 : a.tmps.getD 3 undef = .int .i64 2:=ha.get 3 _ rfl;exact congrArg Ending.returned (show Value.tuple #[a.tmps.getD 2 undef,a.tmps.getD 3 undef] = _ by rw [e1,e2])
 ·rw [decide_eq_false hl]
  refine f_not false true rfl rfl rfl rfl rfl rfl ?_;refine f_move (.bool true) rfl rfl rfl rfl rfl ?_;refine f_skip rfl rfl rfl rfl rfl rfl ?_;refine f_skip rfl rfl rfl rfl rfl rfl ?_;refine f_pick (.bool true) rfl rfl rfl rfl rfl rfl ?_;refine f_end fun w2 hw2=>hK _ _ ?_;refine c_cond true rfl ?_;rw [if_pos rfl];refine c_seq fun K hK=>?_;refine c_qF ?_;refine f_assign (.pointer none) rfl rfl rfl rfl rfl ?_;refine f_assign (.int .i64 2) rfl rfl rfl rfl rfl ?_;refine f_end fun w3 hw3=>hK _ _ ?_;refine c_ret ?_;refine k_then_ret fun a ha=>bodyPost_ret (results_tmp2 rfl _ _ _) ha.defers ⟨?_,(hU.step hw2).step hw3⟩;have e1 : a.tmps.getD 2 undef = .pointer none:=ha.get 2 _ rfl;have e2 : a.tmps.getD 3 undef = .int .i64 2:=ha.get 3 _ rfl;exact congrArg Ending.returned (show Value.tuple #[a.tmps.getD 2 undef,a.tmps.getD 3 undef] = _ by rw [e1,e2])
end Go.Proofs.YtminmeljonbogaaDoor
/-
  THE RING: Open.
-/
namespace Go.Proofs.YtminmeljonbogaaDoor
open Go.RowKit Go.IntWalk Nums

theorem fill_one (place : Nat → Option (Nat × Nat)) (i : Nat) (A Z : List Value) (o v : Value) (rest : List (Nat × Value)) (hp : place i = some (A.length,1)) (hv : v.cells = #[v]) :
  Instr.fill place (A ++ (o :: Z)).toArray ((i,v) :: rest) = Instr.fill place (A ++ (v :: Z)).toArray rest:=by
 rw [Instr.fill];simp only [hp,hv];rw [if_neg (by simp)]
 congr 1
 simp
def stz : List Value:=([.int .i64 0,.int .u8 0,.string ⟨#[]⟩] : List Value) ++ By z64
theorem built_stm (i : Int) (t : UInt8) (b : List UInt8) {s : List UInt8} (hs : s.length = 64) : Tryd.prog.built 99 [(0,.int .i64 i),(1,.int .u8 (t.toNat : Int)),(2,.string ⟨b.toArray⟩),(3,.agg (By s).toArray)] = some (#[Value.int .i64 i,.int .u8 (t.toNat : Int),.string ⟨b.toArray⟩] ++ (By s).toArray):=by
 rw [built_of (t:=99) (z:=stz.toArray) (pl:=[(0,1),(1,1),(2,1),(3,64)]) (by kernel_rfl)]
 show Instr.fill _ ([] ++ (Value.int .i64 0 :: (([.int .u8 0,.string ⟨#[]⟩] : List Value) ++ By z64))).toArray _ = _
 rw [fill_one _ 0 [] _ _ _ _ rfl rfl]
 show Instr.fill _ ([Value.int .i64 i] ++ (Value.int .u8 0 :: (([.string ⟨#[]⟩] : List Value) ++ By z64))).toArray _ = _
 rw [fill_one _ 1 [.int .i64 i] _ _ _ _ rfl rfl]
 show Instr.fill _ ([Value.int .i64 i,.int .u8 (t.toNat : Int)] ++ (Value.string ⟨#[]⟩ :: By z64)).toArray _ = _
 rw [fill_one _ 2 [.int .i64 i,.int .u8 (t.toNat : Int)] _ _ _ _ rfl rfl]
 show Instr.fill _ ([Value.int .i64 i,.int .u8 (t.toNat : Int),.string ⟨b.toArray⟩] ++ (By z64 ++ [])).toArray _ = _
 rw [fill_put _ 3 64 [.int .i64 i,.int .u8 (t.toNat : Int),.string ⟨b.toArray⟩] (By z64) [] (By s) [] rfl (by rw [By_len]; exact hs) (by rw [By_len]; rfl)];rw [Instr.fill]
 simp
section
variable {ops : Array Oper} {C0 : World → Prop} {Q : Act → Prop} {N : Nat} {E : List (Nat × Value)} {o : Oper} {rest : List Oper} {k : Nat}
theorem f_look {x y : Operand} (mv key : Value) (v : Value) (hg : o.guard = none) (hd : o.dst = some k) (hk : Nat.blt k N = true) (ho : o.op = .lookup 95 x y true) (hx : ev E x = some mv) (hy : ev E y = some key)
  (hr : ∀ w,C0 w → (Instr.lookup 95 mv key true).run Tryd.prog w = .ok v w) (hn : bF Tryd.prog ops C0 Q rest N ((k,v) :: E)) : bF Tryd.prog ops C0 Q (o :: rest) N E :=
 f_val _ hg hd hk (fun a ha w hw=>by
  have h1:=ha.eval hx;have h2:=ha.eval hy
  unfold execOp
  simp only [ho,h1,h2,Sem.run_bind,hr w hw,Result.andThen_ok,Sem.run_pure]) hn
end
theorem l_mapPut {ops : Array Oper} {Q : Exit → Act → World → Prop} {N : Nat} {E : List (Nat × Value)} {w : World} {o : Oper} {rest : List Oper} {x y z : Operand} {m : Nat} {es : Array MapEntry} {S : Value → Prop} (key : Value) (hg : o.guard = none) (hd : o.dst = none) (ho : o.op = .mapUpdate 95 x y z) (hx : ev E x = some (.map (some m))) (hy : ev E y = some key) (hz : ev E z = some (.agg #[]))
  (h : MapK w m es S) (hS : ∀ v,S v → ∃ l,keyOf Tryd.prog 99 v = some l) (hkey : S key) (hn : ∀ w' es',MapK w' m es' S → w.grownBy w' (some m) → lF Tryd.prog ops Q rest N E w') : lF Tryd.prog ops Q (o :: rest) N E w:=fun a ha=>by
 obtain ⟨w',es',hr,h1,h2⟩:=h.put hS hkey;have h3:=hn w' es' h1 h2 a ha;have e1:=ha.eval hx;have e2:=ha.eval hy;have e3:=ha.eval hz
 unfold wpList
 rw [if_pos (by simp [Region.wanted,hg])];refine .inl ?_
 unfold Oper.wp execOp
 simp only [ho,e1,e2,e3,Sem.run_bind,hr,Result.andThen_ok,Sem.run_pure,Oper.upon,hd];exact h3
theorem size_stm (i : Int) (t : UInt8) (b : List UInt8) {s : List UInt8} (hs : s.length = 64) : (#[Value.int .i64 i,.int .u8 (t.toNat : Int),.string ⟨b.toArray⟩] ++ (By s).toArray).size = 67:=by
 simp [By_len,hs]
theorem one_stm (i : Int) (t : UInt8) (b s : List UInt8) : ∀ v ∈ (#[Value.int .i64 i,.int .u8 (t.toNat : Int),.string ⟨b.toArray⟩] ++ (By s).toArray).toList,v.oneCell' = true:=by
 intro v hv
 simp only [Array.toList_append,List.mem_append] at hv
 rcases hv with hv | hv
 ·simp at hv
  rcases hv with rfl | rfl | rfl <;> rfl
 ·exact By_one s v hv
theorem info_stm : (Tryd.prog.info? 99).map (·.size) = some 67:=by kernel_rfl
section
variable {P : Program} {Rel : World → World → Prop} [hR : RelOk Rel] {ops : Array Oper} {C0 : World → Prop} {Q : Facts → Act → Prop} {N : Nat} {E : List (Nat × Value)} {Fa : Told} {o : Oper} {rest : List (Nat × Oper)} {i : Nat}
theorem g_nop (hg : o.guard = none) (hd : o.dst = none) (hf : farP i Fa = true) (h : ∀ a,Fr N E a → ∀ w,C0 w → Uses o Fa w → (execOp a.eval o).run P w = .ok .skip w) (hn : gF P Rel ops C0 Q rest N E Fa) : gF P Rel ops C0 Q ((i,o) :: rest) N E Fa:=fun a F ha hF=>by
 unfold wpG
 rw [if_pos (by simp [Region.wanted,hg])];refine ⟨fun v _=>v = undef,fun _ _ _ h _=>h,.inl ⟨undef,fun _ _ h=>h⟩,fun w hw he=>?_,fun v w hw _ hV=>hn _ _ (by dsimp only; rw [hd]; exact ha) (hF.up hf)⟩
 have h1:=h a ha w hw fun j p hj hed=>by
  obtain ⟨e,h1,h2,rfl⟩:=edgeTo_spec hed;exact hF _ (lookP_mem hj) w (he e h1 h2)
 dsimp only
 rw [h1];exact ⟨hR.below _ _ (Below.refl _ _),rfl⟩
end
theorem store_unit {ρ : Operand → Value} {o : Oper} {p x : Operand} {g t : Nat} {w : World} (ho : o.op = .store 100 p x) (hp : ρ p = .pointer (some ⟨g,0,none⟩)) (hx : ρ x = .agg #[]) (hb : Blk w g t #[]) : (execOp ρ o).run Tryd.prog w = .ok .skip w:=by
 have hr:=run_store_row (P:=Tryd.prog) w 100 g #[] #[] t hb (by kernel_rfl) rfl (fun v hv=>by simp at hv);rw [setRow_same hb] at hr
 unfold execOp
 simp only [ho,hp,hx,Sem.run_bind,hr,Result.andThen_ok,Sem.run_pure]
theorem ropen_no {v bv : Value} {s : List UInt8} (n : Nat) (i : Int) (t : UInt8) (hi : ¬ (0 ≤ i ∧ i < n)) (w : World) (hz : ∀ w',Up w w' → Calls Tryd.prog 18 #[v] w' fun e w''=>e = .returned (.int .i64 (n : Int)) ∧ Below w'.heap.size w' w'') :
  Calls Tryd.prog 22 #[v,.int .i64 i,.int .u8 (t.toNat : Int),bv,.agg (By s).toArray] w fun e w'=>e = .returned (.bool false) ∧ Below w.heap.size w w':=by
 refine calls_F (vs:=[v,.int .i64 i,.int .u8 (t.toNat : Int),bv,.agg (By s).toArray]) 52 Tryd.func22 rfl (by rw [Tryd.ntmps22]; rfl) ?_;have hU:=Up.refl w;refine c_seq fun K hK=>?_;refine c_lit ?_;refine l_boxA ((By s).toArray) rfl rfl rfl rfl rfl fun w1 g hw1 hg b1=>?_;replace hU:=hU.step hw1;clear hw1 hg;refine l_assign (.bool false) rfl rfl rfl rfl rfl ?_;refine l_nil ?_;refine hK _ _ ?_;clear hK K;refine c_seq fun K0 hK0=>?_;refine c_seq fun K hK=>?_;refine c_qF ?_;refine f_move v rfl rfl rfl rfl rfl ?_;refine f_move (.int .i64 i) rfl rfl rfl rfl rfl ?_
 refine f_call #[v,.int .i64 i] (.bool false) rfl rfl rfl own_rhas (fun w2 h2=>by
  have:=rhas_any n i w2 fun w3 h3=>hz w3 (Up.step (Up.step hU h2) h3)
  rwa [decide_eq_false hi] at this) rfl rfl ?_
 refine f_not false true rfl rfl rfl rfl rfl rfl ?_;refine f_end fun w2 hw2=>hK _ _ ?_;clear hK K;refine c_cond true rfl ?_;rw [if_pos rfl];refine c_seq fun K hK=>?_;refine c_qF ?_;refine f_assign (.bool false) rfl rfl rfl rfl rfl ?_;refine f_end fun w3 hw3=>hK _ _ ?_;refine c_ret ?_;exact k_then_ret fun a ha=>bodyPost_ret (results_tmp rfl _ _ _) ha.defers ⟨congrArg Ending.returned (ha.get 10 _ rfl),(hU.step hw2).step hw3⟩
set_option maxRecDepth 100000 in
set_option maxHeartbeats 2000000 in
open Classical in
theorem ropen_f {base g0 m : Nat} {ks : List (List UInt8)} {bv : Value} {b s : List UInt8} (i : Nat) (t : UInt8) (hi : i < ks.length) (hs : s.length = 64) (w : World) (hT : Ta w) (hv : SB w bv b) (hb : b.length ≤ 140737488355312) (hR : RgW w base g0 m ks) :
  Calls Tryd.prog 22 #[ptr g0,.int .i64 (i : Int),.int .u8 (t.toNat : Int),bv,.agg (By s).toArray] w fun e w'=>e = .returned (.bool (rightB ks[i] s (msg t b))) ∧ RgW w' base g0 m ks ∧ w.grownBy w' (some m):=by
 have hgr : ∀ {a b : World},Up a b → a.grownBy b (some m):=fun h=>⟨h.os,h.tape,h.output,h.size,fun k hk _=>h.block k hk⟩;have hk32 : ks[i].length = 32:=hR.len _ (List.getElem_mem hi);refine calls_F (vs:=[ptr g0,.int .i64 (i : Int),.int .u8 (t.toNat : Int),bv,.agg (By s).toArray]) 52 Tryd.func22 rfl (by rw [Tryd.ntmps22]; rfl) ?_;have hU:=Up.refl w;refine c_seq fun K hK=>?_;refine c_lit ?_;refine l_boxA ((By s).toArray) rfl rfl rfl rfl rfl fun w1 g hw1 hg b1=>?_
 have q1 : w.heap.size ≤ g:=by rw [hg]; exact hU.size
 replace hU:=hU.step hw1;clear hw1 hg;refine l_assign (.bool false) rfl rfl rfl rfl rfl ?_;refine l_nil ?_;refine hK _ _ ?_;clear hK K;refine c_seq fun K0 hK0=>?_;refine c_seq fun K hK=>?_;refine c_qF ?_;refine f_move (ptr g0) rfl rfl rfl rfl rfl ?_;refine f_move (.int .i64 (i : Int)) rfl rfl rfl rfl rfl ?_
 refine f_call #[ptr g0,.int .i64 (i : Int)] (.bool true) rfl rfl rfl own_rhas (fun w2 h2=>by
  have:=rhas_any ks.length (i : Int) w2 fun w3 h3=>rsize_f w3 (hR.later (Up.step (Up.step hU h2) h3))
  rwa [decide_eq_true (show 0 ≤ (i : Int) ∧ (i : Int) < ks.length by omega)] at this) rfl rfl ?_
 refine f_not true false rfl rfl rfl rfl rfl rfl ?_;refine f_end fun w2 hw2=>hK _ _ ?_;clear hK K;refine c_cond false rfl ?_;rw [if_neg (by decide)];refine c_skip ?_;refine hK0 _ _ ?_;clear hK0 K0;replace b1:=b1.later hw2;replace hU:=hU.step hw2;clear hw2
 -- the statement
 refine c_seq fun K hK=>?_;refine c_lit ?_;refine l_ops 6 ?_;refine f_move (.int .i64 (i : Int)) rfl rfl rfl rfl rfl ?_;refine f_move (.int .u8 (t.toNat : Int)) rfl rfl rfl rfl rfl ?_;refine f_move bv rfl rfl rfl rfl rfl ?_;refine f_strB bv b rfl rfl rfl rfl rfl (fun _ h=>hv.later (hU.step h)) ?_;refine f_b64 g hs rfl rfl rfl rfl rfl (fun _ h=>(h.blk b1).range) ?_;refine f_build [(0,.int .i64 (i : Int)),(1,.int .u8 (t.toNat : Int)),(2,.string ⟨b.toArray⟩),(3,.agg (By s).toArray)] _ rfl rfl rfl rfl rfl (built_stm (i : Int) t b hs) ?_;refine f_tail fun w3 hw3=>?_;replace b1:=b1.later hw3;replace hU:=hU.step hw3;clear hw3;refine l_allocA stz.toArray rfl rfl rfl rfl (by kernel_rfl) fun w4 gs hw4 hgs b2=>?_
 have q2 : w.heap.size ≤ gs:=by rw [hgs]; exact hU.size
 have n12 : g ≠ gs:=by have:=b1.lt; omega
 replace b1:=b1.later hw4;replace hU:=hU.step hw4;clear hw4 hgs;obtain ⟨sc,hsc⟩ : ∃ sc,sc = #[Value.int .i64 (i : Int),.int .u8 (t.toNat : Int),.string ⟨b.toArray⟩] ++ (By s).toArray:=⟨_,rfl⟩;have hsz:=size_stm (i : Int) t b hs;have hone:=one_stm (i : Int) t b s
 have hstm : STM (i : Int) t b s = .agg sc:=by rw [hsc]; rfl
 rw [← hsc] at hsz hone ⊢;clear hsc;refine l_set gs _ sc rfl rfl rfl rfl rfl b2 (by rw [hsz]; exact info_stm) (by rw [hsz]; rfl) hone ?_;replace b1:=b1.rowFar n12 sc;replace b2:=b2.row sc;replace hU:=up_row hU q2 sc;generalize World.setRow _ gs sc = w5 at *;refine l_nil ?_;refine k_sub (E':=[(0,ptr g0),(1,.int .i64 (i : Int)),(2,.int .u8 (t.toNat : Int)),(3,bv),(9,ptr g),(11,ptr gs)]) ⟨rfl,rfl,rfl,rfl,rfl,rfl,trivial⟩ ?_;refine hK _ _ ?_;clear hK K
 -- is it kept?
 obtain ⟨bb,oo,c,h1,_,h3,_⟩:=(hR.later hU).keys;obtain ⟨es,hM⟩:=(hR.later hU).map
 have hkey : ∃ l,keyOf Tryd.prog 99 (.agg sc) = some l:=by
  rw [← hstm];refine stm_key ?_ (by unfold maxLen; omega) hs;have:=hR.fit
  simp [Lit.wf,IntKind.min,IntKind.max,IntKind.signed,IntKind.bits]
  omega
 obtain ⟨q,hq⟩ : ∃ q,q = decide (∃ e ∈ es.toList,e.key = .agg sc):=⟨_,rfl⟩
 have hlook : ∀ w',Up w5 w' → (Instr.lookup 95 (.map (some m)) (.agg sc) true).run Tryd.prog w' = .ok (.tuple #[.agg #[],.bool q]) w':=fun w' h=>by
  rw [hq];exact (hM.keep (h.block m hM.lt)).look (SK.key hR.fit) hkey
 refine c_seq fun K0 hK0=>?_;refine c_seq fun K hK=>?_;refine c_g 11 (by decide) (by kernel_rfl) (by kernel_rfl) ?_;refine g_op rfl ?_;refine f_move (ptr g0) rfl rfl rfl rfl rfl ?_;refine g_go ?_;refine g_op rfl ?_;refine f_nilc ⟨g0,0,none⟩ rfl rfl rfl rfl rfl ?_;refine g_go ?_;refine g_op rfl ?_;refine f_fld g0 0 1 rfl rfl rfl rfl rfl (rfld1 g0) ?_;refine g_go ?_;refine g_op rfl ?_;refine f_loadV ⟨g0,1,none⟩ (.map (some m)) (.inr rfl) rfl rfl rfl rfl rfl (fun _ h=>((h.1.blk h1).cell 1).trans rfl) ?_;refine g_go ?_;refine g_op rfl ?_;refine f_row gs 0 sc.toList _ rfl rfl rfl rfl rfl (fun _ h=>(h.1.blk b2).range) Tryd.underlying99 rfl (by rw [Array.length_toList,hsz]; exact info_stm) ?_;refine g_go ?_;refine g_op rfl ?_;refine f_look (.map (some m)) (.agg sc) (.tuple #[.agg #[],.bool q]) rfl rfl rfl rfl rfl rfl (fun _ h=>hlook _ h.1) ?_;refine g_go ?_;refine g_op rfl ?_;refine f_move (.tuple #[.agg #[],.bool q]) rfl rfl rfl rfl rfl ?_;refine g_go ?_;refine g_op rfl ?_;refine f_extract (.agg #[]) rfl rfl rfl rfl rfl rfl ?_;refine g_go ?_;refine g_op rfl ?_;refine f_extract (.bool q) rfl rfl rfl rfl rfl rfl ?_;refine g_go ?_;refine g_alloc #[] w5.heap.size rfl rfl rfl rfl rfl (by kernel_rfl) (fun _ h=>h.size) (fun g w w' h hr=>⟨h.1,h.2.later hr⟩) fun gu _ _ _ _=>?_;refine g_nop rfl rfl rfl (fun a ha w _ hu=>store_unit rfl (ha.eval rfl) (ha.eval rfl) (hu 9 _ rfl (by kernel_rfl)).2) ?_;refine g_end fun w6 hw6 _=>?_;replace b1:=b1.later hw6;replace b2:=b2.later hw6;replace hU:=hU.step hw6;replace h1:=h1.later hw6;replace h3:=h3.later hw6;replace hM:=hM.keep (hw6.block m hM.lt);clear hlook hw6;refine l_assign (.bool q) rfl rfl rfl rfl rfl ?_;refine l_nil ?_;refine k_sub (E':=[(0,ptr g0),(1,.int .i64 (i : Int)),(2,.int .u8 (t.toNat : Int)),(3,bv),(9,ptr g),(11,ptr gs),(13,.bool q)]) ⟨rfl,rfl,rfl,rfl,rfl,rfl,rfl,trivial⟩ ?_;refine hK _ _ ?_;clear hK K;refine c_seq fun K hK=>?_;refine c_qF ?_;refine f_move (.bool q) rfl rfl rfl rfl rfl ?_;refine f_end fun w7 hw7=>hK _ _ ?_;replace b1:=b1.later hw7;replace b2:=b2.later hw7;replace hU:=hU.step hw7;replace h1:=h1.later hw7;replace h3:=h3.later hw7;replace hM:=hM.keep (hw7.block m hM.lt);clear hK K hw7;refine c_cond q rfl ?_
 by_cases hin : ∃ e ∈ es.toList,e.key = .agg sc
 ·rw [decide_eq_true hin] at hq
  subst hq
  have hr : rightB ks[i] s (msg t b) = true:=by
   obtain ⟨e,he,hke⟩:=hin;obtain ⟨j,u,b',s',hj,hk,_,_,hrr⟩:=(hM.2 e he).2;rw [hke,← hstm] at hk;obtain ⟨e1,e2,e3,e4⟩:=stm_inj hk
   obtain rfl : i = j:=by omega
   subst e2 e3 e4
   rwa [getElem!_pos ks i hi] at hrr
  rw [if_pos rfl];refine c_seq fun K hK=>?_;refine c_qF ?_;refine f_assign (.bool true) rfl rfl rfl rfl rfl ?_;refine f_end fun w8 hw8=>hK _ _ ?_;refine c_ret ?_;exact k_then_ret fun a ha=>bodyPost_ret (results_tmp rfl _ _ _) ha.defers ⟨congrArg Ending.returned ((ha.get 10 _ rfl).trans (congrArg Value.bool hr.symm)),hR.later (hU.step hw8),hgr (hU.step hw8)⟩
 rw [decide_eq_false hin] at hq;subst hq;rw [if_neg (by decide)];refine c_skip ?_;refine hK0 _ _ ?_;clear hK0 K0
 -- it is verified
 obtain ⟨bb',oo',e,hlt,hcc⟩:=h3 hR.pos
 injection e with e
 injection e with e1 e2
 subst e1 e2;obtain ⟨hx1,hx2⟩:=hcc i ks[i] (List.getElem?_eq_getElem hi);refine c_seq fun K0 hK0=>?_;refine c_seq fun K hK=>?_;refine c_g 12 (by decide) (by kernel_rfl) (by kernel_rfl) ?_;refine g_op rfl ?_;refine f_move (ptr g0) rfl rfl rfl rfl rfl ?_;refine g_go ?_;refine g_op rfl ?_;refine f_nilc ⟨g0,0,none⟩ rfl rfl rfl rfl rfl ?_;refine g_go ?_;refine g_op rfl ?_;refine f_fld g0 0 0 rfl rfl rfl rfl rfl (rfld0 g0) ?_;refine g_go ?_;refine g_op rfl ?_;refine f_loadV ⟨g0,0,none⟩ (.slice (some ⟨bb,oo,none⟩) ks.length c) (.inl rfl) rfl rfl rfl rfl rfl (fun _ h=>((h.1.blk h1).cell 0).trans rfl) ?_;refine g_go ?_;refine g_op rfl ?_;refine f_move (.int .i64 (i : Int)) rfl rfl rfl rfl rfl ?_;refine g_go ?_;refine g_op rfl ?_;refine f_ix _ (i : Int) ⟨bb,oo + 32 * i,none⟩ rfl rfl rfl rfl rfl rfl (ixHs bb oo ks.length c i hi) ?_;refine g_go ?_;refine g_op rfl ?_;refine f_by bb (oo + 32 * i) hx1 rfl rfl rfl rfl rfl (fun _ h=>rangeAt_later hx2 (h.1.block bb hlt)) ?_;refine g_go ?_;refine g_op rfl ?_;refine f_move (.int .u8 (t.toNat : Int)) rfl rfl rfl rfl rfl ?_;refine g_go ?_;refine g_op rfl ?_;refine f_move bv rfl rfl rfl rfl rfl ?_;refine g_go ?_;refine g_op rfl ?_;refine f_b64 g hs rfl rfl rfl rfl rfl (fun _ h=>(h.1.blk b1).range) ?_;refine g_go ?_;refine g_op rfl ?_;refine f_call #[.agg (By ks[i]).toArray,.int .u8 (t.toNat : Int),bv,.agg (By s).toArray] (.bool (rightB ks[i] s (msg t b))) rfl rfl rfl own_owned (fun w1 h1=>owned_f t hk32 hs w1 (hT.below (hU.step h1.1)) (hv.later (hU.step h1.1)) hb) rfl rfl ?_;refine g_go ?_;refine g_op rfl ?_;refine f_not (rightB ks[i] s (msg t b)) (!rightB ks[i] s (msg t b)) rfl rfl rfl rfl rfl rfl ?_;refine g_go ?_;refine g_end fun w8 hw8 _=>?_;refine l_nil ?_;refine k_sub (E':=[(0,ptr g0),(11,ptr gs),(45,.bool (!rightB ks[i] s (msg t b)))]) ⟨rfl,rfl,rfl,trivial⟩ ?_;refine hK _ _ ?_;replace b2:=b2.later hw8;replace hU:=hU.step hw8;replace h1:=h1.later hw8;replace hM:=hM.keep (hw8.block m hM.lt);clear hK K hw8 hx2 hcc hlt h3 b1;refine c_cond (!rightB ks[i] s (msg t b)) rfl ?_
 by_cases hr : rightB ks[i] s (msg t b) = true
 ·rw [hr,Bool.not_true,if_neg (by decide)]
  refine c_skip ?_;refine hK0 _ _ ?_;clear hK0 K0;refine c_seq fun K hK=>?_;refine c_g 6 (by decide) (by kernel_rfl) (by kernel_rfl) ?_;refine g_op rfl ?_;refine f_move (ptr g0) rfl rfl rfl rfl rfl ?_;refine g_go ?_;refine g_op rfl ?_;refine f_nilc ⟨g0,0,none⟩ rfl rfl rfl rfl rfl ?_;refine g_go ?_;refine g_op rfl ?_;refine f_fld g0 0 1 rfl rfl rfl rfl rfl (rfld1 g0) ?_;refine g_go ?_;refine g_op rfl ?_;refine f_loadV ⟨g0,1,none⟩ (.map (some m)) (.inr rfl) rfl rfl rfl rfl rfl (fun _ h=>((h.1.blk h1).cell 1).trans rfl) ?_;refine g_go ?_;refine g_op rfl ?_;refine f_row gs 0 sc.toList _ rfl rfl rfl rfl rfl (fun _ h=>(h.1.blk b2).range) Tryd.underlying99 rfl (by rw [Array.length_toList,hsz]; exact info_stm) ?_;refine g_go ?_;refine g_op rfl ?_;refine f_build [] #[] rfl rfl rfl rfl rfl (by kernel_rfl) ?_;refine g_go ?_;refine g_end fun w9 hw9 _=>?_;replace hU:=hU.step hw9;replace hM:=hM.keep (hw9.block m hM.lt);refine l_mapPut (.agg sc) rfl rfl rfl rfl rfl rfl hM (SK.key hR.fit) ⟨i,t,b,s,hi,hstm.symm,by unfold maxLen; omega,hs,by rwa [getElem!_pos ks i hi]⟩ fun w10 es' hM' hg10=>?_;refine l_nil ?_;refine hK _ _ ?_;clear hK K
  have hRW : RgW w10 base g0 m ks:=by
   have h0:=hR.later hU;obtain ⟨b0,o0,c0,k1,k2,k3,k4,k5⟩:=h0.keys
   have hne : ∀ {x t cs},Blk w9 x t cs → x ≠ m:=fun {x t cs} hx e=>by
    obtain ⟨⟨cl,hmm⟩,_⟩:=hM;rw [← e] at hmm
    unfold Blk at hx
    rw [hx] at hmm
    cases hmm
   obtain ⟨b0',o0',e0,hlt0,hcc0⟩:=k3 h0.pos
   have hbne : b0 ≠ m:=fun e=>by
    obtain ⟨hl0,hr0⟩:=hcc0 0 ks[0] (List.getElem?_eq_getElem h0.pos)
    injection e0 with e0
    injection e0 with e1 e2
    subst e1 e2;have h5:=hr0 0 _ (List.getElem?_eq_getElem (by rw [By_len,hl0]; decide));obtain ⟨⟨cl,hmm⟩,_⟩:=hM;rw [World.cell?] at h5;simp only [e,hmm] at h5
    cases h5
   exact ⟨h0.fit,h0.gb,h0.mb,⟨b0,o0,c0,(hg10.block g0 k1.lt (fun e=>hne k1 (by injection e))).trans k1,k2,k3.keep hg10.size (fun b' o' e hlt=>by cases e; exact hg10.block _ hlt (fun e=>hbne (by injection e))),k4,k5⟩,es',hM'⟩
  refine c_seq fun K hK=>?_;refine c_qF ?_;refine f_assign (.bool true) rfl rfl rfl rfl rfl ?_;refine f_end fun w11 hw11=>hK _ _ ?_;exact c_ret fun a ha=>bodyPost_ret (results_tmp rfl _ _ _) ha.defers ⟨congrArg Ending.returned ((ha.get 10 _ rfl).trans (congrArg Value.bool hr.symm)),hRW.later hw11,((hgr hU).trans hg10).trans (hgr hw11)⟩
 ·have hr' : rightB ks[i] s (msg t b) = false:=by simpa using hr
  rw [hr',Bool.not_false,if_pos rfl];refine c_seq fun K hK=>?_;refine c_qF ?_;refine f_assign (.bool false) rfl rfl rfl rfl rfl ?_;refine f_end fun w9 hw9=>hK _ _ ?_;refine c_ret ?_;exact k_then_ret fun a ha=>bodyPost_ret (results_tmp rfl _ _ _) ha.defers ⟨congrArg Ending.returned (ha.get 10 _ rfl),hR.later (hU.step hw9),hgr (hU.step hw9)⟩
end Go.Proofs.YtminmeljonbogaaDoor
/-
  PLAIN NUMBERS: the bytes of a known multiple of the base point, reckoned by the kernel. No program is imported.
-/
namespace Nums
def triZ : Tri:=⟨0,1,1⟩
def triB : Tri:=⟨bx,bY,1⟩
theorem triZ_rep : TriRep triZ Ed.zero:=by
 unfold TriRep triZ
 rw [fof_zero,fof_one];exact Ed.Rep.zero prime_p
theorem triB_rep : TriRep triB base:=by
 unfold TriRep triB
 rw [fof_one]
 have e : ∀ u : F,u = u * 1:=fun u=>by grind only
 exact ⟨fun h=>ne_one prime_p h.symm,e _,e _⟩
theorem tri_mul (n : Nat) (hn : n < 2 ^ 256) : TriRep (triMul 256 n triZ triB) (Ed.mul dd n base):=by
 have h:=triMul_rep 256 n triZ triB Ed.zero base hn Ed.on_zero on_base triZ_rep triB_rep
 rwa [Ed.zero_add good] at h
def encTri (t : Tri) (zi : Nat) : List UInt8:=forced (t.y * zi % p) fun y=>forced (t.x * zi % p % 2) fun o=>bytes 32 (y + 57896044618658097711785492504343953926634992332820282019728792003956564819968 * o)
theorem enc_tri {t : Tri} {A : Ed.Pt p} (h : TriRep t A) {zi : Nat} (hz : t.z * zi % p = 1) : encP A = encTri t zi:=by
 have h1 : fof t.z * fof zi = 1:=by
  rw [← fof_mul,← fof_one];exact fof_eq (by rw [hz]; decide)
 have hf : finv (fof t.z) = fof zi:=finv_of prime_p h1;have ha:=h.aff prime_p;rw [hf,← fof_mul,← fof_mul] at ha
 unfold encTri
 simp only [forced_eq];rw [encP,encN,← ha.1,← ha.2,fof_val,fof_val]
theorem enc_mul (n zi : Nat) (b : List UInt8) (hn : n < 2 ^ 256) (h : (forced (triMul 256 n triZ triB).z fun z=>decide (z * zi % p = 1)) = true) (hb : encTri (triMul 256 n triZ triB) zi = b) : encP (Ed.mul dd n base) = b:=by
 rw [forced_eq] at h;rw [enc_tri (tri_mul n hn) (of_decide_eq_true h),hb]
end Nums
/-
  PLAIN NUMBERS: digests reckoned by the kernel: each word once. No program is imported.
-/
namespace Nums

def xsl (s : Sha) (b : List UInt8) : Nat → List Nat
  | 0=>[]
  | t + 1=>sx s b t :: xsl s b t
theorem xsl_len (s : Sha) (b : List UInt8) : ∀ t,(xsl s b t).length = t
 | 0=>rfl
 | t + 1=>by rw [xsl,List.length_cons,xsl_len]
theorem xsl_at (s : Sha) (b : List UInt8) : ∀ t j,j < t → (xsl s b t)[j]! = sx s b (t - 1 - j)
 | 0,_,h=>absurd h (by omega)
 | t + 1,0,_=>by
  show (sx s b t :: xsl s b t)[0]! = _
  rw [Nat.add_sub_cancel,Nat.sub_zero]
  rfl
 | t + 1,j + 1,h=>by
  show (sx s b t :: xsl s b t)[j + 1]! = _
  have e : (sx s b t :: xsl s b t)[j + 1]! = (xsl s b t)[j]!:=by simp
  rw [e,xsl_at s b t j (by omega)]
  congr 1
  omega
def firstF (s : Sha) (b : List UInt8) : Nat → List Nat
  | 0=>[]
  | t + 1=>forced (bword s b t) fun v=>v :: firstF s b t
theorem firstF_eq (s : Sha) (b : List UInt8) : ∀ t,t ≤ 16 → firstF s b t = xsl s b t
 | 0,_=>rfl
 | t + 1,h=>by
  have e : sx s b t = bword s b t:=by rw [sx,dif_pos (by omega)]
  rw [firstF,forced_eq,xsl,firstF_eq s b t (by omega),e]
def grow (s : Sha) : Nat → List Nat → List Nat
  | 0,L=>L
  | k + 1,L=>forced ((loww s.w s.low1 L[1]! + L[6]! + loww s.w s.low0 L[14]! + L[15]!) % 2 ^ s.w) fun v=>grow s k (v :: L)
theorem grow_eq (s : Sha) (b : List UInt8) : ∀ k t,16 ≤ t → grow s k (xsl s b t) = xsl s b (t + k)
 | 0,_,_=>rfl
 | k + 1,t,h=>by
  have e : (loww s.w s.low1 (xsl s b t)[1]! + (xsl s b t)[6]! + loww s.w s.low0 (xsl s b t)[14]! + (xsl s b t)[15]!) % 2 ^ s.w = sx s b t:=by
   rw [xsl_at s b t 1 (by omega),xsl_at s b t 6 (by omega),xsl_at s b t 14 (by omega),xsl_at s b t 15 (by omega)]
   conv=>rhs; rw [sx,dif_neg (by omega)]
   rw [show t - 1 - 1 = t - 2 from by omega,show t - 1 - 6 = t - 7 from by omega,show t - 1 - 14 = t - 15 from by omega,show t - 1 - 15 = t - 16 from by omega]
  rw [grow,forced_eq,e];have h2:=grow_eq s b k (t + 1) (by omega);rw [xsl] at h2;rw [h2]
  congr 1
  omega
def rndF (s : Sha) : List Nat → Nat → Oct → Oct
  | [],_,o=>o
  | x :: r,t,o=>forced (t1w s (s.k t) x o) fun T=>forced ((T + t2w s o) % 2 ^ s.w) fun A=>forced ((o.d + T) % 2 ^ s.w) fun E=>rndF s r (t + 1) ⟨A,o.a,o.b,o.c,E,o.e,o.f,o.g⟩
theorem rndF_eq (s : Sha) (b : List UInt8) (o : Oct) : ∀ (l : List Nat) (t : Nat),(∀ j x,l[j]? = some x → x = sx s b (t + j)) → rndF s l t (rnds s b o t) = rnds s b o (t + l.length)
 | [],_,_=>rfl
 | x :: r,t,h=>by
  have hx:=h 0 x rfl;rw [Nat.add_zero] at hx;subst hx;rw [rndF];simp only [forced_eq];have h2:=rndF_eq s b o r (t + 1) (fun j x hj=>by rw [h (j + 1) x (by simpa using hj)]; congr 1; omega);rw [show rnds s b o (t + 1) = rnd s (s.k t) (sx s b t) (rnds s b o t) from rfl] at h2;rw [show t + (sx s b t :: r).length = t + 1 + r.length from by rw [List.length_cons]; omega,← h2]
  rfl
def add8F (w : Nat) (o q : Oct) : Oct :=
  forced ((o.a + q.a) % 2 ^ w) fun a=>forced ((o.b + q.b) % 2 ^ w) fun b=>forced ((o.c + q.c) % 2 ^ w) fun c=>forced ((o.d + q.d) % 2 ^ w) fun d =>
  forced ((o.e + q.e) % 2 ^ w) fun e=>forced ((o.f + q.f) % 2 ^ w) fun f=>forced ((o.g + q.g) % 2 ^ w) fun g=>forced ((o.h + q.h) % 2 ^ w) fun h=>⟨a,b,c,d,e,f,g,h⟩
theorem add8F_eq (w : Nat) (o q : Oct) : add8F w o q = add8 w o q:=by
 unfold add8F
 simp only [forced_eq]
 rfl
def turnF (s : Sha) (o : Oct) (b : List UInt8) : Oct:=add8F s.w o (rndF s (grow s (s.n - 16) (firstF s b 16)).reverse 0 o)
theorem turnF_eq {s : Sha} (hn : 16 ≤ s.n) (o : Oct) (b : List UInt8) : turnF s o b = turnw s o b:=by
 rw [turnF,add8F_eq,turnw,firstF_eq s b 16 (Nat.le_refl _),grow_eq s b _ 16 (Nat.le_refl _),show 16 + (s.n - 16) = s.n from by omega]
 congr 1
 have h:=rndF_eq s b o (xsl s b s.n).reverse 0 (fun j x hj=>by
  have hl : j < (xsl s b s.n).reverse.length:=(List.getElem?_eq_some_iff.1 hj).1;rw [List.length_reverse,xsl_len] at hl;rw [List.getElem?_reverse (by rw [xsl_len]; exact hl),xsl_len] at hj;have h1:=xsl_at s b s.n (s.n - 1 - j) (by omega);rw [List.getElem!_eq_getElem?_getD,hj] at h1;rw [show 0 + j = s.n - 1 - (s.n - 1 - j) from by omega,← h1]
  rfl)
 rw [List.length_reverse,xsl_len,Nat.zero_add] at h;exact h
def runF (s : Sha) (B : Nat) : Nat → Oct → List UInt8 → Oct
  | 0,o,_=>o
  | k + 1,o,l=>runF s B k (turnF s o (l.take B)) (l.drop B)
theorem runF_eq {s : Sha} {B : Nat} (hB : 0 < B) (hn : 16 ≤ s.n) : ∀ k o l,l.length = k * B → runF s B k o l = runw s B o l
 | 0,o,l,h=>by
  have h0 : l = []:=List.eq_nil_of_length_eq_zero (by omega);subst h0;rw [runF,runw_short (by simpa using hB)]
 | k + 1,o,l,h=>by
  have hl : (l.take B).length = B:=by rw [List.length_take,h,Nat.add_mul]; omega
  have hd : (l.drop B).length = k * B:=by rw [List.length_drop,h,Nat.add_mul]; omega
  rw [runF,turnF_eq hn,runF_eq hB hn k _ _ hd]
  conv=>rhs; rw [← List.take_append_drop B l,runw_block hB hl]
def digestF (s : Sha) (n : Nat) (m : List UInt8) : List UInt8 :=
  ((runF s (2 * s.w) n ⟨s.start[0]!,s.start[1]!,s.start[2]!,s.start[3]!,s.start[4]!,s.start[5]!,s.start[6]!,s.start[7]!⟩ (m ++ tailw (2 * s.w) (m.length % (2 * s.w)) (8 * m.length))).list.map (layw s)).flatten
theorem digest_eq {s : Sha} (n : Nat) (m : List UInt8) (hw : 0 < 2 * s.w) (hn : 16 ≤ s.n) (h : (m ++ tailw (2 * s.w) (m.length % (2 * s.w)) (8 * m.length)).length = n * (2 * s.w)) : digest s m = digestF s n m:=by
 rw [digest,sumw,digestF,runF_eq hw hn n _ _ h]
end Nums
/-
  PLAIN NUMBERS: the ring's first signature (the seed 3, TagPrepare, 'a'), and that it is none under TagCommit, reckoned.
-/
namespace Go.Proofs.YtminmeljonbogaaDoor
open Nums

def threeB : List UInt8:=[3,0,0,0,0,0,0,0,0,0,0,0,0,0,0,0,0,0,0,0,0,0,0,0,0,0,0,0,0,0,0,0]
theorem d_r7 : sgD threeB = [191,212,231,77,109,219,240,133,119,26,161,89,201,28,84,101,237,211,6,84,11,210,200,105,208,58,205,174,122,224,238,234,216,237,89,131,20,125,86,239,70,91,149,93,78,74,12,226,31,28,40,26,141,85,224,141,53,216,22,245,81,99,84,63]:=by
 unfold sgD
 rw [digest_eq 1 _ (by decide) (by decide) (by decide +kernel)]
 decide +kernel
theorem ab_r7 : sgAB threeB = [184,212,231,77,109,219,240,133,119,26,161,89,201,28,84,101,237,211,6,84,11,210,200,105,208,58,205,174,122,224,238,106]:=by
 rw [sgAB,d_r7]
 decide +kernel
theorem a_r7 : le (sgAB threeB) = 48367220849947432486208843686789166725014762780316643509283479588825182229688:=by
 rw [ab_r7]
 decide +kernel
theorem key_r7 : sgKey threeB = [218,219,209,132,162,213,38,241,235,221,92,6,253,173,147,89,178,40,117,155,77,127,121,214,102,137,250,37,74,173,133,70]:=by
 rw [sgKey,a_r7];exact enc_mul _ 37954769380793196558237619650771156873986483488913211011432409956073643907497 _ (by decide) (by decide +kernel) (by decide +kernel)
theorem pre_r7 : sgPre threeB = [216,237,89,131,20,125,86,239,70,91,149,93,78,74,12,226,31,28,40,26,141,85,224,141,53,216,22,245,81,99,84,63]:=by
 rw [sgPre,d_r7]
 decide +kernel
theorem r_r7 : sgR threeB [119,105,116,97,110,3,0,0,0,0,0,0,0,1,97] = 4531169452204090803394677229331530128545514721561914795968891300489592661494:=by
 rw [sgR,pre_r7];rw [digest_eq 1 _ (by decide) (by decide) (by decide +kernel)]
 decide +kernel
theorem rb_r7 : sgRB threeB [119,105,116,97,110,3,0,0,0,0,0,0,0,1,97] = [17,188,136,133,123,128,202,40,206,129,99,78,187,242,216,72,11,123,237,195,64,198,217,219,251,194,196,244,194,214,165,220]:=by
 rw [sgRB,r_r7];exact enc_mul _ 13108823479796650272527436862361337023813587573281038067077788350004841239030 _ (by decide) (by decide +kernel) (by decide +kernel)
theorem ka_r7 : sgK [17,188,136,133,123,128,202,40,206,129,99,78,187,242,216,72,11,123,237,195,64,198,217,219,251,194,196,244,194,214,165,220] [218,219,209,132,162,213,38,241,235,221,92,6,253,173,147,89,178,40,117,155,77,127,121,214,102,137,250,37,74,173,133,70] [119,105,116,97,110,3,0,0,0,0,0,0,0,1,97] = 3969214533217382390652878523075438882486503525511476879073408927711696268131:=by
 have e : [17,188,136,133,123,128,202,40,206,129,99,78,187,242,216,72,11,123,237,195,64,198,217,219,251,194,196,244,194,214,165,220] ++ ([218,219,209,132,162,213,38,241,235,221,92,6,253,173,147,89,178,40,117,155,77,127,121,214,102,137,250,37,74,173,133,70] ++ [119,105,116,97,110,3,0,0,0,0,0,0,0,1,97]) = ([17,188,136,133,123,128,202,40,206,129,99,78,187,242,216,72,11,123,237,195,64,198,217,219,251,194,196,244,194,214,165,220,218,219,209,132,162,213,38,241,235,221,92,6,253,173,147,89,178,40,117,155,77,127,121,214,102,137,250,37,74,173,133,70,119,105,116,97,110,3,0,0,0,0,0,0,0,1,97] : List UInt8):=by decide +kernel
 rw [sgK,e];clear e;rw [digest_eq 1 _ (by decide) (by decide) (by decide +kernel)]
 decide +kernel
theorem kb_r7 : sgK [17,188,136,133,123,128,202,40,206,129,99,78,187,242,216,72,11,123,237,195,64,198,217,219,251,194,196,244,194,214,165,220] [218,219,209,132,162,213,38,241,235,221,92,6,253,173,147,89,178,40,117,155,77,127,121,214,102,137,250,37,74,173,133,70] [119,105,116,97,110,4,0,0,0,0,0,0,0,1,97] = 5277994819885283840663375552996516477133770125967603124496566863138948045819:=by
 have e : [17,188,136,133,123,128,202,40,206,129,99,78,187,242,216,72,11,123,237,195,64,198,217,219,251,194,196,244,194,214,165,220] ++ ([218,219,209,132,162,213,38,241,235,221,92,6,253,173,147,89,178,40,117,155,77,127,121,214,102,137,250,37,74,173,133,70] ++ [119,105,116,97,110,4,0,0,0,0,0,0,0,1,97]) = ([17,188,136,133,123,128,202,40,206,129,99,78,187,242,216,72,11,123,237,195,64,198,217,219,251,194,196,244,194,214,165,220,218,219,209,132,162,213,38,241,235,221,92,6,253,173,147,89,178,40,117,155,77,127,121,214,102,137,250,37,74,173,133,70,119,105,116,97,110,4,0,0,0,0,0,0,0,1,97] : List UInt8):=by decide +kernel
 rw [sgK,e];clear e;rw [digest_eq 1 _ (by decide) (by decide) (by decide +kernel)]
 decide +kernel
theorem not_r7 : ¬ Right (sgKey threeB) (sgSig threeB [119,105,116,97,110,3,0,0,0,0,0,0,0,1,97]) [119,105,116,97,110,4,0,0,0,0,0,0,0,1,97]:=fun h=>by
 have h1:=right_msg (right_own threeB [119,105,116,97,110,3,0,0,0,0,0,0,0,1,97]) h;rw [sgSig_take,key_r7,rb_r7,ka_r7,kb_r7] at h1;exact absurd h1 (by decide)
end Go.Proofs.YtminmeljonbogaaDoor
/-
  LITERAL SLICES OF HASHES; '==' of error numbers; what stays where a ring's map was written.
-/
namespace Go.Proofs.YtminmeljonbogaaDoor
open Go.RowKit Go.IntWalk Nums

theorem fill_hashes : ∀ (hs : List (List UInt8)) (A Z : List Value) (i : Nat),A.length = i * 32 → Z.length = 32 * hs.length → (∀ l ∈ hs,l.length = 32) →
  Instr.fill (fun i=>some (i * 32,32)) (A ++ Z).toArray ((hs.zipIdx i).map fun x=>(x.2,.agg (By x.1).toArray)) = some (A ++ By hs.flatten).toArray
 | [],A,Z,i,_,hZ,_=>by
  obtain rfl:=List.eq_nil_of_length_eq_zero (show Z.length = 0 by simpa using hZ)
  rfl
 | h :: hs,A,Z,i,hA,hZ,hl=>by
  rw [List.length_cons] at hZ;have h32:=hl h (by simp);have e : Z = Z.take 32 ++ Z.drop 32:=(List.take_append_drop 32 Z).symm
  have t32 : (Z.take 32).length = 32:=by rw [List.length_take]; omega
  rw [e,List.zipIdx_cons,List.map_cons];rw [fill_put (fun i=>some (i * 32,32)) i 32 A (Z.take 32) (Z.drop 32) (By h) _ (by rw [hA]) (by rw [By_len,h32]) t32,← List.append_assoc];rw [fill_hashes hs (A ++ By h) (Z.drop 32) (i + 1) (by rw [List.length_append,By_len,h32,hA]; omega) (by rw [List.length_drop]; omega) (fun l hl'=>hl l (by simp [hl']))];rw [List.flatten_cons,By_app,List.append_assoc]
theorem run_sliceH (hs : List (List UInt8)) (n : Nat) (parts : Array (Nat × Value)) (hp : parts.toList = (hs.zipIdx 0).map fun x=>(x.2,.agg (By x.1).toArray)) (hn : hs.length = n) (h0 : 0 < n) (h24 : n * 32 ≤ 16777216) (hl : ∀ l ∈ hs,l.length = 32) (w : World) :
  (Instr.buildSlice 40 n parts).run Tryd.prog w = .ok (.slice (some ⟨w.heap.size,0,none⟩) n n) (w.alloc (.cells (By hs.flatten).toArray 22)):=by
 obtain ⟨ie,z,h2,h3,_,h4,_⟩:=hash_info;refine run_buildSlice w 40 22 n parts (By hs.flatten).toArray ie z Tryd.underlying40 h2 h3 (by rw [h4]; omega) (by rw [h4]; omega) ?_;rw [hp,h4]
 have hz : ((Array.range (n * 32)).map (z.cells[· % z.cells.size]!)).size = n * 32:=by simp
 generalize (Array.range (n * 32)).map (z.cells[· % z.cells.size]!) = Z at *;have:=fill_hashes hs [] Z.toList 0 rfl (by rw [Array.length_toList,hz,hn]; omega) hl
 rwa [List.nil_append,List.nil_append,Array.toArray_toList] at this
section
variable {ops : Array Oper} {Q : Exit → Act → World → Prop} {N : Nat} {E : List (Nat × Value)} {w : World} {o : Oper} {rest : List Oper} {k : Nat}
theorem l_sliceH {n : Nat} {parts : Array (Nat × Operand)} (hs : List (List UInt8)) (hw : WG ops N E o) (hd : o.dst = some k) (hk : Nat.blt k N = true) (ho : o.op = .buildSlice 40 n parts)
  (hv : parts.toList.map (fun p=>(p.1,ev E p.2)) = (hs.zipIdx 0).map fun x=>(x.2,some (.agg (By x.1).toArray))) (hn : hs.length = n) (h0 : 0 < n) (h24 : n * 32 ≤ 16777216) (hl : ∀ l ∈ hs,l.length = 32)
  (hk2 : ∀ W g,Up w W → HV W (some ⟨g,0,none⟩) hs → lF Tryd.prog ops Q rest N ((k,.slice (some ⟨g,0,none⟩) n n) :: E) W) : lF Tryd.prog ops Q (o :: rest) N E w:=by
 refine l_valW (.slice (some ⟨w.heap.size,0,none⟩) n n) (w.alloc (.cells (By hs.flatten).toArray 22)) hw hd hk (fun a ha=>?_) (hk2 _ w.heap.size ((Up.refl w).alloc _) ?_)
 ·have hm : ∀ (l : List (Nat × Operand)) (m : List (List UInt8 × Nat)),l.map (fun p=>(p.1,ev E p.2)) = m.map (fun x=>(x.2,some (.agg (By x.1).toArray))) → l.map (fun (i,x)=>(i,a.eval x)) = m.map fun x=>(x.2,.agg (By x.1).toArray):=by
   intro l
   induction l with
   | nil=>intro m h; cases m with
    | nil=>rfl
    | cons=>cases h
   | cons p l ih=>intro m h; cases m with
    | nil=>cases h
    | cons u m =>
     simp only [List.map_cons,List.cons.injEq,Prod.mk.injEq] at h ⊢;exact ⟨⟨h.1.1,ha.eval h.1.2⟩,ih m h.2⟩
  have hr:=run_sliceH hs n (parts.map fun (i,x)=>(i,a.eval x)) (by rw [Array.toList_map]; exact hm _ _ hv) hn h0 h24 hl w
  unfold execOp
  simp only [ho,Sem.run_bind,hr,Result.andThen_ok,Sem.run_pure]
 ·exact hv_row (Blk.new w _ _) hl (List.take_of_length_le (by simp [By_len,flat32 hl]))
end
section
variable {ops : Array Oper} {C0 : World → Prop} {Q : Act → Prop} {N : Nat} {E : List (Nat × Value)} {o : Oper} {rest : List Oper} {k : Nat}
theorem f_eqlEr {x y : Operand} {t : TypeId} (m n : Int) (q : Bool) (hg : o.guard = none) (hd : o.dst = some k) (hk : Nat.blt k N = true) (ho : o.op = .binOp .eql 42 x y t) (hx : ev E x = some (.int .i64 m)) (hy : ev E y = some (.int .i64 n))
  (hr : decide (m = n) = q) (hn : bF Tryd.prog ops C0 Q rest N ((k,.bool q) :: E)) : bF Tryd.prog ops C0 Q (o :: rest) N E :=
 f_val _ hg hd hk (fun a ha w _=>by
  have h1:=ha.eval hx;have h2:=ha.eval hy;subst hr
  unfold execOp
  simp only [ho,h1,h2]
  by_cases e : m = n <;> go_simp) hn
theorem f_neqEr {x y : Operand} {t : TypeId} (m n : Int) (q : Bool) (hg : o.guard = none) (hd : o.dst = some k) (hk : Nat.blt k N = true) (ho : o.op = .binOp .neq 42 x y t) (hx : ev E x = some (.int .i64 m)) (hy : ev E y = some (.int .i64 n))
  (hr : decide (m ≠ n) = q) (hn : bF Tryd.prog ops C0 Q rest N ((k,.bool q) :: E)) : bF Tryd.prog ops C0 Q (o :: rest) N E :=
 f_val _ hg hd hk (fun a ha w _=>by
  have h1:=ha.eval hx;have h2:=ha.eval hy;subst hr
  unfold execOp
  simp only [ho,h1,h2]
  by_cases e : m = n <;> go_simp) hn
end
section
variable {w w' w0 : World} {base g0 m g t : Nat} {ks : List (List UInt8)} {cs : Array Value}
theorem RgW.ne (h : RgW w base g0 m ks) (hb : Blk w g t cs) : g ≠ m:=fun e=>by
 obtain ⟨es,⟨cl,hm⟩,_⟩:=h.map;rw [← e] at hm
 unfold Blk at hb
 rw [hb] at hm
 cases hm
theorem blk_grown (h : w.grownBy w' (some m)) (hR : RgW w base g0 m ks) (hb : Blk w g t cs) : Blk w' g t cs:=(h.block g hb.lt (fun e=>hR.ne hb (by injection e))).trans hb
theorem up_grown (hU : Up w0 w) (h : w.grownBy w' (some m)) (hm : w0.heap.size ≤ m) : Up w0 w':=hU.grown h hU.size (fun k hk=>by cases hk; exact hm)
end
theorem builtThree : Tryd.prog.built 22 [(0,.int .u8 3)] = some (By threeB).toArray:=by kernel_rfl
open Classical in
theorem rightB_own7 (seed m : List UInt8) : rightB (sgKey seed) (sgSig seed m) m = true:=by
 unfold rightB
 exact decide_eq_true (right_own seed m)
theorem msg_pa : msg 3 [97] = [119,105,116,97,110,3,0,0,0,0,0,0,0,1,97]:=by decide
theorem msg_ca : msg 4 [97] = [119,105,116,97,110,4,0,0,0,0,0,0,0,1,97]:=by decide
open Classical in
theorem first_no : rightB (sgKey threeB) (sgSig threeB (msg 3 [97])) (msg 4 [97]) = false:=by
 unfold rightB
 rw [msg_pa,msg_ca];exact decide_eq_false not_r7
end Go.Proofs.YtminmeljonbogaaDoor
/-
  THE RING'S LAWS: first.
-/
namespace Go.Proofs.YtminmeljonbogaaDoor
open Go.RowKit Go.IntWalk Nums

theorem own_lfirst7 : Own 15:=fun _ _=>by go_simp
set_option maxRecDepth 100000 in
set_option maxHeartbeats 2000000 in
theorem lfirst7_f (w : World) (hT : Ta w) : Calls Tryd.prog 15 #[] w fun e w'=>e = .returned (.bool true) ∧ Below w.heap.size w w':=by
 refine calls_F (vs:=[]) 57 Tryd.func15 rfl (by rw [Tryd.ntmps15]; rfl) ?_;have hU:=Up.refl w;refine c_seq fun K hK=>?_;refine c_qF ?_;refine f_assign (.bool false) rfl rfl rfl rfl rfl ?_;refine f_end fun w1 hw1=>hK _ _ ?_;replace hU:=hU.step hw1;clear hw1 hK K
 -- s
 refine c_seq fun K hK=>?_;refine c_lit ?_;refine l_ops 1 ?_;refine f_build [(0,.int .u8 3)] (By threeB).toArray rfl rfl rfl rfl rfl builtThree ?_;refine f_tail fun w2 hw2=>?_;replace hU:=hU.step hw2;clear hw2;refine l_allocA z32 rfl rfl rfl rfl (by kernel_rfl) fun w3 g1 hw3 hg1 b1=>?_
 have q1 : w.heap.size ≤ g1:=by rw [hg1]; exact hU.size
 replace hU:=hU.step hw3;clear hw3 hg1;refine l_set g1 _ ((By threeB).toArray) rfl rfl rfl rfl rfl b1 (size_H rfl) (by rw [len_by (rfl : threeB.length = 32)]; rfl) (By_oneA _) ?_;replace b1:=b1.row ((By threeB).toArray);replace hU:=up_row hU q1 ((By threeB).toArray);generalize World.setRow _ g1 (By threeB).toArray = w4 at *;refine l_nil ?_;refine hK _ _ ?_;clear hK K
 -- r, e
 refine c_seq fun K hK=>?_;refine c_lit ?_;refine l_ops 2 ?_;refine f_by g1 0 (rfl : threeB.length = 32) rfl rfl rfl rfl rfl (fun _ h=>(h.blk b1).range) ?_;refine f_call #[.agg (By threeB).toArray] (.agg (By (sgKey threeB)).toArray) rfl rfl rfl own_public (fun w1 h1=>public_f (rfl : threeB.length = 32) w1 (hT.below (hU.step h1))) rfl rfl ?_;refine f_tail fun w5 hw5=>?_;replace b1:=b1.later hw5;replace hU:=hU.step hw5;clear hw5;have hk32 : (sgKey threeB).length = 32:=sgKey_len _;generalize hkey : sgKey threeB = key at *;refine l_sliceH [key] (.inl rfl) rfl rfl rfl rfl rfl (by decide) (by decide) (fun l hl=>by rw [List.mem_singleton.1 hl]; exact hk32) fun w6 gk hw6 hV=>?_;replace b1:=b1.later hw6;replace hU:=hU.step hw6;clear hw6;refine l_call #[.slice (some ⟨gk,0,none⟩) 1 1] rfl rfl rfl own_rnew7 (rnew7_yes (ks:=[key]) (Nat.le_refl _) (show 1 ≤ 9223372036854775807 by decide) (.inl rfl) (by simp) w6 hV) rfl rfl ?_
 rintro e w7 ⟨⟨gr,m,rfl,hR⟩,hb7⟩
 refine ⟨_,rfl,?_⟩;have qm : w.heap.size ≤ m:=Nat.le_trans hU.size hR.mb;replace b1:=b1.later hb7;replace hU:=hU.step hb7;clear hb7 hV;refine l_ops 5 ?_;refine f_move (.tuple #[ptr gr,.int .i64 0]) rfl rfl rfl rfl rfl ?_;refine f_extract (ptr gr) rfl rfl rfl rfl rfl rfl ?_;refine f_extract (.int .i64 0) rfl rfl rfl rfl rfl rfl ?_;refine f_assign (ptr gr) rfl rfl rfl rfl rfl ?_;refine f_assign (.int .i64 0) rfl rfl rfl rfl rfl ?_;refine f_tail fun w8 hw8=>?_;replace b1:=b1.later hw8;replace hR:=hR.later hw8;replace hU:=hU.step hw8;clear hw8;refine l_nil ?_;refine k_sub (E':=[(1,ptr g1),(2,ptr gr),(3,.int .i64 0)]) ⟨rfl,rfl,rfl,trivial⟩ ?_;refine hK _ _ ?_;clear hK K
 -- _, f
 refine c_seq fun K hK=>?_;refine c_lit ?_;refine l_ops 2 ?_;refine f_build [(0,.int .u8 1)] (By oneB).toArray rfl rfl rfl rfl rfl builtOne ?_;refine f_build [(0,.int .u8 2)] (By twoB).toArray rfl rfl rfl rfl rfl builtTwo ?_;refine f_tail fun w9 hw9=>?_;replace b1:=b1.later hw9;replace hR:=hR.later hw9;replace hU:=hU.step hw9;clear hw9;refine l_sliceH [oneB,twoB] (.inl rfl) rfl rfl rfl rfl rfl (by decide) (by decide) (fun l hl=>by simp only [List.mem_cons,List.not_mem_nil,or_false] at hl; rcases hl with rfl | rfl <;> rfl) fun w10 g2 hw10 hV=>?_;replace b1:=b1.later hw10;replace hR:=hR.later hw10;replace hU:=hU.step hw10;clear hw10;refine l_call #[.slice (some ⟨g2,0,none⟩) 2 2] rfl rfl rfl own_rnew7 (rnew7_no (ks:=[oneB,twoB]) (Nat.le_refl _) (by decide) (by simp) w10 hV) rfl rfl ?_
 rintro e w11 ⟨rfl,hb11⟩
 refine ⟨_,rfl,?_⟩;replace b1:=b1.later hb11;replace hR:=hR.later hb11;replace hU:=hU.step hb11;clear hb11 hV;refine l_ops 5 ?_;refine f_move (.tuple #[.pointer none,.int .i64 2]) rfl rfl rfl rfl rfl ?_;refine f_extract (.pointer none) rfl rfl rfl rfl rfl rfl ?_;refine f_extract (.int .i64 2) rfl rfl rfl rfl rfl rfl ?_;refine f_assign (.pointer none) rfl rfl rfl rfl rfl ?_;refine f_assign (.int .i64 2) rfl rfl rfl rfl rfl ?_;refine f_tail fun w12 hw12=>?_;replace b1:=b1.later hw12;replace hR:=hR.later hw12;replace hU:=hU.step hw12;clear hw12;refine l_nil ?_;refine k_sub (E':=[(1,ptr g1),(2,ptr gr),(3,.int .i64 0),(5,.int .i64 2)]) ⟨rfl,rfl,rfl,rfl,trivial⟩ ?_;refine hK _ _ ?_;clear hK K
 -- sig
 refine c_seq fun K hK=>?_;refine c_lit ?_;refine l_ops 1 ?_;refine f_by g1 0 (rfl : threeB.length = 32) rfl rfl rfl rfl rfl (fun _ h=>(h.blk b1).range) ?_;refine f_tail fun w13 hw13=>?_;replace hR:=hR.later hw13;replace hU:=hU.step hw13;clear hw13 b1;refine l_lit1 97 (.inl rfl) rfl rfl rfl rfl (fun _=>.inl rfl) rfl rfl rfl fun w14 g3 hw14 hs=>?_;replace hR:=hR.later hw14;replace hU:=hU.step hw14;clear hw14;obtain ⟨s,hsd⟩ : ∃ s,s = sgSig threeB (msg 3 [97]):=⟨_,rfl⟩
 have hs64 : s.length = 64:=by rw [hsd]; exact sgSig_len _ _
 refine l_ops 1 ?_
 refine f_call #[.agg (By threeB).toArray,.int .u8 3,.slice (some ⟨g3,0,none⟩) 1 1] (.agg (By s).toArray) rfl rfl rfl own_seal (fun w1 h1=>by
  rw [hsd]
  exact seal_f (seed:=threeB) 3 rfl w1 (hT.below (hU.step h1)) (hs.later h1) (by decide)) rfl rfl ?_
 refine f_tail fun w15 hw15=>?_;replace hR:=hR.later hw15;replace hU:=hU.step hw15;clear hw15 hs;refine l_allocA ((By z64).toArray) rfl rfl rfl rfl zero64 fun w16 g6 hw16 hg6 b6=>?_
 have q6 : w.heap.size ≤ g6:=by rw [hg6]; exact hU.size
 replace hU:=hU.step hw16;refine l_set g6 _ ((By s).toArray) rfl rfl rfl rfl rfl b6 (size_64 hs64) (by rw [List.size_toArray,List.size_toArray,By_len,By_len,hs64]; rfl) (By_oneA _) ?_;replace b6:=b6.row ((By s).toArray);replace hR:=hR.later (up_row hw16 (Nat.le_of_eq hg6.symm) ((By s).toArray));replace hU:=up_row hU q6 ((By s).toArray);clear hw16 hg6;generalize World.setRow _ g6 (By s).toArray = w17 at *;refine l_nil ?_;refine k_sub (E':=[(2,ptr gr),(3,.int .i64 0),(5,.int .i64 2),(6,ptr g6)]) ⟨rfl,rfl,rfl,rfl,trivial⟩ ?_;refine hK _ _ ?_;clear hK K;refine c_seq fun K hK=>?_;refine c_lit ?_;refine l_ops 18 ?_;refine f_move (.int .i64 0) rfl rfl rfl rfl rfl ?_;refine f_eqlEr 0 0 true rfl rfl rfl rfl rfl rfl rfl ?_;refine f_move (.bool true) rfl rfl rfl rfl rfl ?_;refine f_want rfl rfl rfl rfl ?_;refine f_move (.int .i64 2) rfl rfl rfl rfl rfl ?_;refine f_want rfl rfl rfl rfl ?_;refine f_eqlEr 2 2 true rfl rfl rfl rfl rfl rfl rfl ?_;refine f_pick (.bool true) rfl rfl rfl rfl rfl rfl ?_;refine f_move (.bool true) rfl rfl rfl rfl rfl ?_;refine f_want rfl rfl rfl rfl ?_;refine f_move (ptr gr) rfl rfl rfl rfl rfl ?_;refine f_want rfl rfl rfl rfl ?_;refine f_call #[ptr gr] (.int .i64 1) rfl rfl rfl own_rsize (fun w1 h1=>rsize_f w1 (hR.later h1)) rfl rfl ?_;refine f_want rfl rfl rfl rfl ?_;refine f_eqlI 1 1 true rfl rfl rfl rfl rfl rfl rfl ?_;refine f_pick (.bool true) rfl rfl rfl rfl rfl rfl ?_;refine f_move (.bool true) rfl rfl rfl rfl rfl ?_;refine f_want rfl rfl rfl rfl ?_;refine f_move (ptr gr) rfl rfl rfl rfl rfl ?_;refine f_want rfl rfl rfl rfl ?_;refine f_call #[ptr gr] (.int .i64 1) rfl rfl rfl own_rquorum (fun w1 h1=>rquorum_any 1 (by decide) w1 fun w2 h2=>rsize_f w2 (hR.later (Up.step h1 h2))) rfl rfl ?_;refine f_want rfl rfl rfl rfl ?_;refine f_eqlI 1 1 true rfl rfl rfl rfl rfl rfl rfl ?_;refine f_pick (.bool true) rfl rfl rfl rfl rfl rfl ?_;refine f_move (.bool true) rfl rfl rfl rfl rfl ?_;refine f_want rfl rfl rfl rfl ?_;refine f_move (ptr gr) rfl rfl rfl rfl rfl ?_;refine f_tail fun w18 hw18=>?_;replace b6:=b6.later hw18;replace hR:=hR.later hw18;replace hU:=hU.step hw18;clear hw18;refine l_lit1 97 (.inr ⟨16,true,42,rfl,rfl,rfl,rfl⟩) rfl rfl rfl rfl (fun _=>.inr ⟨16,true,42,rfl,rfl,rfl,rfl⟩) rfl rfl rfl fun w19 g4 hw19 hs=>?_;replace b6:=b6.later hw19;replace hR:=hR.later hw19;replace hU:=hU.step hw19;clear hw19;refine l_ops 1 ?_;refine f_want rfl rfl rfl rfl ?_;refine f_b64 g6 hs64 rfl rfl rfl rfl rfl (fun _ h=>(h.blk b6).range) ?_;refine f_tail fun w20 hw20=>?_;replace b6:=b6.later hw20;replace hR:=hR.later hw20;replace hU:=hU.step hw20;replace hs:=hs.later hw20;clear hw20;refine l_guard (.inr ⟨16,true,42,rfl,rfl,rfl,rfl⟩) ?_;refine l_call #[ptr gr,.int .i64 0,.int .u8 3,.slice (some ⟨g4,0,none⟩) 1 1,.agg (By s).toArray] rfl rfl rfl own_ropen (ropen_f (ks:=[key]) (b:=[97]) 0 3 Nat.zero_lt_one hs64 w20 (hT.below hU) hs (by decide) hR) rfl rfl ?_
 rintro e w21 ⟨rfl,hR',hgr⟩
 refine ⟨_,rfl,?_⟩
 have e1 : rightB [key][0] s (msg 3 [97]) = true:=by
  rw [hsd,← hkey];exact rightB_own7 threeB _
 rw [e1];replace b6:=blk_grown hgr hR b6;replace hU:=up_grown hU hgr qm;replace hR:=hR';clear hgr hR' hs;refine l_ops 3 ?_;refine f_pick (.bool true) rfl rfl rfl rfl rfl rfl ?_;refine f_move (.bool true) rfl rfl rfl rfl rfl ?_;refine f_want rfl rfl rfl rfl ?_;refine f_move (ptr gr) rfl rfl rfl rfl rfl ?_;refine f_tail fun w22 hw22=>?_;replace b6:=b6.later hw22;replace hR:=hR.later hw22;replace hU:=hU.step hw22;clear hw22;refine l_lit1 97 (.inr ⟨23,true,49,rfl,rfl,rfl,rfl⟩) rfl rfl rfl rfl (fun _=>.inr ⟨23,true,49,rfl,rfl,rfl,rfl⟩) rfl rfl rfl fun w23 g5 hw23 hs=>?_;replace b6:=b6.later hw23;replace hR:=hR.later hw23;replace hU:=hU.step hw23;clear hw23;refine l_ops 1 ?_;refine f_want rfl rfl rfl rfl ?_;refine f_b64 g6 hs64 rfl rfl rfl rfl rfl (fun _ h=>(h.blk b6).range) ?_;refine f_tail fun w24 hw24=>?_;replace hR:=hR.later hw24;replace hU:=hU.step hw24;replace hs:=hs.later hw24;clear hw24 b6;refine l_guard (.inr ⟨23,true,49,rfl,rfl,rfl,rfl⟩) ?_;refine l_call #[ptr gr,.int .i64 0,.int .u8 4,.slice (some ⟨g5,0,none⟩) 1 1,.agg (By s).toArray] rfl rfl rfl own_ropen (ropen_f (ks:=[key]) (b:=[97]) 0 4 Nat.zero_lt_one hs64 w24 (hT.below hU) hs (by decide) hR) rfl rfl ?_
 rintro e w25 ⟨rfl,hR',hgr⟩
 refine ⟨_,rfl,?_⟩
 have e2 : rightB [key][0] s (msg 4 [97]) = false:=by
  rw [hsd,← hkey];exact first_no
 rw [e2];replace hU:=up_grown hU hgr qm;refine l_ops 3 ?_;refine f_want rfl rfl rfl rfl ?_;refine f_not false true rfl rfl rfl rfl rfl rfl ?_;refine f_pick (.bool true) rfl rfl rfl rfl rfl rfl ?_;refine f_assign (.bool true) rfl rfl rfl rfl rfl ?_;refine f_tail fun w26 hw26=>?_;refine l_nil ?_;refine hK _ _ ?_;exact c_ret fun a ha=>bodyPost_ret (results_tmp rfl _ _ _) ha.defers ⟨congrArg Ending.returned (ha.get 0 _ rfl),hU.step hw26⟩
end Go.Proofs.YtminmeljonbogaaDoor
/-
  FROM A WALK TO A LAW'S ROW: the arguments read behind the call as they read before; arrays of 32 bytes, opened.
-/
namespace Go.Proofs.YtminmeljonbogaaDoor
open Go.ChangeShapes Go.WideShapes Go.ChangeAt Go.RowKit

theorem own : ownKnob Tryd.prog.godebug = none:=by kernel_rfl
theorem laidOut : laidOutB Tryd.prog = true:=by kernel_rfl

section
variable {H : Type} {enc : TypeId × Value → H} {W W' : World}

theorem trodAll_below : ∀ {ts : List TypeId} {vs : List Value} {ds : List (DataW H)} {p : List MemPlace},(∀ t ∈ ts,Tryd.prog.readableRec t = true ∧ t < Tryd.prog.types.size) →
  DataW.TrodAll enc Tryd.prog W 0 (fun _=>true) true ts vs ds p → Below W.heap.size W W' → (∀ x ∈ p,x.block < W.heap.size) → DataW.TrodAll enc Tryd.prog W' 0 (fun b=>decide (b < W.heap.size)) true ts vs ds p
 | [],_,_,_,_,h,_,_=>by
  obtain ⟨rfl,rfl,rfl⟩:=trodAll_nil h;exact trodAll_mk0
 | t :: ts,_,_,_,hts,h,hb,hlt=>by
  obtain ⟨v,vs',d,ds',p,q,rfl,rfl,rfl,h0,h1⟩:=trodAll_cons h;obtain ⟨hr,hz⟩:=hts t (by simp);exact trodAll_cons_mk (Below.trod laidOut hr hz h0 hb (fun x hx=>hlt x (by simp [hx]))) (trodAll_below (fun u hu=>hts u (by simp [hu])) h1 hb (fun x hx=>hlt x (by simp [hx])))

theorem law_post {f : Func} {s : ChangeSpec} {args : Array Value} {ds gs : List (DataW H)} {before : List MemPlace} (hf : f.resultTypes = #[4]) (hvars : s.vars = [])
  (hts : ∀ t ∈ f.params.toList,Tryd.prog.readableRec t = true ∧ t < Tryd.prog.types.size)
  (hW : DataW.Whole enc Tryd.prog f.params.toList s.vars false W args.toList ds gs before) (hs : s.fn H (ds ++ gs) = { results:=[.lit (.bool true)],args:=ds }) (hb : Below W.heap.size W W') :
  s.post enc Tryd.prog f false true false false W args (.bool true) W':=by
 have hW':=hW;obtain ⟨p,q,hA,hV,rfl,_,_⟩:=hW;rw [hvars] at hV;obtain ⟨rfl,rfl⟩:=trodVars_none hV;have hlt : ∀ x ∈ p,x.block < W.heap.size:=fun x hx=>hW'.lt x (by simp [hx]);refine ⟨ds,[],p ++ [],[],p,[],hW',?_,?_,?_,hb.frame _,fun h=>by cases h⟩
 ·rw [hs,hf]
  exact trodAll_mk1 (shut_bool Tryd.underlying4 true)
 ·rw [hs]
  exact trodAll_below hts hA hb hlt
 ·rw [hs,hvars]
  rfl
end

theorem cells8 : Tryd.prog.cellsOf 5 = 1:=by kernel_rfl
theorem cells_h : Tryd.prog.cellsOf 22 = 32:=by kernel_rfl
theorem one_of {l : List Value} {i : Nat} {v : Value} (h : (l.drop (i * 1)).take 1 = [v]) : l[i]? = some v:=by
 rw [Nat.mul_one] at h
 have h1 : ((l.drop i).take 1)[0]? = some v:=by rw [h]; rfl
 rw [List.getElem?_take,if_pos (by omega),List.getElem?_drop] at h1
 simpa using h1

/-! ### Arrays of 32 bytes -/
theorem okWide_array {P : Program} {w : World} {r : Reach} {base n : Nat} {t e : TypeId} {v : Value} (ht : P.underlying t = some (.array n e)) (h : Value.okWide P w r base t v) : ∃ cs,v = .agg cs ∧ cs.size = P.cellsOf t:=by
 simp only [Value.okWide,ht] at h;obtain ⟨cs,h1,h2,_⟩:=h;exact ⟨cs,h1,h2⟩

theorem by_of {cs : List Value} (hl : cs.length = 32) (h : ∀ i,i < 32 → ∃ n : Int,cs[i]? = some (.int .u8 n) ∧ 0 ≤ n ∧ n < 256) : ∃ l : List UInt8,l.length = 32 ∧ cs = By l:=by
 refine ⟨cs.map fun v=>match v with | .int _ n=>UInt8.ofNat n.toNat | _=>0,by simp [hl],?_⟩
 apply List.ext_getElem (by simp [By])
 intro i h1 h2
 obtain ⟨n,hn,h0,h3⟩:=h i (by omega)
 have e : cs[i] = .int .u8 n:=by
  have:=List.getElem?_eq_getElem h1;rw [hn] at this;exact (Option.some.inj this).symm
 simp only [By,List.getElem_map,e]
 congr 1
 rw [UInt8.toNat_ofNat']
 omega

end Go.Proofs.YtminmeljonbogaaDoor
/-
  FROM A WALK TO A LAW'S ROW: slices of bytes and arrays of 64 bytes, opened.
-/
namespace Go.Proofs.YtminmeljonbogaaDoor
open Go.RowKit Go.IntWalk
open Go.ChangeShapes Go.WideShapes Go.ChangeAt

theorem open_bytes {H : Type} {enc : TypeId × Value → H} {W : World} {held : Bool} {fuel : Nat} {cs : List Value} {x : DataW H × List MemPlace} (h : DataW.trod enc Tryd.prog W 0 (fun _=>true) held fuel 23 cs = some x) :
  ∃ (A : Option Addr) (l : List UInt8) (c : Nat),cs = [.slice A l.length c] ∧ SL W 0 W.heap.size A l c:=by
 rcases open_ints Tryd.underlying23 Tryd.underlying5 cells8 h with ⟨rfl,rfl⟩ | ⟨a,len,cap,zs,rfl,_,hl,hm,hz,rfl,hcell,hwz⟩
 ·exact ⟨none,[],0,rfl,SL.nil _ _ _⟩
 ·have hz' : zs.length = cap:=hz
  have hlen : ((zs.take len).map fun z=>UInt8.ofNat z.toNat).length = len:=by simp; omega
  refine ⟨some a,(zs.take len).map fun z=>UInt8.ofNat z.toNat,cap,by rw [hlen],by rw [hlen]; exact hl,by unfold maxLen at hm; omega,fun h=>(by cases h),fun hpos=>⟨a,rfl,Nat.zero_le _,?_,fun j x hx=>?_⟩⟩
  ·have h0 : 0 < zs.length:=by rw [hlen] at hpos; omega
   have:=World.block_lt_of_cell? W _ (hcell 0 h0)
   rwa [block_add] at this
  ·simp only [List.getElem?_map,List.getElem?_take,Option.map_eq_some_iff] at hx
   obtain ⟨z,hz,rfl⟩:=hx
   split at hz
   ·have hj:=(List.getElem?_eq_some_iff.1 hz).1
    have hb:=range_u8 hwz j
    have hg : zs.getD j 0 = z:=by simp [List.getD,hz]
    rw [hz] at hb;simp only [Option.getD_some] at hb;rw [hcell j hj,hg]
    have e : (UInt8.ofNat z.toNat).toNat = z.toNat:=by
     simp
     omega
    rw [e,Int.toNat_of_nonneg hb.1]
   ·cases hz

theorem cells_w : Tryd.prog.cellsOf 32 = 64:=by kernel_rfl
theorem by_of64 {cs : List Value} (hl : cs.length = 64) (h : ∀ i,i < 64 → ∃ n : Int,cs[i]? = some (.int .u8 n) ∧ 0 ≤ n ∧ n < 256) : ∃ l : List UInt8,l.length = 64 ∧ cs = By l:=by
 refine ⟨cs.map fun v=>match v with | .int _ n=>UInt8.ofNat n.toNat | _=>0,by simp [hl],?_⟩
 apply List.ext_getElem (by simp [By])
 intro i h1 h2
 obtain ⟨n,hn,h0,h3⟩:=h i (by omega)
 have e : cs[i] = .int .u8 n:=by
  have:=List.getElem?_eq_getElem h1;rw [hn] at this;exact (Option.some.inj this).symm
 simp only [By,List.getElem_map,e]
 congr 1
 rw [UInt8.toNat_ofNat']
 omega
set_option maxRecDepth 20000 in
theorem open_w64 {H : Type} {enc : TypeId × Value → H} {W : World} {base : Nat} {v : Value} {d : DataW H} {p : List MemPlace} (hv : Value.okWide Tryd.prog W .any base 32 v) (h : DataW.Trod enc Tryd.prog W 0 (fun _=>true) true 32 v d p) :
  ∃ l : List UInt8,l.length = 64 ∧ v = .agg (By l).toArray:=by
 obtain ⟨cs,rfl,_⟩:=okWide_array Tryd.underlying32 hv;obtain ⟨fuel,hf⟩:=h;obtain ⟨xs,m,rfl,_,hlen,hn,hel⟩:=DataW.trod_array Tryd.underlying32 hf;rw [cells_w] at hlen
 obtain ⟨l,hl,e⟩:=by_of64 hlen (fun i hi=>by
  have h0:=hel i hi;rw [cells8] at h0;obtain ⟨x,hx⟩ : ∃ x,xs[i]? = some x:=⟨xs[i]'(by omega),List.getElem?_eq_getElem (by omega)⟩;rw [hx] at h0;obtain ⟨n,e1,_,hw⟩:=DataW.trod_int Tryd.underlying5 h0;have hb:=bounds_u8 hw
  exact ⟨n,one_of e1,by omega,by omega⟩)
 refine ⟨l,hl,?_⟩
 congr 1
 apply Array.ext'
 exact e
end Go.Proofs.YtminmeljonbogaaDoor
/-
  FROM A WALK TO A LAW'S ROW: the three tables' cells, from what the row lists.
-/
namespace Go.Proofs.YtminmeljonbogaaDoor
open Go.ChangeShapes Go.WideShapes Go.ChangeAt Go.RowKit Nums

def laid3 : List (String × DataW Unit):=[("witan/field.twice",Rows.laid_witan_field_twice),("witan/sha.starts",Rows.laid_witan_sha_starts),("witan/sha.steps",Rows.laid_witan_sha_steps)]
theorem cells64 : Tryd.prog.cellsOf 56 = 1:=by kernel_rfl
theorem door_met (os : Os) (args : Array Value) : laidMetH Tryd.prog laid3 ((World.doorLaid Tryd.prog 400 os).forCall (fun _ _=>0) ⟨#[],args,[]⟩).memory :=
 laidMetH_of_parts3 (fuel:=8) (laidMet_of_run' 8 (by kernel_rfl) (by kernel_rfl)) (by kernel_rfl) (by kernel_rfl)
set_option maxRecDepth 20000 in
theorem table_cells {W : World} {nm : String} {g g0 t0 tid n fuel : Nat} {l : List Nat} {datum : DataW Unit} {cs : List Value} {p : List MemPlace} (hg : Tryd.prog.globalNamed nm = some g) (ht : (Tryd.prog.globals[g]?).map (·.type) = some tid) (hu : Tryd.prog.underlying tid = some (.array n 56))
  (hd : datum = .agg (l.map fun (x : Nat)=>.lit (.int .u64 (x : Int)))) (hg0 : Tryd.prog.globalNamed nm = some g0) (ht0 : (Tryd.prog.globals[g0]?).map (·.type) = some t0) (hv0 : W.var? Tryd.prog nm = some cs.toArray) (hd0 : DataW.trod (fun _=>()) Tryd.prog W 0 (fun _=>true) false fuel t0 cs = some (datum,p)) :
  ∀ i,i < n → W.cell? ⟨g,i,none⟩ = some (.int .u64 (l[i]! : Nat)):=by
 obtain rfl:=Option.some.inj (hg.symm.trans hg0);obtain rfl:=Option.some.inj (ht.symm.trans ht0);obtain ⟨xs,m1,rfl,hx1,hlen,hn5,hel⟩:=DataW.trod_array hu hd0;have hx2:=congrArg Prod.fst hx1;rw [hd] at hx2
 injection hx2 with hx2
 intro i hi
 have h0:=hel i hi;rw [cells64] at h0;obtain ⟨x,hxi⟩ : ∃ x,xs[i]? = some x:=⟨xs[i]'(by omega),List.getElem?_eq_getElem (by omega)⟩;rw [hxi] at h0;obtain ⟨n',e1,e2,_⟩:=DataW.trod_int Tryd.underlying56 h0
 have hll : l.length = n:=by
  have:=congrArg List.length hx2;simp only [List.length_map] at this
  omega
 have h3 : (l.map fun (x : Nat)=>(DataW.lit (.int .u64 (x : Int)) : DataW Unit))[i]? = (xs.map (·.1))[i]?:=by rw [hx2]
 rw [List.getElem?_map,List.getElem?_map,hxi,List.getElem?_eq_getElem (by omega)] at h3;simp only [Option.map_some,Option.some.injEq] at h3;rw [e2] at h3
 have hn : n' = ((l[i]! : Nat) : Int):=by
  rw [getElem!_pos l i (by omega)]
  injection h3 with h3
  injection h3 with _ h3
  exact h3.symm
 subst hn;have hcell:=World.var?_cell hg hv0 i;rw [hcell];have:=one_of e1
 simpa using this
set_option maxRecDepth 20000 in
theorem of_laid {W : World} (h : laidMetH Tryd.prog laid3 W) : Ta W:=by
 rw [MakeChecks.laidMetH_plain _ _ _ (by kernel_rfl)] at h;obtain ⟨ps,⟨g0,t0,cs0,f0,p0,q0,hg0,ht0,hv0,hd0,⟨g1,t1,cs1,f1,p1,q1,hg1,ht1,hv1,hd1,⟨g2,t2,cs2,f2,p2,q2,hg2,ht2,hv2,hd2,_,_⟩,_⟩,_⟩,_,_⟩:=h;have c0:=table_cells (l:=twl) (n:=5) (g:=1) (tid:=75) (by kernel_rfl) (by kernel_rfl) Tryd.underlying75 (by kernel_rfl) hg0 ht0 hv0 hd0;have c1:=table_cells (l:=sqs) (n:=8) (g:=0) (tid:=142) (by kernel_rfl) (by kernel_rfl) Tryd.underlying142 (by kernel_rfl) hg1 ht1 hv1 hd1;have c2:=table_cells (l:=cbs) (n:=80) (g:=2) (tid:=172) (by kernel_rfl) (by kernel_rfl) Tryd.underlying172 (by kernel_rfl) hg2 ht2 hv2 hd2;exact ⟨⟨c0,World.block_lt_of_cell? W ⟨1,0,none⟩ (c0 0 (by omega))⟩,⟨⟨c2,World.block_lt_of_cell? W ⟨2,0,none⟩ (c2 0 (by omega))⟩,c1,World.block_lt_of_cell? W ⟨0,0,none⟩ (c1 0 (by omega))⟩⟩
end Go.Proofs.YtminmeljonbogaaDoor
/-
  FROM A WALK TO A LAW'S ROW: slices of hashes, opened.
-/
namespace Go.Proofs.YtminmeljonbogaaDoor
open Go.RowKit Go.IntWalk
open Go.ChangeShapes Go.WideShapes Go.ChangeAt

set_option maxRecDepth 20000 in
theorem hash_cells {H : Type} {enc : TypeId × Value → H} {W : World} {held : Bool} {fuel : Nat} {cs : List Value} {x : DataW H × List MemPlace} (h : DataW.trod enc Tryd.prog W 0 (fun _=>true) held fuel 22 cs = some x) :
  ∃ l : List UInt8,l.length = 32 ∧ cs = By l:=by
 obtain ⟨xs,m,rfl,_,hlen,hn,hel⟩:=DataW.trod_array Tryd.underlying22 h;rw [cells_h] at hlen
 exact by_of hlen (fun i hi=>by
  have h0:=hel i hi;rw [cells8] at h0;obtain ⟨x,hx⟩ : ∃ x,xs[i]? = some x:=⟨xs[i]'(by omega),List.getElem?_eq_getElem (by omega)⟩;rw [hx] at h0;obtain ⟨n,e1,_,hw⟩:=DataW.trod_int Tryd.underlying5 h0;have hb:=bounds_u8 hw
  exact ⟨n,one_of e1,by omega,by omega⟩)
theorem pick_list {α : Type} (P : Nat → α → Prop) : ∀ n,(∀ i,i < n → ∃ l,P i l) → ∃ ks : List α,ks.length = n ∧ ∀ i l,ks[i]? = some l → P i l
 | 0,_=>⟨[],rfl,fun i l h=>by simp at h⟩
 | n + 1,h=>by
  obtain ⟨ks,hl,hk⟩:=pick_list P n fun i hi=>h i (by omega);obtain ⟨l,hp⟩:=h n (by omega);refine ⟨ks ++ [l],by simp [hl],fun i x hx=>?_⟩
  by_cases hi : i < ks.length
  ·rw [List.getElem?_append_left hi] at hx
   exact hk i x hx
  ·rw [List.getElem?_append_right (by omega)] at hx
   have h0 : i - ks.length = 0:=by
    by_cases e : i - ks.length = 0
    ·exact e
    ·rw [List.getElem?_eq_none (by simp; omega)] at hx
     cases hx
   rw [h0] at hx
   obtain rfl : l = x:=by simpa using hx
   obtain rfl : i = n:=by omega
   exact hp
theorem open_hashes {H : Type} {enc : TypeId × Value → H} {W : World} {held : Bool} {fuel : Nat} {cs : List Value} {x : DataW H × List MemPlace} (h : DataW.trod enc Tryd.prog W 0 (fun _=>true) held fuel 40 cs = some x) :
  ∃ (A : Option Addr) (ks : List (List UInt8)) (c : Nat),cs = [.slice A ks.length c] ∧ (A = none → c = 0 ∧ ks = []) ∧ ks.length ≤ c ∧ c ≤ 9223372036854775807 ∧ HV W A ks ∧ ((c = 0 ∧ ks = []) ∨ ∃ es rs,x.1 = .slice es rs ∧ es.length + rs.length = c):=by
 rcases DataW.trod_slice Tryd.underlying40 h with ⟨rfl,_⟩ | ⟨a,len,cap,elems,rest,n,rfl,rfl,rfl,_,hl,hm,hlen,hel,hsp,_⟩
 ·exact ⟨none,[],0,rfl,fun _=>⟨rfl,rfl⟩,Nat.le_refl _,by decide,fun h=>absurd h (by simp),.inl ⟨rfl,rfl⟩⟩
 ·rw [cells_h] at hel
  obtain ⟨hr,_⟩:=hsp rfl
  obtain ⟨ks,hk1,hk2⟩:=pick_list (fun i (l : List UInt8)=>l.length = 32 ∧ W.cells? 0 (a.add (i * 32)) 32 = some (By l)) len fun i hi=>by
   have h0:=hel i hi;rw [List.getElem?_eq_getElem (by omega)] at h0
   cases hc : W.cells? 0 (a.add (i * 32)) 32 with
   | none=>rw [hc] at h0; cases h0
   | some cs =>
    rw [hc] at h0;obtain ⟨l,hl32,rfl⟩:=hash_cells h0;exact ⟨l,hl32,rfl⟩
  subst hk1;refine ⟨some a,ks,cap,rfl,fun e=>(by cases e),hl,(by unfold maxLen at hm; omega),fun hpos=>?_,.inr ⟨_,_,rfl,by simp; omega⟩⟩
  have hcell : ∀ i l,ks[i]? = some l → l.length = 32 ∧ ∀ j v,(By l)[j]? = some v → W.cell? (a.add (i * 32 + j)) = some v:=fun i l hi=>by
   obtain ⟨h32,hc⟩:=hk2 i l hi;refine ⟨h32,fun j v hj=>?_⟩;obtain ⟨_,_,h3⟩:=World.cells?_some hc
   have hj32 : j < 32:=by
    have:=(List.getElem?_eq_some_iff.1 hj).1
    rwa [By_len,h32] at this
   have:=h3 j hj32;rw [Addr.add_add,hj] at this;exact this
  have hb:=World.cells?_block (hk2 0 _ (List.getElem?_eq_getElem hpos)).2 (by decide);rw [Nat.zero_mul] at hb;obtain ⟨b,o,sp⟩:=a
  have hsp0 : sp = none:=by
   obtain ⟨h32,hc⟩:=hcell 0 _ (List.getElem?_eq_getElem hpos);have:=hc 0 _ (By_at? (by omega));rw [Nat.zero_mul,show (⟨b,o,sp⟩ : Addr).add (0 + 0) = ⟨b,o,sp⟩ from rfl,World.cell?] at this
   cases sp with
   | none=>rfl
   | some s =>
    exfalso
    dsimp only at this
    split at this
    ·simp at this
    ·cases this
  subst hsp0;refine ⟨b,o,rfl,hb,fun i l hi=>?_⟩;obtain ⟨h32,hc⟩:=hcell i l hi;refine ⟨h32,fun j v hj=>?_⟩;have:=hc j v hj;rw [Addr.add_mid] at this
  rwa [Nat.add_assoc,Nat.mul_comm 32 i]
end Go.Proofs.YtminmeljonbogaaDoor
