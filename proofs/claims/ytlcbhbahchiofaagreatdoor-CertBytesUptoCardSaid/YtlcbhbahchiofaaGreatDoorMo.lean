/-
  SEVERAL TEXTS IN ONE: TpW, FpW, WrW, CtR, CtC, CbW, FbW, SmW, EncMul, ShaK, CtOne.
-/
import Derived.Test.YtlcbhbahchiofaaGreatDoorMn
import Derived.Test.YtlcbhbahchiofaaGreatDoorMe
import Derived.Test.YtlcbhbahchiofaaGreatDoorMm
import Derived.Test.YtlcbhbahchiofaaGreatDoorMk
import Derived.Test.YtlcbhbahchiofaaGreatDoorMj
/-
  THE DOCUMENT'S TAPE, over states.
-/
namespace Go.Proofs.YtlcbhbahchiofaaGreatDoor
open Go.RowKit Go.IntWalk

def tpW (A : Option Addr) (c : Nat) (B : List UInt8) (p e : Nat) : List Pt:=[.one (.v (.slice A B.length c)),.one (.v (.int .i64 (p : Int))),.one (.v (.int .i64 (e : Int)))]
abbrev TapS (g : Nat) (A : Option Addr) (c : Nat) (B : List UInt8) (p e : Nat) : Res:=ObjS g 64 (tpW A c B p e)
theorem own_ttake : Own 57:=fun _ _=>by go_simp
theorem own_tnum : Own 43:=fun _ _=>by go_simp
theorem own_tupto : Own 42:=fun _ _=>by go_simp
theorem own_tnext : Own 41:=fun _ _=>by go_simp
theorem own_tsig : Own 44:=fun _ _=>by go_simp
theorem own_tend : Own 26:=fun _ _=>by go_simp
section
variable {N : Nat} {E : SE} {o : Oper} {x y z : Operand}
theorem run_cut2 {A : Option Addr} {n c i j : Nat} (hi : i ≤ j) (hj : j ≤ c) (hA : A = none → c = 0) (ho : o.op = .slice 22 x (some y) (some z) none) (hx : evS E x = some (.v (.slice A n c))) (hy : evS E y = some (.v (.int .i64 (i : Int)))) (hz : evS E z = some (.v (.int .i64 (j : Int)))) :
  ∀ (G : Nat → Nat) (a : Act) (w : World),Fr N (denE G E) a → (execOp a.eval o).run Tryz.prog w = .ok (.value ((SV.v (.slice (cutA A c i) (j - i) (c - i))).den G)) w:=fun G a w ha=>by
 have h1 : a.eval x = .slice A n c:=ha.eval (evS_ok hx);have h2 : a.eval y = .int .i64 (i : Int):=ha.eval (evS_ok hy);have h6 : a.eval z = .int .i64 (j : Int):=ha.eval (evS_ok hz)
 have h3 : (i : Int) ≤ (j : Int):=by omega
 have h4 : (0 : Int) ≤ (i : Int):=by omega
 have h5 : (j : Int) ≤ (c : Int):=by omega
 have h7 : (0 : Int) ≤ (j : Int):=by omega
 unfold execOp
 simp only [ho];generalize a.eval = ρ at *;simp only [Option.map,h1,h2,h6]
 show _ = Result.ok (Next.value (.slice (cutA A c i) (j - i) (c - i))) w
 cases A with
 | none =>
  obtain rfl : c = 0:=hA rfl
  obtain rfl : j = 0:=by omega
  obtain rfl : i = 0:=by omega
  go_simp
  rfl
 | some ad =>
  unfold cutA
  by_cases e : c = i
  ·rw [if_pos e]
   obtain rfl : j = i:=by omega
   subst e
   go_simp
  ·rw [if_neg e]
   go_simp
end
set_option maxRecDepth 100000 in
set_option maxHeartbeats 1000000 in
theorem ttake_S (g : Nat) {A : Option Addr} {c p : Nat} {B : List UInt8} (s : Rds) (k : Nat) (hp : p ≤ B.length) (hs : B.drop p = s.1) : Spec 57 [ptr g,.int .i64 (k : Int)] [TapS g A c B p s.2] (Rd 1 eB A c B)
  { ret:=fun x : Option Addr × Nat × Nat=>.v (.slice x.1 (tkO k s).length x.2.1),own:=fun x=>[TapS g A c B x.2.2 (tkS k s).2],p:=fun x w=>(x.2.2 ≤ B.length ∧ B.drop x.2.2 = (tkS k s).1) ∧ Rd 1 eB x.1 x.2.1 (tkO k s) w }:=by
 refine spec_S [.c (.v (ptr g)),.c (.v (.int .i64 (k : Int)))] 48 Tryz.func57 rfl (by rw [Tryz.ntmps57]; rfl) (two_ok trivial trivial) fun b=>?_;refine s_pure (B.length ≤ c ∧ (A = none → c = 0) ∧ c ≤ 9223372036854775807) (fun w h _=>⟨h.1,h.2.2.1,h.2.1⟩) fun ⟨hlc,hA,hcm⟩=>?_
 have hsl : s.1.length = B.length - p:=by rw [← hs,List.length_drop]
 refine s_auto TY_ok rfl ?_;refine s_seq fun K hK=>?_;refine s_regA TY_ok rfl fun K1 hK1=>?_;refine l_ldO TY_ok rfl rfl rfl rfl rfl rfl (obj_own 0 rfl) ?_;refine l_autoS TY_ok rfl ?_;refine s_end (hK1 _ ?_);refine s_ifD ((s.2 : Int) ≠ 0) rfl (fun h0=>?_) (fun h0=>?_)
 ·have h0 : s.2 ≠ 0:=by omega
  obtain ⟨e1,e2⟩:=tk_stick (k:=k) h0;refine s_auto TY_ok rfl ?_;exact s_ret (k_ret TY_ok (none,0,p) rfl (by decide) rfl (by rw [e1]; rfl) (by rw [e2]) (fun w hF _=>by rw [e1,e2]; exact ⟨⟨hp,hs⟩,Rd.nil _ _ _⟩) (fun _ _=>trivial))
 have h0 : s.2 = 0:=by omega
 refine s_skip (hK _ ?_);refine s_seq fun K2 hK2=>?_;refine s_regD 12 (by decide) (by kernel_rfl) (by kernel_rfl) fun K3 hK3 G S w0 hst=>?_;refine g_autoS TY_ok hst rfl ?_;refine g_ldO TY_ok hst rfl rfl rfl rfl rfl rfl (obj_own 0 rfl) ?_;refine g_autoS TY_ok hst rfl ?_;refine g_ldO TY_ok hst rfl rfl rfl rfl rfl rfl (obj_own 0 rfl) ?_;refine g_autoS TY_ok hst rfl ?_;refine g_endS hst ?_;refine l_eq 21 (.b (decide (B.length - p < k))) rfl (congrArg SV.b (decide_eq_decide.2 (by rw [wrapI (r:=((B.length - p : Nat) : Int)) (by omega) (by omega) (by omega)]; omega))) ?_;refine s_end (hK3 _ ?_);refine s_ifD (B.length - p < k) rfl (fun h1=>?_) (fun h1=>?_)
 ·obtain ⟨e1,e2⟩:=tk_less (k:=k) h0 (by omega)
  refine s_regA TY_ok rfl fun K4 hK4=>?_;refine l_stO TY_ok 0 rfl rfl rfl rfl rfl rfl rfl ?_;refine s_end (hK4 _ ?_);refine s_auto TY_ok rfl ?_;exact s_ret (k_ret TY_ok (none,0,p) rfl (by decide) rfl (by rw [e1]; rfl) (by rw [e2]; rfl) (fun w hF _=>by rw [e1,e2]; exact ⟨⟨hp,hs⟩,Rd.nil _ _ _⟩) (fun _ _=>trivial))
 have hkl : k ≤ s.1.length:=by omega
 obtain ⟨e1,e2⟩:=tk_take (k:=k) h0 hkl;refine s_skip (hK2 _ ?_);refine s_regA TY_ok rfl fun K5 hK5=>?_;refine l_ldO TY_ok rfl rfl rfl rfl rfl rfl (obj_own 0 rfl) ?_;refine l_autoS TY_ok rfl ?_;refine l_num 30 ((p + k : Nat) : Int) rfl (wrapI (by omega) (by omega) (by omega)) ?_;refine l_stO TY_ok 0 rfl rfl rfl rfl rfl rfl rfl ?_;refine s_end (hK5 _ ?_);refine s_regD 16 (by decide) (by kernel_rfl) (by kernel_rfl) fun K6 hK6 G S w0 hst=>?_;refine g_autoS TY_ok hst rfl ?_;refine g_ldO TY_ok hst rfl rfl rfl rfl rfl rfl (obj_own 0 rfl) ?_;refine g_autoS TY_ok hst rfl ?_;refine g_ldO TY_ok hst rfl rfl rfl rfl rfl rfl (obj_own 0 rfl) ?_;refine g_autoS TY_ok hst rfl ?_;refine g_num 42 (p : Int) rfl (wrapI (by omega) (by omega) (by omega)) ?_;refine g_ldO TY_ok hst rfl rfl rfl rfl rfl rfl (obj_own 0 rfl) ?_;refine g_opS (.v (.slice (cutA A c p) (p + k - p) (c - p))) trivial rfl rfl rfl (run_cut2 (by omega) (by omega) hA rfl rfl rfl rfl) ?_;refine g_autoS TY_ok hst rfl ?_;refine g_endS hst ?_;refine s_end (hK6 _ ?_)
 have e4 : (tkO k s).length = p + k - p:=by rw [e1,List.length_take]; omega
 refine s_ret (k_ret TY_ok (cutA A c p,c - p,p + k) rfl (by decide) rfl (by rw [e4]; rfl) (by rw [e2]; dsimp only [TapS,tpW]; rw [h0]; rfl) (fun w hF _=>?_) (fun _ _=>trivial));rw [e1,e2];refine ⟨⟨by show p + k ≤ _; omega,by show B.drop (p + k) = s.1.drop k; rw [← hs,List.drop_drop]⟩,?_⟩;rw [← hs];exact (hF.part hp).take k
theorem step_u (a : Nat) (x : UInt8) : IntKind.u64.wrap (IntKind.u64.wrap (256 * (a : Int)) + IntKind.u64.wrap (x.toNat : Int)) = (step a x : Int):=by
 rw [u64_is,u64_is,u64_is]
 unfold step
 have:=x.toNat_lt
 omega
set_option maxRecDepth 100000 in
set_option maxHeartbeats 1000000 in
theorem tnum_S (g : Nat) {A : Option Addr} {c p : Nat} {B : List UInt8} (s : Rds) (hp : p ≤ B.length) (hs : B.drop p = s.1) : Spec 43 [ptr g] [TapS g A c B p s.2] (Rd 1 eB A c B)
  { ret:=fun _ : Nat=>.v (.int .u64 (nuO s : Int)),own:=fun x=>[TapS g A c B x (nuS s).2],p:=fun x _=>x ≤ B.length ∧ B.drop x = (nuS s).1 }:=by
 refine spec_S [.c (.v (ptr g))] 20 Tryz.func43 rfl (by rw [Tryz.ntmps43]; rfl) (one_ok trivial) fun b=>?_;refine s_auto TY_ok rfl ?_;refine s_auto TY_ok rfl ?_;refine s_seq fun K hK=>?_;refine s_regA TY_ok rfl fun K1 hK1=>?_;refine l_callA [ptr g,.int .i64 ((8 : Nat) : Int)] rfl rfl rfl own_ttake rfl rfl (fun _ _=>rfl) (ttake_S g s 8 hp hs) (fun w h _=>h) fun ⟨A1,c1,p'⟩=>?_;refine l_R [TapS g A c B p' (nuS s).2] rfl ?_;refine l_autoS TY_ok rfl ?_;refine s_end (hK1 _ ?_);have hl : (tkO 8 s).length ≤ 8:=(tkO_le 8 s).1;have hv0 : nuO s = val (tkO 8 s):=rfl;generalize tkO 8 s = l at *;refine s_block ?_
 let F : Nat → Env:=fun i=>⟨[(9,.v (.int .i64 (i : Int))),(8,.v (.int .i64 (l.length : Int))),(7,.v (.slice A1 l.length c1)),(3,.v (.int .u64 (val (l.take i) : Int)))],[],[TapS g A c B p' (nuS s).2],fun w=>(p' ≤ B.length ∧ B.drop p' = (nuS s).1) ∧ Rd 1 eB A1 c1 l w,fun _=>True⟩
 refine c_weak (e':=F 0) ⟨⟨rfl,rfl,rfl,rfl,trivial⟩,trivial,.refl _,fun _ h _=>h.1,fun _ _=>trivial⟩ (s_loop (fun i=>l.length - i) F (fun i=>i ≤ l.length) ?_ 0 (Nat.zero_le _))
 intro i hi
 refine s_auto TY_ok rfl ?_;refine s_seq fun K1 hK1=>?_;refine s_ifD ((i : Int) < (l.length : Int)) rfl (fun hlt=>?_) (fun hge=>?_)
 ·have hlt : i < l.length:=by omega
  obtain ⟨x,hx⟩ : ∃ x,l[i]? = some x:=⟨_,List.getElem?_eq_getElem hlt⟩;have hv:=val_next hx;refine s_skip (hK1 _ ?_);refine s_seq fun K2 hK2=>?_;refine s_block ?_;refine s_regA TY_ok rfl fun K3 hK3=>?_;refine l_elem TY_ok rfl rfl rfl i rfl hx rfl rfl (rd_fact fun w h _=>h.2) ?_;refine l_autoS TY_ok rfl ?_;refine s_end (hK3 _ ?_);refine s_lit ?_;refine l_autoS TY_ok rfl ?_;refine l_num 3 (val (l.take (i + 1)) : Int) rfl (by rw [hv]; exact step_u _ _) ?_;refine s_end (hK2 _ ?_);refine s_autoE TY_ok rfl ?_;exact k_next (i + 1) hlt (by omega) ⟨⟨congrArg some (congrArg SV.v (congrArg (Value.int .i64) (wrapI rfl (by omega) (by omega)))),rfl,rfl,rfl,trivial⟩,trivial,.refl _,fun _ h _=>h,fun _ h=>h⟩
 ·obtain rfl : l.length = i:=by omega
  refine s_exit (k_pass (k_pass (k_out ?_)));refine hK _ ?_;rw [List.take_length];refine s_auto TY_ok rfl ?_;exact s_ret (k_ret TY_ok p' rfl (by decide) rfl (by rw [hv0]; rfl) rfl (fun _ h _=>h.1) (fun _ _=>trivial))
set_option maxRecDepth 100000 in
theorem tupto_S (g : Nat) {A : Option Addr} {c p : Nat} {B : List UInt8} (s : Rds) (m : Nat) (hm : m ≤ 9223372036854775807) (hp : p ≤ B.length) (hs : B.drop p = s.1) : Spec 42 [ptr g,.int .u64 (m : Int)] [TapS g A c B p s.2] (Rd 1 eB A c B)
  { ret:=fun _ : Nat=>.v (.int .i64 (moO m s : Int)),own:=fun x=>[TapS g A c B x (moS m s).2],p:=fun x _=>x ≤ B.length ∧ B.drop x = (moS m s).1 }:=by
 refine spec_S [.c (.v (ptr g)),.c (.v (.int .u64 (m : Int)))] 16 Tryz.func42 rfl (by rw [Tryz.ntmps42]; rfl) (two_ok trivial trivial) fun b=>?_;refine s_auto TY_ok rfl ?_;refine s_regA TY_ok rfl fun K1 hK1=>?_;refine l_callA [ptr g] rfl rfl rfl own_tnum rfl rfl (fun _ _=>rfl) (tnum_S g s hp hs) (fun w h _=>h) fun p'=>?_;refine l_R [TapS g A c B p' (nuS s).2] rfl ?_;refine l_autoS TY_ok rfl ?_;refine s_end (hK1 _ ?_);refine s_seq fun K2 hK2=>?_;refine s_auto TY_ok rfl ?_;refine s_ifD ((nuO s : Int) > (m : Int)) rfl (fun h1=>?_) (fun h1=>?_)
 ·have e1 : moO m s = 0:=if_pos (by omega)
  have e2 : moS m s = ((nuS s).1,12):=if_pos (by omega);refine s_regA TY_ok rfl fun K4 hK4=>?_;refine l_stO TY_ok 0 rfl rfl rfl rfl rfl rfl rfl ?_;refine s_end (hK4 _ ?_);refine s_auto TY_ok rfl ?_;exact s_ret (k_ret TY_ok p' rfl (by decide) rfl (by rw [e1]; rfl) (by rw [e2]; rfl) (fun w h _=>by rw [e2]; exact h.1) (fun _ _=>trivial))
 ·have e1 : moO m s = nuO s:=if_neg (by omega)
  have e2 : moS m s = nuS s:=if_neg (by omega);refine s_skip (hK2 _ ?_);refine s_regA TY_ok rfl fun K4 hK4=>?_;refine l_num 4 (nuO s : Int) rfl (wrapI rfl (by omega) (by omega)) ?_;refine s_end (hK4 _ ?_);exact s_ret (k_ret TY_ok p' rfl (by decide) rfl (by rw [e1]; rfl) (by rw [e2]) (fun w h _=>by rw [e2]; exact h.1) (fun _ _=>trivial))
set_option maxRecDepth 100000 in
theorem tnext_S (g : Nat) {A : Option Addr} {c p : Nat} {B : List UInt8} (s : Rds) (hp : p ≤ B.length) (hs : B.drop p = s.1) : Spec 41 [ptr g] [TapS g A c B p s.2] (Rd 1 eB A c B)
  { ret:=fun x : Option Addr × Nat × Nat=>.v (.slice x.1 (byO s).length x.2.1),own:=fun x=>[TapS g A c B x.2.2 (byS s).2],p:=fun x w=>(x.2.2 ≤ B.length ∧ B.drop x.2.2 = (byS s).1) ∧ Rd 1 eB x.1 x.2.1 (byO s) w }:=by
 refine spec_S [.c (.v (ptr g))] 7 Tryz.func41 rfl (by rw [Tryz.ntmps41]; rfl) (one_ok trivial) fun b=>?_;refine s_auto TY_ok rfl ?_;refine s_regA TY_ok rfl fun K1 hK1=>?_;refine l_callA [ptr g,.int .u64 ((1048576 : Nat) : Int)] rfl rfl rfl own_tupto rfl rfl (fun _ _=>rfl) (tupto_S g s 1048576 (by decide) hp hs) (fun w h _=>h) fun p'=>?_;refine l_R [TapS g A c B p' (moS 1048576 s).2] rfl ?_;refine l_pure (p' ≤ B.length ∧ B.drop p' = (moS 1048576 s).1) (fun w h _=>h.1) fun ⟨hp',hs'⟩=>?_;refine l_callA [ptr g,.int .i64 (moO 1048576 s : Int)] rfl rfl rfl own_ttake rfl rfl (fun _ _=>rfl) (ttake_S g (moS 1048576 s) (moO 1048576 s) hp' hs') (fun w h _=>h.2) fun ⟨A2,c2,p2⟩=>?_;refine l_autoS TY_ok rfl ?_;refine s_end (hK1 _ ?_);exact s_ret (k_ret TY_ok (A2,c2,p2) rfl (by decide) rfl rfl rfl (fun w h _=>h.1) (fun _ _=>trivial))
def cpI (l : List UInt8) (i : Nat) : List UInt8:=l.take i ++ (List.replicate 64 0).drop i
theorem cpI_next {l : List UInt8} {i : Nat} {x : UInt8} (hl : l.length ≤ 64) (h : l[i]? = some x) : cpI l (i + 1) = (cpI l i).set i x:=by
 have hi:=(List.getElem?_eq_some_iff.1 h).1
 have e : (l.take i).length = i:=by rw [List.length_take]; omega
 unfold cpI
 rw [List.take_add_one,h,List.set_append_right _ _ (by omega),e,Nat.sub_self,List.drop_replicate,List.drop_replicate,show 64 - i = (64 - (i + 1)) + 1 by omega,List.replicate_succ]
 simp
theorem cpI_len {l : List UInt8} {i : Nat} (hl : l.length ≤ 64) (hi : i ≤ l.length) : (cpI l i).length = 64:=by
 unfold cpI
 rw [List.length_append,List.length_take,List.length_drop,List.length_replicate]
 omega
theorem By_setT (l : List UInt8) (i : Nat) (y : UInt8) : By (l.set i y) = (By l).set i (.int .u8 (y.toNat : Int)):=List.map_set
set_option maxRecDepth 100000 in
set_option maxHeartbeats 1000000 in
theorem tsig_S (g : Nat) {A : Option Addr} {c p : Nat} {B : List UInt8} (s : Rds) (hp : p ≤ B.length) (hs : B.drop p = s.1) : Spec 44 [ptr g] [TapS g A c B p s.2] (Rd 1 eB A c B)
  { ret:=fun _ : Nat=>.q (eY 64 (sgO s)),own:=fun x=>[TapS g A c B x (sgS s).2],p:=fun x _=>x ≤ B.length ∧ B.drop x = (sgS s).1 }:=by
 refine spec_S [.c (.v (ptr g))] 19 Tryz.func44 rfl (by rw [Tryz.ntmps44]; rfl) (one_ok trivial) fun b=>?_;refine s_auto TY_ok rfl ?_;refine s_auto TY_ok rfl ?_;refine s_seq fun K hK=>?_;refine s_regA TY_ok rfl fun K1 hK1=>?_;refine l_callA [ptr g,.int .i64 ((64 : Nat) : Int)] rfl rfl rfl own_ttake rfl rfl (fun _ _=>rfl) (ttake_S g s 64 hp hs) (fun w h _=>h) fun ⟨A1,c1,p'⟩=>?_;refine l_R [TapS g A c B p' (sgS s).2] rfl ?_;refine l_autoS TY_ok rfl ?_;refine s_end (hK1 _ ?_);have hl : (tkO 64 s).length ≤ 64:=(tkO_le 64 s).1;have hv0 : sgO s = pad64 (tkO 64 s):=rfl;generalize tkO 64 s = l at *;refine s_block ?_
 let F : Nat → Env:=fun i=>⟨[(9,.v (.int .i64 (i : Int))),(8,.v (.int .i64 (l.length : Int))),(7,.v (.slice A1 l.length c1)),(3,.a 3 0),(2,.a 2 0)],[⟨3,none,43,[.agg 64 (By (cpI l i)).toArray]⟩,⟨2,none,43,[.agg 64 (By (List.replicate 64 0)).toArray]⟩],[TapS g A c B p' (sgS s).2],fun w=>(p' ≤ B.length ∧ B.drop p' = (sgS s).1) ∧ Rd 1 eB A1 c1 l w,fun _=>True⟩
 refine c_weak (e':=F 0) ⟨⟨rfl,rfl,rfl,rfl,rfl,trivial⟩,⟨rfl,rfl,rfl,rfl,trivial⟩,.refl _,fun _ h _=>h.1,fun _ _=>trivial⟩ (s_loop (fun i=>l.length - i) F (fun i=>i ≤ l.length) ?_ 0 (Nat.zero_le _))
 intro i hi
 refine s_auto TY_ok rfl ?_;refine s_seq fun K1 hK1=>?_;refine s_ifD ((i : Int) < (l.length : Int)) rfl (fun hlt=>?_) (fun hge=>?_)
 ·have hlt : i < l.length:=by omega
  obtain ⟨x,hx⟩ : ∃ x,l[i]? = some x:=⟨_,List.getElem?_eq_getElem hlt⟩;have hn:=cpI_next hl hx;have h64:=cpI_len hl hi;have h65:=cpI_len hl hlt;refine s_skip (hK1 _ ?_);refine s_seq fun K2 hK2=>?_;refine s_block ?_;refine s_regA TY_ok rfl fun K3 hK3=>?_;refine l_elem TY_ok rfl rfl rfl i rfl hx rfl rfl (rd_fact fun w h _=>h.2) ?_;refine l_autoS TY_ok rfl ?_;refine s_end (hK3 _ ?_);refine s_lit ?_;refine l_autoS TY_ok rfl ?_;refine l_op (.a 3 (0 + 1 * i)) trivial rfl rfl rfl (runO_ixA i rfl Tryz.underlying43 rfl rfl rfl (by omega)) ?_;refine l_stA [.agg 64 (By (cpI l (i + 1))).toArray] rfl rfl rfl rfl rfl rfl rfl rfl rfl (by show 0 + 1 * i < (By (cpI l i)).toArray.size; rw [List.size_toArray,By_len]; omega) (eY_ok h65).1 (by show By (cpI l (i + 1)) = (By (cpI l i)).set (0 + 1 * i) _; rw [hn,By_setT,Nat.one_mul,Nat.zero_add]) ?_;refine s_end (hK2 _ ?_);refine s_autoE TY_ok rfl ?_;exact k_next (i + 1) hlt (by omega) ⟨⟨congrArg some (congrArg SV.v (congrArg (Value.int .i64) (wrapI rfl (by omega) (by omega)))),rfl,rfl,rfl,rfl,trivial⟩,⟨rfl,rfl,rfl,rfl,trivial⟩,.refl _,fun _ h _=>h,fun _ h=>h⟩
 ·obtain rfl : l.length = i:=by omega
  have ep : cpI l l.length = sgO s:=by
   rw [hv0]
   unfold cpI pad64
   rw [List.take_length,List.drop_replicate]
  refine s_exit (k_pass (k_pass (k_out ?_)));refine hK _ ?_;rw [ep];refine s_auto TY_ok rfl ?_;exact s_ret (k_ret TY_ok p' rfl (by decide) rfl rfl rfl (fun _ h _=>h.1) (fun _ _=>trivial))
set_option maxRecDepth 100000 in
theorem tend_S (g : Nat) {A : Option Addr} {c p : Nat} {B : List UInt8} (s : Rds) (hp : p ≤ B.length) (hs : B.drop p = s.1) : Spec 26 [ptr g] [TapS g A c B p s.2] (Rd 1 eB A c B)
  { ret:=fun _ : Unit=>.v (.int .i64 (endE s : Int)),own:=fun _=>[TapS g A c B p s.2] }:=by
 refine spec_S [.c (.v (ptr g))] 24 Tryz.func26 rfl (by rw [Tryz.ntmps26]; rfl) (one_ok trivial) fun b=>?_
 have hsl : s.1.length = B.length - p:=by rw [← hs,List.length_drop]
 refine s_auto TY_ok rfl ?_;refine s_seq fun K hK=>?_
 have hrest : ∀ e,endE s = s.2 → Weak e ⟨[(0,.v (ptr g))],[],[TapS g A c B p s.2],fun _=>True,fun _=>True⟩ → kS b K 24 e:=by
  intro e he hw
  refine k_weak hw (hK _ ?_);refine s_regA TY_ok rfl fun K2 hK2=>?_;refine l_ldO TY_ok rfl rfl rfl rfl rfl rfl (obj_own 0 rfl) ?_;refine l_autoS TY_ok rfl ?_;refine s_end (hK2 _ ?_);exact s_ret (k_ret TY_ok () rfl (by decide) rfl (by rw [he]; rfl) rfl (fun _ _ _=>trivial) (fun _ _=>trivial))
 refine s_regD 17 (by decide) (by kernel_rfl) (by kernel_rfl) fun K3 hK3 G S w0 hst=>?_;refine g_autoS TY_ok hst rfl ?_;refine g_ldO TY_ok hst rfl rfl rfl rfl rfl rfl (obj_own 0 rfl) ?_;refine g_autoS TY_ok hst rfl ?_
 by_cases h0 : (s.2 : Int) = 0
 ·have e0 : endE s = if s.1.length = 0 then 0 else 11:=if_pos (by omega)
  refine g_is 8 true rfl (decide_eq_true h0) ?_;refine g_autoS TY_ok hst rfl ?_;refine g_ldO TY_ok hst rfl rfl rfl rfl rfl rfl (obj_own 0 rfl) ?_;refine g_autoS TY_ok hst rfl ?_;refine g_ldO TY_ok hst rfl rfl rfl rfl rfl rfl (obj_own 0 rfl) ?_;refine g_autoS TY_ok hst rfl ?_;refine g_endS hst ?_;refine s_end (hK3 _ ?_);refine s_ifD ((p : Int) < (B.length : Int)) rfl (fun h1=>?_) (fun h1=>?_)
  ·rw [if_neg (by omega)] at e0
   refine s_auto TY_ok rfl ?_;exact s_ret (k_ret TY_ok () rfl (by decide) rfl (by rw [e0]; rfl) rfl (fun _ _ _=>trivial) (fun _ _=>trivial))
  ·rw [if_pos (by omega)] at e0
   exact s_skip (hrest _ (by rw [e0]; omega) ⟨⟨rfl,trivial⟩,trivial,.refl _,fun _ _ _=>trivial,fun _ _=>trivial⟩)
 ·have e0 : endE s = s.2:=if_neg (by omega)
  refine g_is 8 false rfl (decide_eq_false h0) ?_;refine g_autoS TY_ok hst rfl ?_;refine g_endS hst ?_;refine s_end (hK3 _ ?_);refine s_no rfl ?_;exact s_skip (hrest _ e0 ⟨⟨rfl,trivial⟩,trivial,.refl _,fun _ _ _=>trivial,fun _ _=>trivial⟩)
end Go.Proofs.YtlcbhbahchiofaaGreatDoor
/-
  THE DOCUMENT'S READ AND PARSE, over states.
-/
namespace Go.Proofs.YtlcbhbahchiofaaGreatDoor
open Go.RowKit Go.IntWalk

theorem paG_next (l : List UInt8) (i : Nat) : paG l (i + 1) = (paG l i || decide (65536 < nuI (paS l) i)):=by
 unfold paG
 rw [List.range_succ,List.any_append]
 simp
theorem own_fread : Own 25:=fun _ _=>by go_simp
theorem own_fparse : Own 8:=fun _ _=>by go_simp
set_option maxRecDepth 100000 in
set_option maxHeartbeats 4000000 in
theorem fread_S (g : Nat) {A : Option Addr} {c : Nat} (l : List UInt8) : Spec 25 [ptr g] [TapS g A c l 0 0] (Rd 1 eB A c l)
    { ret:=fun x : CI × Nat × Nat=>.t [eC x.1 ⟨byO (l,0),sgsI (paS l) x.2.1,sisI (paS l) x.2.1⟩,.c (.b (paG l x.2.1))],own:=fun x=>[TapS g A c l x.2.2 (stI (paS l) x.2.1).2],
       p:=fun x w=>((x.2.1 ≤ paN l ∧ ((stI (paS l) x.2.1).2 ≠ 0 ∨ x.2.1 = paN l)) ∧ x.2.2 ≤ l.length ∧ l.drop x.2.2 = (stI (paS l) x.2.1).1) ∧ CertF x.1 ⟨byO (l,0),sgsI (paS l) x.2.1,sisI (paS l) x.2.1⟩ w }:=by
  refine spec_S [.c (.v (ptr g))] 49 Tryz.func25 rfl (by rw [Tryz.ntmps25]; rfl) (one_ok trivial) fun b=>?_;refine s_auto TY_ok rfl ?_;refine s_auto TY_ok rfl ?_;refine s_regA TY_ok rfl fun K1 hK1=>?_;refine l_R [TapS g A c l 0 ((l,0) : Rds).2] rfl ?_;refine l_callA [ptr g] rfl rfl rfl own_tnext rfl rfl (fun _ _=>rfl) (tnext_S g (l,0) (Nat.zero_le _) rfl) (fun w h _=>h) fun ⟨Ab,cb,p1⟩=>?_;refine l_R [TapS g A c l p1 (byS (l,0)).2] rfl ?_;refine l_pure (p1 ≤ l.length ∧ l.drop p1 = (byS (l,0)).1) (fun w h _=>h.1.1) fun ⟨hp1,hs1⟩=>?_;refine l_autoS TY_ok rfl ?_;refine s_end (hK1 _ ?_);refine s_regA TY_ok rfl fun K2 hK2=>?_;refine l_callA [ptr g,.int .u64 ((65536 : Nat) : Int)] rfl rfl rfl own_tupto rfl rfl (fun _ _=>rfl) (tupto_S g (byS (l,0)) 65536 (by decide) hp1 hs1) (fun w h _=>h.2) fun p2=>?_;refine l_R [TapS g A c l p2 (paS l).2] rfl ?_;refine l_pure (p2 ≤ l.length ∧ l.drop p2 = (paS l).1) (fun w h _=>h.1) fun ⟨hp2,hs2⟩=>?_;refine l_autoS TY_ok rfl ?_;refine s_end (hK2 _ ?_);obtain ⟨n,hn⟩ : ∃ n,n = paN l:=⟨_,rfl⟩
  have hn6 : n ≤ 65536:=by rw [hn]; exact moO_le _ _
  have hn' : moO 65536 (byS (l,0)) = n:=hn.symm;rw [hn'];refine s_auto TY_ok rfl ?_;refine s_nil0 b.B.heap.size 43 64 (eY 64) ?_;refine s_nil0 b.B.heap.size 3 1 eI ?_;refine s_seq fun K5 hK5=>?_;refine s_regA TY_ok rfl fun K51 hK51=>?_;refine l_as 6 (.b (paG l 0)) rfl (fun _=>rfl) trivial ?_;refine s_end (hK51 _ ?_);refine s_block ?_
  let F : Nat × Nat × Option Addr × Nat × Option Addr × Nat → Env:=fun ⟨i,p,B1,d1,B2,d2⟩=>⟨[(7,.v (.int .i64 (i : Int))),(5,.v (.int .i64 (n : Int))),(0,.v (ptr g)),(2,.a 2 0),(4,.a 4 0),(6,.b (paG l i))],[⟨4,none,26,[.one (.v (.slice Ab (byO (l,0)).length cb)),.one (.v (.slice B1 (sgsI (paS l) i).length d1)),.one (.v (.slice B2 (sisI (paS l) i).length d2))]⟩,⟨2,none,26,[.one (.v (.slice none 0 0)),.one (.v (.slice none 0 0)),.one (.v (.slice none 0 0))]⟩],[TapS g A c l p (stI (paS l) i).2,OwnS b.B.heap.size 3 1 eI B1 d1 (sgsI (paS l) i),OwnS b.B.heap.size 43 64 (eY 64) B2 d2 (sisI (paS l) i)],fun w=>Rd 1 eB Ab cb (byO (l,0)) w ∧ Rd 1 eB A c l w,fun _=>True⟩
  have hfin : ∀ (x : Nat × Nat × Option Addr × Nat × Option Addr × Nat),x.1 ≤ n → x.2.1 ≤ l.length → l.drop x.2.1 = (stI (paS l) x.1).1 → ((stI (paS l) x.1).2 ≠ 0 ∨ x.1 = n) → ∀ e,Weak e (F x) → kS b K5 49 e:=by
    rintro ⟨i,p,B1,d1,B2,d2⟩ hi hp hs hor e hw
    dsimp only at hi hp hs hor
    refine k_weak hw (hK5 _ ?_);refine s_free 2 rfl ?_;refine s_free 1 rfl ?_;refine s_auto TY_ok rfl ?_;exact s_ret (k_ret TY_ok (⟨Ab,cb,B1,d1,B2,d2⟩,i,p) rfl (by decide) rfl rfl rfl (fun w h _=>⟨⟨⟨by rw [← hn]; exact hi,by rw [← hn]; exact hor⟩,hp,hs⟩,h.2.2.1,h.1,h.2.1⟩) (fun _ _=>trivial))
  refine c_weak (e':=F (0,p2,none,0,none,0)) ⟨⟨rfl,rfl,rfl,rfl,rfl,rfl,trivial⟩,⟨rfl,rfl,rfl,rfl,trivial⟩,(List.perm_append_comm (l₁:=[_,_]) (l₂:=[_])),fun _ h _=>⟨h.2.1.2,h.2.2⟩,fun _ _=>trivial⟩ (s_loop (fun x=>n - x.1) F (fun x=>x.1 ≤ n ∧ x.2.1 ≤ l.length ∧ l.drop x.2.1 = (stI (paS l) x.1).1) ?_ (0,p2,none,0,none,0) ⟨Nat.zero_le _,hp2,hs2⟩)
  rintro ⟨i,p,B1,d1,B2,d2⟩ ⟨hi,hp,hs⟩
  dsimp only at hi hp hs
  have l1:=sgsI_len (paS l) i;have l2:=sisI_len (paS l) i;refine s_seq fun K6 hK6=>?_;refine s_regA TY_ok rfl fun K7 hK7=>?_
  by_cases hlt : ¬ (i : Int) < (n : Int)
  · refine l_is 17 false rfl (decide_eq_false hlt) ?_
    refine l_autoS TY_ok rfl ?_;refine s_end (hK7 _ ?_);refine s_no rfl ?_;refine s_exit (k_pass (k_pass (k_out ?_)));exact hfin (i,p,B1,d1,B2,d2) hi hp hs (.inr (by show i = n; omega)) _ ⟨⟨rfl,rfl,rfl,rfl,rfl,rfl,trivial⟩,⟨rfl,rfl,rfl,rfl,trivial⟩,.refl _,fun _ h _=>h,fun _ h=>h⟩
  have hlt' : i < n:=by omega
  refine l_is 17 true rfl (decide_eq_true (by omega)) ?_;refine l_autoS TY_ok rfl ?_;refine l_ldO TY_ok rfl rfl rfl rfl rfl rfl (obj_own 0 rfl) ?_;refine l_autoS TY_ok rfl ?_;refine s_end (hK7 _ ?_);refine s_ifD (((stI (paS l) i).2 : Int) = 0) rfl (fun h0=>?_) (fun h0=>?_)
  · refine s_skip (hK6 _ ?_)
    refine s_seq fun K8 hK8=>?_;refine s_block ?_;refine s_regA TY_ok rfl fun K9 hK9=>?_;refine l_callA [ptr g] rfl rfl rfl own_tnum rfl rfl (fun _ _=>rfl) (tnum_S g (stI (paS l) i) hp hs) (fun w h _=>h.2) fun p3=>?_;refine l_R [TapS g A c l p3 (nuS (stI (paS l) i)).2,OwnS b.B.heap.size 3 1 eI B1 d1 (sgsI (paS l) i),OwnS b.B.heap.size 43 64 (eY 64) B2 d2 (sisI (paS l) i)] rfl ?_;refine l_pure (p3 ≤ l.length ∧ l.drop p3 = (nuS (stI (paS l) i)).1) (fun w h _=>h.1) fun ⟨hp3,hs3⟩=>?_;refine l_autoS TY_ok rfl ?_;refine s_end (hK9 _ ?_);have hG:=paG_next l i;refine s_seq fun K10 hK10=>?_
    have hgo : ∀ e,Weak e ⟨[(7,.v (.int .i64 (i : Int))),(5,.v (.int .i64 (n : Int))),(0,.v (ptr g)),(2,.a 2 0),(4,.a 4 0),(8,.v (.int .u64 (nuI (paS l) i : Int))),(6,.b (paG l (i + 1)))],[⟨4,none,26,[.one (.v (.slice Ab (byO (l,0)).length cb)),.one (.v (.slice B1 (sgsI (paS l) i).length d1)),.one (.v (.slice B2 (sisI (paS l) i).length d2))]⟩,⟨2,none,26,[.one (.v (.slice none 0 0)),.one (.v (.slice none 0 0)),.one (.v (.slice none 0 0))]⟩],[TapS g A c l p3 (nuS (stI (paS l) i)).2,OwnS b.B.heap.size 3 1 eI B1 d1 (sgsI (paS l) i),OwnS b.B.heap.size 43 64 (eY 64) B2 d2 (sisI (paS l) i)],fun w=>Rd 1 eB Ab cb (byO (l,0)) w ∧ Rd 1 eB A c l w,fun _=>True⟩ → kS b K10 49 e:=by
      intro e hw
      refine k_weak hw (hK10 _ ?_);refine s_regA TY_ok rfl fun K11 hK11=>?_;refine l_push TY_ok 1 (IntKind.i64.wrap (nuI (paS l) i : Int)) rfl rfl rfl rfl rfl rfl rfl (eI_ok _) (by decide) (by decide) (by rw [l1]; show (_ + 1) * 8 ≤ _; omega) (by omega) (Nat.le_refl _) fun B1' d1'=>?_;refine l_autoS TY_ok rfl ?_;refine s_end (hK11 _ ?_);refine s_locs fun G=>?_;refine s_any 5 [⟨4,some (G 4),26,[.one (.v (.slice Ab (byO (l,0)).length cb)),.one (.v (.slice B1' (sgsI (paS l) i ++ [IntKind.i64.wrap (nuI (paS l) i : Int)]).length d1')),.one (.v (.slice B2 (sisI (paS l) i).length d2))]⟩] (by kernel_rfl) (by decide) (inv_of fun x hx=>by rw [List.mem_singleton.1 hx]; exact ⟨List.mem_cons_self,rfl⟩) ?_;refine a_front TY_ok 0 (by kernel_rfl) rfl rfl rfl rfl rfl rfl (fun x hx=>by rw [List.mem_singleton.1 hx]; exact List.mem_cons_self) ?_;refine a_front TY_ok 1 (by kernel_rfl) rfl rfl rfl rfl rfl rfl (fun x hx=>by rw [List.mem_singleton.1 hx]; exact List.mem_cons_self) ?_;refine a_front TY_ok 2 (by kernel_rfl) rfl rfl rfl rfl rfl rfl (fun x hx=>by rw [List.mem_singleton.1 hx]; exact List.mem_cons_self) ?_;refine a_step 3 (by kernel_rfl) rfl fun K12 hK12=>?_;refine l_callA [ptr g] rfl rfl rfl own_tsig rfl rfl (fun _ _=>rfl) (tsig_S g (nuS (stI (paS l) i)) hp3 hs3) (fun w h _=>h.2) fun p4=>?_;refine l_R [TapS g A c l p4 (stI (paS l) (i + 1)).2,OwnS b.B.heap.size 3 1 eI B1' d1' (sgsI (paS l) i ++ [IntKind.i64.wrap (nuI (paS l) i : Int)]),OwnS b.B.heap.size 43 64 (eY 64) B2 d2 (sisI (paS l) i)] rfl ?_;refine l_pure (p4 ≤ l.length ∧ l.drop p4 = (stI (paS l) (i + 1)).1) (fun w h _=>h.1) fun ⟨hp4,hs4⟩=>?_;refine s_end (hK12 _ (inv_of fun x hx=>by rw [List.mem_singleton.1 hx]; exact ⟨List.mem_cons_self,rfl⟩) ?_);refine a_step 4 (by kernel_rfl) rfl fun K13 hK13=>?_;refine l_list TY_ok b.B.heap.size [siI (paS l) i] (fe:=eY 64) rfl rfl rfl rfl rfl (fun _=>rfl) rfl (by decide) (by decide) (fun x hx=>by rw [List.mem_singleton.1 hx]; exact eY_ok (sgO_len _)) (Nat.le_refl _) fun P=>?_;refine l_free 0 rfl ?_;refine s_end (hK13 _ (inv_of fun x hx=>by rw [List.mem_singleton.1 hx]; exact ⟨List.mem_cons_self,rfl⟩) ?_);refine a_tail (by kernel_rfl) ?_;refine l_appY TY_ok 2 [siI (paS l) i] rfl rfl rfl rfl rfl rfl rfl rfl rfl (rd_fact fun w h _=>h.1) (by decide) (by rw [l2]; show (_ + 1) * 64 ≤ _; omega) (by rw [l2]; show _ + 1 ≤ _; omega) (Nat.le_refl _) fun B2' d2'=>?_;refine l_autoS TY_ok rfl ?_;refine s_end (hK8 _ (k_noloc ?_));refine s_autoE TY_ok rfl ?_;have h3:=sgsI_next (paS l) i;have h4:=sisI_next (paS l) i;rw [← h3,← h4];exact k_next (i + 1,p4,B1',d1',B2',d2') ⟨hlt',hp4,hs4⟩ (by show n - (i + 1) < n - i; omega) ⟨⟨congrArg some (congrArg SV.v (congrArg (Value.int .i64) (wrapI rfl (by omega) (by omega)))),rfl,rfl,rfl,rfl,rfl,trivial⟩,⟨rfl,rfl,rfl,rfl,trivial⟩,.refl _,fun _ h _=>h.2.2,fun _ _=>trivial⟩
    refine s_lit ?_;refine l_autoS TY_ok rfl ?_
    cases hg : paG l i with
    | true =>
      rw [hg,Bool.true_or] at hG;refine l_is 29 true rfl rfl ?_;refine l_autoS TY_ok rfl ?_;refine l_as 6 (.b (paG l (i + 1))) rfl (fun _=>by rw [hG]; rfl) trivial ?_;exact s_end (hgo _ ⟨⟨rfl,rfl,rfl,rfl,rfl,rfl,rfl,trivial⟩,⟨rfl,rfl,rfl,rfl,trivial⟩,.refl _,fun _ h _=>h.2,fun _ _=>trivial⟩)
    | false =>
      rw [hg,Bool.false_or] at hG;refine l_is 29 false rfl rfl ?_;refine l_autoS TY_ok rfl ?_;refine l_eq 6 (.b (paG l (i + 1))) rfl (congrArg SV.b (by rw [hG]; exact decide_eq_decide.2 (by show (nuI (paS l) i : Int) > 65536 ↔ _; omega))) ?_;exact s_end (hgo _ ⟨⟨rfl,rfl,rfl,rfl,rfl,rfl,rfl,trivial⟩,⟨rfl,rfl,rfl,rfl,trivial⟩,.refl _,fun _ h _=>h.2,fun _ _=>trivial⟩)
  · refine s_exit (k_pass (k_pass (k_out ?_)))
    exact hfin (i,p,B1,d1,B2,d2) hi hp hs (.inl (by show (stI (paS l) i).2 ≠ 0; omega)) _ ⟨⟨rfl,rfl,rfl,rfl,rfl,rfl,trivial⟩,⟨rfl,rfl,rfl,rfl,trivial⟩,.refl _,fun _ h _=>h,fun _ h=>h⟩
theorem end_same {l : List UInt8} {k : Nat} (hk : k ≤ paN l) (h : (stI (paS l) k).2 ≠ 0 ∨ k = paN l) : endE (stI (paS l) k) = endE (paR l) ∧ (endE (paR l) = 0 → k = paN l):=by
 rcases h with h | h
 ·have h1:=stI_stick h (paN l - k)
  rw [show k + (paN l - k) = paN l by omega] at h1;have h2 : paR l = stI (paS l) k:=h1;rw [h2];refine ⟨rfl,fun h3=>?_⟩;exact absurd (end_ok h3).1 h
 ·subst h
  exact ⟨rfl,fun _=>rfl⟩
set_option maxRecDepth 100000 in
set_option maxHeartbeats 4000000 in
theorem fparse_S {A : Option Addr} {c : Nat} (l : List UInt8) : Spec 8 [.slice A l.length c] [] (Rd 1 eB A c l)
  { ret:=fun i : CI=>.t [eC i (paC l),.c (.v (.int .i64 (paE l : Int)))],p:=fun i=>CertF i (paC l) }:=by
 refine spec_S [.c (.v (.slice A l.length c))] 25 Tryz.func8 rfl (by rw [Tryz.ntmps8]; rfl) (one_ok trivial) fun b=>?_;refine s_auto TY_ok rfl ?_;refine s_regA TY_ok rfl fun K1 hK1=>?_;refine s_end (k_give 4 rfl (E':=[(0,.v (.slice A l.length c)),(2,.a 2 0)]) ⟨rfl,rfl,trivial⟩ fun g=>hK1 _ ?_);refine s_regA TY_ok rfl fun K2 hK2=>?_;refine l_R [TapS g A c l 0 0] rfl ?_;refine l_callA [ptr g] rfl rfl rfl own_fread rfl rfl (fun _ _=>rfl) (fread_S g l) (fun w h _=>h) fun ⟨ci,k,p⟩=>?_;refine l_R [TapS g A c l p (stI (paS l) k).2] rfl ?_;refine l_pure ((k ≤ paN l ∧ ((stI (paS l) k).2 ≠ 0 ∨ k = paN l)) ∧ p ≤ l.length ∧ l.drop p = (stI (paS l) k).1) (fun w h _=>h.1.1) fun ⟨⟨hk,hor⟩,hp,hs⟩=>?_;refine l_autoS TY_ok rfl ?_;refine s_end (hK2 _ ?_);obtain ⟨he,hkn⟩:=end_same hk hor;have hte:=tend_S (A:=A) (c:=c) g (stI (paS l) k) hp hs;rw [he] at hte;refine s_seq fun K3 hK3=>?_;refine s_regA TY_ok rfl fun K4 hK4=>?_;refine l_callA [ptr g] rfl rfl rfl own_tend rfl rfl (fun _ _=>rfl) hte (fun w h _=>h.2) fun _=>?_;refine l_autoS TY_ok rfl ?_;refine s_end (hK4 _ ?_);refine s_auto TY_ok rfl ?_;refine s_ifD ((endE (paR l) : Int) ≠ 0) rfl (fun h1=>?_) (fun h1=>?_)
 ·have e3 : paE l = endE (paR l):=by unfold paE; rw [if_neg (by omega)]
  have e4 : paC l = cv0:=by unfold paC; rw [if_neg (by omega)]
  refine s_auto TY_ok rfl ?_;exact s_ret (k_drop 0 rfl (k_ret TY_ok ci0 rfl (by decide) rfl (by rw [e3,e4]; rfl) rfl (fun w _ _=>by rw [e4]; exact certF0 w) (fun _ _=>trivial)))
 have h1 : endE (paR l) = 0:=by omega
 have hk2:=hkn h1;refine s_skip (hK3 _ ?_);refine s_seq fun K5 hK5=>?_;refine s_auto TY_ok rfl ?_;refine s_if (paG l k) rfl (fun h2=>?_) (fun h2=>?_)
 ·have e3 : paE l = 13:=by unfold paE; rw [if_pos h1,← hk2,if_pos h2]
  have e4 : paC l = cv0:=by unfold paC; rw [if_neg (by omega)]
  refine s_auto TY_ok rfl ?_;exact s_ret (k_drop 0 rfl (k_ret TY_ok ci0 rfl (by decide) rfl (by rw [e3,e4]; rfl) rfl (fun w _ _=>by rw [e4]; exact certF0 w) (fun _ _=>trivial)))
 ·have e3 : paE l = 0:=by unfold paE; rw [if_pos h1,← hk2,if_neg (by rw [h2]; decide)]
  have e4 : paC l = ⟨byO (l,0),sgsI (paS l) k,sisI (paS l) k⟩:=by unfold paC; rw [if_pos e3,← hk2]
  refine s_skip (hK5 _ ?_);refine s_auto TY_ok rfl ?_;exact s_ret (k_drop 0 rfl (k_ret TY_ok ci rfl (by decide) rfl (by rw [e3,e4]; rfl) rfl (fun w h _=>by rw [e4]; exact h.2.1.2) (fun _ _=>trivial)))
end Go.Proofs.YtlcbhbahchiofaaGreatDoor
/-
  WRITING BYTES, over states: numbers, bytes behind bytes; objects that are only read from here on.
-/
namespace Go.Proofs.YtlcbhbahchiofaaGreatDoor
open Go.RowKit Go.IntWalk

section
variable {f : FuncId} {args : List Value} {F : World → Prop} {l : List UInt8}
theorem Spec.made (h : ∀ w,F w → Calls Tryz.prog f args.toArray w (Made w l)) : Spec f args [] F
  { ret:=fun g : Nat=>.v (.slice (some ⟨g,0,none⟩) l.length l.length),n:=fun g=>Rd 1 eB (some ⟨g,0,none⟩) l.length l }:=fun w S X hS _ hF=>by
 refine (h w hF.now).mono ?_
 rintro e w' ⟨g,he,ho,hb⟩
 refine ⟨g,S,he,trivial,Chg.of_up hb,hS.keep fun k hk=>hb.block k (hS.lt k hk),fun _ h _=>h,fun _ _=>trivial,?_⟩;have h3 : (OwnS w.heap.size 5 1 eB (some ⟨g,0,none⟩) l.length l).holds w' fun j=>(some (⟨g,0,none⟩ : Addr)).map (·.block) = some j:=⟨okF_B _,by rw [flat_B]; exact ho,fun _=>Iff.rfl⟩;have h4:=OwnS.rd h3;have h6:=(OwnS.inb h3 _ rfl).1
 intro w2 hw2
 refine h4.keep hw2.size fun b' e hlt=>hw2.block b' hlt ?_;simp only [Option.map_some,Option.some.injEq] at e;subst e
 rintro (h5 | h5)
 ·exact Nat.lt_irrefl _ (Nat.lt_of_lt_of_le h5 h6)
 ·exact Nat.lt_irrefl _ (Nat.lt_of_lt_of_le (hS.lt _ h5) h6)
theorem Spec.madeC (h : ∀ w,F w → Calls Tryz.prog f args.toArray w (MadeC w l)) : Spec f args [] F
  { ret:=fun x : Option Addr × Nat=>.v (.slice x.1 l.length x.2),own:=fun x=>[OwnS 0 5 1 eB x.1 x.2 l] }:=fun w S X hS _ hF=>by
 refine (h w hF.now).mono ?_
 rintro e w' ⟨A,c,he,ho,hb⟩
 have h3 : (OwnS w.heap.size 5 1 eB A c l).holds w' fun j=>A.map (·.block) = some j:=⟨okF_B _,by rw [flat_B]; exact ho,fun _=>Iff.rfl⟩;have h4 : (OwnS 0 5 1 eB A c l).holds w' fun j=>A.map (·.block) = some j:=⟨okF_B _,by rw [flat_B]; exact own_base ho (Nat.zero_le _),fun _=>Iff.rfl⟩;refine ⟨(A,c),fun j=>A.map (·.block) = some j,he,trivial,Chg.of_up hb,starL_one.2 h4,fun k hk hlt=>?_,fun _ _=>trivial,fun _ _=>trivial⟩
 cases A with
 | none=>cases hk
 | some ad =>
  simp only [Option.map_some,Option.some.injEq] at hk;have:=(OwnS.inb h3 ad rfl).1
  omega
end
section
variable {b : Base} {G : Nat → Nat} {S : Nat → Prop} {L : List LV} {R : List Res} {F M : World → Prop} {w : World} {g : Nat} {t : TypeId} {ps : List Pt}
theorem StW.freeO (h : StW b G S L R F M w) {i : Nat} (hi : R[i]? = some (ObjS g t ps)) : ∃ S',StW b G S' L (R.eraseIdx i) (fun w=>ObjF g t ps w ∧ F w) M w:=by
 obtain ⟨S1,S2,⟨h1,h1'⟩,h2,h3,h4⟩:=h.let hi;refine ⟨S2,h4.and (p:=ObjF g t ps) fun w' hw=>⟨(hw.block g h1.1.lt fun hx=>?_).trans h1.1,h1.2⟩⟩
 rcases hx with hx | hx | ⟨j,hj,e⟩
 ·exact (h.old g hx).2 (h.mine g (.inl ((h3 g).2 (.inl ((h1' g).2 rfl)))) (h.old g hx).1)
 ·exact h2 g ((h1' g).2 rfl) hx
 ·exact h.sep j hj ((h3 _).2 (.inl ((h1' _).2 e)))
variable {P : Program} {Q : Exit → Act → World → Prop} {N : Nat} {E : SE}
theorem s_freeO {x : Code} (i : Nat) (hi : R[i]? = some (ObjS g t ps)) (h : cS P b x Q N ⟨E,L,R.eraseIdx i,fun w=>ObjF g t ps w ∧ F w,M⟩) : cS P b x Q N ⟨E,L,R,F,M⟩:=fun a w ⟨G,S,h1,h2,h3⟩=>by
 obtain ⟨S',h4⟩:=h3.freeO hi;exact h a w ⟨G,S',h1,h2,h4⟩
end
theorem obj_rd {g n : Nat} {t : TypeId} {l : List UInt8} {w : World} (h : ObjF g t [.agg n (By l).toArray] w) (hn : n ≤ 9223372036854775807) : Rd 1 eB (some ⟨g,0,none⟩) n l w:=by
 have h1 : l.length = n:=by
  have:=(h.2 _ List.mem_cons_self).1
  rwa [List.size_toArray,By_len] at this
 refine ⟨Nat.le_of_eq h1,hn,fun h=>(by cases h),okF_B l,fun _=>⟨g,0,rfl,h.1.lt,fun i x hi j v hj=>?_⟩⟩;have hB : Blk w g t (By l).toArray:=h.1;rw [hB.cell]
 cases j with
 | zero =>
  have e : v = .int .u8 (x.toNat : Int):=(Option.some.inj ((show (eB x).cl[0]? = some (.int .u8 (x.toNat : Int)) from rfl).symm.trans hj)).symm;obtain ⟨h2,h3⟩:=List.getElem?_eq_some_iff.1 hi;have h4:=By_at? h2;rw [getElem!_pos l i h2,h3] at h4;rw [e]
  simpa using h4
 | succ j =>
  have : (eB x).cl[j + 1]? = none:=rfl;rw [this] at hj
  cases hj
theorem rd_elem {bb o c n i : Nat} {ls : List (List UInt8)} {x : List UInt8} {w : World} (h : Rd n (eY n) (some ⟨bb,o,none⟩) c ls w) (hi : ls[i]? = some x) (hx : x.length = n) (hn : n ≤ 9223372036854775807) : Rd 1 eB (some ⟨bb,o + n * i,none⟩) n x w:=by
 obtain ⟨b',o',e,hb,hc⟩:=h.2.2.2.2 (by have:=(List.getElem?_eq_some_iff.1 hi).1; omega)
 injection e with e
 injection e with e1 e2
 subst e1 e2;refine ⟨Nat.le_of_eq hx,hn,fun h=>(by cases h),okF_B x,fun _=>⟨bb,o + n * i,rfl,hb,fun k y hk j v hj=>?_⟩⟩
 cases j with
 | zero =>
  have e : v = .int .u8 (y.toNat : Int):=(Option.some.inj ((show (eB y).cl[0]? = some (.int .u8 (y.toNat : Int)) from rfl).symm.trans hj)).symm;obtain ⟨h2,h3⟩:=List.getElem?_eq_some_iff.1 hk;have h4:=By_at? h2;rw [getElem!_pos x k h2,h3] at h4;have h5:=hc i x hi k (.int .u8 (y.toNat : Int)) (by show (By x)[k]? = _; exact h4);rw [e,Nat.one_mul,Nat.add_zero];exact h5
 | succ j =>
  have : (eB y).cl[j + 1]? = none:=rfl;rw [this] at hj
  cases hj
theorem runO_allP {P : Program} {N : Nat} {E : SE} {o : Oper} {x : Operand} {t e : TypeId} {g off n sz : Nat} (ho : o.op = .slice t x none none none) (ht : P.underlying t = some (.array n e)) (he : (P.info? e).map (·.size) = some sz) (hx : evS E x = some (.v (.pointer (some ⟨g,off,none⟩)))) :
  ∀ (G : Nat → Nat) (a : Act) (w : World),Fr N (denE G E) a → (execOp a.eval o).run P w = .ok (.value ((SV.v (.slice (some ⟨g,off,none⟩) n n)).den G)) w:=fun G a w ha=>by
 have h1 : a.eval x = .pointer (some ⟨g,off,none⟩):=ha.eval (evS_ok hx);have h5:=run_sizeOf he w
 unfold execOp
 simp only [ho];generalize a.eval = ρ at *;simp only [Option.map,h1]
 show _ = Result.ok (Next.value (.slice (some ⟨g,off,none⟩) n n)) w
 simp [Instr.sliceAt,Instr.sureAddr,run_underlying ht,Instr.sliceBounds,h5,Sem.run_bind,Addr.add_mid]
theorem own_lay : Own 37:=fun _ _=>by go_simp
theorem own_wnum : Own 14:=fun _ _=>by go_simp
theorem own_rfnum : Own 18:=fun _ _=>by go_simp
theorem lay_S (v : Nat) (hv : v < 18446744073709551616) : Spec 37 [.int .u64 (v : Int)] [] (fun _=>True) (one (.q (eY 8 (be8 v)))) :=
 Spec.pure (eY_ok (be8_len v)).1 fun w _=>lay_any v w hv
theorem wbytes_S {A X : Option Addr} {c d : Nat} (l x : List UInt8) (hl : l.length + 8 + x.length ≤ 281474976710656) : Spec 15 [.slice A l.length c,.slice X x.length d] [] (fun w=>Rd 1 eB A c l w ∧ Rd 1 eB X d x w)
  { ret:=fun g : Nat=>.v (.slice (some ⟨g,0,none⟩) (l ++ be8 x.length ++ x).length (l ++ be8 x.length ++ x).length),n:=fun g=>Rd 1 eB (some ⟨g,0,none⟩) (l ++ be8 x.length ++ x).length (l ++ be8 x.length ++ x) } :=
 Spec.made fun w h=>bytes_any A X l x c d w.heap.size w h.1.sl h.2.sl (Nat.le_refl _) hl
theorem rfnum_S (v : Nat) (hv : v < 18446744073709551616) : Spec 18 [.int .u64 (v : Int)] [] (fun _=>True)
  { ret:=fun g : Nat=>.v (.slice (some ⟨g,0,none⟩) (be8 v).length (be8 v).length),n:=fun g=>Rd 1 eB (some ⟨g,0,none⟩) (be8 v).length (be8 v) } :=
 Spec.made fun w _=>refnum_any v w hv
theorem rfbytes_S {X : Option Addr} {d : Nat} (x : List UInt8) (hl : x.length + 8 ≤ 140737488355328) : Spec 17 [.slice X x.length d] [] (Rd 1 eB X d x)
  { ret:=fun y : Option Addr × Nat=>.v (.slice y.1 (be8 x.length ++ x).length y.2),own:=fun y=>[OwnS 0 5 1 eB y.1 y.2 (be8 x.length ++ x)] } :=
 Spec.madeC fun w h=>refbytes_any X x d w.heap.size w h.sl (Nat.le_refl _) hl
set_option maxRecDepth 100000 in
theorem wnum_S {A : Option Addr} {c : Nat} (l : List UInt8) (v : Nat) (hv : v < 18446744073709551616) (hl : l.length + 8 ≤ 281474976710656) : Spec 14 [.slice A l.length c,.int .u64 (v : Int)] [] (Rd 1 eB A c l)
  { ret:=fun g : Nat=>.v (.slice (some ⟨g,0,none⟩) (l ++ be8 v).length (l ++ be8 v).length),n:=fun g=>Rd 1 eB (some ⟨g,0,none⟩) (l ++ be8 v).length (l ++ be8 v) }:=by
 refine spec_S [.c (.v (.slice A l.length c)),.c (.v (.int .u64 (v : Int)))] 12 Tryz.func14 rfl (by rw [Tryz.ntmps14]; rfl) (two_ok trivial trivial) fun b=>?_;refine s_auto TY_ok rfl ?_;refine s_regA TY_ok rfl fun K1 hK1=>?_;refine l_call0 [.int .u64 (v : Int)] rfl rfl rfl own_lay rfl rfl (fun _ _=>rfl) (lay_S v hv) (fun _ _ _=>trivial) fun _=>?_;refine l_autoS TY_ok rfl ?_;refine s_end (k_give 5 rfl (E':=[(0,.v (.slice A l.length c))]) ⟨rfl,trivial⟩ fun g=>hK1 _ ?_);refine s_freeO 0 rfl ?_;refine s_regA TY_ok rfl fun K2 hK2=>?_;refine l_op (.v (.slice (some ⟨g,0,none⟩) 8 8)) trivial rfl rfl rfl (runO_allP rfl Tryz.underlying78 rfl rfl) ?_;refine l_list TY_ok b.B.heap.size [⟨A,c,l⟩,⟨some ⟨g,0,none⟩,8,be8 v⟩] (fe:=eSeg) rfl rfl rfl rfl rfl (fun _=>rfl) rfl (by decide) (by decide) (okF_seg _) (Nat.le_refl _) fun P=>?_;refine l_free 0 rfl ?_
 have e0 : (List.map Seg.l [⟨A,c,l⟩,⟨some ⟨g,0,none⟩,8,be8 v⟩]).flatten = l ++ be8 v:=by simp
 have hj:=join_S (A:=P) (c:=2) [⟨A,c,l⟩,⟨some ⟨g,0,none⟩,8,be8 v⟩] (by rw [e0,List.length_append,be8_len]; exact hl);rw [e0] at hj
 refine l_call0 [.slice P 2 2] rfl rfl rfl own_join rfl rfl (fun _ _=>rfl) hj (fun w h _=>⟨h.1,fun s hs=>by
  rcases List.mem_cons.1 hs with rfl | hs
  ·exact h.2.2.2
  ·rw [List.mem_singleton.1 hs]
   exact obj_rd (n:=8) h.2.1 (Nat.le_of_ble_eq_true rfl)⟩) fun gb=>?_
 refine l_autoS TY_ok rfl ?_;refine s_end (hK2 _ ?_);exact s_ret (k_ret TY_ok gb rfl (by decide) rfl rfl rfl (fun _ _ _=>trivial) (fun w h=>h.1))
end Go.Proofs.YtlcbhbahchiofaaGreatDoor
/-
  CERTIFICATES: rising.
-/
namespace Go.Proofs.YtlcbhbahchiofaaGreatDoor
open Go.RowKit Go.IntWalk

def risingB (n : Int) : Int → List Int → Bool
  | _,[]=>true
  | last,s :: l=>decide (last < s) && decide (s < n) && risingB n s l
theorem own_rising : Own 35:=fun _ _=>by go_simp
def lastI (l : List Int) (i : Nat) : Int:=if i = 0 then -1 else l[i - 1]!
theorem rising_at (n : Int) : ∀ (l : List Int) (last : Int) (i : Nat),risingB n last (l.take i) = true → i < l.length →
  risingB n last (l.take (i + 1)) = (decide ((if i = 0 then last else l[i - 1]!) < l[i]!) && decide (l[i]! < n))
 | [],_,_,_,h=>absurd h (by simp)
 | s :: l,last,0,_,_=>by simp [risingB]
 | s :: l,last,i + 1,h,hi=>by
  simp only [List.take_succ_cons,risingB,Bool.and_eq_true,decide_eq_true_eq] at h ⊢;obtain ⟨⟨h1,h2⟩,h3⟩:=h;rw [rising_at n l s i h3 (by simpa using hi)]
  cases i with
  | zero=>simp [h1,h2]
  | succ i=>simp [h1,h2]
theorem rising_more (n : Int) : ∀ (l : List Int) (last : Int) (i : Nat),risingB n last (l.take i) = false → risingB n last l = false
 | [],_,_,h=>by simp [risingB] at h
 | s :: l,last,0,h=>by simp [risingB] at h
 | s :: l,last,i + 1,h=>by
  simp only [List.take_succ_cons,risingB,Bool.and_eq_false_iff] at h ⊢
  rcases h with h | h
  ·exact .inl h
  ·exact .inr (rising_more n l s i h)
set_option maxRecDepth 100000 in
set_option maxHeartbeats 1000000 in
theorem rising_S {A : Option Addr} {c : Nat} (l : List Int) (n : Int) : Spec 35 [.slice A l.length c,.int .i64 n] [] (Rd 1 eI A c l) (one (.q (.c (.b (risingB n (-1) l))))):=by
 refine spec_S [.c (.v (.slice A l.length c)),.c (.v (.int .i64 n))] 24 Tryz.func35 rfl (by rw [Tryz.ntmps35]; rfl) (two_ok trivial trivial) fun b=>?_;refine s_pure (l.length ≤ 9223372036854775807) (fun w h _=>Nat.le_trans h.1 h.2.1) fun hl=>?_;refine s_auto TY_ok rfl ?_;refine s_auto TY_ok rfl ?_;refine s_seq fun K hK=>?_;refine s_auto TY_ok rfl ?_;refine s_block ?_
 let F : Nat → Env:=fun i=>⟨[(10,.v (.int .i64 (i : Int))),(9,.v (.int .i64 (l.length : Int))),(8,.v (.slice A l.length c)),(1,.v (.int .i64 n)),(5,.v (.int .i64 (lastI l i)))],[],[],Rd 1 eI A c l,fun _=>True⟩
 refine c_weak (e':=F 0) ⟨⟨rfl,rfl,rfl,rfl,rfl,trivial⟩,trivial,.refl _,fun _ h _=>h,fun _ h=>h⟩ (s_loop (fun i=>l.length - i) F (fun i=>i ≤ l.length ∧ risingB n (-1) (l.take i) = true) ?_ 0 ⟨Nat.zero_le _,by simp [risingB]⟩)
 rintro i ⟨hi,hr⟩
 refine s_auto TY_ok rfl ?_;refine s_seq fun K1 hK1=>?_;refine s_ifD ((i : Int) < (l.length : Int)) rfl (fun hlt=>?_) (fun hge=>?_)
 ·have hlt : i < l.length:=by omega
  have hx : l[i]? = some l[i]!:=by rw [getElem!_pos l i hlt]; exact List.getElem?_eq_getElem hlt
  refine s_skip (hK1 _ ?_);refine s_seq fun K2 hK2=>?_;refine s_block ?_;refine s_regA TY_ok rfl fun K3 hK3=>?_;refine l_elem TY_ok rfl rfl rfl i rfl hx rfl rfl (rd_fact fun w h _=>h) ?_;refine l_autoS TY_ok rfl ?_;refine s_end (hK3 _ ?_);refine s_seq fun K4 hK4=>?_;refine s_regA TY_ok rfl fun K5 hK5=>?_;have hat : risingB n (-1) (l.take (i + 1)) = (decide (lastI l i < l[i]!) && decide (l[i]! < n)):=rising_at n l (-1) i hr hlt
  have hno : ∀ {e : Env},risingB n (-1) (l.take (i + 1)) = false → lookS e.E 4 = some (.v (.bool false)) → e.L = [] → e.R = [] → (∀ w,e.F w → e.F w) → kS b (bodyPost Tryz.prog Tryz.f35 (endS b (one (.q (.c (.b (risingB n (-1) l)))))) .ret) 24 e:=fun {e} hf he hL hR _=>by
   obtain ⟨E,L,R,F,M⟩:=e
   dsimp only at he hL hR
   subst hL hR;exact k_retD TY_ok () (rs:=[.tmp 4]) (qs:=[.c (.v (.bool false))]) rfl (by decide) (by simp only [resS,he]) (by rw [rising_more n l (-1) (i + 1) hf]; rfl) trivial rfl (fun _ _ _=>trivial) (fun _ _=>trivial)
  by_cases h1 : l[i]! ≤ lastI l i
  ·have hf : risingB n (-1) (l.take (i + 1)) = false:=by
    rw [hat,decide_eq_false (Int.not_lt.2 h1),Bool.false_and]
   refine l_is 17 true rfl (decide_eq_true h1) ?_;refine l_autoS TY_ok rfl ?_;refine s_end (hK5 _ ?_);refine s_yes rfl ?_;refine s_auto TY_ok rfl ?_;exact s_ret (hno hf rfl rfl rfl fun _ h=>h)
  ·refine l_is 17 false rfl (decide_eq_false h1) ?_
   refine l_autoS TY_ok rfl ?_;refine s_end (hK5 _ ?_);refine s_ifD (l[i]! ≥ n) rfl (fun h2=>?_) (fun h2=>?_)
   ·have hf : risingB n (-1) (l.take (i + 1)) = false:=by
     rw [hat,decide_eq_false (Int.not_lt.2 h2),Bool.and_false]
    refine s_auto TY_ok rfl ?_;exact s_ret (hno hf rfl rfl rfl fun _ h=>h)
   ·refine s_skip (hK4 _ ?_)
    refine s_autoE TY_ok rfl ?_;refine hK2 _ ?_;refine s_autoE TY_ok rfl ?_;refine k_next (i + 1) ⟨hlt,?_⟩ (by omega) ⟨⟨congrArg some (congrArg SV.v (congrArg (Value.int .i64) (wrapI rfl (by omega) (by omega)))),rfl,rfl,rfl,rfl,trivial⟩,trivial,.refl _,fun _ h _=>h,fun _ h=>h⟩;rw [hat,decide_eq_true (Int.not_le.1 h1),decide_eq_true (Int.not_le.1 h2)]
    rfl
 ·obtain rfl : i = l.length:=by omega
  rw [List.take_length] at hr;refine s_exit (k_pass (k_pass (k_out ?_)));refine hK _ ?_;refine s_auto TY_ok rfl ?_;exact s_ret (k_retD TY_ok () rfl (by decide) rfl (by rw [hr]; rfl) trivial rfl (fun _ _ _=>trivial) (fun _ _=>trivial))
end Go.Proofs.YtlcbhbahchiofaaGreatDoor
/-
  CERTIFICATES: Check.
-/
namespace Go.Proofs.YtlcbhbahchiofaaGreatDoor
open Go.RowKit Go.IntWalk Nums

theorem eY_len {n : Nat} {l : List UInt8} (h : OkP (eY n l).parts1) : l.length = n:=by
 have h1:=(h (.agg n (By l).toArray) (by simp [eY,SQ.parts1])).1
 rwa [List.size_toArray,By_len] at h1
theorem rising_in {n : Int} : ∀ {l : List Int} {last : Int},risingB n last l = true → ∀ x ∈ l,last < x ∧ x < n
 | [],_,_,_,h=>by cases h
 | s :: l,last,h,x,hx=>by
  simp only [risingB,Bool.and_eq_true,decide_eq_true_eq] at h
  rcases List.mem_cons.1 hx with rfl | hx
  ·exact h.1
  ·have:=rising_in h.2 x hx
   exact ⟨by omega,this.2⟩
noncomputable def okB (ks : List (List UInt8)) (m : List UInt8) (sg : List Int) (si : List (List UInt8)) : Bool:=(sg.zip si).all fun x=>rightB (ks[x.1.toNat]!) x.2 m
noncomputable def checkE (ks : List (List UInt8)) (m : List UInt8) (c : CV) : Int :=
  if c.sg.length = ks.length - ks.length / 3 ∧ c.sg.length = c.si.length then
    if risingB ks.length (-1) c.sg = true then if okB ks m c.sg c.si = true then 0 else 60
    else 81
  else 80
theorem all_at {α : Type} {p : α → Bool} {l : List α} {i : Nat} {x : α} (h : (l.take i).all p = true) (hx : l[i]? = some x) : (l.take (i + 1)).all p = p x:=by
 rw [List.take_add_one,hx,List.all_append,h]
 simp
theorem all_no {α : Type} {p : α → Bool} {l : List α} {i : Nat} (h : (l.take i).all p = false) : l.all p = false:=by
 rw [← List.take_append_drop i l,List.all_append,h]
 rfl
theorem own_check : Own 13:=fun _ _=>by go_simp
set_option maxRecDepth 100000 in
set_option maxHeartbeats 4000000 in
theorem check_S (r : RgI) (ks : List (List UInt8)) (ci : CI) (cv : CV) (t : UInt8) (hb : cv.body.length ≤ 140737488355312) :
  Spec 13 [ptr r.g,.int .u8 (t.toNat : Int),(eC ci cv).den] [RingM r.m ks] (fun w=>RingF r ks w ∧ Ta w ∧ CertF ci cv w)
   { ret:=fun _ : Unit=>.v (.int .i64 (checkE ks (msg t cv.body) cv)),own:=fun _=>[RingM r.m ks] }:=by
 refine spec_S [.c (.v (ptr r.g)),.c (.v (.int .u8 (t.toNat : Int))),eC ci cv] 55 Tryz.func13 rfl (by rw [Tryz.ntmps13]; rfl) (more_ok trivial (two_ok trivial (eC_ok _ _))) fun b=>?_;refine s_pure (ks.length ≤ 7 ∧ cv.sg.length ≤ 9223372036854775807 ∧ ∀ x ∈ cv.si,x.length = 64) (fun w h _=>⟨by have:=h.1.1; omega,Nat.le_trans h.2.2.2.1.1 h.2.2.2.1.2.1,fun x hx=>eY_len (h.2.2.2.2.2.2.2.1 x hx).1⟩) fun ⟨hk,hl,hs⟩=>?_;refine s_auto TY_ok rfl ?_;refine s_auto TY_ok rfl ?_;refine s_seq fun K hK=>?_;refine s_regA TY_ok rfl fun K1 hK1=>?_;refine l_callA [ptr r.g] rfl rfl rfl own_rquorum rfl rfl (fun _ _=>rfl) (rquorum_S r ks) (fun w h _=>h.1) fun _=>?_;refine l_autoS TY_ok rfl ?_
 have hend : ∀ (e : Env) (v : Int),lookS e.E 6 = some (.v (.int .i64 v)) → e.R = [RingM r.m ks] → checkE ks (msg t cv.body) cv = v → kS b (bodyPost Tryz.prog Tryz.f13 (endS b { ret:=fun _ : Unit=>.v (.int .i64 (checkE ks (msg t cv.body) cv)),own:=fun _=>[RingM r.m ks] }) .ret) 55 e:=fun e v he hR hv=>by
  obtain ⟨E,L,R,F,M⟩:=e
  dsimp only at he hR
  subst hR;exact k_ret TY_ok () (rs:=[.tmp 6]) (qs:=[.c (.v (.int .i64 v))]) rfl (by decide) (by simp only [resS,he]) (by rw [hv]; rfl) rfl (fun _ _ _=>trivial) (fun _ _=>trivial)
 by_cases h1 : ¬ cv.sg.length = ks.length - ks.length / 3
 ·refine l_is 21 true rfl (decide_eq_true (by omega)) ?_
  refine l_autoS TY_ok rfl ?_;refine s_end (hK1 _ ?_);refine s_yes rfl ?_;refine s_auto TY_ok rfl ?_;exact s_ret (hend _ 80 rfl rfl (if_neg fun h=>h1 h.1))
 have h1 : cv.sg.length = ks.length - ks.length / 3:=Decidable.not_not.1 h1;refine l_is 21 false rfl (decide_eq_false (by omega)) ?_;refine l_autoS TY_ok rfl ?_;refine s_end (hK1 _ ?_);refine s_ifD ((cv.sg.length : Int) ≠ (cv.si.length : Int)) rfl (fun h2=>?_) (fun h2=>?_)
 ·refine s_auto TY_ok rfl ?_
  exact s_ret (hend _ 80 rfl rfl (if_neg fun h=>h2 (by omega)))
 have h2 : cv.sg.length = cv.si.length:=by omega
 refine s_skip (hK _ ?_);refine s_seq fun K2 hK2=>?_;refine s_regD 6 (by decide) (by kernel_rfl) (by kernel_rfl) fun K3 hK3 G S w0 hst=>?_;refine g_autoS TY_ok hst rfl ?_;refine g_callS hst [ptr r.g] rfl rfl rfl own_rsize rfl rfl (fun _=>rfl) (rsize_S r ks) trivial (fun _ _ w h=>h.fact.2.1) ?_;refine g_autoS TY_ok hst rfl ?_;refine g_callS hst [.slice ci.A1 cv.sg.length ci.c1,.int .i64 (ks.length : Int)] rfl rfl rfl own_rising rfl rfl (fun _=>rfl) (rising_S cv.sg ks.length) trivial (fun _ _ w h=>h.fact.2.2.2.2.1) ?_;refine g_autoS TY_ok hst rfl ?_;refine g_endS hst ?_;refine s_end (hK3 _ ?_);refine s_if (!risingB ks.length (-1) cv.sg) rfl (fun h3=>?_) (fun h3=>?_)
 ·refine s_auto TY_ok rfl ?_
  exact s_ret (hend _ 81 rfl rfl (by unfold checkE; rw [if_pos ⟨h1,h2⟩,if_neg (by simpa using h3)]))
 have h3 : risingB ks.length (-1) cv.sg = true:=by simpa using h3
 refine s_skip (hK2 _ ?_);refine s_seq fun K4 hK4=>?_;refine s_auto TY_ok rfl ?_;refine s_block ?_
 let F : Nat → Env:=fun j=>⟨[(37,.v (.int .i64 (j : Int))),(36,.v (.int .i64 (cv.sg.length : Int))),(35,.v (.slice ci.A1 cv.sg.length ci.c1)),(0,.v (ptr r.g)),(1,.v (.int .u8 (t.toNat : Int))),(6,.v (.int .i64 0)),(5,.a 5 0)],
  [⟨5,none,26,[.one (.v (.slice ci.A0 cv.body.length ci.c0)),.one (.v (.slice ci.A1 cv.sg.length ci.c1)),.one (.v (.slice ci.A2 cv.si.length ci.c2))]⟩],[RingM r.m ks],fun w=>RingF r ks w ∧ Ta w ∧ CertF ci cv w,fun _=>True⟩
 refine c_weak (e':=F 0) ⟨⟨rfl,rfl,rfl,rfl,rfl,rfl,rfl,trivial⟩,⟨rfl,rfl,trivial⟩,.refl _,fun _ h _=>h.2,fun _ h=>trivial⟩ (s_loop (fun j=>cv.sg.length - j) F (fun j=>j ≤ cv.sg.length ∧ ((cv.sg.zip cv.si).take j).all (fun x=>rightB (ks[x.1.toNat]!) x.2 (msg t cv.body)) = true) ?_ 0 ⟨Nat.zero_le _,rfl⟩)
 rintro j ⟨hj,hok⟩
 refine s_auto TY_ok rfl ?_;refine s_seq fun K5 hK5=>?_;refine s_ifD ((j : Int) < (cv.sg.length : Int)) rfl (fun hlt=>?_) (fun hge=>?_)
 ·have hlt : j < cv.sg.length:=by omega
  obtain ⟨x,hx⟩ : ∃ x,cv.sg[j]? = some x:=⟨_,List.getElem?_eq_getElem hlt⟩;obtain ⟨y,hy⟩ : ∃ y,cv.si[j]? = some y:=⟨_,List.getElem?_eq_getElem (by omega)⟩;have hy64:=hs y (List.mem_of_getElem? hy);have hr:=rising_in h3 x (List.mem_of_getElem? hx);obtain ⟨k,rfl⟩ : ∃ k : Nat,x = (k : Int):=⟨x.toNat,by omega⟩
  have hkk : k < ks.length:=by omega
  have hnext : ((cv.sg.zip cv.si).take (j + 1)).all (fun x=>rightB (ks[x.1.toNat]!) x.2 (msg t cv.body)) = rightB ks[k] y (msg t cv.body):=by
   rw [all_at (x:=((k : Int),y)) hok ((List.getElem?_zip_eq_some (z:=((k : Int),y))).2 ⟨hx,hy⟩),Int.toNat_natCast,getElem!_pos ks k hkk]
  refine s_skip (hK5 _ ?_);refine s_seq fun K6 hK6=>?_;refine s_block ?_;refine s_regA TY_ok rfl fun K7 hK7=>?_;refine l_elem TY_ok rfl rfl rfl j rfl hx rfl rfl (rd_fact fun w h _=>h.2.2.2.1) ?_;refine l_autoS TY_ok rfl ?_;refine s_end (hK7 _ ?_);refine s_regD 10 (by decide) (by kernel_rfl) (by kernel_rfl) fun K9 hK9 G S w0 hst=>?_;refine g_autoS TY_ok hst rfl ?_;refine g_elem TY_ok hst rfl rfl rfl j rfl hy rfl rfl (rd_fact fun w h _=>h.2.2.2.2) ?_;refine g_autoS TY_ok hst rfl ?_;refine g_endS hst ?_;refine l_callA [ptr r.g,.int .i64 (k : Int),.int .u8 (t.toNat : Int),.slice ci.A0 cv.body.length ci.c0,.agg (By y).toArray] rfl rfl rfl own_ropen rfl rfl (fun _ _=>rfl) (ropen_S r ks k t hkk hy64 hb) (fun w h _=>⟨h.1,h.2.1,h.2.2.1⟩) fun _=>?_;refine l_autoS TY_ok rfl ?_;refine s_end (hK9 _ ?_);refine s_if (!rightB ks[k] y (msg t cv.body)) rfl (fun h4=>?_) (fun h4=>?_)
  ·refine s_auto TY_ok rfl ?_
   refine s_ret (hend _ 60 rfl rfl ?_)
   unfold checkE
   have h4 : rightB ks[k] y (msg t cv.body) = false:=by simpa using h4
   have h5 : okB ks (msg t cv.body) cv.sg cv.si = false:=by
    rw [h4] at hnext;exact all_no hnext
   rw [if_pos ⟨h1,h2⟩,if_pos h3,if_neg (by rw [h5]; decide)]
  ·have h4 : rightB ks[k] y (msg t cv.body) = true:=by simpa using h4
   refine s_skip (hK6 _ ?_);refine s_autoE TY_ok rfl ?_;exact k_next (j + 1) ⟨hlt,by rw [hnext,h4]⟩ (by omega) ⟨⟨congrArg some (congrArg SV.v (congrArg (Value.int .i64) (wrapI rfl (by omega) (by omega)))),rfl,rfl,rfl,rfl,rfl,rfl,trivial⟩,⟨rfl,rfl,trivial⟩,.refl _,fun _ h _=>h.2,fun _ h=>trivial⟩
 ·obtain rfl : j = cv.sg.length:=by omega
  refine s_exit (k_pass (k_pass (k_out ?_)));refine hK4 _ ?_;refine s_auto TY_ok rfl ?_;refine s_ret (hend _ 0 rfl rfl ?_)
  unfold checkE
  rw [List.take_of_length_le (by rw [List.length_zip]; omega)] at hok;rw [if_pos ⟨h1,h2⟩,if_pos h3,if_pos (show okB ks (msg t cv.body) cv.sg cv.si = true from hok)]
end Go.Proofs.YtlcbhbahchiofaaGreatDoor
/-
  THE PROGRAM'S BYTES OF A CERTIFICATE, over states.
-/
namespace Go.Proofs.YtlcbhbahchiofaaGreatDoor
open Go.RowKit Go.IntWalk

theorem own_cbytes : Own 5:=fun _ _=>by go_simp
theorem u64_nat (z : Int) : ∃ v : Nat,v < 18446744073709551616 ∧ IntKind.u64.wrap z = (v : Int) ∧ v = (IntKind.u64.wrap z).toNat:=⟨(IntKind.u64.wrap z).toNat,by rw [u64_is]; omega,by rw [u64_is]; omega,rfl⟩
theorem entsC_len (cv : CV) (hs : ∀ x ∈ cv.si,x.length = 64) (n : Nat) : (entsC cv n).length = 72 * n:=by
 induction n with
 | zero=>rfl
 | succ n ih =>
  rw [entsC_next,List.length_append,ih]
  unfold ent
  rw [List.length_append,be8_len]
  cases h : cv.si[n]? with
  | none=>simp; omega
  | some x =>
   have:=hs x (List.mem_of_getElem? h);simp only [Option.getD_some]
   omega
theorem bytesC_len (cv : CV) (hs : ∀ x ∈ cv.si,x.length = 64) : (bytesC cv).length = 16 + cv.body.length + 72 * cv.sg.length:=by
 unfold bytesC
 rw [List.length_append,List.length_append,List.length_append,be8_len,be8_len,entsC_len cv hs]
 omega
set_option maxRecDepth 100000 in
set_option maxHeartbeats 4000000 in
theorem cbytes_S (ci : CI) (cv : CV) (hl : 16 + cv.body.length + 72 * cv.sg.length ≤ 140737488355328) : Spec 5 [(eC ci cv).den] [] (CertF ci cv)
  { ret:=fun g : Nat=>.v (.slice (some ⟨g,0,none⟩) (bytesC cv).length (bytesC cv).length),n:=fun g=>Rd 1 eB (some ⟨g,0,none⟩) (bytesC cv).length (bytesC cv) }:=by
 refine spec_S [eC ci cv] 46 Tryz.func5 rfl (by rw [Tryz.ntmps5]; rfl) (one_ok (eC_ok ci cv)) fun b=>?_;refine s_pure (∀ x ∈ cv.si,x.length = 64) (fun w h _=>fun x hx=>eY_len (h.2.2.2.2.2.1 x hx).1) fun h64=>?_;have hbl:=bytesC_len cv h64;refine s_auto TY_ok rfl ?_;refine s_regA TY_ok rfl fun K1 hK1=>?_;refine s_end (k_give 3 rfl (E':=[(1,.a 1 0)]) ⟨rfl,trivial⟩ fun g3=>hK1 _ ?_);refine s_freeO 0 rfl ?_;refine s_locs fun G=>?_;refine s_seq fun K2 hK2=>?_;refine s_any 9 [⟨1,some (G 1),26,(eC ci cv).parts1⟩] (by kernel_rfl) (by decide) (inv_of fun x hx=>by rw [List.mem_singleton.1 hx]; exact ⟨List.mem_cons_self,rfl⟩) ?_;refine a_front TY_ok 0 (by kernel_rfl) rfl rfl rfl rfl rfl rfl (fun x hx=>by rw [List.mem_singleton.1 hx]; exact List.mem_cons_self) ?_;refine a_front TY_ok 1 (by kernel_rfl) rfl rfl rfl rfl rfl rfl (fun x hx=>by rw [List.mem_singleton.1 hx]; exact List.mem_cons_self) ?_;refine a_front TY_ok 3 (by kernel_rfl) rfl rfl rfl rfl rfl rfl (fun x hx=>by rw [List.mem_singleton.1 hx]; exact List.mem_cons_self) ?_;refine a_front TY_ok 4 (by kernel_rfl) rfl rfl rfl rfl rfl rfl (fun x hx=>by rw [List.mem_singleton.1 hx]; exact List.mem_cons_self) ?_;refine a_front TY_ok 5 (by kernel_rfl) rfl rfl rfl rfl rfl rfl (fun x hx=>by rw [List.mem_singleton.1 hx]; exact List.mem_cons_self) ?_;refine a_front TY_ok 6 (by kernel_rfl) rfl rfl rfl rfl rfl rfl (fun x hx=>by rw [List.mem_singleton.1 hx]; exact List.mem_cons_self) ?_;refine a_step 2 (by kernel_rfl) rfl fun K3 hK3=>?_;refine l_call0 [.slice none ([] : List UInt8).length 0,.slice ci.A0 cv.body.length ci.c0] rfl rfl rfl own_w1bytes rfl rfl (fun _ _=>rfl) (wbytes_S [] cv.body (by show 0 + 8 + _ ≤ _; omega)) (fun w h _=>⟨Rd.nil _ _ _,h.2.1⟩) fun ga=>?_;rw [List.nil_append];refine s_end (hK3 _ (inv_of fun x hx=>by rw [List.mem_singleton.1 hx]; exact ⟨List.mem_cons_self,rfl⟩) ?_);refine a_step 7 (by kernel_rfl) rfl fun K4 hK4=>?_;have hsl : IntKind.u64.wrap (cv.sg.length : Int) = (cv.sg.length : Int):=wrapU rfl (by omega) (by omega);refine l_num 14 (cv.sg.length : Int) rfl hsl ?_;refine l_call0 [.slice (some ⟨ga,0,none⟩) (be8 cv.body.length ++ cv.body).length (be8 cv.body.length ++ cv.body).length,.int .u64 (cv.sg.length : Int)] rfl rfl rfl own_wnum rfl rfl (fun _ _=>rfl) (wnum_S (be8 cv.body.length ++ cv.body) cv.sg.length (by omega) (by rw [List.length_append,be8_len]; omega)) (fun w _ h=>h.1) fun gc=>?_;refine s_end (hK4 _ (inv_of fun x hx=>by rw [List.mem_singleton.1 hx]; exact ⟨List.mem_cons_self,rfl⟩) ?_);refine a_step 8 (by kernel_rfl) rfl fun K5 hK5=>?_;refine l_list TY_ok b.B.heap.size [⟨some ⟨gc,0,none⟩,(be8 cv.body.length ++ cv.body ++ be8 cv.sg.length).length,(be8 cv.body.length ++ cv.body ++ be8 cv.sg.length)⟩] (fe:=eSeg) rfl rfl rfl rfl rfl (fun _=>rfl) rfl (by decide) (by decide) (okF_seg _) (Nat.le_refl _) fun P=>?_;refine s_end (hK5 _ (inv_of fun x hx=>by rw [List.mem_singleton.1 hx]; exact ⟨List.mem_cons_self,rfl⟩) ?_)
 refine a_tail (by kernel_rfl) ?_;refine l_autoS TY_ok rfl ?_;refine s_end (hK2 _ (k_noloc ?_));refine s_seq fun K6 hK6=>?_;refine s_auto TY_ok rfl ?_;refine s_block ?_
 let F : Nat × List Seg × Option Addr × Nat → Env:=fun ⟨i,ss,PA,pc⟩=>⟨[(20,.v (.int .i64 (i : Int))),(19,.v (.int .i64 (cv.sg.length : Int))),(18,.v (.slice ci.A1 cv.sg.length ci.c1)),(1,.a 1 0),(3,.v (ptr g3)),(4,.v (.slice PA ss.length pc))],[⟨1,none,26,(eC ci cv).parts1⟩],[OwnS b.B.heap.size 22 1 eSeg PA pc ss],fun w=>(∀ s ∈ ss,s.rd w) ∧ CertF ci cv w ∧ Rd 1 eB (some ⟨g3,0,none⟩) 64 (List.replicate 64 0) w,fun _=>True⟩
 refine c_weak (e':=F (0,[⟨some ⟨gc,0,none⟩,(be8 cv.body.length ++ cv.body ++ be8 cv.sg.length).length,(be8 cv.body.length ++ cv.body ++ be8 cv.sg.length)⟩],P,1)) ⟨⟨rfl,rfl,rfl,rfl,rfl,rfl,trivial⟩,⟨rfl,rfl,trivial⟩,.refl _,fun w h hM=>⟨fun s hs=>by rw [List.mem_singleton.1 hs]; exact hM.1,h.2.2.2,obj_rd (n:=64) h.2.2.1 (Nat.le_of_ble_eq_true rfl)⟩,fun _ _=>trivial⟩
  (s_loop (fun x=>cv.sg.length - x.1) F (fun x=>x.1 ≤ cv.sg.length ∧ (x.2.1.map Seg.l).flatten = (be8 cv.body.length ++ cv.body ++ be8 cv.sg.length) ++ entsC cv x.1 ∧ x.2.1.length = 1 + 2 * x.1) ?_ (0,[⟨some ⟨gc,0,none⟩,(be8 cv.body.length ++ cv.body ++ be8 cv.sg.length).length,(be8 cv.body.length ++ cv.body ++ be8 cv.sg.length)⟩],P,1) ⟨Nat.zero_le _,by simp [entsC],rfl⟩)
 rintro ⟨i,ss,PA,pc⟩ ⟨hi,hss,hsn⟩
 dsimp only at hi hss hsn
 refine s_auto TY_ok rfl ?_;refine s_seq fun K7 hK7=>?_;refine s_ifD ((i : Int) < (cv.sg.length : Int)) rfl (fun hlt=>?_) (fun hge=>?_)
 ·have hlt : i < cv.sg.length:=by omega
  obtain ⟨s,hs⟩ : ∃ s,cv.sg[i]? = some s:=⟨_,List.getElem?_eq_getElem hlt⟩
  have hs! : cv.sg[i]! = s:=by rw [getElem!_pos cv.sg i hlt]; exact (List.getElem?_eq_some_iff.1 hs).2
  have hen:=entsC_next cv i;rw [hs!] at hen;refine s_skip (hK7 _ ?_);refine s_seq fun K8 hK8=>?_;refine s_block ?_;refine s_regA TY_ok rfl fun K9 hK9=>?_;refine l_elem TY_ok rfl rfl rfl i rfl hs rfl rfl (rd_fact fun w h _=>h.2.1.2.1) ?_;refine l_autoS TY_ok rfl ?_;refine s_end (hK9 _ ?_);refine s_regA TY_ok rfl fun K10 hK10=>?_;refine l_op (.v (.slice (some ⟨g3,0,none⟩) 64 64)) trivial rfl rfl rfl (runO_allP rfl Tryz.underlying43 rfl rfl) ?_;refine l_autoS TY_ok rfl ?_;refine s_end (hK10 _ ?_);refine s_seq fun K11 hK11=>?_
  have hgo : ∀ (A : Option Addr) (x : List UInt8),x.length = 64 → (cv.si[i]?).getD (List.replicate 64 0) = x → ∀ e,Weak e ⟨[(20,.v (.int .i64 (i : Int))),(19,.v (.int .i64 (cv.sg.length : Int))),(18,.v (.slice ci.A1 cv.sg.length ci.c1)),(1,.a 1 0),(3,.v (ptr g3)),(4,.v (.slice PA ss.length pc)),(6,.v (.int .i64 s)),(7,.v (.slice A x.length 64))],[⟨1,none,26,(eC ci cv).parts1⟩],[OwnS b.B.heap.size 22 1 eSeg PA pc ss],fun w=>Rd 1 eB A 64 x w ∧ (∀ s ∈ ss,s.rd w) ∧ CertF ci cv w ∧ Rd 1 eB (some ⟨g3,0,none⟩) 64 (List.replicate 64 0) w,fun _=>True⟩ → kS b K11 46 e:=by
   intro A x hx hgx e hw
   refine k_weak hw (hK11 _ ?_);obtain ⟨v,hv,hvs,hv2⟩:=u64_nat s
   have he : ent s x = be8 v ++ x:=by unfold ent; rw [← hv2]
   rw [hgx,he] at hen;refine s_lit ?_;refine l_autoS TY_ok rfl ?_;refine l_num 38 (v : Int) rfl hvs ?_;refine l_call0 [.slice none ([] : List UInt8).length 0,.int .u64 (v : Int)] rfl rfl rfl own_wnum rfl rfl (fun _ _=>rfl) (wnum_S [] v hv (by decide)) (fun _ _ _=>Rd.nil _ _ _) fun gd=>?_;rw [List.nil_append];refine l_autoS TY_ok rfl ?_;refine l_list TY_ok b.B.heap.size [⟨some ⟨gd,0,none⟩,(be8 v).length,be8 v⟩,⟨A,64,x⟩] (fe:=eSeg) rfl rfl rfl rfl rfl (fun _=>rfl) rfl (by decide) (by decide) (okF_seg _) (Nat.le_refl _) fun P2=>?_;refine l_free 0 rfl ?_;refine l_appY TY_ok 0 [⟨some ⟨gd,0,none⟩,(be8 v).length,be8 v⟩,⟨A,64,x⟩] rfl rfl rfl rfl rfl rfl rfl rfl rfl (rd_fact fun w h _=>h.1) (by decide) (by rw [hsn]; show (_ + 2) * 24 ≤ _; omega) (by rw [hsn]; show _ + 2 ≤ _; omega) (Nat.le_refl _) fun PA' pc'=>?_;refine l_autoS TY_ok rfl ?_;refine s_end (hK8 _ ?_);refine s_autoE TY_ok rfl ?_
   exact k_next (i + 1,ss ++ [⟨some ⟨gd,0,none⟩,(be8 v).length,be8 v⟩,⟨A,64,x⟩],PA',pc') ⟨hlt,by show (List.map Seg.l (ss ++ _)).flatten = _; rw [List.map_append,List.flatten_append,hss,hen,List.append_assoc]; simp,by show (ss ++ _).length = _; rw [List.length_append,hsn]; show 1 + 2 * i + 2 = 1 + 2 * (i + 1); omega⟩ (by show _ - (i + 1) < _ - i; omega) ⟨⟨congrArg some (congrArg SV.v (congrArg (Value.int .i64) (wrapI rfl (by omega) (by omega)))),rfl,rfl,rfl,rfl,rfl,trivial⟩,⟨rfl,rfl,trivial⟩,.refl _,fun w h hM=>⟨fun s hs=>by
    rcases List.mem_append.1 hs with hs | hs
    ·exact h.2.2.2.1 s hs
    ·rcases List.mem_cons.1 hs with rfl | hs
     ·exact hM.1
     ·rw [List.mem_singleton.1 hs]
      exact h.2.2.1,h.2.2.2.2.1,h.2.2.2.2.2⟩,fun _ _=>trivial⟩
  refine s_auto TY_ok rfl ?_;refine s_ifD ((i : Int) < (cv.si.length : Int)) rfl (fun h1=>?_) (fun h1=>?_)
  ·obtain ⟨x,hx⟩ : ∃ x,cv.si[i]? = some x:=⟨_,List.getElem?_eq_getElem (by omega)⟩
   have hx64:=h64 x (List.mem_of_getElem? hx);refine s_pure (∃ bb o,ci.A2 = some ⟨bb,o,none⟩) (fun w h _=>by obtain ⟨bb,o,e,_⟩:=h.2.1.2.2.2.2.2.2 (by omega); exact ⟨bb,o,e⟩) fun ⟨bb,o,hA2⟩=>?_;refine s_lit ?_;refine l_autoS TY_ok rfl ?_;refine l_eq 32 (.v (.slice (some ⟨bb,o,none⟩) cv.si.length ci.c2)) rfl (by rw [hA2]) ?_;refine l_op (.v (.pointer (some ⟨bb,o + 64 * i,none⟩))) trivial rfl rfl rfl (runO_ixS i rfl Tryz.underlying24 rfl rfl rfl (by omega)) ?_;refine l_op (.v (.slice (some ⟨bb,o + 64 * i,none⟩) 64 64)) trivial rfl rfl rfl (runO_allP rfl Tryz.underlying43 rfl rfl) ?_;refine l_autoS TY_ok rfl ?_;refine l_eq 7 (.v (.slice (some ⟨bb,o + 64 * i,none⟩) x.length 64)) rfl (by rw [hx64]) ?_;exact s_end (hgo (some ⟨bb,o + 64 * i,none⟩) x hx64 (by rw [hx]; rfl) _ ⟨⟨rfl,rfl,rfl,rfl,rfl,rfl,rfl,rfl,trivial⟩,⟨rfl,rfl,trivial⟩,.refl _,fun w h _=>⟨rd_elem (by have:=h.2.1.2.2; rw [hA2] at this; exact this) hx hx64 (Nat.le_of_ble_eq_true rfl),h⟩,fun _ h=>h⟩)
  ·exact s_skip (hgo (some ⟨g3,0,none⟩) (List.replicate 64 0) List.length_replicate (by rw [List.getElem?_eq_none (by omega)]; rfl) _ ⟨⟨rfl,rfl,rfl,rfl,rfl,rfl,rfl,rfl,trivial⟩,⟨rfl,rfl,trivial⟩,.refl _,fun w h _=>⟨h.2.2,h⟩,fun _ h=>h⟩)
 ·obtain rfl : cv.sg.length = i:=by omega
  have e0 : (List.map Seg.l ss).flatten = bytesC cv:=hss;have hj:=join_S (A:=PA) (c:=pc) ss (by rw [e0]; omega);rw [e0] at hj;refine s_exit (k_pass (k_pass (k_out ?_)));refine hK6 _ ?_;refine s_free 0 rfl ?_;refine s_regA TY_ok rfl fun K8 hK8=>?_;refine l_call0 [.slice PA ss.length pc] rfl rfl rfl own_join rfl rfl (fun _ _=>rfl) hj (fun w h _=>⟨h.1,h.2.1⟩) fun gb=>?_;refine l_autoS TY_ok rfl ?_;refine s_end (hK8 _ ?_);exact s_ret (k_ret TY_ok gb rfl (by decide) rfl rfl rfl (fun _ _ _=>trivial) (fun w h=>h.1))
end Go.Proofs.YtlcbhbahchiofaaGreatDoor
/-
  THE DOCUMENT'S BYTES OF A CERTIFICATE, over states.
-/
namespace Go.Proofs.YtlcbhbahchiofaaGreatDoor
open Go.RowKit Go.IntWalk

theorem own_fbytes : Own 6:=fun _ _=>by go_simp
set_option maxRecDepth 100000 in
set_option maxHeartbeats 4000000 in
theorem fbytes_S (ci : CI) (cv : CV) (hl : 16 + cv.body.length + 72 * cv.sg.length ≤ 140737488355328) : Spec 6 [(eC ci cv).den] [] (CertF ci cv)
  { ret:=fun x : Option Addr × Nat=>.v (.slice x.1 (bytesC cv).length x.2),p:=fun x=>Rd 1 eB x.1 x.2 (bytesC cv) }:=by
 refine spec_S [eC ci cv] 46 Tryz.func6 rfl (by rw [Tryz.ntmps6]; rfl) (one_ok (eC_ok ci cv)) fun b=>?_;refine s_pure (∀ x ∈ cv.si,x.length = 64) (fun w h _=>fun x hx=>eY_len (h.2.2.2.2.2.1 x hx).1) fun h64=>?_;refine s_auto TY_ok rfl ?_;refine s_locs fun G=>?_;refine s_seq fun K2 hK2=>?_;refine s_any 8 [⟨1,some (G 1),26,(eC ci cv).parts1⟩] (by kernel_rfl) (by decide) (inv_of fun x hx=>by rw [List.mem_singleton.1 hx]; exact ⟨List.mem_cons_self,rfl⟩) ?_;refine a_front TY_ok 0 (by kernel_rfl) rfl rfl rfl rfl rfl rfl (fun x hx=>by rw [List.mem_singleton.1 hx]; exact List.mem_cons_self) ?_;refine a_front TY_ok 1 (by kernel_rfl) rfl rfl rfl rfl rfl rfl (fun x hx=>by rw [List.mem_singleton.1 hx]; exact List.mem_cons_self) ?_;refine a_front TY_ok 3 (by kernel_rfl) rfl rfl rfl rfl rfl rfl (fun x hx=>by rw [List.mem_singleton.1 hx]; exact List.mem_cons_self) ?_;refine a_front TY_ok 4 (by kernel_rfl) rfl rfl rfl rfl rfl rfl (fun x hx=>by rw [List.mem_singleton.1 hx]; exact List.mem_cons_self) ?_;refine a_front TY_ok 5 (by kernel_rfl) rfl rfl rfl rfl rfl rfl (fun x hx=>by rw [List.mem_singleton.1 hx]; exact List.mem_cons_self) ?_;refine a_front TY_ok 6 (by kernel_rfl) rfl rfl rfl rfl rfl rfl (fun x hx=>by rw [List.mem_singleton.1 hx]; exact List.mem_cons_self) ?_;refine a_step 2 (by kernel_rfl) rfl fun K3 hK3=>?_;refine l_call0 [.slice ci.A0 cv.body.length ci.c0] rfl rfl rfl own_r1bytes rfl rfl (fun _ _=>rfl) (rfbytes_S cv.body (by omega)) (fun w h _=>h.1) fun ⟨PA,pc⟩=>?_;refine s_end (hK3 _ (inv_of fun x hx=>by rw [List.mem_singleton.1 hx]; exact ⟨List.mem_cons_self,rfl⟩) ?_);refine a_step 7 (by kernel_rfl) rfl fun K4 hK4=>?_;have hsl : IntKind.u64.wrap (cv.sg.length : Int) = (cv.sg.length : Int):=wrapU rfl (by omega) (by omega);refine l_num 12 (cv.sg.length : Int) rfl hsl ?_;refine l_call0 [.int .u64 (cv.sg.length : Int)] rfl rfl rfl own_rfnum rfl rfl (fun _ _=>rfl) (rfnum_S cv.sg.length (by omega)) (fun _ _ _=>trivial) fun gn=>?_;refine s_end (hK4 _ (inv_of fun x hx=>by rw [List.mem_singleton.1 hx]; exact ⟨List.mem_cons_self,rfl⟩) ?_);refine a_tail (by kernel_rfl) ?_;refine l_R [OwnS 0 5 1 eB PA pc (be8 cv.body.length ++ cv.body)] rfl ?_;refine l_appY TY_ok 0 (be8 cv.sg.length) rfl rfl rfl rfl rfl rfl rfl rfl rfl (rd_fact fun w _ h=>h.1) (by decide) (by rw [List.length_append,be8_len,be8_len]; show _ * 1 ≤ _; omega) (by rw [List.length_append,be8_len,be8_len]; omega) (Nat.zero_le _) fun PA pc=>?_;refine l_autoS TY_ok rfl ?_;refine s_end (hK2 _ (k_noloc ?_));refine s_seq fun K6 hK6=>?_;refine s_auto TY_ok rfl ?_;refine s_block ?_
 let F : Nat × Option Addr × Nat → Env:=fun ⟨i,PA,pc⟩=>⟨[(18,.v (.int .i64 (i : Int))),(17,.v (.int .i64 (cv.sg.length : Int))),(1,.a 1 0),(3,.v (.slice PA ((be8 cv.body.length ++ cv.body ++ be8 cv.sg.length) ++ entsC cv i).length pc))],[⟨1,none,26,(eC ci cv).parts1⟩],[OwnS 0 5 1 eB PA pc ((be8 cv.body.length ++ cv.body ++ be8 cv.sg.length) ++ entsC cv i)],CertF ci cv,fun _=>True⟩
 have e0 : (be8 cv.body.length ++ cv.body ++ be8 cv.sg.length) = (be8 cv.body.length ++ cv.body ++ be8 cv.sg.length) ++ entsC cv 0:=(List.append_nil _).symm;rw [e0]
 refine c_weak (e':=F (0,PA,pc)) ⟨⟨rfl,rfl,rfl,rfl,trivial⟩,⟨rfl,rfl,trivial⟩,.refl _,fun w h _=>h.2.2,fun _ _=>trivial⟩
  (s_loop (fun x=>cv.sg.length - x.1) F (fun x=>x.1 ≤ cv.sg.length) ?_ (0,PA,pc) (Nat.zero_le _))
 rintro ⟨i,PA,pc⟩ hi
 dsimp only at hi
 have hbl : ((be8 cv.body.length ++ cv.body ++ be8 cv.sg.length) ++ entsC cv i).length = 16 + cv.body.length + 72 * i:=by
  rw [List.length_append,List.length_append,List.length_append,be8_len,be8_len,entsC_len cv h64]
  omega
 refine s_auto TY_ok rfl ?_;refine s_seq fun K7 hK7=>?_;refine s_ifD ((i : Int) < (cv.sg.length : Int)) rfl (fun hlt=>?_) (fun hge=>?_)
 ·have hlt : i < cv.sg.length:=by omega
  obtain ⟨s,hs⟩ : ∃ s,cv.sg[i]? = some s:=⟨_,List.getElem?_eq_getElem hlt⟩
  have hs! : cv.sg[i]! = s:=by rw [getElem!_pos cv.sg i hlt]; exact (List.getElem?_eq_some_iff.1 hs).2
  have hen:=entsC_next cv i;rw [hs!] at hen;obtain ⟨v,hv,hvs,hv2⟩:=u64_nat s;refine s_skip (hK7 _ ?_);refine s_seq fun K8 hK8=>?_;refine s_block ?_;refine s_auto TY_ok rfl ?_;refine s_regA TY_ok rfl fun K9 hK9=>?_;refine l_elem TY_ok rfl rfl rfl i rfl hs rfl rfl (rd_fact fun w h _=>h.2.1) ?_;refine l_autoS TY_ok rfl ?_;refine l_num 27 (v : Int) rfl hvs ?_;refine l_call0 [.int .u64 (v : Int)] rfl rfl rfl own_rfnum rfl rfl (fun _ _=>rfl) (rfnum_S v hv) (fun _ _ _=>trivial) fun gn=>?_;refine l_R [OwnS 0 5 1 eB PA pc ((be8 cv.body.length ++ cv.body ++ be8 cv.sg.length) ++ entsC cv i)] rfl ?_;refine l_appY TY_ok 0 (be8 v) rfl rfl rfl rfl rfl rfl rfl rfl rfl (rd_fact fun w _ h=>h.1) (by decide) (by rw [hbl,be8_len]; show _ * 1 ≤ _; omega) (by rw [hbl,be8_len]; omega) (Nat.zero_le _) fun PA pc=>?_;refine l_autoS TY_ok rfl ?_;refine s_end (hK9 _ ?_);refine s_regA TY_ok rfl fun K10 hK10=>?_;refine l_makeS TY_ok b.B.heap.size 64 (0 : UInt8) (fe:=eB) rfl rfl rfl rfl rfl rfl rfl rfl (eB_ok 0) (by decide) (by decide) (Nat.le_refl _) fun A0=>?_;refine l_free 0 rfl ?_;refine l_autoS TY_ok rfl ?_;refine s_end (hK10 _ ?_);refine s_seq fun K11 hK11=>?_
  have hgo : ∀ (A : Option Addr) (x : List UInt8),x.length = 64 → (cv.si[i]?).getD (List.replicate 64 0) = x → ∀ e,Weak e ⟨[(18,.v (.int .i64 (i : Int))),(17,.v (.int .i64 (cv.sg.length : Int))),(1,.a 1 0),(3,.v (.slice PA (((be8 cv.body.length ++ cv.body ++ be8 cv.sg.length) ++ entsC cv i) ++ be8 v).length pc)),(5,.v (.slice A x.length 64))],[⟨1,none,26,(eC ci cv).parts1⟩],[OwnS 0 5 1 eB PA pc (((be8 cv.body.length ++ cv.body ++ be8 cv.sg.length) ++ entsC cv i) ++ be8 v)],fun w=>Rd 1 eB A 64 x w ∧ CertF ci cv w,fun _=>True⟩ → kS b K11 46 e:=by
   intro A x hx hgx e hw
   refine k_weak hw (hK11 _ ?_)
   have he : ent s x = be8 v ++ x:=by unfold ent; rw [← hv2]
   rw [hgx,he] at hen
   have hen2 : ((be8 cv.body.length ++ cv.body ++ be8 cv.sg.length) ++ entsC cv i) ++ be8 v ++ x = (be8 cv.body.length ++ cv.body ++ be8 cv.sg.length) ++ entsC cv (i + 1):=by rw [hen,List.append_assoc,List.append_assoc]
   refine s_lit ?_;refine l_autoS TY_ok rfl ?_;refine l_appY TY_ok 0 x rfl rfl rfl rfl rfl rfl rfl rfl rfl (rd_fact fun w h _=>h.1) (by decide) (by rw [List.length_append,hbl,be8_len]; show _ * 1 ≤ _; omega) (by rw [List.length_append,hbl,be8_len]; omega) (Nat.zero_le _) fun PA' pc'=>?_;rw [hen2];refine l_autoS TY_ok rfl ?_;refine s_end (hK8 _ ?_);refine s_autoE TY_ok rfl ?_;exact k_next (i + 1,PA',pc') hlt (by show _ - (i + 1) < _ - i; omega) ⟨⟨congrArg some (congrArg SV.v (congrArg (Value.int .i64) (wrapI rfl (by omega) (by omega)))),rfl,rfl,rfl,trivial⟩,⟨rfl,rfl,trivial⟩,.refl _,fun w h _=>h.2,fun _ _=>trivial⟩
  refine s_auto TY_ok rfl ?_;refine s_ifD ((i : Int) < (cv.si.length : Int)) rfl (fun h1=>?_) (fun h1=>?_)
  ·obtain ⟨x,hx⟩ : ∃ x,cv.si[i]? = some x:=⟨_,List.getElem?_eq_getElem (by omega)⟩
   have hx64:=h64 x (List.mem_of_getElem? hx);refine s_pure (∃ bb o,ci.A2 = some ⟨bb,o,none⟩) (fun w h _=>by obtain ⟨bb,o,e,_⟩:=h.2.2.2.2.2.2.2.2 (by omega); exact ⟨bb,o,e⟩) fun ⟨bb,o,hA2⟩=>?_;refine s_lit ?_;refine l_autoS TY_ok rfl ?_;refine l_eq 37 (.v (.slice (some ⟨bb,o,none⟩) cv.si.length ci.c2)) rfl (by rw [hA2]) ?_;refine l_op (.v (.pointer (some ⟨bb,o + 64 * i,none⟩))) trivial rfl rfl rfl (runO_ixS i rfl Tryz.underlying24 rfl rfl rfl (by omega)) ?_;refine l_op (.v (.slice (some ⟨bb,o + 64 * i,none⟩) 64 64)) trivial rfl rfl rfl (runO_allP rfl Tryz.underlying43 rfl rfl) ?_;refine l_autoS TY_ok rfl ?_;refine l_eq 5 (.v (.slice (some ⟨bb,o + 64 * i,none⟩) x.length 64)) rfl (by rw [hx64]) ?_;exact s_end (hgo (some ⟨bb,o + 64 * i,none⟩) x hx64 (by rw [hx]; rfl) _ ⟨⟨rfl,rfl,rfl,rfl,rfl,trivial⟩,⟨rfl,rfl,trivial⟩,.refl _,fun w h _=>⟨rd_elem (by have:=h.2.2.2.2; rw [hA2] at this; exact this) hx hx64 (Nat.le_of_ble_eq_true rfl),h.2.2⟩,fun _ _=>trivial⟩)
  ·exact s_skip (hgo A0 (List.replicate 64 0) List.length_replicate (by rw [List.getElem?_eq_none (by omega)]; rfl) _ ⟨⟨rfl,rfl,rfl,rfl,rfl,trivial⟩,⟨rfl,rfl,trivial⟩,.refl _,fun w h _=>⟨h.1,h.2.2⟩,fun _ _=>trivial⟩)
 ·obtain rfl : cv.sg.length = i:=by omega
  have e0 : (be8 cv.body.length ++ cv.body ++ be8 cv.sg.length) ++ entsC cv cv.sg.length = bytesC cv:=rfl;rw [e0];refine s_exit (k_pass (k_pass (k_out ?_)));refine hK6 _ ?_;refine s_free 0 rfl ?_;refine s_auto TY_ok rfl ?_;exact s_ret (k_ret TY_ok (PA,pc) rfl (by decide) rfl rfl rfl (fun w h _=>h.1) (fun _ _=>trivial))
end Go.Proofs.YtlcbhbahchiofaaGreatDoor
/-
  THE DOCUMENT'S SAME, over states.
-/
namespace Go.Proofs.YtlcbhbahchiofaaGreatDoor
open Go.RowKit Go.IntWalk

theorem own_fsame : Own 9:=fun _ _=>by go_simp
set_option maxRecDepth 100000 in
set_option maxHeartbeats 4000000 in
theorem fsame_S (ci cj : CI) (cv : CV) : Spec 9 [(eC ci cv).den,(eC cj cv).den] [] (fun w=>CertF ci cv w ∧ CertF cj cv w) (one (.v (.bool true))):=by
 refine spec_S [eC ci cv,eC cj cv] 68 Tryz.func9 rfl (by rw [Tryz.ntmps9]; rfl) (two_ok (eC_ok ci cv) (eC_ok cj cv)) fun b=>?_;refine s_pure ((∀ x ∈ cv.si,x.length = 64) ∧ cv.sg.length ≤ 9223372036854775807 ∧ cv.si.length ≤ 9223372036854775807) (fun w h _=>⟨fun x hx=>eY_len (h.1.2.2.2.2.2.1 x hx).1,Nat.le_trans h.1.2.1.1 h.1.2.1.2.1,Nat.le_trans h.1.2.2.1 h.1.2.2.2.1⟩) fun ⟨h64,hm1,hm2⟩=>?_;refine s_auto TY_ok rfl ?_;refine s_seq fun K hK=>?_;refine s_regA TY_ok rfl fun K1 hK1=>?_;refine l_strB cv.body rfl rfl rfl rfl rfl (rd_fact fun w h _=>h.1.1) ?_;refine l_autoS TY_ok rfl ?_;refine l_strB cv.body rfl rfl rfl rfl rfl (rd_fact fun w h _=>h.2.1) ?_;refine l_op (.b (!decide (cv.body = cv.body))) trivial rfl rfl rfl (run_neqS rfl rfl rfl) ?_;refine l_autoS TY_ok rfl ?_;refine l_is 14 false rfl (by simp) ?_;refine l_autoS TY_ok rfl ?_;refine l_is 23 false rfl (by simp) ?_;refine l_autoS TY_ok rfl ?_;refine l_is 31 false rfl (by simp) ?_;refine s_end (hK1 _ ?_);refine s_no rfl ?_;refine s_skip (hK _ ?_);refine s_seq fun Ka hKa=>?_;refine s_auto TY_ok rfl ?_;refine s_block ?_
 let FKa : Nat → Env:=fun a=>⟨[(35,.v (.int .i64 (a : Int))),(34,.v (.int .i64 (cv.sg.length : Int))),(2,.a 2 0),(3,.a 3 0)],[⟨3,none,26,(eC cj cv).parts1⟩,⟨2,none,26,(eC ci cv).parts1⟩],[],fun w=>CertF ci cv w ∧ CertF cj cv w,fun _=>True⟩
 refine c_weak (e':=FKa 0) ⟨⟨rfl,rfl,rfl,rfl,trivial⟩,⟨rfl,rfl,rfl,rfl,trivial⟩,.refl _,fun _ h _=>h,fun _ _=>trivial⟩ (s_loop (fun a=>cv.sg.length - a) FKa (fun a=>a ≤ cv.sg.length) ?_ 0 (Nat.zero_le _))
 intro a ha
 refine s_auto TY_ok rfl ?_;refine s_seq fun K7 hK7=>?_;refine s_ifD ((a : Int) < (cv.sg.length : Int)) rfl (fun hlt=>?_) (fun hge=>?_)
 ·have hlt : a < cv.sg.length:=by omega
  obtain ⟨x,hx⟩ : ∃ x,cv.sg[a]? = some x:=⟨_,List.getElem?_eq_getElem hlt⟩;refine s_skip (hK7 _ ?_);refine s_seq fun K8 hK8=>?_;refine s_block ?_;refine s_auto TY_ok rfl ?_;refine s_regD 11 (by decide) (by kernel_rfl) (by kernel_rfl) fun K9 hK9 G S w0 hst=>?_;refine g_autoS TY_ok hst rfl ?_;refine g_elem TY_ok hst rfl rfl rfl a rfl hx rfl rfl (rd_fact fun w h _=>h.1.2.1) ?_;refine g_autoS TY_ok hst rfl ?_;refine g_elem TY_ok hst rfl rfl rfl a rfl hx rfl rfl (rd_fact fun w h _=>h.2.2.1) ?_;refine g_autoS TY_ok hst rfl ?_;refine g_endS hst ?_;refine l_is 48 false rfl (by simp) ?_;refine s_end (hK9 _ ?_);refine s_no rfl ?_;refine s_skip (hK8 _ ?_);refine s_autoE TY_ok rfl ?_;exact k_next (a + 1) hlt (by show _ - (a + 1) < _ - a; omega) ⟨⟨congrArg some (congrArg SV.v (congrArg (Value.int .i64) (wrapI rfl (by omega) (by omega)))),rfl,rfl,rfl,trivial⟩,⟨rfl,rfl,rfl,rfl,trivial⟩,.refl _,fun _ h _=>h,fun _ h=>h⟩
 obtain rfl : cv.sg.length = a:=by omega
 refine s_exit (k_pass (k_pass (k_out ?_)));refine hKa _ ?_;refine s_seq fun Kb hKb=>?_;refine s_auto TY_ok rfl ?_;refine s_block ?_
 let FKb : Nat → Env:=fun a=>⟨[(53,.v (.int .i64 (a : Int))),(52,.v (.int .i64 (cv.si.length : Int))),(2,.a 2 0),(3,.a 3 0)],[⟨3,none,26,(eC cj cv).parts1⟩,⟨2,none,26,(eC ci cv).parts1⟩],[],fun w=>CertF ci cv w ∧ CertF cj cv w,fun _=>True⟩
 refine c_weak (e':=FKb 0) ⟨⟨rfl,rfl,rfl,rfl,trivial⟩,⟨rfl,rfl,rfl,rfl,trivial⟩,.refl _,fun _ h _=>h,fun _ _=>trivial⟩ (s_loop (fun a=>cv.si.length - a) FKb (fun a=>a ≤ cv.si.length) ?_ 0 (Nat.zero_le _))
 intro a ha
 refine s_auto TY_ok rfl ?_;refine s_seq fun K7 hK7=>?_;refine s_ifD ((a : Int) < (cv.si.length : Int)) rfl (fun hlt=>?_) (fun hge=>?_)
 ·have hlt : a < cv.si.length:=by omega
  obtain ⟨x,hx⟩ : ∃ x,cv.si[a]? = some x:=⟨_,List.getElem?_eq_getElem hlt⟩;refine s_skip (hK7 _ ?_);refine s_seq fun K8 hK8=>?_;refine s_block ?_;refine s_auto TY_ok rfl ?_;refine s_regD 11 (by decide) (by kernel_rfl) (by kernel_rfl) fun K9 hK9 G S w0 hst=>?_;refine g_autoS TY_ok hst rfl ?_;refine g_elem TY_ok hst rfl rfl rfl a rfl hx rfl rfl (rd_fact fun w h _=>h.1.2.2) ?_;refine g_autoS TY_ok hst rfl ?_;refine g_elem TY_ok hst rfl rfl rfl a rfl hx rfl rfl (rd_fact fun w h _=>h.2.2.2) ?_;refine g_opS (.b (!decide (x = x))) trivial rfl rfl rfl (run_neqY rfl rfl rfl Tryz.underlying43 (by kernel_rfl) (h64 x (List.mem_of_getElem? hx)) (h64 x (List.mem_of_getElem? hx))) ?_;refine g_endS hst ?_;refine l_is 66 false rfl (by simp) ?_;refine s_end (hK9 _ ?_);refine s_no rfl ?_;refine s_skip (hK8 _ ?_);refine s_autoE TY_ok rfl ?_;exact k_next (a + 1) hlt (by show _ - (a + 1) < _ - a; omega) ⟨⟨congrArg some (congrArg SV.v (congrArg (Value.int .i64) (wrapI rfl (by omega) (by omega)))),rfl,rfl,rfl,trivial⟩,⟨rfl,rfl,rfl,rfl,trivial⟩,.refl _,fun _ h _=>h,fun _ h=>h⟩
 obtain rfl : cv.si.length = a:=by omega
 refine s_exit (k_pass (k_pass (k_out ?_)));refine hKb _ ?_;refine s_auto TY_ok rfl ?_;exact s_ret (k_ret TY_ok () rfl (by decide) rfl rfl rfl (fun _ _ _=>trivial) (fun _ _=>trivial))
end Go.Proofs.YtlcbhbahchiofaaGreatDoor
/-
  PLAIN NUMBERS: the bytes of a known multiple of the base point, reckoned by the kernel. No program is imported.
-/
namespace Nums
def triZ : Tri:=⟨0,1,1⟩
def triB : Tri:=⟨bx,bY,1⟩
theorem triZ_rep : TriRep triZ Ed.zero:=by
 unfold TriRep triZ
 rw [fof_zero,fof_one];exact Ed.Rep.zero prime_p
theorem triB_rep : TriRep triB base:=by
 unfold TriRep triB
 rw [fof_one]
 have e : ∀ u : F,u = u * 1:=fun u=>by grind only
 exact ⟨fun h=>ne_one prime_p h.symm,e _,e _⟩
theorem tri_mul (n : Nat) (hn : n < 2 ^ 256) : TriRep (triMul 256 n triZ triB) (Ed.mul dd n base):=by
 have h:=triMul_rep 256 n triZ triB Ed.zero base hn Ed.on_zero on_base triZ_rep triB_rep
 rwa [Ed.zero_add good] at h
def encTri (t : Tri) (zi : Nat) : List UInt8:=forced (t.y * zi % p) fun y=>forced (t.x * zi % p % 2) fun o=>bytes 32 (y + 57896044618658097711785492504343953926634992332820282019728792003956564819968 * o)
theorem enc_tri {t : Tri} {A : Ed.Pt p} (h : TriRep t A) {zi : Nat} (hz : t.z * zi % p = 1) : encP A = encTri t zi:=by
 have h1 : fof t.z * fof zi = 1:=by
  rw [← fof_mul,← fof_one];exact fof_eq (by rw [hz]; decide)
 have hf : finv (fof t.z) = fof zi:=finv_of prime_p h1;have ha:=h.aff prime_p;rw [hf,← fof_mul,← fof_mul] at ha
 unfold encTri
 simp only [forced_eq];rw [encP,encN,← ha.1,← ha.2,fof_val,fof_val]
theorem enc_mul (n zi : Nat) (b : List UInt8) (hn : n < 2 ^ 256) (h : (forced (triMul 256 n triZ triB).z fun z=>decide (z * zi % p = 1)) = true) (hb : encTri (triMul 256 n triZ triB) zi = b) : encP (Ed.mul dd n base) = b:=by
 rw [forced_eq] at h;rw [enc_tri (tri_mul n hn) (of_decide_eq_true h),hb]
end Nums
/-
  PLAIN NUMBERS: digests reckoned by the kernel: each word once. No program is imported.
-/
namespace Nums

def xsl (s : Sha) (b : List UInt8) : Nat → List Nat
  | 0=>[]
  | t + 1=>sx s b t :: xsl s b t
theorem xsl_len (s : Sha) (b : List UInt8) : ∀ t,(xsl s b t).length = t
 | 0=>rfl
 | t + 1=>by rw [xsl,List.length_cons,xsl_len]
theorem xsl_at (s : Sha) (b : List UInt8) : ∀ t j,j < t → (xsl s b t)[j]! = sx s b (t - 1 - j)
 | 0,_,h=>absurd h (by omega)
 | t + 1,0,_=>by
  show (sx s b t :: xsl s b t)[0]! = _
  rw [Nat.add_sub_cancel,Nat.sub_zero]
  rfl
 | t + 1,j + 1,h=>by
  show (sx s b t :: xsl s b t)[j + 1]! = _
  have e : (sx s b t :: xsl s b t)[j + 1]! = (xsl s b t)[j]!:=by simp
  rw [e,xsl_at s b t j (by omega)]
  congr 1
  omega
def firstF (s : Sha) (b : List UInt8) : Nat → List Nat
  | 0=>[]
  | t + 1=>forced (bword s b t) fun v=>v :: firstF s b t
theorem firstF_eq (s : Sha) (b : List UInt8) : ∀ t,t ≤ 16 → firstF s b t = xsl s b t
 | 0,_=>rfl
 | t + 1,h=>by
  have e : sx s b t = bword s b t:=by rw [sx,dif_pos (by omega)]
  rw [firstF,forced_eq,xsl,firstF_eq s b t (by omega),e]
def grow (s : Sha) : Nat → List Nat → List Nat
  | 0,L=>L
  | k + 1,L=>forced ((loww s.w s.low1 L[1]! + L[6]! + loww s.w s.low0 L[14]! + L[15]!) % 2 ^ s.w) fun v=>grow s k (v :: L)
theorem grow_eq (s : Sha) (b : List UInt8) : ∀ k t,16 ≤ t → grow s k (xsl s b t) = xsl s b (t + k)
 | 0,_,_=>rfl
 | k + 1,t,h=>by
  have e : (loww s.w s.low1 (xsl s b t)[1]! + (xsl s b t)[6]! + loww s.w s.low0 (xsl s b t)[14]! + (xsl s b t)[15]!) % 2 ^ s.w = sx s b t:=by
   rw [xsl_at s b t 1 (by omega),xsl_at s b t 6 (by omega),xsl_at s b t 14 (by omega),xsl_at s b t 15 (by omega)]
   conv=>rhs; rw [sx,dif_neg (by omega)]
   rw [show t - 1 - 1 = t - 2 from by omega,show t - 1 - 6 = t - 7 from by omega,show t - 1 - 14 = t - 15 from by omega,show t - 1 - 15 = t - 16 from by omega]
  rw [grow,forced_eq,e];have h2:=grow_eq s b k (t + 1) (by omega);rw [xsl] at h2;rw [h2]
  congr 1
  omega
def rndF (s : Sha) : List Nat → Nat → Oct → Oct
  | [],_,o=>o
  | x :: r,t,o=>forced (t1w s (s.k t) x o) fun T=>forced ((T + t2w s o) % 2 ^ s.w) fun A=>forced ((o.d + T) % 2 ^ s.w) fun E=>rndF s r (t + 1) ⟨A,o.a,o.b,o.c,E,o.e,o.f,o.g⟩
theorem rndF_eq (s : Sha) (b : List UInt8) (o : Oct) : ∀ (l : List Nat) (t : Nat),(∀ j x,l[j]? = some x → x = sx s b (t + j)) → rndF s l t (rnds s b o t) = rnds s b o (t + l.length)
 | [],_,_=>rfl
 | x :: r,t,h=>by
  have hx:=h 0 x rfl;rw [Nat.add_zero] at hx;subst hx;rw [rndF];simp only [forced_eq];have h2:=rndF_eq s b o r (t + 1) (fun j x hj=>by rw [h (j + 1) x (by simpa using hj)]; congr 1; omega);rw [show rnds s b o (t + 1) = rnd s (s.k t) (sx s b t) (rnds s b o t) from rfl] at h2;rw [show t + (sx s b t :: r).length = t + 1 + r.length from by rw [List.length_cons]; omega,← h2]
  rfl
def add8F (w : Nat) (o q : Oct) : Oct :=
  forced ((o.a + q.a) % 2 ^ w) fun a=>forced ((o.b + q.b) % 2 ^ w) fun b=>forced ((o.c + q.c) % 2 ^ w) fun c=>forced ((o.d + q.d) % 2 ^ w) fun d =>
  forced ((o.e + q.e) % 2 ^ w) fun e=>forced ((o.f + q.f) % 2 ^ w) fun f=>forced ((o.g + q.g) % 2 ^ w) fun g=>forced ((o.h + q.h) % 2 ^ w) fun h=>⟨a,b,c,d,e,f,g,h⟩
theorem add8F_eq (w : Nat) (o q : Oct) : add8F w o q = add8 w o q:=by
 unfold add8F
 simp only [forced_eq]
 rfl
def turnF (s : Sha) (o : Oct) (b : List UInt8) : Oct:=add8F s.w o (rndF s (grow s (s.n - 16) (firstF s b 16)).reverse 0 o)
theorem turnF_eq {s : Sha} (hn : 16 ≤ s.n) (o : Oct) (b : List UInt8) : turnF s o b = turnw s o b:=by
 rw [turnF,add8F_eq,turnw,firstF_eq s b 16 (Nat.le_refl _),grow_eq s b _ 16 (Nat.le_refl _),show 16 + (s.n - 16) = s.n from by omega]
 congr 1
 have h:=rndF_eq s b o (xsl s b s.n).reverse 0 (fun j x hj=>by
  have hl : j < (xsl s b s.n).reverse.length:=(List.getElem?_eq_some_iff.1 hj).1;rw [List.length_reverse,xsl_len] at hl;rw [List.getElem?_reverse (by rw [xsl_len]; exact hl),xsl_len] at hj;have h1:=xsl_at s b s.n (s.n - 1 - j) (by omega);rw [List.getElem!_eq_getElem?_getD,hj] at h1;rw [show 0 + j = s.n - 1 - (s.n - 1 - j) from by omega,← h1]
  rfl)
 rw [List.length_reverse,xsl_len,Nat.zero_add] at h;exact h
def runF (s : Sha) (B : Nat) : Nat → Oct → List UInt8 → Oct
  | 0,o,_=>o
  | k + 1,o,l=>runF s B k (turnF s o (l.take B)) (l.drop B)
theorem runF_eq {s : Sha} {B : Nat} (hB : 0 < B) (hn : 16 ≤ s.n) : ∀ k o l,l.length = k * B → runF s B k o l = runw s B o l
 | 0,o,l,h=>by
  have h0 : l = []:=List.eq_nil_of_length_eq_zero (by omega);subst h0;rw [runF,runw_short (by simpa using hB)]
 | k + 1,o,l,h=>by
  have hl : (l.take B).length = B:=by rw [List.length_take,h,Nat.add_mul]; omega
  have hd : (l.drop B).length = k * B:=by rw [List.length_drop,h,Nat.add_mul]; omega
  rw [runF,turnF_eq hn,runF_eq hB hn k _ _ hd]
  conv=>rhs; rw [← List.take_append_drop B l,runw_block hB hl]
def digestF (s : Sha) (n : Nat) (m : List UInt8) : List UInt8 :=
  ((runF s (2 * s.w) n ⟨s.start[0]!,s.start[1]!,s.start[2]!,s.start[3]!,s.start[4]!,s.start[5]!,s.start[6]!,s.start[7]!⟩ (m ++ tailw (2 * s.w) (m.length % (2 * s.w)) (8 * m.length))).list.map (layw s)).flatten
theorem digest_eq {s : Sha} (n : Nat) (m : List UInt8) (hw : 0 < 2 * s.w) (hn : 16 ≤ s.n) (h : (m ++ tailw (2 * s.w) (m.length % (2 * s.w)) (8 * m.length)).length = n * (2 * s.w)) : digest s m = digestF s n m:=by
 rw [digest,sumw,digestF,runF_eq hw hn n _ _ h]
end Nums
/-
  PLAIN NUMBERS: the signature of 'a' under TagRoot by the seed {1, 2, 7}, and that it is none under TagCommit, reckoned.
-/
namespace Go.Proofs.YtlcbhbahchiofaaGreatDoor
open Nums

def seedOne : List UInt8:=[1,2,7,0,0,0,0,0,0,0,0,0,0,0,0,0,0,0,0,0,0,0,0,0,0,0,0,0,0,0,0,0]
theorem d_c8 : sgD seedOne = [58,180,97,98,220,179,71,157,94,50,93,119,53,14,68,171,201,38,148,147,105,196,233,96,98,80,133,16,153,13,68,163,250,117,20,121,77,248,129,109,199,175,188,212,248,40,97,112,77,23,179,212,62,152,16,11,154,244,196,67,38,38,94,227]:=by
 unfold sgD
 rw [digest_eq 1 _ (by decide) (by decide) (by decide +kernel)]
 decide +kernel
theorem ab_c8 : sgAB seedOne = [56,180,97,98,220,179,71,157,94,50,93,119,53,14,68,171,201,38,148,147,105,196,233,96,98,80,133,16,153,13,68,99]:=by
 rw [sgAB,d_c8]
 decide +kernel
theorem a_c8 : le (sgAB seedOne) = 44899211459462489800551540803633879581235559420758889561927279231776925529144:=by
 rw [ab_c8]
 decide +kernel
theorem key_c8 : sgKey seedOne = [186,95,247,28,161,115,243,171,244,106,18,134,149,47,143,198,24,10,247,114,164,214,195,244,155,227,240,154,80,239,217,157]:=by
 rw [sgKey,a_c8];exact enc_mul _ 39349521698909402548019622636740550881037291304510749080804307091830006958420 _ (by decide) (by decide +kernel) (by decide +kernel)
theorem pre_c8 : sgPre seedOne = [250,117,20,121,77,248,129,109,199,175,188,212,248,40,97,112,77,23,179,212,62,152,16,11,154,244,196,67,38,38,94,227]:=by
 rw [sgPre,d_c8]
 decide +kernel
theorem r_c8 : sgR seedOne [119,105,116,97,110,5,0,0,0,0,0,0,0,1,97] = 6140023931584516240350668902052441425280013093987908600771547676899228059132:=by
 rw [sgR,pre_c8];rw [digest_eq 1 _ (by decide) (by decide) (by decide +kernel)]
 decide +kernel
theorem rb_c8 : sgRB seedOne [119,105,116,97,110,5,0,0,0,0,0,0,0,1,97] = [82,245,212,201,75,88,31,19,178,3,159,99,131,93,109,141,50,54,127,188,116,134,203,228,93,236,69,69,58,162,150,118]:=by
 rw [sgRB,r_c8];exact enc_mul _ 9552348642791002818787777655353435584202976217857938688089391487954348754004 _ (by decide) (by decide +kernel) (by decide +kernel)
theorem ka_c8 : sgK [82,245,212,201,75,88,31,19,178,3,159,99,131,93,109,141,50,54,127,188,116,134,203,228,93,236,69,69,58,162,150,118] [186,95,247,28,161,115,243,171,244,106,18,134,149,47,143,198,24,10,247,114,164,214,195,244,155,227,240,154,80,239,217,157] [119,105,116,97,110,5,0,0,0,0,0,0,0,1,97] = 5635411707467824225690208211881888165570088406898275919157484128210997701371:=by
 have e : [82,245,212,201,75,88,31,19,178,3,159,99,131,93,109,141,50,54,127,188,116,134,203,228,93,236,69,69,58,162,150,118] ++ ([186,95,247,28,161,115,243,171,244,106,18,134,149,47,143,198,24,10,247,114,164,214,195,244,155,227,240,154,80,239,217,157] ++ [119,105,116,97,110,5,0,0,0,0,0,0,0,1,97]) = ([82,245,212,201,75,88,31,19,178,3,159,99,131,93,109,141,50,54,127,188,116,134,203,228,93,236,69,69,58,162,150,118,186,95,247,28,161,115,243,171,244,106,18,134,149,47,143,198,24,10,247,114,164,214,195,244,155,227,240,154,80,239,217,157,119,105,116,97,110,5,0,0,0,0,0,0,0,1,97] : List UInt8):=by decide +kernel
 rw [sgK,e];clear e;rw [digest_eq 1 _ (by decide) (by decide) (by decide +kernel)]
 decide +kernel
theorem kb_c8 : sgK [82,245,212,201,75,88,31,19,178,3,159,99,131,93,109,141,50,54,127,188,116,134,203,228,93,236,69,69,58,162,150,118] [186,95,247,28,161,115,243,171,244,106,18,134,149,47,143,198,24,10,247,114,164,214,195,244,155,227,240,154,80,239,217,157] [119,105,116,97,110,4,0,0,0,0,0,0,0,1,97] = 3606751151300437339337859753690271513747000252065242972757792062310377372301:=by
 have e : [82,245,212,201,75,88,31,19,178,3,159,99,131,93,109,141,50,54,127,188,116,134,203,228,93,236,69,69,58,162,150,118] ++ ([186,95,247,28,161,115,243,171,244,106,18,134,149,47,143,198,24,10,247,114,164,214,195,244,155,227,240,154,80,239,217,157] ++ [119,105,116,97,110,4,0,0,0,0,0,0,0,1,97]) = ([82,245,212,201,75,88,31,19,178,3,159,99,131,93,109,141,50,54,127,188,116,134,203,228,93,236,69,69,58,162,150,118,186,95,247,28,161,115,243,171,244,106,18,134,149,47,143,198,24,10,247,114,164,214,195,244,155,227,240,154,80,239,217,157,119,105,116,97,110,4,0,0,0,0,0,0,0,1,97] : List UInt8):=by decide +kernel
 rw [sgK,e];clear e;rw [digest_eq 1 _ (by decide) (by decide) (by decide +kernel)]
 decide +kernel
theorem not_c8 : ¬ Right (sgKey seedOne) (sgSig seedOne [119,105,116,97,110,5,0,0,0,0,0,0,0,1,97]) [119,105,116,97,110,4,0,0,0,0,0,0,0,1,97]:=fun h=>by
 have h1:=right_msg (right_own seedOne [119,105,116,97,110,5,0,0,0,0,0,0,0,1,97]) h;rw [sgSig_take,key_c8,rb_c8,ka_c8,kb_c8] at h1;exact absurd h1 (by decide)
end Go.Proofs.YtlcbhbahchiofaaGreatDoor
