/-
  SEVERAL TEXTS IN ONE: CtV, CtCw.
-/
import Derived.Test.YtlcbhbahchiofaaDoorMn
import Derived.Test.YtlcbhbahchiofaaDoorMp
/-
  CERTIFICATES: what is asked of any certificate, signer by signer (plain).
-/
namespace Go.Proofs.YtlcbhbahchiofaaDoor
open Go.RowKit Go.IntWalk Nums

theorem order_next {n : Nat} {l : List Int} {i : Nat} {s : Int} (hs : l[i]? = some s) :
  risingB n (-1) (l.take (i + 1)) = if s < 0 ∨ s ≥ n ∨ (0 < i ∧ s ≤ l[i - 1]!) then false else risingB n (-1) (l.take i):=by
 have hi:=(List.getElem?_eq_some_iff.1 hs).1
 have hg : l[i]! = s:=by rw [getElem!_pos l i hi]; exact (List.getElem?_eq_some_iff.1 hs).2
 cases hr : risingB n (-1) (l.take i) with
 | false =>
  rw [rising_more n (l.take (i + 1)) (-1) i (by rw [List.take_take,Nat.min_eq_left (by omega)]; exact hr)]
  split <;> rfl
 | true =>
  rw [rising_at n l (-1) i hr hi,hg]
  by_cases h0 : i = 0
  ·subst h0
   by_cases h : s < 0 ∨ s ≥ n ∨ (0 < 0 ∧ s ≤ l[0 - 1]!)
   ·rw [if_pos h]
    simp only [if_true,Bool.and_eq_false_iff,decide_eq_false_iff_not]
    omega
   ·rw [if_neg h]
    simp only [if_true,Bool.and_eq_true,decide_eq_true_eq]
    omega
  ·have hp : l[i - 1]! ∈ l.take i:=by
    rw [getElem!_pos l (i - 1) (by omega)];exact List.mem_take_iff_getElem.2 ⟨i - 1,by omega,rfl⟩
   have h1:=rising_in hr _ hp;rw [if_neg h0]
   by_cases h : s < 0 ∨ s ≥ n ∨ (0 < i ∧ s ≤ l[i - 1]!)
   ·rw [if_pos h]
    simp only [Bool.and_eq_false_iff,decide_eq_false_iff_not]
    omega
   ·rw [if_neg h]
    simp only [Bool.and_eq_true,decide_eq_true_eq]
    omega
theorem okB_next {ks : List (List UInt8)} {m : List UInt8} {sg : List Int} {si : List (List UInt8)} {i : Nat} {s : Int} {x : List UInt8} (h1 : sg[i]? = some s) (h2 : si[i]? = some x) :
  okB ks m (sg.take (i + 1)) (si.take (i + 1)) = (okB ks m (sg.take i) (si.take i) && rightB (ks[s.toNat]!) x m):=by
 have l1:=(List.getElem?_eq_some_iff.1 h1).1;have l2:=(List.getElem?_eq_some_iff.1 h2).1
 unfold okB
 rw [List.take_add_one,List.take_add_one,h1,h2,List.zip_append (by rw [List.length_take,List.length_take]; omega),List.all_append]
 simp
end Go.Proofs.YtlcbhbahchiofaaDoor
/-
  THE LAW: certificates that are turned.
-/
namespace Go.Proofs.YtlcbhbahchiofaaDoor
open Go.RowKit Go.IntWalk Nums

theorem u8_of (f : Int) : ∃ y : UInt8,IntKind.u8.wrap f = (y.toNat : Int):=byte_z (by show 0 ≤ f % 256 ∧ f % 256 < 256; omega)
theorem run_bytes0 (w : World) : (Instr.buildSlice 22 0 #[]).run Tryd.prog w = .ok (.slice (some ⟨w.heap.size,0,none⟩) 0 0) (w.alloc (.cells #[] 5)):=by go_simp
set_option maxRecDepth 100000 in
set_option maxHeartbeats 16000000 in
theorem checks_S (f : Int) {A A2 : Option Addr} {c c2 : Nat} (bd : List UInt8) (tl : List TurnV) (hb : bd.length ≤ 140737488351232) : Spec 4 [.int .i64 f,.slice A bd.length c,.slice A2 tl.length c2] [] (fun w=>Ta w ∧ Rd 1 eB A c bd w ∧ Rd 3 eTu A2 c2 tl w) (one (.v (.bool true))):=by
 refine spec_S [.c (.v (.int .i64 f)),.c (.v (.slice A bd.length c)),.c (.v (.slice A2 tl.length c2))] 271 Tryd.func4 rfl (by rw [Tryd.ntmps4]; rfl) (more_ok trivial (two_ok trivial trivial)) fun b=>?_;refine s_pure (tl.length ≤ 9223372036854775807) (fun w h _=>Nat.le_trans h.2.2.1 h.2.2.2.1) fun htl=>?_;refine s_auto TY_ok rfl ?_;refine s_seq fun K hK=>?_;refine s_regA TY_ok rfl fun K1 hK1=>?_;refine l_call0 [] rfl rfl rfl own_first8 rfl rfl (fun _ _=>rfl) first_S (fun w h _=>h.1) fun _=>?_;refine l_autoS TY_ok rfl ?_;refine s_end (hK1 _ ?_);refine s_no rfl ?_;refine s_skip (hK _ ?_);obtain ⟨k,hk, -,hkf⟩:=wrapU_mod f 3 (by decide) (by decide);refine s_regA TY_ok rfl fun K2 hK2=>?_;refine l_num 7 (k : Int) rfl hkf ?_;refine s_end (hK2 _ ?_);obtain ⟨n,hn⟩ : ∃ n,n = 3 * k + 1:=⟨_,rfl⟩
 have hn7 : n ≤ 7:=by omega
 have hq : IntKind.i64.wrap (IntKind.i64.wrap (2 * (k : Int)) + 1) = ((2 * k + 1 : Nat) : Int):=by
  have e : IntKind.i64.wrap (2 * (k : Int)) = 2 * (k : Int):=wrapI rfl (by omega) (by omega);rw [e];exact wrapI (by omega) (by omega) (by omega)
 refine s_regA TY_ok rfl fun K3 hK3=>?_;refine l_call0 [.int .i64 (k : Int)] rfl rfl rfl own_of8 rfl rfl (fun _ _=>rfl) (of_S k n hn hn7) (fun w h _=>h.2.1) fun ⟨r,SA,sc⟩=>?_;refine l_autoS TY_ok rfl ?_;refine s_end (hK3 _ ?_);refine s_regA TY_ok rfl fun K4 hK4=>?_;refine l_list0 b.B.heap.size eB (sz:=1) rfl rfl rfl rfl (Nat.le_refl _) run_bytes0 fun B00=>?_;refine l_autoS TY_ok rfl ?_;refine l_appY TY_ok 0 bd rfl rfl rfl rfl rfl rfl rfl rfl rfl (rd_fact fun w h _=>h.2.2.2.1) (by decide) (by show (0 + _) * 1 ≤ _; omega) (by show 0 + _ ≤ _; omega) (Nat.le_refl _) fun B0 d0=>?_;rw [List.nil_append];refine l_autoS TY_ok rfl ?_;refine s_end (hK4 _ ?_);refine s_nil0 b.B.heap.size 35 64 (eY 64) ?_;refine s_nil0 b.B.heap.size 3 1 eI ?_;refine s_seq fun K5 hK5=>?_;refine s_auto TY_ok rfl ?_;refine s_block ?_
 let F1 : Nat × List Int × Option Addr × Nat × List (List UInt8) × Option Addr × Nat → Env:=fun ⟨j,sg,B1,d1,si,B2,d2⟩=>⟨[(11,.v (.int .i64 (j : Int))),(1,.v (.slice A bd.length c)),(2,.v (.slice A2 tl.length c2)),(7,.v (.int .i64 (k : Int))),(8,.v (ptr r.g)),(9,.v (.slice SA n sc)),(10,.a 10 0)],[⟨10,none,45,[.one (.v (.slice B0 (bd).length d0)),.one (.v (.slice B1 (sg).length d1)),.one (.v (.slice B2 (si).length d2))]⟩],[RingM r.m (keyL n),OwnS b.B.heap.size 5 1 eB B0 d0 (bd),OwnS b.B.heap.size 3 1 eI B1 d1 (sg),OwnS b.B.heap.size 35 64 (eY 64) B2 d2 (si)],fun w=>Ta w ∧ Rd 1 eB A c bd w ∧ Rd 3 eTu A2 c2 tl w,fun w=>RingF r (keyL n) w ∧ Rd 32 (eY 32) SA sc (seedsL 2 n) w⟩
 refine c_weak (e':=F1 (0,[],none,0,[],none,0)) ⟨⟨rfl,rfl,rfl,rfl,rfl,rfl,rfl,trivial⟩,⟨rfl,rfl,trivial⟩,.trans (List.perm_append_comm (l₁:=[_,_,_]) (l₂:=[_])) (.cons _ (List.perm_append_comm (l₁:=[_,_]) (l₂:=[_]))),fun _ h _=>h.2.2,fun _ h=>h.1⟩ (s_loop (fun x=>7 - x.1) F1 (fun x=>x.1 ≤ 2 * k + 1 ∧ x.2.1.length = x.1 ∧ x.2.2.2.2.1.length = x.1) ?_ (0,[],none,0,[],none,0) ⟨Nat.zero_le _,rfl,rfl⟩)
 rintro ⟨j,sg,B1,d1,si,B2,d2⟩ ⟨hj,hsg,hsi⟩
 dsimp only at hj hsg hsi
 refine s_seq fun K6 hK6=>?_;refine s_regA TY_ok rfl fun K7 hK7=>?_;refine l_eq 40 (.b (decide (j < 2 * k + 1))) rfl (congrArg SV.b (by rw [hq]; exact decide_eq_decide.2 (by omega))) ?_;refine s_end (hK7 _ ?_);refine s_ifD (j < 2 * k + 1) rfl (fun hlt=>?_) (fun hge=>?_)
 ·refine s_skip (hK6 _ ?_)
  refine s_seq fun K8 hK8=>?_;refine s_block ?_;refine s_regA TY_ok rfl fun K9 hK9=>?_;refine l_push TY_ok 2 (j : Int) rfl rfl rfl rfl rfl rfl rfl (eI_ok _) (by decide) (by decide) (by show (_ + 1) * 8 ≤ _; omega) (by omega) (Nat.le_refl _) fun B1' d1'=>?_;refine l_autoS TY_ok rfl ?_;refine s_end (hK9 _ ?_);refine s_drawn 9 (by decide) (by kernel_rfl) (by kernel_rfl) fun G S w0 hst=>?_
  have hjn : j < n:=by omega
  have hse:=seal_S (A:=A) (c:=c) (seed:=seedL 2 j) (b:=bd) 5 (seedL_len 2 j) (by omega);have hsl:=sgSig_len (seedL 2 j) (msg 5 bd);generalize sgSig (seedL 2 j) (msg 5 bd) = s at hse hsl;refine g_autoS TY_ok hst rfl ?_;refine g_elem TY_ok hst rfl rfl rfl j rfl (seedsL_at hjn) (seedsL_len 2 n).symm rfl (rd_fact fun w _ h=>h.2) ?_;refine g_autoS TY_ok hst rfl ?_;refine g_callS hst [.agg (By (seedL 2 j)).toArray,.int .u8 ((5 : UInt8).toNat : Int),.slice A bd.length c] rfl rfl rfl own_seal rfl rfl (fun _=>rfl) hse (eY_ok hsl).1 (fun _ _ w h=>⟨h.fact.1,h.fact.2.1⟩) ?_;refine g_list1 TY_ok hst (eY 64) s rfl rfl rfl rfl rfl rfl rfl (eY_ok hsl) (by decide) (by decide) fun g=>?_;refine l_appY TY_ok 3 [s] rfl rfl rfl rfl rfl rfl rfl rfl rfl (rd_fact fun w _ h=>h.1) (by decide) (by show (_ + 1) * 64 ≤ _; omega) (by show _ + 1 ≤ _; omega) (Nat.le_refl _) fun B2' d2'=>?_;refine l_autoS TY_ok rfl ?_;refine s_end (hK8 _ ?_);refine s_autoE TY_ok rfl ?_;exact k_next (j + 1,sg ++ [(j : Int)],B1',d1',si ++ [s],B2',d2') ⟨hlt,by show (_ ++ [_]).length = _; rw [List.length_append,hsg]; rfl,by show (_ ++ [_]).length = _; rw [List.length_append,hsi]; rfl⟩ (by show 7 - (j + 1) < 7 - j; omega) ⟨⟨congrArg some (congrArg SV.v (congrArg (Value.int .i64) (wrapI rfl (by omega) (by omega)))),rfl,rfl,rfl,rfl,rfl,rfl,trivial⟩,⟨rfl,rfl,trivial⟩,.refl _,fun _ h _=>h,fun _ h=>h.2⟩
 ·refine s_exit (k_pass (k_pass (k_out ?_)))
  refine hK5 _ ?_
  have hsg5 : sg.length ≤ 5:=by omega
  have hsi5 : si.length ≤ 5:=by omega
  refine s_seq fun K8 hK8=>?_
  have hend : ∀ (bo : List UInt8) (B0 : Option Addr) (d0 : Nat) (sg : List Int) (B1 : Option Addr) (d1 : Nat) (si : List (List UInt8)) (B2 : Option Addr) (d2 : Nat),bo.length ≤ 140737488355312 → sg.length ≤ 9223372036854775000 → ∀ e,Weak e ⟨[(7,.v (.int .i64 (k : Int))),(8,.v (ptr r.g)),(9,.v (.slice SA n sc)),(10,.a 10 0)],[⟨10,none,45,[.one (.v (.slice B0 (bo).length d0)),.one (.v (.slice B1 (sg).length d1)),.one (.v (.slice B2 (si).length d2))]⟩],[RingM r.m (keyL n),OwnS b.B.heap.size 5 1 eB B0 d0 (bo),OwnS b.B.heap.size 3 1 eI B1 d1 (sg),OwnS b.B.heap.size 35 64 (eY 64) B2 d2 (si)],fun w=>Ta w ∧ Rd 1 eB A c bd w ∧ Rd 3 eTu A2 c2 tl w,fun w=>RingF r (keyL n) w ∧ Rd 32 (eY 32) SA sc (seedsL 2 n) w⟩ → kS b K8 271 e:=by
   intro bo B0 d0 sg B1 d1 si B2 d2 hbo hsgl e hw
   refine k_weak hw (hK8 _ ?_);refine s_free 3 rfl ?_;refine s_free 2 rfl ?_;refine s_free 1 rfl ?_
   have hnn : n - n / 3 = 2 * k + 1:=by omega
   refine s_auto TY_ok rfl ?_;refine s_seq fun K9 hK9=>?_
   have h49 : ∀ v : Int,checkE (keyL n) (msg 5 bo) (⟨bo,sg,si⟩ : CV) = v → ∀ e,Weak e ⟨[(8,.v (ptr r.g)),(10,.a 10 0),(16,.v (.int .i64 v))],[⟨10,none,45,(eC (⟨B0,d0,B1,d1,B2,d2⟩ : CI) (⟨bo,sg,si⟩ : CV)).parts1⟩],[RingM r.m (keyL n)],fun w=>CertF (⟨B0,d0,B1,d1,B2,d2⟩ : CI) (⟨bo,sg,si⟩ : CV) w ∧ Ta w,fun w=>RingF r (keyL n) w ∧ Rd 32 (eY 32) SA sc (seedsL 2 n) w⟩ → kS b K9 271 e:=by
    intro v hv e hw
    refine k_weak hw (hK9 _ ?_);have hs1:=check_S r (keyL n) (⟨B0,d0,B1,d1,B2,d2⟩ : CI) (⟨bo,sg,si⟩ : CV) 5 hbo
    dsimp only at hs1
    rw [hv] at hs1;refine s_regA TY_ok rfl fun K10 hK10=>?_;refine l_callA [ptr r.g,.int .u8 ((5 : UInt8).toNat : Int),(eC (⟨B0,d0,B1,d1,B2,d2⟩ : CI) (⟨bo,sg,si⟩ : CV)).den] rfl rfl rfl own_check rfl rfl (fun _ _=>rfl) hs1 (fun w h hM=>⟨hM.1,h.2,h.1⟩) fun _=>?_;refine l_autoS TY_ok rfl ?_;refine l_is 266 true rfl (decide_eq_true rfl) ?_;refine l_autoS TY_ok rfl ?_;refine l_call0 [.pointer none,.int .u8 5,(eC (⟨B0,d0,B1,d1,B2,d2⟩ : CI) (⟨bo,sg,si⟩ : CV)).den] rfl rfl rfl own_check rfl rfl (fun _ _=>rfl) (check_nil (.int .u8 5) (⟨B0,d0,B1,d1,B2,d2⟩ : CI) (⟨bo,sg,si⟩ : CV)) (fun _ _ _=>trivial) fun _=>?_;refine l_autoS TY_ok rfl ?_;refine s_end (hK10 _ ?_);exact s_ret (k_drop 0 rfl (k_retD TY_ok () rfl (by decide) rfl rfl trivial rfl (fun _ _ _=>trivial) (fun _ _=>trivial)))
   have h80 : ¬ (sg.length = 2 * k + 1 ∧ si.length = 2 * k + 1) → checkE (keyL n) (msg 5 bo) (⟨bo,sg,si⟩ : CV) = 80:=fun h=>by
    unfold checkE
    rw [if_neg (by rw [keyL_len,hnn]; show ¬ (sg.length = _ ∧ sg.length = si.length); omega)]
   refine s_regA TY_ok rfl fun K11 hK11=>?_
   by_cases h1 : ¬ sg.length = 2 * k + 1
   ·refine l_is 183 true rfl (decide_eq_true (by rw [hq]; omega)) ?_
    refine l_autoS TY_ok rfl ?_;refine s_end (hK11 _ ?_);refine s_yes rfl ?_;refine s_autoE TY_ok rfl ?_;exact h49 80 (h80 fun h=>h1 h.1) _ ⟨⟨rfl,rfl,rfl,trivial⟩,⟨rfl,rfl,trivial⟩,.refl _,fun _ h _=>⟨⟨h.1,h.2.1,h.2.2.1⟩,h.2.2.2.1⟩,fun _ h=>h⟩
   have h1 : sg.length = 2 * k + 1:=Decidable.not_not.1 h1;refine l_is 183 false rfl (decide_eq_false (by rw [hq]; omega)) ?_;refine l_autoS TY_ok rfl ?_;refine l_eq 191 (.b (decide (si.length ≠ 2 * k + 1))) rfl (congrArg SV.b (by rw [hq]; exact decide_eq_decide.2 (by omega))) ?_;refine s_end (hK11 _ ?_);refine s_ifD (si.length ≠ 2 * k + 1) rfl (fun h2=>?_) (fun h2=>?_)
   ·refine s_autoE TY_ok rfl ?_
    exact h49 80 (h80 fun h=>h2 h.2) _ ⟨⟨rfl,rfl,rfl,trivial⟩,⟨rfl,rfl,trivial⟩,.refl _,fun _ h _=>⟨⟨h.1,h.2.1,h.2.2.1⟩,h.2.2.2.1⟩,fun _ h=>h⟩
   have h2 : si.length = 2 * k + 1:=Decidable.not_not.1 h2
   have hck : checkE (keyL n) (msg 5 bo) (⟨bo,sg,si⟩ : CV) = if risingB n (-1) sg = true then if okB (keyL n) (msg 5 bo) sg si = true then 0 else 60 else 81:=by
    unfold checkE
    rw [if_pos (by rw [keyL_len,hnn]; show sg.length = _ ∧ sg.length = si.length; omega),keyL_len]
   refine s_seq fun K12 hK12=>?_;refine s_auto TY_ok rfl ?_;refine s_block ?_
   let FA : Nat → Env:=fun a=>⟨[(195,.v (.int .i64 (a : Int))),(194,.v (.int .i64 (sg.length : Int))),(193,.v (.slice B1 sg.length d1)),(8,.v (ptr r.g)),(9,.v (.slice SA n sc)),(10,.a 10 0),(16,.v (.int .i64 (if risingB n (-1) (sg.take a) = true then 0 else 81)))],[⟨10,none,45,(eC (⟨B0,d0,B1,d1,B2,d2⟩ : CI) (⟨bo,sg,si⟩ : CV)).parts1⟩],[RingM r.m (keyL n)],fun w=>CertF (⟨B0,d0,B1,d1,B2,d2⟩ : CI) (⟨bo,sg,si⟩ : CV) w ∧ Ta w,fun w=>RingF r (keyL n) w ∧ Rd 32 (eY 32) SA sc (seedsL 2 n) w⟩
   refine c_weak (e':=FA 0) ⟨⟨rfl,rfl,rfl,rfl,rfl,rfl,rfl,trivial⟩,⟨rfl,rfl,trivial⟩,.refl _,fun _ h _=>⟨⟨h.1,h.2.1,h.2.2.1⟩,h.2.2.2.1⟩,fun _ h=>h⟩ (s_loop (fun a=>sg.length - a) FA (fun a=>a ≤ sg.length) ?_ 0 (Nat.zero_le _))
   ·intro a ha
    refine s_auto TY_ok rfl ?_;refine s_seq fun K13 hK13=>?_;refine s_ifD ((a : Int) < (sg.length : Int)) rfl (fun hlt=>?_) (fun hge=>?_)
    ·have hlt : a < sg.length:=by omega
     obtain ⟨s,hs⟩ : ∃ s,sg[a]? = some s:=⟨_,List.getElem?_eq_getElem hlt⟩;have hon:=order_next (n:=n) hs;refine s_skip (hK13 _ ?_);refine s_seq fun K14 hK14=>?_;refine s_block ?_
     have hnx : ∀ v : Int,v = (if risingB n (-1) (sg.take (a + 1)) = true then 0 else 81) → ∀ e,Weak e ⟨[(195,.v (.int .i64 (a : Int))),(194,.v (.int .i64 (sg.length : Int))),(193,.v (.slice B1 sg.length d1)),(8,.v (ptr r.g)),(9,.v (.slice SA n sc)),(10,.a 10 0),(16,.v (.int .i64 v))],[⟨10,none,45,(eC (⟨B0,d0,B1,d1,B2,d2⟩ : CI) (⟨bo,sg,si⟩ : CV)).parts1⟩],[RingM r.m (keyL n)],fun w=>CertF (⟨B0,d0,B1,d1,B2,d2⟩ : CI) (⟨bo,sg,si⟩ : CV) w ∧ Ta w,fun w=>RingF r (keyL n) w ∧ Rd 32 (eY 32) SA sc (seedsL 2 n) w⟩ → kS b K14 271 e:=by
      intro v hv e hw
      refine k_weak hw (hK14 _ ?_);refine s_autoE TY_ok rfl ?_;exact k_next (a + 1) hlt (by show _ - (a + 1) < _ - a; omega) ⟨⟨congrArg some (congrArg SV.v (congrArg (Value.int .i64) (wrapI rfl (by omega) (by omega)))),rfl,rfl,rfl,rfl,rfl,congrArg some (congrArg SV.v (congrArg (Value.int .i64) hv)),trivial⟩,⟨rfl,rfl,trivial⟩,.refl _,fun _ h _=>h,fun _ h=>h⟩
     have hyes : (s < 0 ∨ s ≥ n ∨ (0 < a ∧ s ≤ sg[a - 1]!)) → (81 : Int) = (if risingB n (-1) (sg.take (a + 1)) = true then 0 else 81):=fun h=>by rw [hon,if_pos h]; rfl
     have hno : ¬ (s < 0 ∨ s ≥ n ∨ (0 < a ∧ s ≤ sg[a - 1]!)) → (if risingB n (-1) (sg.take a) = true then (0 : Int) else 81) = (if risingB n (-1) (sg.take (a + 1)) = true then 0 else 81):=fun h=>by rw [hon,if_neg h]
     refine s_regA TY_ok rfl fun K15 hK15=>?_;refine l_elem TY_ok rfl rfl rfl a rfl hs rfl rfl (rd_fact fun w h _=>h.1.2.1) ?_;refine l_autoS TY_ok rfl ?_;refine s_end (hK15 _ ?_);refine s_regA TY_ok rfl fun K16 hK16=>?_
     by_cases p1 : s < 0
     ·refine l_is 202 true rfl (decide_eq_true p1) ?_
      refine l_autoS TY_ok rfl ?_
      iterate 8 refine l_skipU rfl rfl rfl rfl rfl rfl ?_
      refine l_autoS TY_ok rfl ?_;refine s_end (hK16 _ ?_);refine s_yes rfl ?_;refine s_autoE TY_ok rfl ?_;exact hnx 81 (hyes (.inl p1)) _ ⟨⟨rfl,rfl,rfl,rfl,rfl,rfl,rfl,trivial⟩,⟨rfl,rfl,trivial⟩,.refl _,fun _ h _=>h,fun _ h=>h⟩
     refine l_is 202 false rfl (decide_eq_false p1) ?_;refine l_autoS TY_ok rfl ?_
     by_cases p2 : s ≥ (n : Int)
     ·refine l_is 208 true rfl (decide_eq_true p2) ?_
      refine l_autoS TY_ok rfl ?_
      iterate 8 refine l_skipU rfl rfl rfl rfl rfl rfl ?_
      refine l_autoS TY_ok rfl ?_;refine s_end (hK16 _ ?_);refine s_yes rfl ?_;refine s_autoE TY_ok rfl ?_;exact hnx 81 (hyes (.inr (.inl p2))) _ ⟨⟨rfl,rfl,rfl,rfl,rfl,rfl,rfl,trivial⟩,⟨rfl,rfl,trivial⟩,.refl _,fun _ h _=>h,fun _ h=>h⟩
     refine l_is 208 false rfl (decide_eq_false p2) ?_;refine l_autoS TY_ok rfl ?_
     by_cases p3 : (a : Int) > 0
     ·have hs' : sg[a - 1]? = some (sg[a - 1]!):=by rw [getElem!_pos sg (a - 1) (by omega)]; exact List.getElem?_eq_getElem _
      refine l_is 211 true rfl (decide_eq_true p3) ?_;refine l_autoS TY_ok rfl ?_;refine l_num 216 ((a - 1 : Nat) : Int) rfl (wrapI (by omega) (by omega) (by omega)) ?_;refine l_elem TY_ok rfl rfl rfl (a - 1) rfl hs' rfl rfl (rd_fact fun w h _=>h.1.2.1) ?_;refine l_autoS TY_ok rfl ?_;refine s_end (hK16 _ ?_);refine s_ifD (s ≤ sg[a - 1]!) rfl (fun p4=>?_) (fun p4=>?_)
      ·refine s_autoE TY_ok rfl ?_
       exact hnx 81 (hyes (.inr (.inr ⟨by omega,p4⟩))) _ ⟨⟨rfl,rfl,rfl,rfl,rfl,rfl,rfl,trivial⟩,⟨rfl,rfl,trivial⟩,.refl _,fun _ h _=>h,fun _ h=>h⟩
      ·exact s_skip (hnx _ (hno fun h=>h.elim p1 fun h=>h.elim p2 fun h=>p4 h.2) _ ⟨⟨rfl,rfl,rfl,rfl,rfl,rfl,rfl,trivial⟩,⟨rfl,rfl,trivial⟩,.refl _,fun _ h _=>h,fun _ h=>h⟩)
     ·refine l_is 211 false rfl (decide_eq_false p3) ?_
      refine l_autoS TY_ok rfl ?_;refine s_end (hK16 _ ?_);refine s_no rfl ?_;exact s_skip (hnx _ (hno fun h=>h.elim p1 fun h=>h.elim p2 fun h=>p3 (by omega)) _ ⟨⟨rfl,rfl,rfl,rfl,rfl,rfl,rfl,trivial⟩,⟨rfl,rfl,trivial⟩,.refl _,fun _ h _=>h,fun _ h=>h⟩)
    ·obtain rfl : sg.length = a:=by omega
     refine s_exit (k_pass (k_pass (k_out ?_)));refine hK12 _ ?_;rw [List.take_length]
     cases hri : risingB n (-1) sg with
     | false =>
      rw [hri,if_neg (by decide)] at hck;refine s_regA TY_ok rfl fun K13 hK13=>?_;refine l_is 224 false rfl (by decide) ?_;refine s_end (hK13 _ ?_);refine s_no rfl ?_;exact s_skip (h49 81 hck _ ⟨⟨rfl,rfl,rfl,trivial⟩,⟨rfl,rfl,trivial⟩,.refl _,fun _ h _=>h,fun _ h=>h⟩)
     | true =>
      rw [hri,if_pos rfl] at hck;refine s_regA TY_ok rfl fun K13 hK13=>?_;refine l_is 224 true rfl (by decide) ?_;refine s_end (hK13 _ ?_);refine s_yes rfl ?_;refine s_auto TY_ok rfl ?_;refine s_block ?_
      let FB : Nat → Env:=fun a=>⟨[(228,.v (.int .i64 (a : Int))),(227,.v (.int .i64 (sg.length : Int))),(226,.v (.slice B1 sg.length d1)),(8,.v (ptr r.g)),(9,.v (.slice SA n sc)),(10,.a 10 0),(16,.v (.int .i64 (if okB (keyL n) (msg 5 bo) (sg.take a) (si.take a) = true then 0 else 60)))],[⟨10,none,45,(eC (⟨B0,d0,B1,d1,B2,d2⟩ : CI) (⟨bo,sg,si⟩ : CV)).parts1⟩],[RingM r.m (keyL n)],fun w=>CertF (⟨B0,d0,B1,d1,B2,d2⟩ : CI) (⟨bo,sg,si⟩ : CV) w ∧ Ta w,fun w=>RingF r (keyL n) w ∧ Rd 32 (eY 32) SA sc (seedsL 2 n) w⟩
      refine c_weak (e':=FB 0) ⟨⟨rfl,rfl,rfl,rfl,rfl,rfl,rfl,trivial⟩,⟨rfl,rfl,trivial⟩,.refl _,fun _ h _=>h,fun _ h=>h⟩ (s_loop (fun a=>sg.length - a) FB (fun a=>a ≤ sg.length) ?_ 0 (Nat.zero_le _))
      intro a ha
      refine s_auto TY_ok rfl ?_;refine s_seq fun K13 hK13=>?_;refine s_ifD ((a : Int) < (sg.length : Int)) rfl (fun hlt=>?_) (fun hge=>?_)
      ·have hlt : a < sg.length:=by omega
       obtain ⟨s,hs⟩ : ∃ s,sg[a]? = some s:=⟨_,List.getElem?_eq_getElem hlt⟩;obtain ⟨x,hx⟩ : ∃ x,si[a]? = some x:=⟨_,List.getElem?_eq_getElem (by omega)⟩;have hsr:=rising_in hri s (List.mem_of_getElem? hs);obtain ⟨i,rfl⟩ : ∃ i : Nat,s = (i : Int):=⟨s.toNat,by omega⟩
       have hin : i < n:=by omega
       have hob:=okB_next (ks:=(keyL n)) (m:=msg 5 bo) hs hx;rw [Int.toNat_natCast] at hob
       have hkl : i < (keyL n).length:=by rw [keyL_len]; exact hin
       have hke : (keyL n)[i]! = (keyL n)[i]:=getElem!_pos (keyL n) i hkl
       have hks : (keyL n)[i] = sgKey (seedL 2 i):=by rw [← hke,keyL_at hin]
       have hk32 : ((keyL n)[i]).length = 32:=by rw [hks]; exact sgKey_len _
       have hown:=rightB_own7 (seedL 2 i) (msg 5 bo);rw [← hks] at hown;rw [hke] at hob;refine s_skip (hK13 _ ?_);refine s_seq fun K14 hK14=>?_;refine s_block ?_
       have hnx : ∀ v : Int,v = (if okB (keyL n) (msg 5 bo) (sg.take (a + 1)) (si.take (a + 1)) = true then 0 else 60) → ∀ e,Weak e ⟨[(228,.v (.int .i64 (a : Int))),(227,.v (.int .i64 (sg.length : Int))),(226,.v (.slice B1 sg.length d1)),(8,.v (ptr r.g)),(9,.v (.slice SA n sc)),(10,.a 10 0),(16,.v (.int .i64 v))],[⟨10,none,45,(eC (⟨B0,d0,B1,d1,B2,d2⟩ : CI) (⟨bo,sg,si⟩ : CV)).parts1⟩],[RingM r.m (keyL n)],fun w=>CertF (⟨B0,d0,B1,d1,B2,d2⟩ : CI) (⟨bo,sg,si⟩ : CV) w ∧ Ta w,fun w=>RingF r (keyL n) w ∧ Rd 32 (eY 32) SA sc (seedsL 2 n) w⟩ → kS b K14 271 e:=by
        intro v hv e hw
        refine k_weak hw (hK14 _ ?_);refine s_autoE TY_ok rfl ?_;exact k_next (a + 1) hlt (by show _ - (a + 1) < _ - a; omega) ⟨⟨congrArg some (congrArg SV.v (congrArg (Value.int .i64) (wrapI rfl (by omega) (by omega)))),rfl,rfl,rfl,rfl,rfl,congrArg some (congrArg SV.v (congrArg (Value.int .i64) hv)),trivial⟩,⟨rfl,rfl,trivial⟩,.refl _,fun _ h _=>h,fun _ h=>h⟩
       have hyes : rightB (keyL n)[i] x (msg 5 bo) = false → (60 : Int) = (if okB (keyL n) (msg 5 bo) (sg.take (a + 1)) (si.take (a + 1)) = true then 0 else 60):=fun h=>by rw [hob,h,Bool.and_false]; rfl
       have hno : rightB (keyL n)[i] x (msg 5 bo) = true → (if okB (keyL n) (msg 5 bo) (sg.take a) (si.take a) = true then (0 : Int) else 60) = (if okB (keyL n) (msg 5 bo) (sg.take (a + 1)) (si.take (a + 1)) = true then 0 else 60):=fun h=>by rw [hob,h,Bool.and_true]
       refine s_pure (x.length = 64) (fun w h _=>eY_len (h.1.2.2.2.2.2.1 x (List.mem_of_getElem? hx)).1) fun hx64=>?_;refine s_regA TY_ok rfl fun K15 hK15=>?_;refine l_elem TY_ok rfl rfl rfl a rfl hs rfl rfl (rd_fact fun w h _=>h.1.2.1) ?_;refine l_autoS TY_ok rfl ?_;refine s_end (hK15 _ ?_);have hse:=seal_S (A:=B0) (c:=d0) (seed:=seedL 2 i) (b:=bo) 5 (seedL_len 2 i) hbo;have hsl:=sgSig_len (seedL 2 i) (msg 5 bo);generalize sgSig (seedL 2 i) (msg 5 bo) = s' at hse hsl hown;refine s_regD 27 (by decide) (by kernel_rfl) (by kernel_rfl) fun K16 hK16 G S w0 hst=>?_;refine g_autoS TY_ok hst rfl ?_;refine g_elem TY_ok hst rfl rfl rfl a rfl hx rfl rfl (rd_fact fun w h _=>h.1.2.2) ?_;refine g_autoS TY_ok hst rfl ?_;refine g_elem TY_ok hst rfl rfl rfl i rfl (seedsL_at hin) (seedsL_len 2 n).symm rfl (rd_fact fun w _ h=>h.2) ?_;refine g_autoS TY_ok hst rfl ?_;refine g_callS hst [.agg (By (seedL 2 i)).toArray,.int .u8 ((5 : UInt8).toNat : Int),.slice B0 bo.length d0] rfl rfl rfl own_seal rfl rfl (fun _=>rfl) hse (eY_ok hsl).1 (fun _ _ w h=>⟨h.fact.2,h.fact.1.1⟩) ?_;refine g_opS (.b (!decide (x = s'))) trivial rfl rfl rfl (run_neqY rfl rfl rfl Tryd.underlying35 (by kernel_rfl) hx64 hsl) ?_;refine g_autoS TY_ok hst rfl ?_
       by_cases hxs : x = s'
       ·refine g_is 246 false rfl (by rw [decide_eq_true hxs]; rfl) ?_
        refine g_autoS TY_ok hst rfl ?_;refine g_endS hst ?_;refine s_end (hK16 _ ?_);refine s_no rfl ?_;exact s_skip (hnx _ (hno (by rw [hxs]; exact hown)) _ ⟨⟨rfl,rfl,rfl,rfl,rfl,rfl,rfl,trivial⟩,⟨rfl,rfl,trivial⟩,.refl _,fun _ h _=>h,fun _ h=>h⟩)
       ·refine g_is 246 true rfl (by rw [decide_eq_false hxs]; rfl) ?_
        refine g_autoS TY_ok hst rfl ?_;refine g_callS hst [ptr r.g,.int .i64 (i : Int)] rfl rfl rfl own_rkey rfl rfl (fun _=>rfl) (rkey_S r (keyL n) i hkl) (eY_ok hk32).1 (fun _ _ w h=>h.fresh.1) ?_;refine g_autoS TY_ok hst rfl ?_;refine g_elem TY_ok hst rfl rfl rfl a rfl hx rfl rfl (rd_fact fun w h _=>h.1.2.2) ?_;refine g_autoS TY_ok hst rfl ?_;refine g_callS hst [.agg (By (keyL n)[i]).toArray,.int .u8 ((5 : UInt8).toNat : Int),.slice B0 bo.length d0,.agg (By x).toArray] rfl rfl rfl own_owned rfl rfl (fun _=>rfl) (owned_S 5 hk32 hx64 hbo) trivial (fun _ _ w h=>⟨h.fact.2,h.fact.1.1⟩) ?_;refine g_autoS TY_ok hst rfl ?_;refine g_endS hst ?_;refine s_end (hK16 _ ?_);refine s_if (!rightB (keyL n)[i] x (msg 5 bo)) rfl (fun hr=>?_) (fun hr=>?_)
        ·refine s_autoE TY_ok rfl ?_
         exact hnx 60 (hyes (by simpa using hr)) _ ⟨⟨rfl,rfl,rfl,rfl,rfl,rfl,rfl,trivial⟩,⟨rfl,rfl,trivial⟩,.refl _,fun _ h _=>h,fun _ h=>h⟩
        ·exact s_skip (hnx _ (hno (by simpa using hr)) _ ⟨⟨rfl,rfl,rfl,rfl,rfl,rfl,rfl,trivial⟩,⟨rfl,rfl,trivial⟩,.refl _,fun _ h _=>h,fun _ h=>h⟩)
      ·obtain rfl : sg.length = a:=by omega
       refine s_exit (k_pass (k_pass (k_out ?_)));have e5 : si.take sg.length = si:=List.take_of_length_le (by omega);rw [List.take_length,e5];exact h49 _ hck _ ⟨⟨rfl,rfl,rfl,trivial⟩,⟨rfl,rfl,trivial⟩,.refl _,fun _ h _=>h,fun _ h=>h⟩
  refine s_auto TY_ok rfl ?_;refine s_block ?_
  let F2 : Nat × List UInt8 × Option Addr × Nat × List Int × Option Addr × Nat × List (List UInt8) × Option Addr × Nat → Env:=fun ⟨j,bo,B0,d0,sg,B1,d1,si,B2,d2⟩=>⟨[(62,.v (.int .i64 (j : Int))),(61,.v (.int .i64 (tl.length : Int))),(60,.v (.slice A2 tl.length c2)),(7,.v (.int .i64 (k : Int))),(8,.v (ptr r.g)),(9,.v (.slice SA n sc)),(10,.a 10 0)],[⟨10,none,45,[.one (.v (.slice B0 (bo).length d0)),.one (.v (.slice B1 (sg).length d1)),.one (.v (.slice B2 (si).length d2))]⟩],[RingM r.m (keyL n),OwnS b.B.heap.size 5 1 eB B0 d0 (bo),OwnS b.B.heap.size 3 1 eI B1 d1 (sg),OwnS b.B.heap.size 35 64 (eY 64) B2 d2 (si)],fun w=>Ta w ∧ Rd 1 eB A c bd w ∧ Rd 3 eTu A2 c2 tl w,fun w=>RingF r (keyL n) w ∧ Rd 32 (eY 32) SA sc (seedsL 2 n) w⟩
  refine c_weak (e':=F2 (0,bd,B0,d0,sg,B1,d1,si,B2,d2)) ⟨⟨rfl,rfl,rfl,rfl,rfl,rfl,rfl,trivial⟩,⟨rfl,rfl,trivial⟩,.refl _,fun _ h _=>h,fun _ h=>h⟩ (s_loop (fun x=>7 - x.1) F2 (fun x=>x.1 ≤ tl.length ∧ x.1 ≤ 4 ∧ x.2.1.length ≤ bd.length + x.1 ∧ x.2.2.2.2.1.length ≤ 5 + x.1 ∧ x.2.2.2.2.2.2.2.1.length ≤ 5) ?_ (0,bd,B0,d0,sg,B1,d1,si,B2,d2) ⟨Nat.zero_le _,Nat.zero_le _,Nat.le_refl _,hsg5,hsi5⟩)
  rintro ⟨j,bo,B0,d0,sg,B1,d1,si,B2,d2⟩ ⟨hj,hj4,hbo,hsg,hsi⟩
  dsimp only at hj hj4 hbo hsg hsi
  refine s_auto TY_ok rfl ?_;refine s_seq fun K5 hK5=>?_;refine s_ifD ((j : Int) < (tl.length : Int)) rfl (fun hlt=>?_) (fun hge=>?_)
  ·have hlt : j < tl.length:=by omega
   obtain ⟨t,ht⟩ : ∃ t,tl[j]? = some t:=⟨_,List.getElem?_eq_getElem hlt⟩;refine s_skip (hK5 _ ?_);refine s_seq fun K6 hK6=>?_
   have hnext : j < 4 → ∀ (bo : List UInt8) (B0 : Option Addr) (d0 : Nat) (sg : List Int) (B1 : Option Addr) (d1 : Nat) (si : List (List UInt8)) (B2 : Option Addr) (d2 : Nat),bo.length ≤ bd.length + (j + 1) → sg.length ≤ 5 + (j + 1) → si.length ≤ 5 → ∀ e,Weak e ⟨[(62,.v (.int .i64 (j : Int))),(61,.v (.int .i64 (tl.length : Int))),(60,.v (.slice A2 tl.length c2)),(7,.v (.int .i64 (k : Int))),(8,.v (ptr r.g)),(9,.v (.slice SA n sc)),(10,.a 10 0)],[⟨10,none,45,[.one (.v (.slice B0 (bo).length d0)),.one (.v (.slice B1 (sg).length d1)),.one (.v (.slice B2 (si).length d2))]⟩],[RingM r.m (keyL n),OwnS b.B.heap.size 5 1 eB B0 d0 (bo),OwnS b.B.heap.size 3 1 eI B1 d1 (sg),OwnS b.B.heap.size 35 64 (eY 64) B2 d2 (si)],fun w=>Ta w ∧ Rd 1 eB A c bd w ∧ Rd 3 eTu A2 c2 tl w,fun w=>RingF r (keyL n) w ∧ Rd 32 (eY 32) SA sc (seedsL 2 n) w⟩ → kS b K6 271 e:=by
    intro hj4' bo B0 d0 sg B1 d1 si B2 d2 hbo hsg hsi e hw
    refine k_weak hw (hK6 _ ?_);refine s_autoE TY_ok rfl ?_;exact k_next (j + 1,bo,B0,d0,sg,B1,d1,si,B2,d2) ⟨hlt,by show j + 1 ≤ 4; omega,hbo,hsg,hsi⟩ (by show 7 - (j + 1) < 7 - j; omega) ⟨⟨congrArg some (congrArg SV.v (congrArg (Value.int .i64) (wrapI rfl (by omega) (by omega)))),rfl,rfl,rfl,rfl,rfl,rfl,trivial⟩,⟨rfl,rfl,trivial⟩,.refl _,fun _ h _=>h,fun _ h=>h⟩
   refine s_block ?_;refine s_regA TY_ok rfl fun K7 hK7=>?_;refine l_elem TY_ok rfl rfl rfl j rfl ht rfl rfl (rd_fact fun w h _=>h.2.2) ?_;refine l_autoS TY_ok rfl ?_;refine s_end (hK7 _ ?_);refine s_seq fun K9 hK9=>?_;refine s_regA TY_ok rfl fun K10 hK10=>?_
   by_cases h4 : (j : Int) ≥ 4
   ·refine l_is 69 true rfl (decide_eq_true h4) ?_
    refine l_autoS TY_ok rfl ?_;refine s_end (hK10 _ ?_);refine s_yes rfl ?_;refine s_exit (k_pass (k_passB rfl (k_pass (k_pass (k_out ?_)))));exact hend bo B0 d0 sg B1 d1 si B2 d2 (by omega) (by omega) _ ⟨⟨rfl,rfl,rfl,rfl,trivial⟩,⟨rfl,rfl,trivial⟩,.refl _,fun _ h _=>h,fun _ h=>h⟩
   refine l_is 69 false rfl (decide_eq_false h4) ?_;refine l_autoS TY_ok rfl ?_;refine s_end (hK10 _ ?_);refine s_ifD ((sg.length : Int) = 0) rfl (fun h0=>?_) (fun h0=>?_)
   ·refine s_exit (k_pass (k_passB rfl (k_pass (k_pass (k_out ?_)))))
    exact hend bo B0 d0 sg B1 d1 si B2 d2 (by omega) (by omega) _ ⟨⟨rfl,rfl,rfl,rfl,trivial⟩,⟨rfl,rfl,trivial⟩,.refl _,fun _ h _=>h,fun _ h=>h⟩
   have h4 : j < 4:=by omega
   refine s_skip (hK9 _ ?_);obtain ⟨z,hz, -,hzf⟩:=wrapU_mod t.2.1 sg.length (by omega) (by omega);refine s_regA TY_ok rfl fun K11 hK11=>?_;refine l_num 81 (sg.length : Int) rfl (wrapU rfl (by omega) (by omega)) ?_;refine l_op (.v (.int .u64 ((IntKind.u64.wrap t.2.1).tmod (sg.length : Int)))) trivial rfl rfl rfl (run_remU (by omega) rfl rfl rfl) ?_;refine l_autoS TY_ok rfl ?_;refine l_num 14 (z : Int) rfl hzf ?_;refine s_end (hK11 _ ?_);refine s_auto TY_ok rfl ?_;refine s_block ?_;refine s_auto TY_ok rfl ?_;refine s_if _ rfl (fun _=>?_) (fun _=>?_)
   ·refine s_lit ?_
    refine l_autoS TY_ok rfl ?_;refine l_place TY_ok 2 t.2.2 z (fe:=eI) rfl rfl rfl rfl rfl rfl rfl rfl hz (eI_ok _) ?_;refine s_end (hnext h4 bo B0 d0 (sg.set z t.2.2) B1 d1 si B2 d2 (by omega) (by rw [List.length_set]; omega) hsi _ ?_);rw [List.length_set];exact ⟨⟨rfl,rfl,rfl,rfl,rfl,rfl,rfl,trivial⟩,⟨rfl,rfl,trivial⟩,.refl _,fun _ h _=>h,fun _ h=>h⟩
   refine s_auto TY_ok rfl ?_;refine s_if _ rfl (fun _=>?_) (fun _=>?_)
   ·refine s_auto TY_ok rfl ?_
    refine s_ifD ((z : Int) < (si.length : Int)) rfl (fun hz2=>?_) (fun hz2=>?_)
    ·have hz2 : z < si.length:=by omega
     refine s_own 3 rfl fun hoksi _ _=>?_;refine s_where 3 rfl (by omega) fun g hg=>?_;subst hg;obtain ⟨x,hx⟩ : ∃ x,si[z]? = some x:=⟨_,List.getElem?_eq_getElem hz2⟩;have hx64 : x.length = 64:=eY_len (hoksi x (List.mem_of_getElem? hx)).1;obtain ⟨q,hq64,hqf⟩:=tmod_nat t.2.2 64 (by decide)
     have hq' : q < x.length:=by omega
     obtain ⟨y,hy⟩:=xor_b4 x[q];have hfl:=flat_setY hoksi hx hq' y
     have em : 0 + 64 * z + 1 * q = 64 * z + q:=by omega
     rw [← em] at hfl;refine s_drawn 12 (by decide) (by kernel_rfl) (by kernel_rfl) fun G S w0 hst=>?_;refine g_autoS TY_ok hst rfl ?_;refine g_num 138 (q : Int) rfl hqf ?_;refine g_opS (.v (.pointer (some ⟨g,0 + 64 * z,none⟩))) trivial rfl rfl rfl (runO_ixS z rfl Tryd.underlying32 rfl rfl rfl hz2) ?_;refine g_opS (.v (.pointer (some ⟨g,0 + 64 * z + 1 * q,none⟩))) trivial rfl rfl rfl (runO_ixP q rfl Tryd.underlying35 rfl rfl rfl hq64) ?_;refine g_opV hst (.v (.int .u8 (x[q].toNat : Int))) trivial rfl rfl rfl (runO_ldC 3 _ rfl rfl rfl hfl.1 Tryd.underlying5 rfl) ?_;refine g_opS (.v (.int .u8 (y.toNat : Int))) trivial rfl rfl rfl (by rw [← hy]; exact run_xor rfl rfl rfl) ?_;refine g_opS (.v (.pointer (some ⟨g,0 + 64 * z,none⟩))) trivial rfl rfl rfl (runO_ixS z rfl Tryd.underlying32 rfl rfl rfl hz2) ?_;refine g_endS hst ?_;refine l_op (.v (.pointer (some ⟨g,0 + 64 * z + 1 * q,none⟩))) trivial rfl rfl rfl (runO_ixP q rfl Tryd.underlying35 rfl rfl rfl hq64) ?_;refine l_stC 3 (si.set z (x.set q y)) rfl rfl rfl rfl rfl rfl rfl rfl rfl (List.getElem?_eq_some_iff.1 hfl.1).1 List.length_set (hoksi.set (eY_ok (by rw [List.length_set]; exact hx64))) hfl.2 ?_;refine s_end (hnext h4 bo B0 d0 sg B1 d1 (si.set z (x.set q y)) (some ⟨g,0,none⟩) d2 (by omega) (by omega) (by rw [List.length_set]; exact hsi) _ ?_);rw [List.length_set];exact ⟨⟨rfl,rfl,rfl,rfl,rfl,rfl,rfl,trivial⟩,⟨rfl,rfl,trivial⟩,.refl _,fun _ h _=>h,fun _ h=>h⟩
    ·exact s_skip (hnext h4 bo B0 d0 sg B1 d1 si B2 d2 (by omega) (by omega) hsi _ ⟨⟨rfl,rfl,rfl,rfl,rfl,rfl,rfl,trivial⟩,⟨rfl,rfl,trivial⟩,.refl _,fun _ h _=>h,fun _ h=>h⟩)
   refine s_auto TY_ok rfl ?_;refine s_if _ rfl (fun _=>?_) (fun _=>?_)
   ·refine s_lit ?_
    refine l_autoS TY_ok rfl ?_;refine l_push TY_ok 2 t.2.2 rfl rfl rfl rfl rfl rfl rfl (eI_ok _) (by decide) (by decide) (by show (_ + 1) * 8 ≤ _; omega) (by omega) (Nat.le_refl _) fun B1' d1'=>?_;refine l_autoS TY_ok rfl ?_;exact s_end (hnext h4 bo B0 d0 (sg ++ [t.2.2]) B1' d1' si B2 d2 (by omega) (by rw [List.length_append]; simp only [List.length_singleton]; omega) hsi _ ⟨⟨rfl,rfl,rfl,rfl,rfl,rfl,rfl,trivial⟩,⟨rfl,rfl,trivial⟩,.refl _,fun _ h _=>h,fun _ h=>h⟩)
   refine s_auto TY_ok rfl ?_;refine s_if _ rfl (fun _=>?_) (fun _=>?_)
   ·refine s_own 3 rfl fun _ hlc hAn=>?_
    refine s_lit ?_;refine l_autoS TY_ok rfl ?_;refine l_op (.v (.int .i64 ((min si.length z : Nat) : Int))) trivial rfl rfl rfl (run_min rfl rfl rfl) ?_;refine l_op (.v (.slice B2 (min si.length z) d2)) trivial rfl rfl rfl (run_cutHi (sz:=64) rfl (by omega) hAn rfl Tryd.underlying32 rfl rfl) ?_;refine l_autoS TY_ok rfl ?_;refine l_cutR 3 (min si.length z) rfl ?_;refine s_end (hnext h4 bo B0 d0 sg B1 d1 (si.take (min si.length z)) B2 d2 (by omega) (by omega) (by rw [List.length_take]; omega) _ ?_);rw [List.length_take,Nat.min_eq_left (Nat.min_le_left _ _)];exact ⟨⟨rfl,rfl,rfl,rfl,rfl,rfl,rfl,trivial⟩,⟨rfl,rfl,trivial⟩,.refl _,fun _ h _=>h,fun _ h=>h⟩
   refine s_auto TY_ok rfl ?_;refine s_if _ rfl (fun _=>?_) (fun _=>?_)
   ·obtain ⟨y,hy⟩:=u8_of t.2.2
    refine s_lit ?_;refine l_autoS TY_ok rfl ?_;refine l_num 171 (y.toNat : Int) rfl hy ?_;refine l_push TY_ok 1 y rfl rfl rfl rfl rfl rfl rfl (eB_ok y) (by decide) (by decide) (by show (_ + 1) * 1 ≤ _; omega) (by omega) (Nat.le_refl _) fun B0' d0'=>?_;refine l_autoS TY_ok rfl ?_;exact s_end (hnext h4 (bo ++ [y]) B0' d0' sg B1 d1 si B2 d2 (by rw [List.length_append]; simp only [List.length_singleton]; omega) (by omega) hsi _ ⟨⟨rfl,rfl,rfl,rfl,rfl,rfl,rfl,trivial⟩,⟨rfl,rfl,trivial⟩,.refl _,fun _ h _=>h,fun _ h=>h⟩)
   obtain ⟨i,hi, -,hif⟩:=wrapU_mod t.2.2 n (by omega) (by omega);refine s_regA TY_ok rfl fun K12 hK12=>?_;refine l_num 93 (n : Int) rfl (wrapU rfl (by omega) (by omega)) ?_;refine l_op (.v (.int .u64 ((IntKind.u64.wrap t.2.2).tmod (n : Int)))) trivial rfl rfl rfl (run_remU (by omega) rfl rfl rfl) ?_;refine l_autoS TY_ok rfl ?_;refine l_num 15 (i : Int) rfl hif ?_;refine s_end (hK12 _ ?_);refine s_regA TY_ok rfl fun K13 hK13=>?_;refine l_place TY_ok 2 (i : Int) z (fe:=eI) rfl rfl rfl rfl rfl rfl rfl rfl hz (eI_ok _) ?_;refine s_end (hK13 _ ?_);refine s_auto TY_ok rfl ?_;refine s_ifD ((z : Int) < (si.length : Int)) rfl (fun hz2=>?_) (fun hz2=>?_)
   ·have hz2 : z < si.length:=by omega
    have hse:=seal_S (A:=B0) (c:=d0) (seed:=seedL 2 i) (b:=bo) 5 (seedL_len 2 i) (by omega);have hsl:=sgSig_len (seedL 2 i) (msg 5 bo);generalize sgSig (seedL 2 i) (msg 5 bo) = s at hse hsl;refine s_drawn 10 (by decide) (by kernel_rfl) (by kernel_rfl) fun G S w0 hst=>?_;refine g_autoS TY_ok hst rfl ?_;refine g_elem TY_ok hst rfl rfl rfl i rfl (seedsL_at hi) (seedsL_len 2 n).symm rfl (rd_fact fun w _ h=>h.2) ?_;refine g_autoS TY_ok hst rfl ?_;refine g_callS hst [.agg (By (seedL 2 i)).toArray,.int .u8 ((5 : UInt8).toNat : Int),.slice B0 bo.length d0] rfl rfl rfl own_seal rfl rfl (fun _=>rfl) hse (eY_ok hsl).1 (fun G S w h=>⟨h.fact.1,rd_own 1 rfl G S w h⟩) ?_;refine g_endS hst ?_;refine l_place TY_ok 3 s z (fe:=eY 64) rfl rfl rfl rfl rfl rfl rfl rfl hz2 (eY_ok hsl) ?_;refine s_end (hnext h4 bo B0 d0 (sg.set z (i : Int)) B1 d1 (si.set z s) B2 d2 (by omega) (by rw [List.length_set]; omega) (by rw [List.length_set]; exact hsi) _ ?_);rw [List.length_set,List.length_set];exact ⟨⟨rfl,rfl,rfl,rfl,rfl,rfl,rfl,trivial⟩,⟨rfl,rfl,trivial⟩,.refl _,fun _ h _=>h,fun _ h=>h⟩
   ·refine s_skip (hnext h4 bo B0 d0 (sg.set z (i : Int)) B1 d1 si B2 d2 (by omega) (by rw [List.length_set]; omega) hsi _ ?_)
    rw [List.length_set];exact ⟨⟨rfl,rfl,rfl,rfl,rfl,rfl,rfl,trivial⟩,⟨rfl,rfl,trivial⟩,.refl _,fun _ h _=>h,fun _ h=>h⟩
  ·refine s_exit (k_pass (k_pass (k_out ?_)))
   exact hend bo B0 d0 sg B1 d1 si B2 d2 (by omega) (by omega) _ ⟨⟨rfl,rfl,rfl,rfl,trivial⟩,⟨rfl,rfl,trivial⟩,.refl _,fun _ h _=>h,fun _ h=>h⟩
end Go.Proofs.YtlcbhbahchiofaaDoor
