/-
  SEVERAL TEXTS IN ONE: CtQ, CtQw.
-/
import Derived.Test.YtlcbhbahchiofaaDoorMn
import Derived.Test.YtlcbhbahchiofaaDoorMo
/-
  CERTIFICATES: quorums meet (plain).
-/
namespace Go.Proofs.YtlcbhbahchiofaaDoor
open Go.RowKit Go.IntWalk Nums

theorem nodup_lt : ∀ (n : Nat) (l : List Nat),l.Nodup → (∀ x ∈ l,x < n) → l.length ≤ n
 | 0,l,_,h=>by
  cases l with
  | nil=>exact Nat.le_refl _
  | cons x l=>exact absurd (h x List.mem_cons_self) (Nat.not_lt_zero _)
 | n + 1,l,hd,h=>by
  have h1:=nodup_lt n (l.erase n) (hd.erase n) fun x hx=>by
   have:=(hd.mem_erase_iff).1 hx;have:=h x this.2
   omega
  rw [List.length_erase] at h1
  split at h1 <;> omega
def cnt1 (i : Int) (Y : List Int) : Nat:=(Y.filter fun j=>decide (i = j)).length
def cntX (X Y : List Int) : Nat:=(X.map fun i=>cnt1 i Y).sum
theorem cntX_ge (X Y : List Nat) : (X.filter fun i=>decide (i ∈ Y)).length ≤ cntX (X.map fun i : Nat=>(i : Int)) (Y.map fun i : Nat=>(i : Int)):=by
 induction X with
 | nil=>exact Nat.zero_le _
 | cons x X ih =>
  simp only [cntX,List.map_cons,List.sum_cons] at ih ⊢;rw [List.filter_cons]
  split
  ·rename_i h
   have h:=of_decide_eq_true h;have h1 : 0 < cnt1 (x : Int) (Y.map fun i : Nat=>(i : Int)):=List.length_pos_of_mem (a:=(x : Int)) (List.mem_filter.2 ⟨List.mem_map.2 ⟨x,h,rfl⟩,decide_eq_true rfl⟩);rw [List.length_cons]
   omega
  ·omega
theorem cnt1_le (i : Int) (Y : List Int) : cnt1 i Y ≤ Y.length:=List.length_filter_le _ _
theorem cntX_le (X Y : List Int) : cntX X Y ≤ X.length * Y.length:=by
 induction X with
 | nil=>exact Nat.zero_le _
 | cons x X ih =>
  simp only [cntX,List.map_cons,List.sum_cons,List.length_cons] at ih ⊢;have:=cnt1_le x Y;rw [Nat.succ_mul]
  omega
theorem cntX_next {X : List Int} (Y : List Int) {a : Nat} {i : Int} (h : X[a]? = some i) : cntX (X.take (a + 1)) Y = cntX (X.take a) Y + cnt1 i Y:=by
 rw [List.take_add_one,h]
 simp [cntX]
theorem cnt1_next (i : Int) {Y : List Int} {a : Nat} {j : Int} (h : Y[a]? = some j) : cnt1 i (Y.take (a + 1)) = cnt1 i (Y.take a) + (if i = j then 1 else 0):=by
 rw [List.take_add_one,h]
 unfold cnt1
 rw [List.filter_append,List.length_append]
 by_cases e : i = j <;> simp [e]
theorem meet {k n : Nat} {X Y : List Nat} (hn : n = 3 * k + 1) (hX : X.Nodup) (hY : Y.Nodup) (bX : ∀ x ∈ X,x < n) (bY : ∀ y ∈ Y,y < n) (lX : X.length = 2 * k + 1) (lY : Y.length = 2 * k + 1) : k + 1 ≤ cntX (X.map fun i : Nat=>(i : Int)) (Y.map fun i : Nat=>(i : Int)):=by
 have h1:=cntX_ge X Y
 have h2:=nodup_lt n (X.filter (fun i=>decide (i ∉ Y)) ++ Y) (List.nodup_append.2 ⟨hX.filter _,hY,fun a ha b hb e=>by
  subst e;have:=(List.mem_filter.1 ha).2
  exact absurd hb (of_decide_eq_true this)⟩) fun x hx=>(List.mem_append.1 hx).elim (fun h=>bX x (List.mem_filter.1 h).1) (bY x)
 have h3 : (X.filter fun i=>decide (i ∈ Y)).length + (X.filter fun i=>decide (i ∉ Y)).length = X.length:=by
  have e : (fun i=>decide (i ∉ Y)) = fun i=>!(decide (i ∈ Y)):=by
   funext i
   by_cases h : i ∈ Y <;> simp [h]
  rw [e];clear h1 h2 e hX bX lX
  induction X with
  | nil=>rfl
  | cons x X ih =>
   rw [List.filter_cons,List.filter_cons,List.length_cons]
   by_cases h : x ∈ Y <;> simp only [h,decide_true,decide_false,Bool.not_true,Bool.not_false,if_true,if_false,List.length_cons,Bool.false_eq_true] <;> omega
 rw [List.length_append] at h2
 omega
noncomputable def allQ (n : Nat) : List Share:=(List.range n).map fun i : Nat=>((i : Int),sgSig (seedL 2 i) (msg 4 []))
theorem allQ_len (n : Nat) : (allQ n).length = n:=by simp [allQ]
theorem allQ_next (n : Nat) : allQ (n + 1) = allQ n ++ [((n : Int),sgSig (seedL 2 n) (msg 4 []))]:=by simp [allQ,List.range_succ]
def whoQ (l : List UInt8) (i : Nat) : List Nat:=(List.range i).filter (keepB l)
theorem whoQ_next (l : List UInt8) (i : Nat) : whoQ l (i + 1) = whoQ l i ++ (if keepB l i = true then [i] else []):=by
 unfold whoQ
 rw [List.range_succ,List.filter_append,List.filter_cons,List.filter_nil]
theorem pickQ (n : Nat) (l : List UInt8) : ∀ i,i ≤ n → pickL (allQ n) l i = (whoQ l i).map fun i : Nat=>((i : Int),sgSig (seedL 2 i) (msg 4 []))
 | 0,_=>rfl
 | i + 1,h=>by
  rw [pickL_next,pickQ n l i (by omega),whoQ_next,List.map_append]
  congr 1
  have e : (allQ n)[i]? = some ((i : Int),sgSig (seedL 2 i) (msg 4 [])):=by
   have hi : i < n:=by omega
   simp [allQ,hi]
  rw [e]
  cases keepB l i <;> rfl
theorem firstQ {n : Nat} {l : List UInt8} {i : Nat} (h : i < n) : firstR (sgKey (seedL 2 i)) (msg 4 []) i (pickL (allQ n) l n) = if keepB l i = true then some (sgSig (seedL 2 i) (msg 4 [])) else none:=by
 rw [pickQ n l n (Nat.le_refl _)]
 unfold firstR
 by_cases hk : keepB l i = true
 ·rw [if_pos hk]
  have h1 : ((i : Int),sgSig (seedL 2 i) (msg 4 [])) ∈ (whoQ l n).map fun i : Nat=>((i : Int),sgSig (seedL 2 i) (msg 4 [])):=List.mem_map.2 ⟨i,List.mem_filter.2 ⟨List.mem_range.2 h,hk⟩,rfl⟩
  have h2 : (((whoQ l n).map fun i : Nat=>((i : Int),sgSig (seedL 2 i) (msg 4 []))).find? (isR (sgKey (seedL 2 i)) (msg 4 []) i)).isSome = true :=
   List.find?_isSome.2 ⟨_,h1,by simp [isR,rightB_own7]⟩
  obtain ⟨x,hx⟩:=Option.isSome_iff_exists.1 h2;obtain ⟨j,_,rfl⟩:=List.mem_map.1 (List.mem_of_find?_eq_some hx);have h3:=List.find?_some hx;simp only [isR,Bool.and_eq_true,decide_eq_true_eq] at h3
  obtain rfl : j = i:=by omega
  rw [hx]
  rfl
 ·rw [if_neg hk,List.find?_eq_none.2 fun x hx=>?_]
  ·rfl
  ·obtain ⟨j,hj,rfl⟩:=List.mem_map.1 hx
   simp only [isR,Bool.and_eq_true,decide_eq_true_eq]
   rintro ⟨h1,_⟩
   obtain rfl : j = i:=by omega
   exact hk (List.mem_filter.1 hj).2
theorem gotQ (n : Nat) (l : List UInt8) : ∀ i,i ≤ n → gotL (keyL n) (msg 4 []) (pickL (allQ n) l n) i = (whoQ l i).map fun i=>(i,sgSig (seedL 2 i) (msg 4 []))
 | 0,_=>rfl
 | i + 1,h=>by
  have e : (keyL n)[i]! = sgKey (seedL 2 i):=by
   have hi : i < n:=by omega
   simp [keyL,hi]
  rw [gotL_next,gotQ n l i (by omega),whoQ_next,List.map_append,e,firstQ (by omega)]
  congr 1
  cases keepB l i <;> rfl
theorem makeQ {k n : Nat} (hn : n = 3 * k + 1) (l : List UInt8) : makeC (keyL n) (msg 4 []) [] (pickL (allQ n) l n) =
  if (pickL (allQ n) l n).length < 2 * k + 1 then none else some ⟨[],((whoQ l n).take (2 * k + 1)).map fun i : Nat=>(i : Int),((whoQ l n).take (2 * k + 1)).map fun i=>sgSig (seedL 2 i) (msg 4 [])⟩:=by
 have e1 : n - n / 3 = 2 * k + 1:=by omega
 unfold makeC
 rw [keyL_len,e1,gotQ n l n (Nat.le_refl _),pickQ n l n (Nat.le_refl _),List.length_map,List.length_map,← List.map_take,List.map_map,List.map_map]
 rfl
theorem whoQ_nodup (l : List UInt8) (n : Nat) : (whoQ l n).Nodup:=List.nodup_range.filter _
theorem whoQ_lt {l : List UInt8} {n x : Nat} (h : x ∈ whoQ l n) : x < n:=List.mem_range.1 (List.mem_filter.1 h).1
theorem pickQ_len (n : Nat) (l : List UInt8) : (pickL (allQ n) l n).length = (whoQ l n).length:=by rw [pickQ n l n (Nat.le_refl _),List.length_map]
end Go.Proofs.YtlcbhbahchiofaaDoor
/-
  THE LAW: two quorums meet.
-/
namespace Go.Proofs.YtlcbhbahchiofaaDoor
open Go.RowKit Go.IntWalk Nums

set_option maxRecDepth 100000 in
set_option maxHeartbeats 4000000 in
theorem quorums_S (f : Int) {A A2 : Option Addr} {c c2 : Nat} (x y : List UInt8) : Spec 5 [.int .i64 f,.slice A x.length c,.slice A2 y.length c2] [] (fun w=>Ta w ∧ Rd 1 eB A c x w ∧ Rd 1 eB A2 c2 y w) (one (.v (.bool true))):=by
 refine spec_S [.c (.v (.int .i64 f)),.c (.v (.slice A x.length c)),.c (.v (.slice A2 y.length c2))] 131 Tryd.func5 rfl (by rw [Tryd.ntmps5]; rfl) (more_ok trivial (two_ok trivial trivial)) fun b=>?_;refine s_auto TY_ok rfl ?_;refine s_seq fun K hK=>?_;refine s_regA TY_ok rfl fun K1 hK1=>?_;refine l_call0 [] rfl rfl rfl own_first8 rfl rfl (fun _ _=>rfl) first_S (fun w h _=>h.1) fun _=>?_;refine l_autoS TY_ok rfl ?_;refine s_end (hK1 _ ?_);refine s_no rfl ?_;refine s_skip (hK _ ?_);obtain ⟨k,hk, -,hkf⟩:=wrapU_mod f 3 (by decide) (by decide);refine s_regA TY_ok rfl fun K2 hK2=>?_;refine l_num 7 (k : Int) rfl hkf ?_;refine s_end (hK2 _ ?_);obtain ⟨n,hn⟩ : ∃ n,n = 3 * k + 1:=⟨_,rfl⟩
 have hn7 : n ≤ 7:=by omega
 refine s_regA TY_ok rfl fun K3 hK3=>?_;refine l_call0 [.int .i64 (k : Int)] rfl rfl rfl own_of8 rfl rfl (fun _ _=>rfl) (of_S k n hn hn7) (fun w h _=>h.2.1) fun ⟨r,SA,sc⟩=>?_;refine l_autoS TY_ok rfl ?_;refine s_end (hK3 _ ?_);refine s_auto TY_ok rfl ?_;refine s_nil0 b.B.heap.size 37 65 eSh ?_;refine s_seq fun K4 hK4=>?_;refine s_auto TY_ok rfl ?_;refine s_block ?_
 let F : Nat × Option Addr × Nat → Env:=fun ⟨j,B,d⟩=>⟨[(35,.v (.int .i64 (j : Int))),(34,.v (.int .i64 (n : Int))),(33,.v (.slice SA n sc)),(0,.v (.int .i64 f)),(1,.v (.slice A x.length c)),(2,.v (.slice A2 y.length c2)),(7,.v (.int .i64 (k : Int))),(8,.v (ptr r.g)),(10,.v (.slice B (allQ j).length d))],[],[OwnS b.B.heap.size 37 65 eSh B d (allQ j),RingM r.m (keyL n)],
  fun w=>Ta w ∧ Rd 1 eB A c x w ∧ Rd 1 eB A2 c2 y w,fun w=>RingF r (keyL n) w ∧ Rd 32 (eY 32) SA sc (seedsL 2 n) w⟩
 refine c_weak (e':=F (0,none,0)) ⟨⟨rfl,rfl,rfl,rfl,rfl,rfl,rfl,rfl,rfl,trivial⟩,trivial,.refl _,fun _ h _=>h.2.2,fun _ h=>h.1⟩ (s_loop (fun j=>n - j.1) F (fun j=>j.1 ≤ n) ?_ (0,none,0) (Nat.zero_le _))
 rintro ⟨j,B,d⟩ hj
 dsimp only at hj
 refine s_auto TY_ok rfl ?_;refine s_seq fun K5 hK5=>?_;refine s_ifD ((j : Int) < (n : Int)) rfl (fun hlt=>?_) (fun hge=>?_)
 ·have hlt : j < n:=by omega
  refine s_skip (hK5 _ ?_);refine s_seq fun K6 hK6=>?_;refine s_block ?_;refine s_regA TY_ok rfl fun K7 hK7=>?_;refine l_elem TY_ok rfl rfl rfl j rfl (seedsL_at hlt) (seedsL_len 2 n).symm rfl (rd_fact fun w _ h=>h.2) ?_;refine l_autoS TY_ok rfl ?_;refine s_end (hK7 _ ?_);refine s_lit ?_;refine l_autoS TY_ok rfl ?_;have hse:=seal_S (A:=none) (c:=0) (seed:=seedL 2 j) (b:=[]) 4 (seedL_len 2 j) (by decide);have hsl:=sgSig_len (seedL 2 j) (msg 4 []);have hnx:=allQ_next j;generalize hsg : sgSig (seedL 2 j) (msg 4 []) = sg at *;refine l_call0 [.agg (By (seedL 2 j)).toArray,.int .u8 ((4 : UInt8).toNat : Int),.slice none ([] : List UInt8).length 0] rfl rfl rfl own_seal rfl rfl (fun _ _=>rfl) hse (fun w h _=>⟨h.1,Rd.nil _ _ _⟩) fun _=>?_;refine l_autoS TY_ok rfl ?_
  have hle : (allQ j).length ≤ 7:=by rw [allQ_len]; omega
  refine l_push TY_ok 0 ((j : Int),sg) rfl rfl rfl rfl rfl rfl rfl (eSh_ok hsl) (by decide) (by decide) (by show (_ + 1) * 72 ≤ _; omega) (by omega) (Nat.le_refl _) fun B' d'=>?_;refine l_autoS TY_ok rfl ?_;refine s_end (hK6 _ ?_);refine s_autoE TY_ok rfl ?_;rw [← hnx];exact k_next (j + 1,B',d') (by show j + 1 ≤ n; omega) (by show n - (j + 1) < n - j; omega) ⟨⟨congrArg some (congrArg SV.v (congrArg (Value.int .i64) (wrapI rfl (by omega) (by omega)))),rfl,rfl,rfl,rfl,rfl,rfl,rfl,rfl,trivial⟩,trivial,.refl _,fun _ h _=>h.2,fun _ h=>h.2⟩
 ·obtain rfl : n = j:=by omega
  refine s_exit (k_pass (k_pass (k_out ?_)));refine hK4 _ ?_;refine s_free 0 rfl ?_;rw [allQ_len]
  have hq : IntKind.i64.wrap (IntKind.i64.wrap (2 * (k : Int)) + 1) = ((2 * k + 1 : Nat) : Int):=by
   have e : IntKind.i64.wrap (2 * (k : Int)) = 2 * (k : Int):=wrapI rfl (by omega) (by omega);rw [e];exact wrapI (by omega) (by omega) (by omega)
  have hSx:=some_S (A:=B) (c:=d) (A2:=A) (c2:=c) (allQ n) x (by rw [allQ_len]; omega);have hSy:=some_S (A:=B) (c:=d) (A2:=A2) (c2:=c2) (allQ n) y (by rw [allQ_len]; omega);simp only [allQ_len] at hSx hSy;have hMx:=fun P pc=>make_S2 r (keyL n) (A:=none) (c:=0) (A2:=P) (c2:=pc) (bd:=[]) (pickL (allQ n) x n) 4 (by decide);have hMy:=fun P pc=>make_S2 r (keyL n) (A:=none) (c:=0) (A2:=P) (c2:=pc) (bd:=[]) (pickL (allQ n) y n) 4 (by decide);have hox:=makeQ hn x;have hoy:=makeQ hn y;have hcx:=fun cv=>make_check (ks:=keyL n) (m:=msg 4 []) (bd:=[]) (l:=pickL (allQ n) x n) (cv:=cv);have hcy:=fun cv=>make_check (ks:=keyL n) (m:=msg 4 []) (bd:=[]) (l:=pickL (allQ n) y n) (cv:=cv);generalize makeC (keyL n) (msg 4 []) [] (pickL (allQ n) x n) = o1 at *;generalize makeC (keyL n) (msg 4 []) [] (pickL (allQ n) y n) = o2 at *
  have he1 : errOf o1 = 80 ↔ ((pickL (allQ n) x n).length : Int) < ((2 * k + 1 : Nat) : Int):=by
   rw [hox]
   split
   ·exact ⟨fun _=>by omega,fun _=>rfl⟩
   ·exact ⟨fun h=>absurd (show (0 : Int) = 80 from h) (by decide),fun h=>by omega⟩
  have he2 : errOf o2 = 80 ↔ ((pickL (allQ n) y n).length : Int) < ((2 * k + 1 : Nat) : Int):=by
   rw [hoy]
   split
   ·exact ⟨fun _=>by omega,fun _=>rfl⟩
   ·exact ⟨fun h=>absurd (show (0 : Int) = 80 from h) (by decide),fun h=>by omega⟩
  refine s_regA TY_ok rfl fun K7 hK7=>?_;refine l_call0 [.slice B n d,.slice A x.length c] rfl rfl rfl own_some8 rfl rfl (fun _ _=>rfl) hSx (fun w h _=>⟨h.1,h.2.2.1⟩) fun ⟨P1,pc1⟩=>?_;refine l_R [RingM r.m (keyL n)] rfl ?_;refine l_callA [ptr r.g,.int .u8 ((4 : UInt8).toNat : Int),.slice none ([] : List UInt8).length 0,.slice P1 (pickL (allQ n) x n).length pc1] rfl rfl rfl own_make rfl rfl (fun _ _=>rfl) (hMx P1 pc1) (fun w h hM=>⟨⟨hM.2.1,h.2.2.1,Rd.nil _ _ _⟩,hM.1⟩) fun ci1=>?_;refine l_autoS TY_ok rfl ?_;refine s_end (hK7 _ ?_);refine s_regA TY_ok rfl fun K8 hK8=>?_;refine l_call0 [.slice B n d,.slice A2 y.length c2] rfl rfl rfl own_some8 rfl rfl (fun _ _=>rfl) hSy (fun w h _=>⟨h.2.2.1,h.2.2.2.2.2⟩) fun ⟨P2,pc2⟩=>?_;refine l_R [RingM r.m (keyL n)] rfl ?_;refine l_callA [ptr r.g,.int .u8 ((4 : UInt8).toNat : Int),.slice none ([] : List UInt8).length 0,.slice P2 (pickL (allQ n) y n).length pc2] rfl rfl rfl own_make rfl rfl (fun _ _=>rfl) (hMy P2 pc2) (fun w h hM=>⟨⟨hM.2.2.2.1,h.2.2.2.2.1,Rd.nil _ _ _⟩,hM.1⟩) fun ci2=>?_;refine l_autoS TY_ok rfl ?_;refine s_end (hK8 _ ?_);refine s_seq fun K9 hK9=>?_;refine s_regA TY_ok rfl fun K10 hK10=>?_
  have h13 : kS b K10 131 ⟨(69,.b (decide (errOf o1 ≠ 0 ∨ errOf o2 ≠ 0))) :: [(1,.v (.slice A x.length c)),(2,.v (.slice A2 y.length c2)),(7,.v (.int .i64 (k : Int))),(8,.v (ptr r.g)),(10,.v (.slice B n d)),(14,.v (.int .i64 (errOf o1))),(16,.v (.int .i64 (errOf o2))),(13,.a 13 0),(15,.a 15 0)],[⟨13,none,45,(eC ci1 (cvOf o1)).parts1⟩,⟨15,none,45,(eC ci2 (cvOf o2)).parts1⟩],[RingM r.m (keyL n)],fun w=>Rd 65 eSh B d (allQ n) w ∧ Ta w ∧ Rd 1 eB A c x w ∧ Rd 1 eB A2 c2 y w,fun w=>RingF r (keyL n) w ∧ CertF ci1 (cvOf o1) w ∧ CertF ci2 (cvOf o2) w⟩:=by
   refine hK10 _ ?_;refine s_ifD (errOf o1 ≠ 0 ∨ errOf o2 ≠ 0) rfl (fun h1=>?_) (fun h1=>?_)
   ·refine s_regA TY_ok rfl fun K11 hK11=>?_
    refine l_call0 [.slice B n d,.slice A x.length c] rfl rfl rfl own_some8 rfl rfl (fun _ _=>rfl) hSx (fun w h _=>⟨h.1,h.2.2.1⟩) fun ⟨P3,pc3⟩=>?_;refine l_autoS TY_ok rfl ?_;rw [hq];refine l_op (.b (decide (errOf o1 = 80) == decide (((pickL (allQ n) x n).length : Int) < ((2 * k + 1 : Nat) : Int)))) trivial rfl rfl rfl (run_eqBool rfl rfl rfl (fun _=>rfl) (fun _=>rfl)) ?_;refine l_autoS TY_ok rfl ?_;refine l_is 81 true rfl (by rw [beq_iff_eq,decide_eq_decide]; exact he1) ?_;refine l_autoS TY_ok rfl ?_;refine l_call0 [.slice B n d,.slice A2 y.length c2] rfl rfl rfl own_some8 rfl rfl (fun _ _=>rfl) hSy (fun w h _=>⟨h.2.1,h.2.2.2.2⟩) fun ⟨P4,pc4⟩=>?_;refine l_autoS TY_ok rfl ?_;rw [hq];refine l_op (.b (decide (errOf o2 = 80) == decide (((pickL (allQ n) y n).length : Int) < ((2 * k + 1 : Nat) : Int)))) trivial rfl rfl rfl (run_eqBool rfl rfl rfl (fun _=>rfl) (fun _=>rfl)) ?_;refine l_autoS TY_ok rfl ?_;refine s_end (hK11 _ ?_);exact s_ret (k_drop 0 rfl (k_retD TY_ok () rfl (by decide) rfl (by show Value.bool true = Value.bool _; rw [decide_eq_decide.2 he2,beq_self_eq_true]) trivial rfl (fun _ _ _=>trivial) (fun _ _=>trivial)))
   ·have h1 : errOf o1 = 0 ∧ errOf o2 = 0:=by omega
    obtain ⟨hle1,rfl⟩ : ¬ (pickL (allQ n) x n).length < 2 * k + 1 ∧ o1 = some ⟨[],((whoQ x n).take (2 * k + 1)).map fun i : Nat=>(i : Int),((whoQ x n).take (2 * k + 1)).map fun i=>sgSig (seedL 2 i) (msg 4 [])⟩:=by
     by_cases h : (pickL (allQ n) x n).length < 2 * k + 1
     ·rw [if_pos h] at hox
      rw [hox] at h1;exact absurd h1.1 (by decide)
     ·exact ⟨h,by rw [hox,if_neg h]⟩
    obtain ⟨hle2,rfl⟩ : ¬ (pickL (allQ n) y n).length < 2 * k + 1 ∧ o2 = some ⟨[],((whoQ y n).take (2 * k + 1)).map fun i : Nat=>(i : Int),((whoQ y n).take (2 * k + 1)).map fun i=>sgSig (seedL 2 i) (msg 4 [])⟩:=by
     by_cases h : (pickL (allQ n) y n).length < 2 * k + 1
     ·rw [if_pos h] at hoy
      rw [hoy] at h1;exact absurd h1.2 (by decide)
     ·exact ⟨h,by rw [hoy,if_neg h]⟩
    have hm:=meet (X:=(whoQ x n).take (2 * k + 1)) (Y:=(whoQ y n).take (2 * k + 1)) hn ((whoQ_nodup _ _).sublist (List.take_sublist _ _)) ((whoQ_nodup _ _).sublist (List.take_sublist _ _)) (fun z hz=>whoQ_lt (List.mem_of_mem_take hz)) (fun z hz=>whoQ_lt (List.mem_of_mem_take hz))
     (by rw [List.length_take,← pickQ_len]; omega) (by rw [List.length_take,← pickQ_len]; omega)
    have hl1 : (((whoQ x n).take (2 * k + 1)).map fun i : Nat=>(i : Int)).length ≤ 7:=by rw [List.length_map,List.length_take]; omega
    have hl2 : (((whoQ y n).take (2 * k + 1)).map fun i : Nat=>(i : Int)).length ≤ 7:=by rw [List.length_map,List.length_take]; omega
    have hck1:=hcx _ rfl;have hck2:=hcy _ rfl;clear hMx hMy hox hoy hcx hcy he1 he2 h1;generalize ((whoQ x n).take (2 * k + 1)).map (fun i : Nat=>(i : Int)) = X at *;generalize ((whoQ y n).take (2 * k + 1)).map (fun i : Nat=>(i : Int)) = Y at *;generalize ((whoQ x n).take (2 * k + 1)).map (fun i=>sgSig (seedL 2 i) (msg 4 [])) = sX at *;generalize ((whoQ y n).take (2 * k + 1)).map (fun i=>sgSig (seedL 2 i) (msg 4 [])) = sY at *;have hmul : X.length * Y.length ≤ 49:=Nat.mul_le_mul hl1 hl2;refine s_skip (hK9 _ ?_);refine s_auto TY_ok rfl ?_;refine s_seq fun K12 hK12=>?_;refine s_auto TY_ok rfl ?_;refine s_block ?_
    let F2 : Nat → Env:=fun a=>⟨[(97,.v (.int .i64 (a : Int))),(96,.v (.int .i64 (X.length : Int))),(95,.v (.slice ci1.A1 X.length ci1.c1)),(17,.v (.int .i64 (cntX (X.take a) Y : Int))),(7,.v (.int .i64 (k : Int))),(8,.v (ptr r.g)),(13,.a 13 0),(15,.a 15 0)],
     [⟨13,none,45,(eC ci1 ⟨[],X,sX⟩).parts1⟩,⟨15,none,45,(eC ci2 ⟨[],Y,sY⟩).parts1⟩],[RingM r.m (keyL n)],Ta,fun w=>RingF r (keyL n) w ∧ CertF ci1 ⟨[],X,sX⟩ w ∧ CertF ci2 ⟨[],Y,sY⟩ w⟩
    refine c_weak (e':=F2 0) ⟨⟨rfl,rfl,rfl,rfl,rfl,rfl,rfl,rfl,trivial⟩,⟨rfl,rfl,rfl,rfl,trivial⟩,.refl _,fun _ h _=>h.2.1,fun _ h=>h⟩ (s_loop (fun a=>X.length - a) F2 (fun a=>a ≤ X.length) ?_ 0 (Nat.zero_le _))
    intro a ha
    have hca:=cntX_le (X.take a) Y;have hca2 : (X.take a).length * Y.length ≤ 49:=Nat.le_trans (Nat.mul_le_mul_right _ (List.length_take_le' _ _)) hmul;refine s_auto TY_ok rfl ?_;refine s_seq fun K13 hK13=>?_;refine s_ifD ((a : Int) < (X.length : Int)) rfl (fun hlt=>?_) (fun hge=>?_)
    ·have hlt : a < X.length:=by omega
     obtain ⟨i,hi⟩ : ∃ i,X[a]? = some i:=⟨_,List.getElem?_eq_getElem hlt⟩;have hnx:=cntX_next Y hi;refine s_skip (hK13 _ ?_);refine s_seq fun K14 hK14=>?_;refine s_block ?_;refine s_reg fun K15 hK15=>?_;refine l_elem TY_ok rfl rfl rfl a rfl hi rfl rfl (rd_fact fun w _ h=>h.2.1.2.1) ?_;refine l_autoS TY_ok rfl ?_;refine s_end (hK15 _ ?_);refine s_auto TY_ok rfl ?_;refine s_block ?_
     let F3 : Nat → Env:=fun d=>⟨[(104,.v (.int .i64 (d : Int))),(103,.v (.int .i64 (Y.length : Int))),(102,.v (.slice ci2.A1 Y.length ci2.c1)),(17,.v (.int .i64 ((cntX (X.take a) Y + cnt1 i (Y.take d) : Nat) : Int))),(19,.v (.int .i64 i)),(97,.v (.int .i64 (a : Int))),(96,.v (.int .i64 (X.length : Int))),(95,.v (.slice ci1.A1 X.length ci1.c1)),(7,.v (.int .i64 (k : Int))),(8,.v (ptr r.g)),(13,.a 13 0),(15,.a 15 0)],
      [⟨13,none,45,(eC ci1 ⟨[],X,sX⟩).parts1⟩,⟨15,none,45,(eC ci2 ⟨[],Y,sY⟩).parts1⟩],[RingM r.m (keyL n)],Ta,fun w=>RingF r (keyL n) w ∧ CertF ci1 ⟨[],X,sX⟩ w ∧ CertF ci2 ⟨[],Y,sY⟩ w⟩
     refine c_weak (e':=F3 0) ⟨⟨rfl,rfl,rfl,rfl,rfl,rfl,rfl,rfl,rfl,rfl,rfl,rfl,trivial⟩,⟨rfl,rfl,rfl,rfl,trivial⟩,.refl _,fun _ h _=>h,fun _ h=>h⟩ (s_loop (fun d=>Y.length - d) F3 (fun d=>d ≤ Y.length) ?_ 0 (Nat.zero_le _))
     intro d hd
     have hcd:=cnt1_le i (Y.take d)
     have hcd2 : (Y.take d).length ≤ 7:=by rw [List.length_take]; omega
     refine s_auto TY_ok rfl ?_;refine s_seq fun K16 hK16=>?_;refine s_ifD ((d : Int) < (Y.length : Int)) rfl (fun hlt2=>?_) (fun hge2=>?_)
     ·have hlt2 : d < Y.length:=by omega
      obtain ⟨j,hjj⟩ : ∃ j,Y[d]? = some j:=⟨_,List.getElem?_eq_getElem hlt2⟩;have hnx2:=cnt1_next i hjj;refine s_skip (hK16 _ ?_);refine s_seq fun K17 hK17=>?_;refine s_block ?_;refine s_reg fun K18 hK18=>?_;refine l_elem TY_ok rfl rfl rfl d rfl hjj rfl rfl (rd_fact fun w _ h=>h.2.2.2.1) ?_;refine l_autoS TY_ok rfl ?_;refine s_end (hK18 _ ?_);refine s_auto TY_ok rfl ?_;refine s_ifD (i = j) rfl (fun he=>?_) (fun he=>?_)
      ·rw [if_pos he] at hnx2
       refine s_autoE TY_ok rfl ?_;refine hK17 _ ?_;refine s_autoE TY_ok rfl ?_;exact k_next (d + 1) hlt2 (by omega) ⟨⟨congrArg some (congrArg SV.v (congrArg (Value.int .i64) (wrapI rfl (by omega) (by omega)))),rfl,rfl,congrArg some (congrArg SV.v (congrArg (Value.int .i64) (wrapI (by omega) (by omega) (by omega)))),rfl,rfl,rfl,rfl,rfl,rfl,rfl,rfl,trivial⟩,⟨rfl,rfl,rfl,rfl,trivial⟩,.refl _,fun _ h _=>h,fun _ h=>h⟩
      ·rw [if_neg he] at hnx2
       refine s_skip (hK17 _ ?_);refine s_autoE TY_ok rfl ?_;exact k_next (d + 1) hlt2 (by omega) ⟨⟨congrArg some (congrArg SV.v (congrArg (Value.int .i64) (wrapI rfl (by omega) (by omega)))),rfl,rfl,congrArg some (congrArg SV.v (congrArg (Value.int .i64) (by omega))),rfl,rfl,rfl,rfl,rfl,rfl,rfl,rfl,trivial⟩,⟨rfl,rfl,rfl,rfl,trivial⟩,.refl _,fun _ h _=>h,fun _ h=>h⟩
     ·have hd2 : Y.take d = Y:=List.take_of_length_le (by omega)
      refine s_exit (k_pass (k_pass (k_out ?_)));refine hK14 _ ?_;refine s_autoE TY_ok rfl ?_;exact k_next (a + 1) hlt (by omega) ⟨⟨congrArg some (congrArg SV.v (congrArg (Value.int .i64) (wrapI rfl (by omega) (by omega)))),rfl,rfl,congrArg some (congrArg SV.v (congrArg (Value.int .i64) (by rw [hnx,hd2]))),rfl,rfl,rfl,rfl,trivial⟩,⟨rfl,rfl,rfl,rfl,trivial⟩,.refl _,fun _ h _=>h,fun _ h=>h⟩
    ·have hd2 : X.take a = X:=List.take_of_length_le (by omega)
     refine s_exit (k_pass (k_pass (k_out ?_)));refine hK12 _ ?_;rw [hd2];refine s_regA TY_ok rfl fun K14 hK14=>?_;have hk1 : IntKind.i64.wrap ((k : Int) + 1) = (k : Int) + 1:=wrapI rfl (by omega) (by omega);refine l_is 119 true rfl (decide_eq_true (by rw [hk1]; omega)) ?_;refine l_autoS TY_ok rfl ?_;have hs1:=check_S r (keyL n) ci1 ⟨[],X,sX⟩ 4 (by show 0 ≤ _; decide);have hs2:=check_S r (keyL n) ci2 ⟨[],Y,sY⟩ 4 (by show 0 ≤ _; decide);rw [hck1.1] at hs1;rw [hck2.1] at hs2;refine l_callA [ptr r.g,.int .u8 ((4 : UInt8).toNat : Int),(eC ci1 ⟨[],X,sX⟩).den] rfl rfl rfl own_check rfl rfl (fun _ _=>rfl) hs1 (fun w h hM=>⟨hM.1,h,hM.2.1⟩) fun _=>?_;refine l_autoS TY_ok rfl ?_;refine l_is 125 true rfl (by decide) ?_;refine l_autoS TY_ok rfl ?_;refine l_callA [ptr r.g,.int .u8 ((4 : UInt8).toNat : Int),(eC ci2 ⟨[],Y,sY⟩).den] rfl rfl rfl own_check rfl rfl (fun _ _=>rfl) hs2 (fun w h hM=>⟨hM.2.1,h.2,hM.2.2.2⟩) fun _=>?_;refine l_autoS TY_ok rfl ?_;refine s_end (hK14 _ ?_);exact s_ret (k_drop 0 rfl (k_retD TY_ok () rfl (by decide) rfl rfl trivial rfl (fun _ _ _=>trivial) (fun _ _=>trivial)))
  by_cases h1 : errOf o1 ≠ 0
  ·refine l_is 66 true rfl (decide_eq_true h1) ?_
   refine l_autoS TY_ok rfl ?_;refine l_as 69 (.b (decide (errOf o1 ≠ 0 ∨ errOf o2 ≠ 0))) rfl (fun _=>by rw [decide_eq_true (p:=_ ∨ _) (.inl h1)]; rfl) trivial ?_;refine s_end (k_weak ?_ h13);exact ⟨⟨rfl,rfl,rfl,rfl,rfl,rfl,rfl,rfl,rfl,rfl,trivial⟩,⟨rfl,rfl,rfl,rfl,trivial⟩,.refl _,fun _ h _=>h.2.2.2.2,fun _ h=>⟨h.2.2.2.2.1,h.2.2.1,h.1⟩⟩
  ·refine l_is 66 false rfl (decide_eq_false h1) ?_
   refine l_autoS TY_ok rfl ?_;refine l_eq 69 (.b (decide (errOf o1 ≠ 0 ∨ errOf o2 ≠ 0))) rfl (congrArg SV.b (decide_eq_decide.2 ⟨.inr,fun h=>h.resolve_left h1⟩)) ?_;refine s_end (k_weak ?_ h13);exact ⟨⟨rfl,rfl,rfl,rfl,rfl,rfl,rfl,rfl,rfl,rfl,trivial⟩,⟨rfl,rfl,rfl,rfl,trivial⟩,.refl _,fun _ h _=>h.2.2.2.2,fun _ h=>⟨h.2.2.2.2.1,h.2.2.1,h.1⟩⟩
end Go.Proofs.YtlcbhbahchiofaaDoor
