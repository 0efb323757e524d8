/-
  SEVERAL TEXTS IN ONE: CpT, CpTot, CpMul, Tup, CpHash, CpTup, CpDec, LawC, RgIx.
-/
import Derived.Test.YtlcbhbahchiofaaGreatDoorMh
import Derived.Great.BuildSlice
import Derived.Test.YtlcbhbahchiofaaGreatDoorMa
import Derived.Test.YtlcbhbahchiofaaGreatDoorMc
import Derived.Test.YtlcbhbahchiofaaGreatDoorMe
/-
  THE PROGRAM'S POINTS: rows of a slice: the steps of total.
-/
namespace Go.Proofs.YtlcbhbahchiofaaGreatDoor
open Go.RowKit Go.IntWalk Nums

def flatR (rs : List RS) : List Value:=(rs.map fun r=>rowc r.M r.d).flatten
theorem flatR_cons (r : RS) (rs : List RS) : flatR (r :: rs) = rowc r.M r.d ++ flatR rs:=by simp [flatR]
theorem flatR_at : ∀ {rs : List RS} {j : Nat} {r : RS},(∀ r ∈ rs,r.Ok) → rs[j]? = some r → ∃ A Z,flatR rs = A ++ (rowc r.M r.d ++ Z) ∧ A.length = 416 * j
 | [],j,r,_,hj=>by simp at hj
 | s :: rs,0,r,h,hj=>by
  simp only [List.getElem?_cons_zero,Option.some.injEq] at hj;subst hj;exact ⟨[],flatR rs,by rw [flatR_cons]; rfl,rfl⟩
 | s :: rs,j + 1,r,h,hj=>by
  obtain ⟨A,Z,e,hA⟩:=flatR_at (rs:=rs) (j:=j) (r:=r) (fun s hs=>h s (by simp [hs])) (by simpa using hj);refine ⟨rowc s.M s.d ++ A,Z,by rw [flatR_cons,e,List.append_assoc],?_⟩;rw [List.length_append,rowc_len (h s (by simp)).m8 (h s (by simp)).dl,hA]
  omega
section
variable {w : World} {g t : Nat} {rs : List RS} {j : Nat} {r : RS}
theorem rs_digit (hb : Blk w g t (flatR rs).toArray) (h : ∀ r ∈ rs,r.Ok) (hj : rs[j]? = some r) {m : Nat} (hm : m < 256) : w.cell? ⟨g,416 * j + 160 + m,none⟩ = some (.int .u8 (r.d[m]! : Nat)):=by
 have hr:=h r (List.mem_of_getElem? hj);obtain ⟨A,Z,e,hA⟩:=flatR_at h hj;have hM:=take_flat hr.m8 (Nat.le_refl 8);rw [List.take_of_length_le (by rw [hr.m8.len]; exact Nat.le_refl _)] at hM
 have e2 : flatR rs = (A ++ Us r.M.flatten) ++ (Ds r.d ++ Z):=by rw [e,rowc]; simp
 rw [e2] at hb;have h2:=Blk.mid5 hb (off:=416 * j + 160) (by simp [Us_len,hA,hM]) m (.int .u8 (r.d[m]! : Nat)) (by have:=Ds_get (l:=r.d) (j:=m) (by rw [hr.dl]; exact hm); simpa using this);exact h2
theorem rs_mult (hb : Blk w g t (flatR rs).toArray) (h : ∀ r ∈ rs,r.Ok) (hj : rs[j]? = some r) {i : Nat} (hi : i < 8) : w.rangeAt g (416 * j + 20 * i) (Us r.M[i]!):=by
 have hr:=h r (List.mem_of_getElem? hj);obtain ⟨A,Z,e,hA⟩:=flatR_at h hj
 have e2 : flatR rs = (A ++ Us (r.M.take i).flatten) ++ (Us r.M[i]! ++ (Us (r.M.drop (i + 1)).flatten ++ Ds r.d ++ Z)):=by rw [e,row_split hr.m8 hi]; simp
 rw [e2] at hb;exact Blk.mid5 hb (by simp [Us_len,hA,take_flat hr.m8 (Nat.le_of_lt hi)])
end
theorem ix105 (b n c j : Nat) (h : j < n) (w : World) : (Instr.indexAt 152 (.slice (some ⟨b,0,none⟩) n c) (.int .i64 (j : Int))).run Tryz.prog w = .ok (.pointer (some ⟨b,416 * j,none⟩)) w:=by
 have h3 : (j : Int) < (n : Int):=by omega
 have h4 : (0 : Int) ≤ j:=by omega
 go_simp
theorem ixDo (b o i : Nat) (h : i < 256) (w : World) : (Instr.indexAt 132 (.pointer (some ⟨b,o,none⟩)) (.int .i64 (i : Int))).run Tryz.prog w = .ok (.pointer (some ⟨b,o + i,none⟩)) w:=by
 have h3 : (i : Int) < 256:=by omega
 have h4 : (0 : Int) ≤ i:=by omega
 go_simp
theorem ixA8 (b o i : Nat) (h : i < 8) (w : World) : (Instr.indexAt 131 (.pointer (some ⟨b,o,none⟩)) (.int .u8 (i : Int))).run Tryz.prog w = .ok (.pointer (some ⟨b,o + 20 * i,none⟩)) w:=by
 have h3 : (i : Int) < 8:=by omega
 have h4 : (0 : Int) ≤ i:=by omega
 go_simp
theorem quo2 (v : Nat) (h : v < 16) : IntKind.u8.wrap ((v : Int).tdiv 2) = ((v / 2 : Nat) : Int):=by
 have key : ∀ v : Nat,v < 16 → IntKind.u8.wrap ((v : Int).tdiv 2) = ((v / 2 : Nat) : Int):=by decide +kernel
 exact key v h
section
variable {ops : Array Oper} {C0 : World → Prop} {Q : Act → Prop} {N : Nat} {E : List (Nat × Value)} {o : Oper} {rest : List Oper} {k : Nat}
theorem f_ixV {t : TypeId} {x y : Operand} (p i : Value) (q : Addr) (hg : o.guard = none) (hd : o.dst = some k) (hk : Nat.blt k N = true) (ho : o.op = .indexAddr t x y) (hx : ev E x = some p) (hy : ev E y = some i)
  (hr : ∀ w,(Instr.indexAt t p i).run Tryz.prog w = .ok (.pointer (some q)) w) (hn : bF Tryz.prog ops C0 Q rest N ((k,.pointer (some q)) :: E)) : bF Tryz.prog ops C0 Q (o :: rest) N E :=
 f_val _ hg hd hk (fun a ha w _=>by
  have h1:=ha.eval hx;have h2:=ha.eval hy
  unfold execOp
  simp only [ho,h1,h2,Sem.run_bind,hr,Result.andThen_ok,Sem.run_pure]) hn
theorem f_lenR {x : Operand} (p : Option Addr) (n c : Nat) (hg : o.guard = none) (hd : o.dst = some k) (hk : Nat.blt k N = true) (ho : o.op = .call { callee:=.builtin .len,args:=#[x],argTypes:=#[152] }) (hx : ev E x = some (.slice p n c))
  (hn : bF Tryz.prog ops C0 Q rest N ((k,.int .i64 (n : Int)) :: E)) : bF Tryz.prog ops C0 Q (o :: rest) N E :=
 f_val _ hg hd hk (fun a ha w _=>by
  have h1:=ha.eval hx
  unfold execOp
  simp only [ho,resolve,invoke,builtin,Sem.run_bind,Sem.run_pure,Result.andThen_ok,List.map_toArray,List.map_cons,List.map_nil,h1]
  go_simp) hn
end
section
variable {ops : Array Oper} {Q : Exit → Act → World → Prop} {N : Nat} {E : List (Nat × Value)} {w : World} {o : Oper} {rest : List Oper} {k : Nat}
theorem l_callF {f : FuncId} {xs : Array Operand} {ats : Array TypeId} (args : Array Value) {R : Ending → World → Prop} (hg : o.guard = none) (hd : o.dst = some k) (hk : Nat.blt k N = true)
  (hf : Own f) (hc : Calls Tryz.prog f args w R) (ho : o.op = .call { callee:=.value (.func f),args:=xs,argTypes:=ats }) (hx : xs.toList.map (ev E) = args.toList.map some)
  (hn : ∀ e w',R e w' → ∃ v,e = .returned v ∧ lF Tryz.prog ops Q rest N ((k,v) :: E) w') : lF Tryz.prog ops Q (o :: rest) N E w:=fun a ha=>by
 have hr:=run_call_fn (a:=a) hf ho w;rw [map_eval (ha.evals _ _ hx)] at hr
 unfold wpList
 rw [if_pos (by simp [Region.wanted,hg])];refine .inl ?_
 unfold Oper.wp
 rw [hr];simp only [Oper.upon,hd]
 exact hc.mono fun e w' he=>by
  obtain ⟨v,rfl,h1⟩:=hn e w' he;exact h1 _ (ha.put hk v)
end
theorem own_row : Own 75:=fun _ _=>by go_simp
theorem own_total : Own 74:=fun _ _=>by go_simp
theorem own_cbase : Own 60:=fun _ _=>by go_simp
def dOf (rs : List RS) (j : Nat) : List Nat:=(rs[j]?.map RS.d).getD []
theorem dOf_at {rs : List RS} {j : Nat} {r : RS} (h : rs[j]? = some r) : dOf rs j = r.d:=by rw [dOf,h]; rfl
theorem on_as {rs : List RS} (h : ∀ r ∈ rs,r.Ok) : ∀ A ∈ rs.map RS.A,Ed.On dd A:=fun A hA=>by
 obtain ⟨r,hr,rfl⟩:=List.mem_map.1 hA;exact (h r hr).on
def above (rs : List RS) (k : Nat) : Ed.Pt p:=Ed.tot dd (rs.map RS.A) 0 fun m=>sumD ((dOf rs m).drop k)
def part (rs : List RS) (k j : Nat) : Ed.Pt p:=Ed.tot dd (rs.map RS.A) 0 fun m=>if m < j then sumD ((dOf rs m).drop k) else 2 * sumD ((dOf rs m).drop (k + 1))
theorem above_end {rs : List RS} (h : ∀ r ∈ rs,r.Ok) : above rs 256 = Ed.zero:=by
 refine Ed.tot_zero good fun j _ hj=>?_;rw [List.length_map,Nat.zero_add] at hj;rw [dOf_at (List.getElem?_eq_getElem hj),List.drop_of_length_le (by rw [(h _ (List.getElem_mem hj)).dl]; exact Nat.le_refl _)]
 rfl
theorem part_zero {rs : List RS} (h : ∀ r ∈ rs,r.Ok) (k : Nat) : part rs k 0 = Ed.add dd (above rs (k + 1)) (above rs (k + 1)):=by
 rw [above,← Ed.tot_dbl good (on_as h)];exact Ed.tot_congr fun j _ _=>if_neg (by omega)
theorem part_all {rs : List RS} (k : Nat) : part rs k rs.length = above rs k :=
 Ed.tot_congr fun j _ hj=>if_pos (by simpa using hj)
theorem part_step {rs : List RS} (h : ∀ r ∈ rs,r.Ok) {k j : Nat} {r : RS} (hj : rs[j]? = some r) (hk : k < 256) : part rs k (j + 1) = Ed.add dd (part rs k j) (Ed.mul dd r.d[k]! r.A):=by
 refine Ed.tot_more good (on_as h) 0 j r.d[k]! _ _ r.A (by rw [List.getElem?_map,hj]; rfl) ?_ fun m hm=>?_
 ·simp only [Nat.zero_add]
  rw [if_pos (by omega),if_neg (by omega),dOf_at hj,sumD_drop (by rw [(h r (List.mem_of_getElem? hj)).dl]; exact hk),Nat.add_comm]
 ·simp only [Nat.zero_add] at hm
  by_cases e : m < j
  ·rw [if_pos (by omega),if_pos e]
  ·rw [if_neg (by omega),if_neg e]
theorem part_same {rs : List RS} (h : ∀ r ∈ rs,r.Ok) {k j : Nat} {r : RS} (hj : rs[j]? = some r) (hk : k < 256) (h0 : r.d[k]! = 0) : part rs k (j + 1) = part rs k j:=by
 rw [part_step h hj hk,h0,Ed.mul_0,Ed.add_zero good]
end Go.Proofs.YtlcbhbahchiofaaGreatDoor
/-
  THE PROGRAM'S POINTS: total.
-/
namespace Go.Proofs.YtlcbhbahchiofaaGreatDoor
open Go.RowKit Go.IntWalk Nums

def TF (gs n c0 g1 g2 : Nat) (s : Nat × Nat × List Nat) : List (Nat × Value):=[(0,.slice (some ⟨gs,0,none⟩) n c0),(2,.pointer (some ⟨g1,0,none⟩)),(3,.pointer (some ⟨g2,0,none⟩)),(4,.int .i64 (s.2.1 : Int)),(8,.int .i64 (s.1 : Int))]
def TR (w : World) (gs t g1 g2 : Nat) (rs : List RS) (s : Nat × Nat × List Nat) (W : World) : Prop :=
  s.1 ≤ 256 ∧ s.2.1 ≤ s.1 ∧ (∃ P,PB s.2.2 P ∧ Ed.mul dd (2 ^ s.2.1) P = above rs (256 - s.1)) ∧ Up w W ∧ Tw W ∧ Blk W gs t (flatR rs).toArray ∧ Blk W g1 112 (Us pz).toArray ∧ Blk W g2 112 (Us s.2.2).toArray
def IF (gs n c0 g1 g2 i : Nat) (s : Nat × Nat × List Nat) : List (Nat × Value):=[(0,.slice (some ⟨gs,0,none⟩) n c0),(2,.pointer (some ⟨g1,0,none⟩)),(3,.pointer (some ⟨g2,0,none⟩)),(4,.int .i64 (s.2.1 : Int)),(8,.int .i64 (i : Int)),(5,.int .i64 (i : Int)),(14,.int .i64 (n : Int)),(15,.int .i64 (s.1 : Int))]
def IR (w : World) (gs t g1 g2 : Nat) (rs : List RS) (i k : Nat) (s : Nat × Nat × List Nat) (W : World) : Prop :=
  s.1 ≤ rs.length ∧ s.2.1 ≤ i + 1 ∧ (∃ P,PB s.2.2 P ∧ Ed.mul dd (2 ^ s.2.1) P = part rs k s.1) ∧ Up w W ∧ Tw W ∧ Blk W gs t (flatR rs).toArray ∧ Blk W g1 112 (Us pz).toArray ∧ Blk W g2 112 (Us s.2.2).toArray

set_option maxRecDepth 100000 in
set_option maxHeartbeats 4000000 in
theorem total_f {rs : List RS} {gs t c0 : Nat} (hok : ∀ r ∈ rs,r.Ok) (hlen : rs.length < 4294967296) (w : World) (hT : Tw w) (hb : Blk w gs t (flatR rs).toArray) :
  Calls Tryz.prog 74 #[.slice (some ⟨gs,0,none⟩) rs.length c0] w fun e w'=>∃ r,PB r (above rs 0) ∧ e = .returned (.agg (Us r).toArray) ∧ Below w.heap.size w w':=by
 refine calls_F (vs:=[.slice (some ⟨gs,0,none⟩) rs.length c0]) 45 Tryz.func74 rfl (by rw [Tryz.ntmps74]; rfl) ?_;have hw0:=hT.lt;have hgl:=hb.lt;refine c_seq fun K hK=>?_;refine c_lit ?_;refine l_allocA ((Us pz).toArray) rfl rfl rfl rfl (by kernel_rfl) fun W1 g1 hw1 hg1 b1=>?_
 have q1 : w.heap.size ≤ g1:=by rw [hg1]; exact Nat.le_refl _
 clear hg1;replace hT:=hT.below hw1;have hU : Up w _:=hw1;replace hb:=hb.later hU;refine l_nil ?_;refine hK _ _ ?_;clear hK K;refine c_seq fun K hK=>?_;refine c_lit ?_;refine l_allocA ((Us pz).toArray) rfl rfl rfl rfl (by kernel_rfl) fun W2 g2 hw2 hg2 b2=>?_
 have q2 : w.heap.size ≤ g2:=by rw [hg2]; exact hU.size
 have n1_2 : g1 ≠ g2:=by have:=b1.lt; omega
 clear hg2;replace b1:=b1.later hw2;replace hT:=hT.below hw2;replace hU:=hU.step hw2;replace hb:=hb.later hw2;refine l_nil ?_;refine hK _ _ ?_;clear hK K;refine c_seq fun K hK=>?_;refine c_lit ?_;refine l_assign (.int .i64 0) rfl rfl rfl rfl rfl ?_;refine l_nil ?_;refine hK _ _ ?_;clear hK K
 have hne1 : gs ≠ g1:=by omega
 have hne2 : gs ≠ g2:=by omega
 refine c_seq fun K1 hK1=>?_;refine c_seq fun K hK=>?_;refine c_qF ?_;refine f_move (.int .i64 0) rfl rfl rfl rfl rfl ?_;refine f_end fun w10 hw10=>?_;replace b1:=b1.later hw10;replace b2:=b2.later hw10;replace hT:=hT.below hw10;replace hU:=hU.step hw10;replace hb:=hb.later hw10;refine k_sub (E':=TF gs rs.length c0 g1 g2 (0,0,pz)) ⟨rfl,rfl,rfl,rfl,rfl,trivial⟩ ?_;refine hK _ _ ?_;clear hK K;refine c_block ?_;refine c_loop (m:=fun s : Nat × Nat × List Nat=>256 - s.1) (F:=TF gs rs.length c0 g1 g2) (R:=TR w gs t g1 g2 rs) ?_ (0,0,pz) ⟨Nat.zero_le _,Nat.le_refl _,⟨Ed.zero,.inl ⟨rfl,rfl⟩,by rw [Nat.pow_zero,Ed.mul_zero good]; exact (above_end hok).symm⟩,hU,hT,hb,b1,b2⟩;clear hU hT hb b1 b2 hw10 w10
 rintro ⟨i,c,m⟩ V0 ⟨hi,hc,⟨P,hP,hsum⟩,hU,hT,hb,b1,b2⟩
 simp only at hi hc hP hsum b2;refine c_seq fun K hK=>?_;refine c_qF ?_
 by_cases hin : i < 256
 ·obtain ⟨k,hk⟩ : ∃ k,k = 255 - i:=⟨_,rfl⟩
  have hk1 : 256 - i = k + 1:=by omega
  rw [hk1] at hsum;refine f_lssI (i : Int) 256 true rfl rfl rfl rfl rfl rfl (decide_eq_true (by omega)) ?_;refine f_end fun w11 hw11=>hK _ _ ?_;clear hK K;replace b1:=b1.later hw11;replace b2:=b2.later hw11;replace hT:=hT.below hw11;replace hU:=hU.step hw11;replace hb:=hb.later hw11;refine c_seq fun K hK=>?_;refine c_cond true rfl ?_;refine c_skip ?_;refine hK _ _ ?_;clear hK K;refine c_seq fun K3 hK3=>?_;refine c_block ?_;refine c_seq fun K hK=>?_;refine c_qF ?_;refine f_move (.int .i64 (i : Int)) rfl rfl rfl rfl rfl ?_;refine f_assign (.int .i64 (i : Int)) rfl rfl rfl rfl rfl ?_;refine f_end fun w12 hw12=>hK _ _ ?_;clear hK K;replace b1:=b1.later hw12;replace b2:=b2.later hw12;replace hT:=hT.below hw12;replace hU:=hU.step hw12;replace hb:=hb.later hw12;refine c_seq fun K hK=>?_;refine c_qF ?_;refine f_move (.int .i64 (c : Int)) rfl rfl rfl rfl rfl ?_;refine f_addI (c : Int) 1 ((c + 1 : Nat) : Int) rfl rfl rfl rfl rfl rfl (addI c 1 (by omega)) ?_;refine f_assign (.int .i64 ((c + 1 : Nat) : Int)) rfl rfl rfl rfl rfl ?_;refine f_end fun w13 hw13=>hK _ _ ?_;clear hK K;replace b1:=b1.later hw13;replace b2:=b2.later hw13;replace hT:=hT.below hw13;replace hU:=hU.step hw13;replace hb:=hb.later hw13;refine c_seq fun K hK=>?_;refine c_qF ?_;refine f_move (.slice (some ⟨gs,0,none⟩) rs.length c0) rfl rfl rfl rfl rfl ?_;refine f_lenR _ rs.length c0 rfl rfl rfl rfl rfl ?_;refine f_move (.int .i64 0) rfl rfl rfl rfl rfl ?_;refine f_end fun w14 hw14=>?_;replace b1:=b1.later hw14;replace b2:=b2.later hw14;replace hT:=hT.below hw14;replace hU:=hU.step hw14;replace hb:=hb.later hw14;refine k_sub (E':=IF gs rs.length c0 g1 g2 i (0,c + 1,m)) ⟨rfl,rfl,rfl,rfl,rfl,rfl,rfl,rfl,trivial⟩ ?_;refine hK _ _ ?_;clear hK K;refine c_block ?_
  have hs0 : Ed.mul dd (2 ^ (c + 1)) P = part rs k 0:=by rw [dbl_pow hP.on,hsum,← part_zero hok]
  refine c_loop (m:=fun s : Nat × Nat × List Nat=>rs.length - s.1) (F:=IF gs rs.length c0 g1 g2 i) (R:=IR w gs t g1 g2 rs i k) ?_ (0,c + 1,m) ⟨Nat.zero_le _,by show c + 1 ≤ i + 1; omega,⟨P,hP,hs0⟩,hU,hT,hb,b1,b2⟩;clear hU hT hb b1 b2 hw14 w14 hP hsum hs0
  rintro ⟨j,c,m⟩ V1 ⟨hj,hc,⟨P,hP,hsum⟩,hU,hT,hb,b1,b2⟩
  simp only at hj hc hP hsum b2;refine c_seq fun K hK=>?_;refine c_qF ?_
  by_cases hjn : j < rs.length
  ·refine f_lssI (j : Int) (rs.length : Int) true rfl rfl rfl rfl rfl rfl (decide_eq_true (by omega)) ?_
   refine f_end fun w11 hw11=>hK _ _ ?_;clear hK K;replace b1:=b1.later hw11;replace b2:=b2.later hw11;replace hT:=hT.below hw11;replace hU:=hU.step hw11;replace hb:=hb.later hw11;refine c_seq fun K hK=>?_;refine c_cond true rfl ?_;refine c_skip ?_;refine hK _ _ ?_;clear hK K;refine c_seq fun K5 hK5=>?_;refine c_block ?_;refine c_seq fun K hK=>?_;refine c_qF ?_;refine f_move (.int .i64 (j : Int)) rfl rfl rfl rfl rfl ?_;refine f_assign (.int .i64 (j : Int)) rfl rfl rfl rfl rfl ?_;refine f_end fun w12 hw12=>hK _ _ ?_;clear hK K;replace b1:=b1.later hw12;replace b2:=b2.later hw12;replace hT:=hT.below hw12;replace hU:=hU.step hw12;replace hb:=hb.later hw12;have hr : rs[j]? = some rs[j]:=List.getElem?_eq_getElem hjn;have hrok:=hok _ (List.getElem_mem hjn);generalize rs[j] = r at hr hrok;have cd:=rs_digit hb hok hr (m:=k) (by omega);have hodd:=hrok.odd k (by omega);have hstep:=part_step hok hr (k:=k) (by omega);have hsame:=part_same hok hr (k:=k) (by omega);generalize r.d[k]! = v at *;refine c_seq fun K hK=>?_;refine c_qF ?_;refine f_move (.slice (some ⟨gs,0,none⟩) rs.length c0) rfl rfl rfl rfl rfl ?_;refine f_move (.int .i64 (j : Int)) rfl rfl rfl rfl rfl ?_;refine f_move (.int .i64 (i : Int)) rfl rfl rfl rfl rfl ?_;refine f_subI 255 (i : Int) (k : Int) rfl rfl rfl rfl rfl rfl (by rw [i64_left,wrap64_in _ (by omega)]; omega) ?_;refine f_ix _ (j : Int) ⟨gs,416 * j,none⟩ rfl rfl rfl rfl rfl rfl (ix105 _ _ _ j hjn) ?_;refine f_fld gs (416 * j) (416 * j + 160) rfl rfl rfl rfl rfl (fun w1=>crf1 _ _ w1) ?_;refine f_ix _ (k : Int) ⟨gs,416 * j + 160 + k,none⟩ rfl rfl rfl rfl rfl rfl (ixDo _ _ k (by omega)) ?_;refine f_load ⟨gs,416 * j + 160 + k,none⟩ (.int .u8 (v : Int)) (by decide) rfl rfl rfl rfl rfl (fun _ h1=>(h1.cell hb.lt).trans cd) ?_;refine f_assign (.int .u8 (v : Int)) rfl rfl rfl rfl rfl ?_;refine f_end fun w13 hw13=>hK _ _ ?_;clear hK K;replace b1:=b1.later hw13;replace b2:=b2.later hw13;replace hT:=hT.below hw13;replace hU:=hU.step hw13;replace hb:=hb.later hw13;refine c_seq fun K hK=>?_;refine c_qF ?_;refine f_move (.int .u8 (v : Int)) rfl rfl rfl rfl rfl ?_
   by_cases hv : 0 < v
   ·refine f_gtrB (v : Int) 0 true rfl rfl rfl rfl rfl rfl (decide_eq_true (by omega)) ?_
    refine f_end fun w14 hw14=>hK _ _ ?_;clear hK K;replace b1:=b1.later hw14;replace b2:=b2.later hw14;replace hT:=hT.below hw14;replace hU:=hU.step hw14;replace hb:=hb.later hw14;refine c_cond true rfl ?_;refine c_seq fun K hK=>?_
    have hvo : v % 2 = 1 ∧ v < 16:=by omega
    have hmu:=hrok.ms (v / 2) (by omega);rw [show 2 * (v / 2) + 1 = v from by omega] at hmu;have hmr:=rs_mult (i:=v / 2) hb hok hr (by omega);have hml:=hmu.len;refine c_t 12 (by decide) (by kernel_rfl) (tail_ok (by kernel_rfl)) (fun _ _ d _ _ h=>by cases d <;> exact h) ?_;refine f_pt g2 0 hP.len rfl rfl rfl rfl rfl (fun _ h1=>(h1.blk b2).range) ?_;refine f_move (.int .i64 (c : Int)) rfl rfl rfl rfl rfl ?_;refine f_us #[.agg (Us m).toArray,.int .i64 (c : Int)] (PB · (Ed.mul dd (2 ^ c) P)) rfl rfl rfl own_doubled (fun w1 h1=>doubled_f hP c (by omega) w1 (hT.below h1)) rfl rfl fun r30 v30=>?_;refine f_move (.slice (some ⟨gs,0,none⟩) rs.length c0) rfl rfl rfl rfl rfl ?_;refine f_move (.int .i64 (j : Int)) rfl rfl rfl rfl rfl ?_;refine f_move (.int .u8 (v : Int)) rfl rfl rfl rfl rfl ?_;refine f_quoB (v : Int) 2 ((v / 2 : Nat) : Int) (by decide) rfl rfl rfl rfl rfl rfl (quo2 v hvo.2) ?_;refine f_ix _ (j : Int) ⟨gs,416 * j,none⟩ rfl rfl rfl rfl rfl rfl (ix105 _ _ _ j hjn) ?_;refine f_fld gs (416 * j) (416 * j) rfl rfl rfl rfl rfl (fun w1=>crf0 _ _ w1) ?_;refine f_ixV _ (.int .u8 ((v / 2 : Nat) : Int)) ⟨gs,416 * j + 20 * (v / 2),none⟩ rfl rfl rfl rfl rfl rfl (ixA8 _ _ (v / 2) (by omega)) ?_;refine f_ad gs (416 * j + 20 * (v / 2)) hml rfl rfl rfl rfl rfl (fun _ h1 q u hu=>(h1.cell hb.lt).trans (hmr q u hu)) ?_;refine f_us #[.agg (Us r30).toArray,.agg (Us r.M[v / 2]!).toArray] (QB · (Ed.add dd (Ed.mul dd (2 ^ c) P) (Ed.mul dd v r.A))) rfl rfl rfl own_plus (fun w1 h1=>cplus_f v30 hmu w1 (hT.below h1)) rfl rfl fun r39 v39=>?_;refine f_set g2 _ ((Us r39).toArray) rfl rfl rfl rfl rfl b2 (size_P v39.len) ((us_size hP.len).trans (us_size v39.len).symm) (Us_oneA _) fun w61 hw61 c61=>?_;replace hb:=(hb.later hw61).rowFar hne2 (Us r39).toArray;replace b1:=(b1.later hw61).rowFar n1_2 ((Us r39).toArray);replace b2:=c61;replace hT:=(hT.below hw61).row (g:=g2) (by have:=hw0; omega) ((Us r39).toArray);replace hU:=up_row (hU.step hw61) q2 ((Us r39).toArray);clear hw61 c61;generalize w61.setRow g2 ((Us r39).toArray) = W61 at *;rw [hsum,← hstep] at v39;refine l_nil ?_;refine hK _ _ ?_;clear hK K;refine c_qF ?_;refine f_assign (.int .i64 0) rfl rfl rfl rfl rfl ?_;refine f_end fun w18 hw18=>?_;replace b1:=b1.later hw18;replace b2:=b2.later hw18;replace hT:=hT.below hw18;replace hU:=hU.step hw18;replace hb:=hb.later hw18;refine hK5 _ _ ?_;refine c_qF ?_;refine f_addI (j : Int) 1 ((j + 1 : Nat) : Int) rfl rfl rfl rfl rfl rfl (addI j 1 (by omega)) ?_;refine f_move (.int .i64 ((j + 1 : Nat) : Int)) rfl rfl rfl rfl rfl ?_;refine f_end fun w20 hw20=>?_;replace b1:=b1.later hw20;replace b2:=b2.later hw20;replace hT:=hT.below hw20;replace hU:=hU.step hw20;replace hb:=hb.later hw20;exact k_round (m:=fun s : Nat × Nat × List Nat=>rs.length - s.1) (F:=IF gs rs.length c0 g1 g2 i) (R:=IR w gs t g1 g2 rs i k) (s:=(j,_,_)) (j + 1,0,r39) ⟨rfl,rfl,rfl,rfl,rfl,rfl,rfl,rfl,trivial⟩ ⟨hjn,Nat.zero_le _,⟨_,.inr v39,by rw [Nat.pow_zero,Ed.mul_1 good]⟩,hU,hT,hb,b1,b2⟩ (by show rs.length - (j + 1) < rs.length - j; omega)
   ·refine f_gtrB (v : Int) 0 false rfl rfl rfl rfl rfl rfl (decide_eq_false (by omega)) ?_
    refine f_end fun w14 hw14=>hK _ _ ?_;clear hK K;replace b1:=b1.later hw14;replace b2:=b2.later hw14;replace hT:=hT.below hw14;replace hU:=hU.step hw14;replace hb:=hb.later hw14;refine c_cond false rfl ?_;refine c_skip ?_;rw [← hsame (by omega)] at hsum;refine hK5 _ _ ?_;refine c_qF ?_;refine f_addI (j : Int) 1 ((j + 1 : Nat) : Int) rfl rfl rfl rfl rfl rfl (addI j 1 (by omega)) ?_;refine f_move (.int .i64 ((j + 1 : Nat) : Int)) rfl rfl rfl rfl rfl ?_;refine f_end fun w20 hw20=>?_;replace b1:=b1.later hw20;replace b2:=b2.later hw20;replace hT:=hT.below hw20;replace hU:=hU.step hw20;replace hb:=hb.later hw20;exact k_round (m:=fun s : Nat × Nat × List Nat=>rs.length - s.1) (F:=IF gs rs.length c0 g1 g2 i) (R:=IR w gs t g1 g2 rs i k) (s:=(j,_,_)) (j + 1,c,m) ⟨rfl,rfl,rfl,rfl,rfl,rfl,rfl,rfl,trivial⟩ ⟨hjn,hc,⟨P,hP,hsum⟩,hU,hT,hb,b1,b2⟩ (by show rs.length - (j + 1) < rs.length - j; omega)
  ·refine f_lssI (j : Int) (rs.length : Int) false rfl rfl rfl rfl rfl rfl (decide_eq_false (by omega)) ?_
   refine f_end fun w11 hw11=>hK _ _ ?_;clear hK K;replace b1:=b1.later hw11;replace b2:=b2.later hw11;replace hT:=hT.below hw11;replace hU:=hU.step hw11;replace hb:=hb.later hw11;refine c_seq fun K hK=>?_;refine c_cond false rfl ?_;refine c_exit ?_
   show kF K3 45 _ _
   refine hK3 _ _ ?_
   obtain rfl : j = rs.length:=by omega
   rw [part_all] at hsum;refine c_qF ?_;refine f_addI (i : Int) 1 ((i + 1 : Nat) : Int) rfl rfl rfl rfl rfl rfl (addI i 1 (by omega)) ?_;refine f_move (.int .i64 ((i + 1 : Nat) : Int)) rfl rfl rfl rfl rfl ?_;refine f_end fun w20 hw20=>?_;replace b1:=b1.later hw20;replace b2:=b2.later hw20;replace hT:=hT.below hw20;replace hU:=hU.step hw20;replace hb:=hb.later hw20;exact k_round (m:=fun s : Nat × Nat × List Nat=>256 - s.1) (F:=TF gs rs.length c0 g1 g2) (R:=TR w gs t g1 g2 rs) (s:=(i,_,_)) (i + 1,c,m) ⟨rfl,rfl,rfl,rfl,rfl,trivial⟩ ⟨hin,hc,⟨P,hP,by rw [hsum]; congr 1; omega⟩,hU,hT,hb,b1,b2⟩ (by show 256 - (i + 1) < 256 - i; omega)
 ·refine f_lssI (i : Int) 256 false rfl rfl rfl rfl rfl rfl (decide_eq_false (by omega)) ?_
  refine f_end fun w11 hw11=>hK _ _ ?_;clear hK K;replace b1:=b1.later hw11;replace b2:=b2.later hw11;replace hT:=hT.below hw11;replace hU:=hU.step hw11;replace hb:=hb.later hw11;refine c_seq fun K hK=>?_;refine c_cond false rfl ?_;refine c_exit ?_
  show kF K1 45 _ _
  refine hK1 _ _ ?_;clear hK1 K1 hK K
  obtain rfl : i = 256:=by omega
  refine c_seq fun K hK=>?_;refine c_tF 3 ?_;refine f_pt g2 0 hP.len rfl rfl rfl rfl rfl (fun _ h1=>(h1.blk b2).range) ?_;refine f_move (.int .i64 (c : Int)) rfl rfl rfl rfl rfl ?_;refine f_us #[.agg (Us m).toArray,.int .i64 (c : Int)] (PB · (Ed.mul dd (2 ^ c) P)) rfl rfl rfl own_doubled (fun w1 h1=>doubled_f hP c (by omega) w1 (hT.below h1)) rfl rfl fun r30 v30=>?_;refine f_set g1 _ ((Us r30).toArray) rfl rfl rfl rfl rfl b1 (size_P v30.len) ((us_size pz_len).trans (us_size v30.len).symm) (Us_oneA _) fun w81 hw81 c81=>?_;replace b1:=c81;replace hT:=(hT.below hw81).row (g:=g1) (by have:=hw0; omega) ((Us r30).toArray);replace hU:=up_row (hU.step hw81) q1 ((Us r30).toArray);clear hw81 c81;generalize w81.setRow g1 ((Us r30).toArray) = W81 at *;rw [hsum,Nat.sub_self] at v30;refine l_nil ?_;refine hK _ _ ?_;clear hK K;refine c_ret (k_ret_row g1 _ rfl rfl b1 Tryz.underlying112 rfl (size_P v30.len) ⟨_,v30,rfl,hU⟩)
end Go.Proofs.YtlcbhbahchiofaaGreatDoor
/-
  THE PROGRAM'S POINTS: Mul, Both.
-/
namespace Go.Proofs.YtlcbhbahchiofaaGreatDoor
open Go.RowKit Go.IntWalk Nums

theorem info_row : (Tryz.prog.info? 134).map (fun i=>(i.zero,i.size)) = some (some (.agg rowz),416):=by kernel_rfl
theorem info_row_parts : ∃ i,Tryz.prog.info? 134 = some i ∧ i.zero = some (.agg rowz) ∧ i.size = 416:=by
 have h:=info_row
 cases hi : Tryz.prog.info? 134 with
 | none=>rw [hi] at h; cases h
 | some i =>
  rw [hi] at h;simp only [Option.map_some,Option.some.injEq,Prod.mk.injEq] at h;exact ⟨i,rfl,h.1,h.2⟩
theorem rangeK1 (z : Array Value) (n : Nat) (hn : z.size = n) : ((Array.range (1 * n)).map (fun x=>z[x % z.size]!)) = ([] ++ (z.toList ++ [])).toArray:=by
 apply Array.ext
 ·simp [hn]
 ·intro i h1 h2
  simp only [List.nil_append,List.append_nil,List.size_toArray,Array.length_toList] at h2
  simp [Nat.mod_eq_of_lt h2,h2]
theorem rangeK2 (z : Array Value) (n : Nat) (hn : z.size = n) : ((Array.range (2 * n)).map (fun x=>z[x % z.size]!)) = ([] ++ (z.toList ++ (z.toList ++ []))).toArray:=by
 apply Array.ext
 ·simp [hn]
  omega
 ·intro i h1 h2
  simp only [Array.size_map,Array.size_range] at h1;simp only [Array.getElem_map,Array.getElem_range,List.nil_append,List.append_nil,List.getElem_toArray]
  by_cases hi : i < z.size
  ·rw [Nat.mod_eq_of_lt hi,List.getElem_append_left (by simpa using hi)]
   simp [hi]
  ·have h3 : i % z.size = i - z.size:=by rw [Nat.mod_eq_sub_mod (by omega),Nat.mod_eq_of_lt (by omega)]
   have h4 : i - z.size < z.size:=by omega
   rw [h3,List.getElem_append_right (by simpa using hi)]
   simp [h4]
theorem run_slice1R {r : RS} (h : r.Ok) (w : World) : (Instr.buildSlice 152 1 #[(0,.agg (rowc r.M r.d).toArray)]).run Tryz.prog w = .ok (.slice (some ⟨w.heap.size,0,none⟩) 1 1) (w.alloc (.cells (flatR [r]).toArray 134)):=by
 obtain ⟨i,hi,hz,hs⟩:=info_row_parts;have hl:=rowc_len h.m8 h.dl;refine run_buildSlice w 152 134 1 _ _ i (.agg rowz) Tryz.underlying152 hi hz (by rw [hs]; decide) (by rw [hs]; decide) ?_;rw [hs]
 show Instr.fill _ ((Array.range (1 * 416)).map (fun x=>rowz[x % rowz.size]!)) [(0,.agg (rowc r.M r.d).toArray)] = _
 rw [rangeK1 rowz 416 rowz_size,fill_put (fun i=>some (i * 416,416)) 0 416 [] rowz.toList [] (rowc r.M r.d) [] rfl hl (by have:=rowz_size; simpa using this),Instr.fill]
 simp [flatR]
theorem run_slice2R {r s : RS} (h : r.Ok) (h2 : s.Ok) (w : World) : (Instr.buildSlice 152 2 #[(0,.agg (rowc r.M r.d).toArray),(1,.agg (rowc s.M s.d).toArray)]).run Tryz.prog w = .ok (.slice (some ⟨w.heap.size,0,none⟩) 2 2) (w.alloc (.cells (flatR [r,s]).toArray 134)):=by
 obtain ⟨i,hi,hz,hs⟩:=info_row_parts;have hl:=rowc_len h.m8 h.dl;have hl2:=rowc_len h2.m8 h2.dl
 have hz0 : rowz.toList.length = 416:=by have:=rowz_size; simpa using this
 refine run_buildSlice w 152 134 2 _ _ i (.agg rowz) Tryz.underlying152 hi hz (by rw [hs]; decide) (by rw [hs]; decide) ?_;rw [hs]
 show Instr.fill _ ((Array.range (2 * 416)).map (fun x=>rowz[x % rowz.size]!)) [(0,.agg (rowc r.M r.d).toArray),(1,.agg (rowc s.M s.d).toArray)] = _
 rw [rangeK2 rowz 416 rowz_size,fill_put (fun i=>some (i * 416,416)) 0 416 [] rowz.toList (rowz.toList ++ []) (rowc r.M r.d) _ rfl hl hz0,List.nil_append,fill_put (fun i=>some (i * 416,416)) 1 416 (rowc r.M r.d) rowz.toList [] (rowc s.M s.d) [] (by rw [hl]) hl2 hz0,Instr.fill]
 simp [flatR]
theorem above1 (r : RS) : above [r] 0 = Ed.mul dd (sumD r.d) r.A:=by
 show Ed.add dd (Ed.mul dd (sumD (r.d.drop 0)) r.A) Ed.zero = _
 rw [Ed.add_zero good,List.drop_zero]
theorem above2 (r s : RS) : above [r,s] 0 = Ed.add dd (Ed.mul dd (sumD r.d) r.A) (Ed.mul dd (sumD s.d) s.A):=by
 show Ed.add dd (Ed.mul dd (sumD (r.d.drop 0)) r.A) (Ed.add dd (Ed.mul dd (sumD (s.d.drop 0)) s.A) Ed.zero) = _
 rw [Ed.add_zero good,List.drop_zero,List.drop_zero]

set_option maxRecDepth 100000 in
set_option maxHeartbeats 1000000 in
theorem cmul_f {l : List Nat} {A : Ed.Pt p} {b : List UInt8} (hP : PB l A) (hb : b.length = 32) (w : World) (hT : Tw w) :
  Calls Tryz.prog 61 #[.agg (Us l).toArray,.agg (By b).toArray] w fun e w'=>∃ r,PB r (Ed.mul dd (le b) A) ∧ e = .returned (.agg (Us r).toArray) ∧ Below w.heap.size w w':=by
 refine calls_F (vs:=[.agg (Us l).toArray,.agg (By b).toArray]) 10 Tryz.func61 rfl (by rw [Tryz.ntmps61]; rfl) ?_;have hw0:=hT.lt;refine c_seq fun K hK=>?_;refine c_lit ?_;refine l_boxA ((Us l).toArray) rfl rfl rfl rfl rfl fun W1 g1 hw1 hg1 b1=>?_;clear hg1;replace hT:=hT.below hw1;have hU : Up w _:=hw1;refine l_boxA ((By b).toArray) rfl rfl rfl rfl rfl fun W2 g2 hw2 hg2 b2=>?_;clear hg2;replace b1:=b1.later hw2;replace hT:=hT.below hw2;replace hU:=hU.step hw2;refine l_allocA ((Us pz).toArray) rfl rfl rfl rfl (by kernel_rfl) fun W3 g3 hw3 hg3 b3=>?_
 have q3 : w.heap.size ≤ g3:=by rw [hg3]; exact hU.size
 clear hg3;replace b1:=b1.later hw3;replace b2:=b2.later hw3;replace hT:=hT.below hw3;replace hU:=hU.step hw3;refine l_nil ?_;refine hK _ _ ?_;clear hK K;refine c_seq fun K hK=>?_;refine c_tF 3 ?_;refine f_pt g1 0 hP.len rfl rfl rfl rfl rfl (fun _ h1=>(h1.blk b1).range) ?_;refine f_by g2 0 hb rfl rfl rfl rfl rfl (fun _ h1=>(h1.blk b2).range) ?_;refine f_callV #[.agg (Us l).toArray,.agg (By b).toArray] (fun v=>∃ r : RS,r.Ok ∧ r.A = A ∧ sumD r.d = le b ∧ v = .agg (rowc r.M r.d).toArray) rfl rfl rfl own_row (fun w1 h1=>(row_f hP hb w1 (hT.below h1)).mono fun e w' ⟨r,h1,h2,h3,h4,h5⟩=>⟨_,h4,⟨r,h1,h2,h3,rfl⟩,h5⟩) rfl rfl ?_
 rintro _ ⟨r,or,ar,sr,rfl⟩
 refine f_tail fun w4 hw4=>?_;replace b3:=b3.later hw4;replace hT:=hT.below hw4;replace hU:=hU.step hw4;refine l_val (w':=w4.alloc (.cells (flatR [r]).toArray 134)) (.slice (some ⟨w4.heap.size,0,none⟩) 1 1) rfl rfl rfl (fun a ha=>by have h:=(run_slice1R or w4); unfold execOp; simp only [List.map_toArray,List.map_cons,List.map_nil,ha.eval (x:=.tmp 7) rfl,Sem.run_bind,h,Result.andThen_ok,Sem.run_pure]) ?_;have hbs:=Blk.new w4 134 (flatR [r]).toArray;have hal : Up w4 (w4.alloc (.cells (flatR [r]).toArray 134)):=(Up.refl _).alloc _;replace b3:=b3.later hal;replace hT:=hT.below hal;replace hU:=hU.step hal;generalize w4.alloc (.cells (flatR [r]).toArray 134) = W4 at *;generalize w4.heap.size = gs at *;refine l_callF #[.slice (some ⟨gs,0,none⟩) 1 1] rfl rfl rfl own_total (total_f (rs:=[r]) (c0:=1) (by simpa using or) (by simp) W4 hT hbs) rfl rfl ?_
 rintro e V ⟨u,hu,rfl,hV⟩
 refine ⟨_,rfl,?_⟩;replace b3:=b3.later hV;replace hT:=hT.below hV;replace hU:=hU.step hV;rw [above1,ar,sr] at hu;refine l_set g3 _ (Us u).toArray rfl rfl rfl rfl rfl b3 (size_P hu.len) (us_size pz_len |>.trans (us_size hu.len).symm) (Us_oneA _) ?_;replace b3:=b3.row (Us u).toArray;replace hU:=up_row hU q3 (Us u).toArray;refine l_nil ?_;refine hK _ _ ?_;refine c_ret (k_ret_row g3 _ rfl rfl b3 Tryz.underlying112 rfl (size_P hu.len) ⟨_,hu,rfl,hU⟩)

set_option maxRecDepth 100000 in
set_option maxHeartbeats 1000000 in
theorem cboth_f {l : List Nat} {A : Ed.Pt p} {n m : List UInt8} (hn : n.length = 32) (hP : PB l A) (hm : m.length = 32) (w : World) (hT : Tw w) :
  Calls Tryz.prog 88 #[.agg (By n).toArray,.agg (Us l).toArray,.agg (By m).toArray] w fun e w'=>∃ r,PB r (Ed.add dd (Ed.mul dd (le n) base) (Ed.mul dd (le m) A)) ∧ e = .returned (.agg (Us r).toArray) ∧ Below w.heap.size w w':=by
 refine calls_F (vs:=[.agg (By n).toArray,.agg (Us l).toArray,.agg (By m).toArray]) 15 Tryz.func88 rfl (by rw [Tryz.ntmps88]; rfl) ?_;have hw0:=hT.lt;refine c_seq fun K hK=>?_;refine c_lit ?_;refine l_boxA ((By n).toArray) rfl rfl rfl rfl rfl fun W1 g1 hw1 hg1 b1=>?_;clear hg1;replace hT:=hT.below hw1;have hU : Up w _:=hw1;refine l_boxA ((Us l).toArray) rfl rfl rfl rfl rfl fun W2 g2 hw2 hg2 b2=>?_;clear hg2;replace b1:=b1.later hw2;replace hT:=hT.below hw2;replace hU:=hU.step hw2;refine l_boxA ((By m).toArray) rfl rfl rfl rfl rfl fun W3 g3 hw3 hg3 b3=>?_;clear hg3;replace b1:=b1.later hw3;replace b2:=b2.later hw3;replace hT:=hT.below hw3;replace hU:=hU.step hw3;refine l_allocA ((Us pz).toArray) rfl rfl rfl rfl (by kernel_rfl) fun W4 g4 hw4 hg4 b4=>?_
 have q4 : w.heap.size ≤ g4:=by rw [hg4]; exact hU.size
 clear hg4;replace b1:=b1.later hw4;replace b2:=b2.later hw4;replace b3:=b3.later hw4;replace hT:=hT.below hw4;replace hU:=hU.step hw4;refine l_nil ?_;refine hK _ _ ?_;clear hK K;refine c_seq fun K hK=>?_;refine c_t 6 (by decide) (by kernel_rfl) (tail_ok (by kernel_rfl)) (fun _ _ d _ _ h=>by cases d <;> exact h) ?_;refine f_us #[] (QB · base) rfl rfl rfl own_cbase (fun w1 h1=>cbase_f w1) rfl rfl fun r7 v7=>?_;refine f_by g1 0 hn rfl rfl rfl rfl rfl (fun _ h1=>(h1.blk b1).range) ?_;refine f_callV #[.agg (Us r7).toArray,.agg (By n).toArray] (fun v=>∃ r : RS,r.Ok ∧ r.A = base ∧ sumD r.d = le n ∧ v = .agg (rowc r.M r.d).toArray) rfl rfl rfl own_row (fun w1 h1=>(row_f (.inr v7) hn w1 (hT.below h1)).mono fun e w' ⟨r,h1,h2,h3,h4,h5⟩=>⟨_,h4,⟨r,h1,h2,h3,rfl⟩,h5⟩) rfl rfl ?_
 rintro _ ⟨r,or,ar,sr,rfl⟩
 refine f_pt g2 0 hP.len rfl rfl rfl rfl rfl (fun _ h1=>(h1.blk b2).range) ?_;refine f_by g3 0 hm rfl rfl rfl rfl rfl (fun _ h1=>(h1.blk b3).range) ?_;refine f_callV #[.agg (Us l).toArray,.agg (By m).toArray] (fun v=>∃ r : RS,r.Ok ∧ r.A = A ∧ sumD r.d = le m ∧ v = .agg (rowc r.M r.d).toArray) rfl rfl rfl own_row (fun w1 h1=>(row_f hP hm w1 (hT.below h1)).mono fun e w' ⟨r,h1,h2,h3,h4,h5⟩=>⟨_,h4,⟨r,h1,h2,h3,rfl⟩,h5⟩) rfl rfl ?_
 rintro _ ⟨q,oq,aq,sq,rfl⟩
 refine f_tail fun w5 hw5=>?_;replace b4:=b4.later hw5;replace hT:=hT.below hw5;replace hU:=hU.step hw5;refine l_val (w':=w5.alloc (.cells (flatR [r,q]).toArray 134)) (.slice (some ⟨w5.heap.size,0,none⟩) 2 2) rfl rfl rfl (fun a ha=>by have h:=(run_slice2R or oq w5); unfold execOp; simp only [List.map_toArray,List.map_cons,List.map_nil,ha.eval (x:=.tmp 9) rfl,ha.eval (x:=.tmp 12) rfl,Sem.run_bind,h,Result.andThen_ok,Sem.run_pure]) ?_;have hbs:=Blk.new w5 134 (flatR [r,q]).toArray;have hal : Up w5 (w5.alloc (.cells (flatR [r,q]).toArray 134)):=(Up.refl _).alloc _;replace b4:=b4.later hal;replace hT:=hT.below hal;replace hU:=hU.step hal;generalize w5.alloc (.cells (flatR [r,q]).toArray 134) = W5 at *;generalize w5.heap.size = gs at *;refine l_callF #[.slice (some ⟨gs,0,none⟩) 2 2] rfl rfl rfl own_total (total_f (rs:=[r,q]) (c0:=2) (by intro x hx; simp only [List.mem_cons,List.not_mem_nil,or_false] at hx; rcases hx with rfl | rfl; exact or; exact oq) (by simp) W5 hT hbs) rfl rfl ?_
 rintro e V ⟨u,hu,rfl,hV⟩
 refine ⟨_,rfl,?_⟩;replace b4:=b4.later hV;replace hT:=hT.below hV;replace hU:=hU.step hV;rw [above2,ar,sr,aq,sq] at hu;refine l_set g4 _ (Us u).toArray rfl rfl rfl rfl rfl b4 (size_P hu.len) (us_size pz_len |>.trans (us_size hu.len).symm) (Us_oneA _) ?_;replace b4:=b4.row (Us u).toArray;replace hU:=up_row hU q4 (Us u).toArray;refine l_nil ?_;refine hK _ _ ?_;refine c_ret (k_ret_row g4 _ rfl rfl b4 Tryz.underlying112 rfl (size_P hu.len) ⟨_,hu,rfl,hU⟩)
end Go.Proofs.YtlcbhbahchiofaaGreatDoor
/-
  REGIONS THAT DRAW THEIR ORDER: 'x, ok := f(..)', where what is stored need not wait for the second part.
-/
namespace Go.Proofs.YtlcbhbahchiofaaGreatDoor
open Go.RowKit Go.IntWalk

section
variable {P : Program} {Q : Exit → Act → World → Prop}

def tupEnd (P : Program) (Q : Exit → Act → World → Prop) (w : World) (t t2 : Tmp) (ty : TypeId) (x y : Operand) (n : Nat) (a' : Act) : Prop :=
  ∃ (cells : Array Value) (v2 : Value),(∀ v,(a'.put (some t) v).eval (.tmp t) = v) ∧ (∀ v,(a'.put (some t) v).eval x = .agg cells) ∧ (∀ v,(a'.put (some t) v).eval y = v2) ∧ n = cells.size ∧ (P.info? ty).map (·.size) = some cells.size ∧ (∀ v ∈ cells.toList,v.oneCell' = true) ∧
    ∀ g w',w.heap.size ≤ g → Up w w' → Blk w' g ty cells → Q .normal ((a'.put (some t) (.pointer (some ⟨g,0,none⟩))).put (some t2) v2) w'

theorem reg_tup {id : Nat} {a : Act} {w : World} {l : List Oper} {oa os ot : Oper} (n : Nat) (t t2 : Tmp) (ty : TypeId) (x y : Operand) (zs : Array Value) (hl : l = l.take n ++ [oa,os,ot]) (hn : (l.take n).length = n)
  (hop : os.op = .store ty (.tmp t) x) (hot : ot.op = .assign y) (hsg : os.guard = none) (htg : ot.guard = none) (hsd : os.dst = none) (htd : ot.dst = some t2) (hag : oa.guard = none) (had : oa.dst = some t) (hm : P.follows .mixedOrders = true)
  (hs : Region.noSelect l.toArray = true) (hh : headC .any l.toArray n l 0 = true) (hch : chainB .any l 0 none = true)
  (hr0 : Region.ready .any l.toArray (marks n 0 (Array.replicate l.toArray.size false)) = [n])
  (hr1 : Region.ready .any l.toArray ((marks n 0 (Array.replicate l.toArray.size false)).setIfInBounds n true) = [n + 1])
  (hr2 : Region.ready .any l.toArray (((marks n 0 (Array.replicate l.toArray.size false)).setIfInBounds n true).setIfInBounds (n + 1) true) = [n + 2])
  (hr3 : Region.ready .any l.toArray ((((marks n 0 (Array.replicate l.toArray.size false)).setIfInBounds n true).setIfInBounds (n + 1) true).setIfInBounds (n + 2) true) = [])
  (hQ : ∀ c a d v w,Q (.panic c) (a.put d v) w → Q (.panic c) a w)
  (hrun : ∀ (a : Act) w,(execOp a.eval oa).run P w = .ok (.value (.pointer (some ⟨w.heap.size,0,none⟩))) (w.alloc (.cells zs ty)))
  (h : wpB P l.toArray (Up w) (tupEnd P Q w t t2 ty x y zs.size) (l.take n) a) : (Code.region id l.toArray true).wp P Q a w:=by
 have hB : headB .any l.toArray n 0 (Array.replicate l.toArray.size false) = true:=headB_of (by simpa using hch) n l 0 _ Inv.start (by simp) hh;generalize l.take n = L at *;subst hl;subst hn;refine wp_region_any hm ?_
 have hoa : (L ++ [oa,os,ot]).toArray[L.length]? = some oa:=by simp
 have hos : (L ++ [oa,os,ot]).toArray[L.length + 1]? = some os:=by simp
 have hoT : (L ++ [oa,os,ot]).toArray[L.length + 2]? = some ot:=by simp
 have hz : (L ++ [oa,os,ot]).toArray.size = 3 + L.length:=by simp; omega
 have hG : wpAnyU P .any (L ++ [oa,os,ot]).toArray (Up w) Q (3 + L.length) 0 (3 + L.length) w.drew (Array.replicate (L ++ [oa,os,ot]).toArray.size false) a:=by
  refine wpAnyU_head (fun _ _ h k=>h.step k) hs hQ 3 w.drew (Up.drew w) L 0 _ a (Closed.none _) (by omega) (fun j hj=>by simp [List.getElem?_append_left hj]) hB ?_;refine wpB_mono (fun a' h'=>⟨by rw [hr0]; exact List.cons_ne_nil _ _,fun i hi=>?_⟩) L a h;rw [hr0,List.mem_singleton] at hi;subst hi;obtain ⟨cells,v2,h1,h2,h2y,hsz,hi,ho,hk⟩:=h';refine wpAnyU_new (base:=w.heap.size) hoa hag hrun (fun _ _ h k=>h.step k) (fun _ h=>h.size) (Up.drew w) fun w1 hw1 hC1 hp=>⟨by rw [hr1]; exact List.cons_ne_nil _ _,fun i hi=>?_⟩;have hb1 : Blk (w1.alloc (.cells zs ty)) w1.heap.size ty zs:=Blk.new w1 _ _;rw [hr1,List.mem_singleton] at hi;subst hi;rw [had];generalize w1.heap.size = g at *
  intro w2 hw2
  have hb2:=hb1.later hw2;have hC2 : Up w w2:=(hC1.alloc _).step hw2
  unfold wpOp
  simp only [hos];rw [if_pos (by simp [Region.wanted,hsg])];refine .inl ?_;have hst:=run_store_row (P:=P) w2 ty g cells zs ty hb2 (by rw [hi]) hsz ho
  unfold Oper.wp execOp
  simp only [hop,h1,h2,Sem.run_bind,hst,Result.andThen_ok,Sem.run_pure,Oper.upon];rw [hsd];have hC3 : Up w (w2.setRow g cells):=up_row hC2 hp _;have hb3 : Blk (w2.setRow g cells) g ty cells:=hb2.row _;refine ⟨hC3,by rw [hr2]; exact List.cons_ne_nil _ _,fun i hi=>?_⟩;rw [hr2,List.mem_singleton] at hi;subst hi
  intro w4 hw4
  have hb4:=hb3.later hw4;have hC4 : Up w w4:=hC3.step hw4
  unfold wpOp
  simp only [hoT];rw [if_pos (by simp [Region.wanted,htg])];refine .inl ?_
  unfold Oper.wp execOp
  simp only [hot,Sem.run_pure,Oper.upon];refine ⟨hC4,?_⟩;refine ⟨fun j hj=>?_,fun w5 hw5=>⟨hr3,?_⟩⟩
  ·rw [hr3] at hj
   cases hj
  rw [htd];have e : (Act.put (Act.put a' (some t) (.pointer (some ⟨g,0,none⟩))) none undef).eval y = v2:=h2y _;rw [e];exact hk g w5 hp (hC4.step hw5) (hb4.later hw5)
 have h2:=wpAny_of_U (3 + L.length) _ a w.drew hG;rw [Nat.zero_add,← hz] at h2;exact h2
end
end Go.Proofs.YtlcbhbahchiofaaGreatDoor
/-
  THE PROGRAM'S POINTS: Small, Hash.
-/
namespace Go.Proofs.YtlcbhbahchiofaaGreatDoor
open Go.RowKit Go.IntWalk Nums

set_option maxRecDepth 100000 in
set_option maxHeartbeats 1000000 in
theorem csmall_f {l : List Nat} {A : Ed.Pt p} (hP : PB l A) (w : World) (hT : Tw w) :
  Calls Tryz.prog 86 #[.agg (Us l).toArray] w fun e w'=>e = .returned (.bool (decide (encP (Ed.mul dd 8 A) = encP Ed.zero))) ∧ Below w.heap.size w w':=by
 refine calls_F (vs:=[.agg (Us l).toArray]) 12 Tryz.func86 rfl (by rw [Tryz.ntmps86]; rfl) ?_;have hw0:=hT.lt;refine c_seq fun K hK=>?_;refine c_lit ?_;refine l_boxA ((Us l).toArray) rfl rfl rfl rfl rfl fun W1 g1 hw1 hg1 b1=>?_
 have q1 : w.heap.size ≤ g1:=by rw [hg1]; exact Nat.le_refl _
 clear hg1;replace hT:=hT.below hw1;have hU : Up w _:=hw1;refine l_assign (.bool false) rfl rfl rfl rfl rfl ?_;refine l_nil ?_;refine hK _ _ ?_;clear hK K;refine c_seq fun K hK=>?_;refine c_tF 2 ?_;refine f_pt g1 0 hP.len rfl rfl rfl rfl rfl (fun _ h1=>(h1.blk b1).range) ?_;refine f_us #[.agg (Us l).toArray,.int .i64 3] (PB · (Ed.mul dd 8 A)) rfl rfl rfl own_doubled (fun w1 h1=>doubled_f hP 3 (by decide) w1 (hT.below h1)) rfl rfl fun r4 v4=>?_;refine f_set g1 _ ((Us r4).toArray) rfl rfl rfl rfl rfl b1 (size_P v4.len) ((us_size hP.len).trans (us_size v4.len).symm) (Us_oneA _) fun w2 hw2 c2=>?_;replace b1:=c2;replace hT:=(hT.below hw2).row (g:=g1) (by have:=hw0; omega) ((Us r4).toArray);replace hU:=up_row (hU.step hw2) q1 ((Us r4).toArray);clear hw2 c2;generalize w2.setRow g1 ((Us r4).toArray) = W2 at *;have hon8:=v4.on;obtain ⟨X1,Y1,Z1,T1,x1,y1,z1,t1,rfl,hX1,hY1,hZ1,hT1,hiff⟩:=v4.yz;have hiff2 : y1 = z1 ↔ encP (Ed.mul dd 8 A) = encP Ed.zero:=hiff.trans ⟨congrArg encP,encP_inj hon8 Ed.on_zero⟩;refine l_nil ?_;refine hK _ _ ?_;clear hK K;refine c_seq fun K hK=>?_;refine c_q (by kernel_rfl) (tail_ok (by kernel_rfl)) (fun _ _ d _ _ h=>by cases d <;> exact h) ?_;refine f_fld g1 0 5 rfl rfl rfl rfl rfl (fun w1=>cpf1 _ w1) ?_;refine f_el g1 5 hY1.len rfl rfl rfl rfl rfl (fun _ h1=>(h1.blk b1).cy hX1.len) ?_;refine f_call #[.agg (Us Y1).toArray] (.agg (By (enc y1)).toArray) rfl rfl rfl own_hash (fun w1 _=>hash_f hY1 w1) rfl rfl ?_;refine f_fld g1 0 10 rfl rfl rfl rfl rfl (fun w1=>cpf2 _ w1) ?_;refine f_el g1 10 hZ1.len rfl rfl rfl rfl rfl (fun _ h1=>(h1.blk b1).cz hX1.len hY1.len) ?_;refine f_call #[.agg (Us Z1).toArray] (.agg (By (enc z1)).toArray) rfl rfl rfl own_hash (fun w1 _=>hash_f hZ1 w1) rfl rfl ?_;refine f_eq (By (enc y1)).toArray (By (enc z1)).toArray rfl rfl rfl rfl rfl rfl (by kernel_rfl) (eqd y1 z1) ?_;refine f_assign (.bool (decide (y1 = z1))) rfl rfl rfl rfl rfl ?_;refine f_end fun w9 hw9=>hK _ _ ?_;clear hK K;replace hT:=hT.below hw9;replace hU:=hU.step hw9;rw [decide_eq_decide.2 hiff2];exact c_ret fun a ha=>bodyPost_ret (results_tmp rfl _ _ _) ha.defers ⟨congrArg Ending.returned (ha.get 2 _ rfl),hU⟩

set_option maxRecDepth 100000 in
set_option maxHeartbeats 1000000 in
theorem chash_f {l : List Nat} {A : Ed.Pt p} (hP : PB l A) (w : World) (hT : Tw w) :
  Calls Tryz.prog 62 #[.agg (Us l).toArray] w fun e w'=>e = .returned (.agg (By (encP A)).toArray) ∧ Below w.heap.size w w':=by
 refine calls_F (vs:=[.agg (Us l).toArray]) 25 Tryz.func62 rfl (by rw [Tryz.ntmps62]; rfl) ?_;have hw0:=hT.lt;refine c_seq fun K hK=>?_;refine c_lit ?_;refine l_boxA ((Us l).toArray) rfl rfl rfl rfl rfl fun W1 g1 hw1 hg1 b1=>?_
 have q1 : w.heap.size ≤ g1:=by rw [hg1]; exact Nat.le_refl _
 clear hg1;replace hT:=hT.below hw1;have hU : Up w _:=hw1;refine l_allocA z32 rfl rfl rfl rfl (by kernel_rfl) fun W2 g2 hw2 hg2 b2=>?_
 have q2 : w.heap.size ≤ g2:=by rw [hg2]; exact hU.size
 have n1_2 : g1 ≠ g2:=by have:=b1.lt; omega
 clear hg2;replace b1:=b1.later hw2;replace hT:=hT.below hw2;replace hU:=hU.step hw2;refine l_nil ?_;refine hK _ _ ?_;clear hK K;refine c_seq fun K hK=>?_;refine c_tF 2 ?_;refine f_pt g1 0 hP.len rfl rfl rfl rfl rfl (fun _ h1=>(h1.blk b1).range) ?_;refine f_us #[.agg (Us l).toArray] (QB · A) rfl rfl rfl own_pwhole (fun w1 h1=>pwhole_f hP w1) rfl rfl fun r6 v6=>?_;refine f_set g1 _ ((Us r6).toArray) rfl rfl rfl rfl rfl b1 (size_P v6.len) ((us_size hP.len).trans (us_size v6.len).symm) (Us_oneA _) fun w3 hw3 c3=>?_;replace b2:=(b2.later hw3).rowFar (Ne.symm n1_2) ((Us r6).toArray);replace b1:=c3;replace hT:=(hT.below hw3).row (g:=g1) (by have:=hw0; omega) ((Us r6).toArray);replace hU:=up_row (hU.step hw3) q1 ((Us r6).toArray);clear hw3 c3;generalize w3.setRow g1 ((Us r6).toArray) = W3 at *;obtain ⟨⟨X1,Y1,Z1,T1,x1,y1,z1,t1,rfl,hX1,hY1,hZ1,hT1,hR1,ht1⟩,hon1⟩:=v6;have haf:=hR1.aff prime_p;refine l_nil ?_;refine hK _ _ ?_;clear hK K;refine c_seq fun K hK=>?_;refine c_newF 3 [nvE 3] (by decide) ⟨⟨rfl,rfl,rfl,rfl,by kernel_rfl⟩,trivial⟩ ?_;refine f_fld g1 0 10 rfl rfl rfl rfl rfl (fun w1=>cpf2 _ w1) ?_;refine f_el g1 10 hZ1.len rfl rfl rfl rfl rfl (fun _ h1=>(h1.blk b1).cz hX1.len hY1.len) ?_;refine f_us #[.agg (Us Z1).toArray] (EB · (finv z1)) rfl rfl rfl own_inv3 (fun w1 h1=>elinv_f hZ1 w1) rfl rfl fun r9 v9=>?_;refine f_new [.tmp 9] [(Us r9).toArray] ⟨rfl,trivial⟩ (by decide) ⟨⟨rfl,rfl,rfl⟩,rfl⟩ ⟨⟨rfl,(us_size zl_len).trans (us_size v9.len).symm,size_E v9.len,Us_oneA _⟩,trivial⟩ fun f4 W4 hg4 hd4 hw4 hb4=>?_;have b400 : Blk W4 (f4 0) 110 ((Us r9).toArray):=hb4.1;clear hb4;replace b1:=b1.later hw4;replace b2:=b2.later hw4;replace hT:=hT.below hw4;replace hU:=hU.step hw4;clear hg4 hd4 hw4;generalize hf400 : f4 0 = g400 at *;simp only [ptrs,hf400];clear hf400 f4;refine l_nil ?_;refine k_sub (E':=[(1,.pointer (some ⟨g1,0,none⟩)),(2,.pointer (some ⟨g2,0,none⟩)),(3,.pointer (some ⟨g400,0,none⟩))]) ⟨rfl,rfl,rfl,trivial⟩ ?_;refine hK _ _ ?_;clear hK K;refine c_seq fun K hK=>?_;refine c_newF 5 [nvH 4] (by decide) ⟨⟨rfl,rfl,rfl,rfl,by kernel_rfl⟩,trivial⟩ ?_;refine f_fld g1 0 5 rfl rfl rfl rfl rfl (fun w1=>cpf1 _ w1) ?_;refine f_el g1 5 hY1.len rfl rfl rfl rfl rfl (fun _ h1=>(h1.blk b1).cy hX1.len) ?_;refine f_el g400 0 v9.len rfl rfl rfl rfl rfl (fun _ h1=>(h1.blk b400).range) ?_;refine f_us #[.agg (Us Y1).toArray,.agg (Us r9).toArray] (EB · A.y) rfl rfl rfl own_elmul (fun w1 h1=>(by have:=elmul_f hY1 v9 w1; rwa [haf.2] at this)) rfl rfl fun r13 v13=>?_;refine f_call #[.agg (Us r13).toArray] (.agg (By (enc A.y)).toArray) rfl rfl rfl own_hash (fun w1 _=>hash_f v13 w1) rfl rfl ?_;refine f_new [.tmp 14] [(By (enc A.y)).toArray] ⟨rfl,trivial⟩ (by decide) ⟨⟨rfl,rfl,rfl⟩,rfl⟩ ⟨⟨rfl,(len_by (l:=List.replicate 32 0) rfl).trans (len_by (enc_len _)).symm,size_H (enc_len _),By_oneA _⟩,trivial⟩ fun f5 W5 hg5 hd5 hw5 hb5=>?_;have b500 : Blk W5 (f5 0) 45 ((By (enc A.y)).toArray):=hb5.1
 clear hb5;have q500 : w.heap.size ≤ f5 0:=Nat.le_trans hU.size (hg5 0 (by decide))
 have n2_500 : g2 ≠ f5 0:=by have:=b2.lt; have:=hg5 0 (by decide); omega
 replace b1:=b1.later hw5;replace b2:=b2.later hw5;replace b400:=b400.later hw5;replace hT:=hT.below hw5;replace hU:=hU.step hw5;clear hg5 hd5 hw5;generalize hf500 : f5 0 = g500 at *;simp only [ptrs,hf500];clear hf500 f5;refine l_nil ?_;refine k_sub (E':=[(1,.pointer (some ⟨g1,0,none⟩)),(2,.pointer (some ⟨g2,0,none⟩)),(3,.pointer (some ⟨g400,0,none⟩)),(4,.pointer (some ⟨g500,0,none⟩))]) ⟨rfl,rfl,rfl,rfl,trivial⟩ ?_;refine hK _ _ ?_;clear hK K;refine c_seq fun K0 hK0=>?_;refine c_seq fun K hK=>?_;refine c_qF ?_;refine f_fld g1 0 0 rfl rfl rfl rfl rfl (fun w1=>cpf0 _ w1) ?_;refine f_el g1 0 hX1.len rfl rfl rfl rfl rfl (fun _ h1=>(h1.blk b1).cx) ?_;refine f_el g400 0 v9.len rfl rfl rfl rfl rfl (fun _ h1=>(h1.blk b400).range) ?_;refine f_us #[.agg (Us X1).toArray,.agg (Us r9).toArray] (EB · A.x) rfl rfl rfl own_elmul (fun w1 h1=>(by have:=elmul_f hX1 v9 w1; rwa [haf.1] at this)) rfl rfl fun r18 v18=>?_;refine f_call #[.agg (Us r18).toArray] (.bool (decide (A.x.val % 2 = 1))) rfl rfl rfl own_odd (fun w1 _=>odd_f v18 w1) rfl rfl ?_;refine f_end fun w9 hw9=>hK _ _ ?_;clear hK K;replace b2:=b2.later hw9;replace b500:=b500.later hw9;replace hT:=hT.below hw9;replace hU:=hU.step hw9;have h31:=enc_top A.y
 by_cases hodd : A.x.val % 2 = 1
 ·refine c_cond (decide (A.x.val % 2 = 1)) rfl ?_
  rw [decide_eq_true hodd,if_pos rfl]
  have e31 : ((UInt8.ofNat (((enc A.y)[31]!).toNat + 128)).toNat : Int) = ((((enc A.y)[31]!).toNat + 128 : Nat) : Int):=by rw [UInt8.toNat_ofNat_of_lt' (by show _ < 256; omega)]
  have c31:=(b500.cell 31).trans (By_get (l:=enc A.y) (j:=31) (by rw [enc_len]; decide));refine c_tF 4 ?_;refine f_ix _ 31 ⟨g500,31,none⟩ rfl rfl rfl rfl rfl rfl (ixH _ 31 (by decide)) ?_;refine f_load ⟨g500,31,none⟩ (.int .u8 (((enc A.y)[31]!).toNat : Int)) (by decide) rfl rfl rfl rfl rfl (fun _ h1=>(h1.cell b500.lt).trans c31) ?_;refine f_orB _ 128 ((((enc A.y)[31]!).toNat + 128 : Nat) : Int) rfl rfl rfl rfl rfl rfl (bit7 _ h31) ?_;refine f_ix _ 31 ⟨g500,31,none⟩ rfl rfl rfl rfl rfl rfl (ixH _ 31 (by decide)) ?_;refine f_store ⟨g500,31,none⟩ ((((enc A.y)[31]!).toNat + 128 : Nat) : Int) _ (.inr ⟨rfl,rfl⟩) rfl rfl rfl rfl rfl c31 (b500.free 31) b500.lt fun w8 hw8=>?_;replace b2:=b2.later hw8;replace b500:=b500.later hw8;replace hT:=hT.below hw8;replace hU:=hU.step hw8;replace b2:=b2.far (p:=⟨g500,31,none⟩) n2_500 (.int .u8 ((((enc A.y)[31]!).toNat + 128 : Nat) : Int));replace b500:=b500.set 31 (.int .u8 ((((enc A.y)[31]!).toNat + 128 : Nat) : Int));rw [← e31,By_set,← encP_odd hodd] at b500;rw [← e31] at b2 ⊢;replace hU : Up w _:=hU.setCell (p:=⟨g500,31,none⟩) q500 (.int .u8 ((UInt8.ofNat (((enc A.y)[31]!).toNat + 128)).toNat : Int));generalize w8.setCell ⟨g500,31,none⟩ (.int .u8 ((UInt8.ofNat (((enc A.y)[31]!).toNat + 128)).toNat : Int)) = W8 at *;refine hK0 _ _ ?_;clear hK0 K0;refine c_seq fun K hK=>?_;refine c_tF 1 ?_;refine f_by g500 0 (encP_len A) rfl rfl rfl rfl rfl (fun _ h1=>(h1.blk b500).range) ?_;refine f_set g2 _ ((By (encP A)).toArray) rfl rfl rfl rfl rfl b2 (size_H (encP_len A)) ((len_by (l:=List.replicate 32 0) rfl).trans (len_by (encP_len A)).symm) (By_oneA _) fun w6 hw6 c6=>?_;replace b500:=(b500.later hw6).rowFar (Ne.symm n2_500) ((By (encP A)).toArray);replace b2:=c6;replace hU:=up_row (hU.step hw6) q2 ((By (encP A)).toArray);clear hw6 c6;generalize w6.setRow g2 ((By (encP A)).toArray) = W6 at *;refine l_nil ?_;refine hK _ _ ?_;clear hK K;refine c_ret (k_ret_row g2 _ rfl rfl b2 Tryz.underlying45 rfl (size_H (encP_len A)) ⟨rfl,hU⟩)
 ·refine c_cond (decide (A.x.val % 2 = 1)) rfl ?_
  rw [decide_eq_false hodd,if_neg (by decide)];refine c_skip ?_;refine hK0 _ _ ?_;clear hK0 K0;rw [← encP_even hodd] at b500;refine c_seq fun K hK=>?_;refine c_tF 1 ?_;refine f_by g500 0 (encP_len A) rfl rfl rfl rfl rfl (fun _ h1=>(h1.blk b500).range) ?_;refine f_set g2 _ ((By (encP A)).toArray) rfl rfl rfl rfl rfl b2 (size_H (encP_len A)) ((len_by (l:=List.replicate 32 0) rfl).trans (len_by (encP_len A)).symm) (By_oneA _) fun w6 hw6 c6=>?_;replace b2:=c6;replace hU:=up_row (hU.step hw6) q2 ((By (encP A)).toArray);clear hw6 c6;generalize w6.setRow g2 ((By (encP A)).toArray) = W6 at *;refine l_nil ?_;refine hK _ _ ?_;clear hK K;refine c_ret (k_ret_row g2 _ rfl rfl b2 Tryz.underlying45 rfl (size_H (encP_len A)) ⟨rfl,hU⟩)
end Go.Proofs.YtlcbhbahchiofaaGreatDoor
/-
  'x, ok := f(..)' OVER FRAMES BY WHAT IS KNOWN OF THEM, the order drawn; the program's Root, by the curve's equation.
-/
namespace Go.Proofs.YtlcbhbahchiofaaGreatDoor
open Go.RowKit Go.IntWalk Nums

section
variable {P : Program} {Q : Exit → Act → World → Prop} {N : Nat} {E : List (Nat × Value)} {w : World}
theorem c_tup {id : Nat} {l : List Oper} {oa os ot : Oper} (n : Nat) (t t2 : Tmp) (ty : TypeId) (x y : Operand) (zs : Array Value) (hl : l = l.take n ++ [oa,os,ot]) (hn : (l.take n).length = n)
  (hop : os.op = .store ty (.tmp t) x) (hot : ot.op = .assign y) (hsg : os.guard = none) (htg : ot.guard = none) (hsd : os.dst = none) (htd : ot.dst = some t2) (hag : oa.guard = none) (had : oa.dst = some t) (hm : P.follows .mixedOrders = true)
  (hs : Region.noSelect l.toArray = true) (hh : headC .any l.toArray n l 0 = true) (hch : chainB .any l 0 none = true)
  (hr0 : Region.ready .any l.toArray (marks n 0 (Array.replicate l.toArray.size false)) = [n])
  (hr1 : Region.ready .any l.toArray ((marks n 0 (Array.replicate l.toArray.size false)).setIfInBounds n true) = [n + 1])
  (hr2 : Region.ready .any l.toArray (((marks n 0 (Array.replicate l.toArray.size false)).setIfInBounds n true).setIfInBounds (n + 1) true) = [n + 2])
  (hr3 : Region.ready .any l.toArray ((((marks n 0 (Array.replicate l.toArray.size false)).setIfInBounds n true).setIfInBounds (n + 1) true).setIfInBounds (n + 2) true) = [])
  (hQ : ∀ c a d v w,Q (.panic c) (a.put d v) w → Q (.panic c) a w) (hoa : oa.op = .alloc ty) (hz : (P.info? ty).bind (fun i=>i.zero.map (·.cells)) = some zs)
  (h : bF P l.toArray (Up w) (tupEnd P Q w t t2 ty x y zs.size) (l.take n) N E) : cF P (.region id l.toArray true) Q N E w:=fun a ha =>
 reg_tup n t t2 ty x y zs hl hn hop hot hsg htg hsd htd hag had hm hs hh hch hr0 hr1 hr2 hr3 hQ (exec_alloc hoa hz) (h a ha)
theorem f_tupEnd {ops : Array Oper} {t t2 : Tmp} {ty : TypeId} {x y : Operand} {n : Nat} (cells : Array Value) (v2 : Value) (ht : Nat.blt t N = true) (ht2 : Nat.blt t2 N = true) (hx : ∀ v,ev ((t,v) :: E) x = some (.agg cells)) (hy : ∀ v,ev ((t,v) :: E) y = some v2) (hn : n = cells.size)
  (hi : (P.info? ty).map (·.size) = some cells.size) (h1 : ∀ v ∈ cells.toList,v.oneCell' = true) (h : ∀ g w',w.heap.size ≤ g → Up w w' → Blk w' g ty cells → kF (Q .normal) N ((t2,v2) :: (t,.pointer (some ⟨g,0,none⟩)) :: E) w') :
  bF P ops (Up w) (tupEnd P Q w t t2 ty x y n) [] N E:=fun a ha=>wpB_nil ⟨cells,v2,fun v=>(ha.put ht v).get t v (by rw [look_cons,if_pos rfl]),fun v=>(ha.put ht v).eval (hx v),fun v=>(ha.put ht v).eval (hy v),hn,hi,h1,
   fun g w' hg hU hb=>h g w' hg hU hb _ ((ha.put ht _).put ht2 _)⟩
end
theorem croot_f {a b : List Nat} {y : F} (hA : EB a (y * y - 1)) (hB : EB b (y * y * dd + 1)) :
  ((∃ x,x.val % 2 = 0 ∧ Ed.On dd ⟨x,y⟩ ∧ ∀ w,Tw w → Calls Tryz.prog 105 #[.agg (Us a).toArray,.agg (Us b).toArray] w fun e w'=>∃ r,EB r x ∧ e = .returned (.tuple #[.agg (Us r).toArray,.bool true]) ∧ Below w.heap.size w w') ∨
   ((∀ x,¬ Ed.On dd ⟨x,y⟩) ∧ ∀ w,Tw w → Calls Tryz.prog 105 #[.agg (Us a).toArray,.agg (Us b).toArray] w fun e w'=>e = .returned (.tuple #[.agg z5,.bool false]) ∧ Below w.heap.size w w')):=by
 have hv:=vv_ne y
 by_cases hx : ∃ x,Ed.On dd ⟨x,y⟩
 ·left
  obtain ⟨x0,h0⟩:=hx
  have key : ∀ x : F,(y * y * dd + 1) * x * x = y * y - 1 ∧ x.val % 2 = 0 → x = evenOf x0:=fun x hx=>by
   have h1:=on_vxx.1 h0
   have h2 : x * x = x0 * x0:=by
    refine cancel prime_p hv ?_
    have e1 : x * x * (y * y * dd + 1) = (y * y * dd + 1) * x * x:=by grind only
    have e2 : x0 * x0 * (y * y * dd + 1) = (y * y * dd + 1) * x0 * x0:=by grind only
    rw [e1,e2,hx.1,h1]
   exact root_one (h2.trans (evenOf_sq x0).symm) (by rw [hx.2,evenOf_even])
  refine ⟨evenOf x0,evenOf_even x0,?_,fun w hT=>(elroot_f hA hB w hT).mono fun e w' ⟨h,hw⟩=>?_⟩
  ·rw [on_iff,evenOf_sq]
   exact (on_iff _ _).1 h0
  ·rcases h with ⟨r,x,hr,_,hx,he⟩ | ⟨h,_⟩
   ·exact ⟨r,key x hx ▸ hr,he,hw⟩
   ·rcases h with h | h
    ·exact absurd h hv
    ·exact absurd (on_vxx.1 h0) (h x0)
 ·right
  refine ⟨fun x h=>hx ⟨x,h⟩,fun w hT=>(elroot_f hA hB w hT).mono fun e w' ⟨h,hw⟩=>?_⟩
  rcases h with ⟨r,x,_,_,h,_⟩ | ⟨_,he⟩
  ·exact absurd ⟨x,on_vxx.2 h.1⟩ hx
  ·exact ⟨he,hw⟩
end Go.Proofs.YtlcbhbahchiofaaGreatDoor
/-
  THE PROGRAM'S POINTS: Decode.
-/
namespace Go.Proofs.YtlcbhbahchiofaaGreatDoor
open Go.RowKit Go.IntWalk Nums

set_option maxRecDepth 100000 in
set_option maxHeartbeats 4000000 in
theorem cdecode_f {b : List UInt8} (hb : b.length = 32) (w : World) (hT : Tw w) :
  Calls Tryz.prog 85 #[.agg (By b).toArray] w fun e w'=>((∃ l A,QB l A ∧ encP A = b ∧ e = .returned (.tuple #[.agg (Us l).toArray,.int .i64 0])) ∨ ((¬ ∃ A,Ed.On dd A ∧ encP A = b) ∧ e = .returned (.tuple #[.agg (Us pz).toArray,.int .i64 50]))) ∧ Below w.heap.size w w':=by
 refine calls_F (vs:=[.agg (By b).toArray]) 57 Tryz.func85 rfl (by rw [Tryz.ntmps85]; rfl) ?_;have hw0:=hT.lt;have hle:=le_cutb hb;have hng:=not_good hb;have hgc:=good_cutb hb;have hcl:=cutb_len hb;have hlt:=(b[31]!).toNat_lt;have h31:=By_get (l:=b) (j:=31) (by omega)
 have hcut : (By b).toArray.setIfInBounds 31 (.int .u8 (((b[31]!).toNat % 128 : Nat) : Int)) = (By (cutb b)).toArray:=by rw [cutb,← By_set,UInt8.toNat_ofNat_of_lt' (by show _ < 256; omega)]
 generalize (b[31]!).toNat = hi at *;refine c_seq fun K hK=>?_;refine c_lit ?_;refine l_boxA ((By b).toArray) rfl rfl rfl rfl rfl fun W1 g1 hw1 hg1 b1=>?_
 have q1 : w.heap.size ≤ g1:=by rw [hg1]; exact Nat.le_refl _
 clear hg1;replace hT:=hT.below hw1;have hU : Up w _:=hw1;refine l_allocA ((Us pz).toArray) rfl rfl rfl rfl (by kernel_rfl) fun W2 g2 hw2 hg2 b2=>?_
 have q2 : w.heap.size ≤ g2:=by rw [hg2]; exact hU.size
 have n1_2 : g1 ≠ g2:=by have:=b1.lt; omega
 clear hg2;replace b1:=b1.later hw2;replace hT:=hT.below hw2;replace hU:=hU.step hw2;refine l_assign (.int .i64 0) rfl rfl rfl rfl rfl ?_;refine l_nil ?_;refine hK _ _ ?_;clear hK K;have c31:=(b1.cell 31).trans h31;refine c_seq fun K hK=>?_;refine c_qF ?_;refine f_ix _ 31 ⟨g1,31,none⟩ rfl rfl rfl rfl rfl rfl (ixH _ 31 (by decide)) ?_;refine f_load ⟨g1,31,none⟩ (.int .u8 (hi : Int)) (by decide) rfl rfl rfl rfl rfl (fun _ h1=>(h1.cell b1.lt).trans c31) ?_;refine f_shrB .u64 (.inr rfl) (hi : Int) 7 ((hi / 128 : Nat) : Int) (by decide) rfl rfl rfl rfl rfl rfl (by show (hi : Int) / 128 = _; omega) ?_;refine f_eqlB _ 1 (decide (hi / 128 = 1)) rfl rfl rfl rfl rfl rfl (by rw [decide_eq_decide]; omega) ?_;refine f_assign (.bool (decide (hi / 128 = 1))) rfl rfl rfl rfl rfl ?_;refine f_end fun w9 hw9=>hK _ _ ?_;clear hK K;replace b1:=b1.later hw9;replace b2:=b2.later hw9;replace hT:=hT.below hw9;replace hU:=hU.step hw9;have c31:=(b1.cell 31).trans h31;refine c_seq fun K hK=>?_;refine c_tF 4 ?_;refine f_ix _ 31 ⟨g1,31,none⟩ rfl rfl rfl rfl rfl rfl (ixH _ 31 (by decide)) ?_;refine f_load ⟨g1,31,none⟩ (.int .u8 (hi : Int)) (by decide) rfl rfl rfl rfl rfl (fun _ h1=>(h1.cell b1.lt).trans c31) ?_;refine f_andB _ 127 ((hi % 128 : Nat) : Int) rfl rfl rfl rfl rfl rfl (low7 _ (by omega)) ?_;refine f_ix _ 31 ⟨g1,31,none⟩ rfl rfl rfl rfl rfl rfl (ixH _ 31 (by decide)) ?_;refine f_store ⟨g1,31,none⟩ ((hi % 128 : Nat) : Int) _ (.inr ⟨rfl,rfl⟩) rfl rfl rfl rfl rfl c31 (b1.free 31) b1.lt fun w8 hw8=>?_;replace b1:=b1.later hw8;replace b2:=b2.later hw8;replace hT:=hT.below hw8;replace hU:=hU.step hw8;replace b2:=b2.far (p:=⟨g1,31,none⟩) (Ne.symm n1_2) (.int .u8 ((hi % 128 : Nat) : Int));replace b1:=b1.set 31 (.int .u8 ((hi % 128 : Nat) : Int));rw [hcut] at b1;replace hU : Up w _:=hU.setCell (p:=⟨g1,31,none⟩) q1 (.int .u8 ((hi % 128 : Nat) : Int));replace hT:=hT.only ((OnlyG.refl w8 g1).set 31 (.int .u8 ((hi % 128 : Nat) : Int))) (by omega);generalize w8.setCell ⟨g1,31,none⟩ (.int .u8 ((hi % 128 : Nat) : Int)) = W8 at *;clear c31 h31 hcut;refine hK _ _ ?_;clear hK K;refine c_seq fun K hK=>?_
 by_cases hg : le (cutb b) < p
 ·have hgd : isGood (cutb b) = true:=by rw [hgc,decide_eq_true hg]
  have hval : fof (le (cutb b) % 57896044618658097711785492504343953926634992332820282019728792003956564819968) = fof (le (cutb b)):=by rw [Nat.mod_eq_of_lt hle.2]
  have hle2 : le b = (fof (le (cutb b))).val + 57896044618658097711785492504343953926634992332820282019728792003956564819968 * (hi / 128):=by rw [fof_val,Nat.mod_eq_of_lt hg]; exact hle.1
  have hNew:=fun w1=>new_const hcl hgd hval w1;clear hgd hval hgc hng hle hg;generalize fof (le (cutb b)) = y at *;refine c_newF 5 [nvE 5] (by decide) ⟨⟨rfl,rfl,rfl,rfl,by kernel_rfl⟩,trivial⟩ ?_;refine f_by g1 0 hcl rfl rfl rfl rfl rfl (fun _ h1=>(h1.blk b1).range) ?_;refine f_tup #[.agg (By (cutb b)).toArray] y rfl rfl rfl own_elnew (fun w1 _=>hNew w1) rfl rfl fun r20 v20=>?_;refine f_move (.tuple #[.agg (Us r20).toArray,.bool true]) rfl rfl rfl rfl rfl ?_;refine f_extract (.agg (Us r20).toArray) rfl rfl rfl rfl rfl rfl ?_;refine f_extract (.bool true) rfl rfl rfl rfl rfl rfl ?_;refine f_new [.tmp 21] [(Us r20).toArray] ⟨rfl,trivial⟩ (by decide) ⟨⟨rfl,rfl,rfl⟩,rfl⟩ ⟨⟨rfl,(us_size zl_len).trans (us_size v20.len).symm,size_E v20.len,Us_oneA _⟩,trivial⟩ fun f11 W11 hg11 hd11 hw11 hb11=>?_;have b1100 : Blk W11 (f11 0) 110 ((Us r20).toArray):=hb11.1;clear hb11
  have n2_1100 : g2 ≠ f11 0:=by have:=b2.lt; have:=hg11 0 (by decide); omega
  replace b1:=b1.later hw11;replace b2:=b2.later hw11;replace hT:=hT.below hw11;replace hU:=hU.step hw11;clear hg11 hd11 hw11;generalize hf1100 : f11 0 = g1100 at *;simp only [ptrs,hf1100];clear hf1100 f11;refine l_assign (.bool true) rfl rfl rfl rfl rfl ?_;refine l_nil ?_;refine k_sub (E':=[(1,.pointer (some ⟨g1,0,none⟩)),(2,.pointer (some ⟨g2,0,none⟩)),(3,.int .i64 0),(4,.bool (decide (hi / 128 = 1))),(5,.pointer (some ⟨g1100,0,none⟩)),(6,.bool true)]) ⟨rfl,rfl,rfl,rfl,rfl,rfl,trivial⟩ ?_;refine hK _ _ ?_;clear hK K;refine c_seq fun K0 hK0=>?_;refine c_seq fun K hK=>?_;refine c_qF ?_;refine f_move (.bool true) rfl rfl rfl rfl rfl ?_;refine f_not true false rfl rfl rfl rfl rfl rfl ?_;refine f_end fun w12 hw12=>hK _ _ ?_;clear hK K;replace b1:=b1.later hw12;replace b2:=b2.later hw12;replace b1100:=b1100.later hw12;replace hT:=hT.below hw12;replace hU:=hU.step hw12;refine c_cond false rfl ?_;rw [if_neg (by decide)];refine c_skip ?_;refine hK0 _ _ ?_;clear hK0 K0;refine c_seq fun K hK=>?_;refine c_new 4 [nvE 7,nvE 8] (by decide) (by decide) ⟨⟨rfl,rfl,rfl,rfl,by kernel_rfl⟩,⟨rfl,rfl,rfl,rfl,by kernel_rfl⟩,trivial⟩ (by kernel_rfl) (tail_ok (by kernel_rfl)) (by kernel_rfl) (fun _ _ d _ _ h=>by cases d <;> exact h) ?_;refine f_us #[.int .u64 1] (EB · 1) rfl rfl rfl own_small (fun w1 _=>small1_f w1) rfl rfl fun r26 v26=>?_;refine f_el g1100 0 v20.len rfl rfl rfl rfl rfl (fun _ h1=>(h1.blk b1100).range) ?_;refine f_el g1100 0 v20.len rfl rfl rfl rfl rfl (fun _ h1=>(h1.blk b1100).range) ?_;refine f_us #[.agg (Us r20).toArray,.agg (Us r20).toArray] (EB · (y * y)) rfl rfl rfl own_elmul (fun w1 h1=>elmul_f v20 v20 w1) rfl rfl fun r29 v29=>?_;refine f_new [.tmp 26,.tmp 29] [(Us r26).toArray,(Us r29).toArray] ⟨rfl,rfl,trivial⟩ (by decide) ⟨⟨rfl,rfl,rfl⟩,⟨rfl,rfl,rfl⟩,rfl⟩ ⟨⟨rfl,(us_size zl_len).trans (us_size v26.len).symm,size_E v26.len,Us_oneA _⟩,⟨rfl,(us_size zl_len).trans (us_size v29.len).symm,size_E v29.len,Us_oneA _⟩,trivial⟩ fun f13 W13 hg13 hd13 hw13 hb13=>?_;have b1300 : Blk W13 (f13 0) 110 ((Us r26).toArray):=hb13.1;have b1301 : Blk W13 (f13 1) 110 ((Us r29).toArray):=hb13.2.1;clear hb13;replace b1:=b1.later hw13;replace b2:=b2.later hw13;replace b1100:=b1100.later hw13;replace hT:=hT.below hw13;replace hU:=hU.step hw13;clear hg13 hd13 hw13;generalize hf1300 : f13 0 = g1300 at *;generalize hf1301 : f13 1 = g1301 at *;simp only [ptrs,Nat.reduceAdd,hf1300,hf1301];clear hf1300 hf1301 f13;refine l_nil ?_;refine k_sub (E':=[(1,.pointer (some ⟨g1,0,none⟩)),(2,.pointer (some ⟨g2,0,none⟩)),(3,.int .i64 0),(4,.bool (decide (hi / 128 = 1))),(5,.pointer (some ⟨g1100,0,none⟩)),(6,.bool true),(7,.pointer (some ⟨g1300,0,none⟩)),(8,.pointer (some ⟨g1301,0,none⟩))]) ⟨rfl,rfl,rfl,rfl,rfl,rfl,rfl,rfl,trivial⟩ ?_;refine hK _ _ ?_;clear hK K;refine c_seq fun K hK=>?_;refine c_tup 12 9 6 110 (.tmp 40) (.tmp 41) z5 rfl rfl rfl rfl rfl rfl rfl rfl rfl rfl (by kernel_rfl) (by kernel_rfl) (by kernel_rfl) (by kernel_rfl) (by kernel_rfl) (by kernel_rfl) (by kernel_rfl) (by kernel_rfl) (fun _ _ d _ _ h=>by cases d <;> exact h) rfl (by kernel_rfl) ?_
  refine f_el g1301 0 v29.len rfl rfl rfl rfl rfl (fun _ h1=>(h1.blk b1301).range) ?_;refine f_el g1300 0 v26.len rfl rfl rfl rfl rfl (fun _ h1=>(h1.blk b1300).range) ?_;refine f_us #[.agg (Us r29).toArray,.agg (Us r26).toArray] (EB · ((y * y) - 1)) rfl rfl rfl own_elsub (fun w1 h1=>elsub_f v29 v26 w1 (hT.below h1)) rfl rfl fun r33 v33=>?_;refine f_el g1301 0 v29.len rfl rfl rfl rfl rfl (fun _ h1=>(h1.blk b1301).range) ?_;refine f_us #[] (EB · dd) rfl rfl rfl own_factor (fun w1 h1=>factor_f w1) rfl rfl fun r35 v35=>?_;refine f_us #[.agg (Us r29).toArray,.agg (Us r35).toArray] (EB · ((y * y) * dd)) rfl rfl rfl own_elmul (fun w1 h1=>elmul_f v29 v35 w1) rfl rfl fun r36 v36=>?_;refine f_el g1300 0 v26.len rfl rfl rfl rfl rfl (fun _ h1=>(h1.blk b1300).range) ?_;refine f_us #[.agg (Us r36).toArray,.agg (Us r26).toArray] (EB · (((y * y) * dd) + 1)) rfl rfl rfl own_eladd (fun w1 h1=>eladd_f v36 v26 w1) rfl rfl fun r38 v38=>?_;have hRt:=croot_f v33 v38
  rcases hRt with ⟨x,hev,hon,hRoot⟩ | ⟨hnone,hRoot⟩
  ·refine f_tup #[.agg (Us r33).toArray,.agg (Us r38).toArray] x rfl rfl rfl own_root3 (fun w1 h1=>hRoot w1 (hT.below h1)) rfl rfl fun r39 v39=>?_
   refine f_move (.tuple #[.agg (Us r39).toArray,.bool true]) rfl rfl rfl rfl rfl ?_;refine f_extract (.agg (Us r39).toArray) rfl rfl rfl rfl rfl rfl ?_;refine f_extract (.bool true) rfl rfl rfl rfl rfl rfl ?_;refine f_tupEnd (Us r39).toArray (.bool true) rfl rfl (fun _=>rfl) (fun _=>rfl) (us_size (l:=zl) rfl |>.trans (us_size v39.len).symm) (size_E v39.len) (Us_oneA _) fun g14 W14 hg14 hw14 b14=>?_;have q14 : w.heap.size ≤ g14:=Nat.le_trans hU.size hg14
   have n1_14 : g1 ≠ g14:=by have:=b1.lt; omega
   have n2_14 : g2 ≠ g14:=by have:=b2.lt; omega
   have n1100_14 : g1100 ≠ g14:=by have:=b1100.lt; omega
   replace b1:=b1.later hw14;replace b2:=b2.later hw14;replace b1100:=b1100.later hw14;replace hT:=hT.below hw14;replace hU:=hU.step hw14;refine k_sub (E':=[(1,.pointer (some ⟨g1,0,none⟩)),(2,.pointer (some ⟨g2,0,none⟩)),(3,.int .i64 0),(4,.bool (decide (hi / 128 = 1))),(5,.pointer (some ⟨g1100,0,none⟩)),(6,.bool true),(9,.pointer (some ⟨g14,0,none⟩))]) ⟨rfl,rfl,rfl,rfl,rfl,rfl,rfl,trivial⟩ ?_;refine hK _ _ ?_;clear hK K;refine c_seq fun K0 hK0=>?_;refine c_seq fun K hK=>?_;refine c_qF ?_;refine f_move (.bool true) rfl rfl rfl rfl rfl ?_;refine f_not true false rfl rfl rfl rfl rfl rfl ?_;refine f_end fun w15 hw15=>hK _ _ ?_;clear hK K;replace b1:=b1.later hw15;replace b2:=b2.later hw15;replace b1100:=b1100.later hw15;replace b14:=b14.later hw15;replace hT:=hT.below hw15;replace hU:=hU.step hw15;refine c_cond false rfl ?_;rw [if_neg (by decide)];refine c_skip ?_;refine hK0 _ _ ?_;clear hK0 K0;refine c_seq fun K0 hK0=>?_;refine c_seq fun K hK=>?_;refine c_qF ?_;refine f_move (.bool (decide (hi / 128 = 1))) rfl rfl rfl rfl rfl ?_;refine f_end fun w16 hw16=>hK _ _ ?_;clear hK K;replace b1:=b1.later hw16;replace b2:=b2.later hw16;replace b1100:=b1100.later hw16;replace b14:=b14.later hw16;replace hT:=hT.below hw16;replace hU:=hU.step hw16
   by_cases hodd : hi / 128 = 1
   ·rw [decide_eq_true hodd]
    refine c_cond true rfl ?_;rw [if_pos rfl];refine c_tF 3 ?_;refine f_build [] (Us zl).toArray rfl rfl rfl rfl rfl built_zero ?_;refine f_el g14 0 v39.len rfl rfl rfl rfl rfl (fun _ h1=>(h1.blk b14).range) ?_;refine f_us #[.agg (Us zl).toArray,.agg (Us r39).toArray] (EB · (0 - x)) rfl rfl rfl own_elsub (fun w1 h1=>elsub_f eb_zero v39 w1 (hT.below h1)) rfl rfl fun r48 v48=>?_;refine f_set g14 _ ((Us r48).toArray) rfl rfl rfl rfl rfl b14 (size_E v48.len) ((us_size v39.len).trans (us_size v48.len).symm) (Us_oneA _) fun w17 hw17 c17=>?_;replace b1:=(b1.later hw17).rowFar n1_14 ((Us r48).toArray);replace b2:=(b2.later hw17).rowFar n2_14 ((Us r48).toArray);replace b1100:=(b1100.later hw17).rowFar n1100_14 ((Us r48).toArray);replace b14:=c17;replace hT:=(hT.below hw17).row (g:=g14) (by have:=hw0; omega) ((Us r48).toArray);replace hU:=up_row (hU.step hw17) q14 ((Us r48).toArray);clear hw17 c17;generalize w17.setRow g14 ((Us r48).toArray) = W17 at *;refine l_nil ?_;refine hK0 _ _ ?_;clear hK0 K0
    by_cases hx0 : x = 0
    ·have hp0 : decide ((0 - x : F).val % 2 = 1) = false:=by rw [hx0]; decide
     refine c_seq fun K0 hK0=>?_;refine c_seq fun K hK=>?_;refine c_qF ?_;refine f_el g14 0 v48.len rfl rfl rfl rfl rfl (fun _ h1=>(h1.blk b14).range) ?_;refine f_call #[.agg (Us r48).toArray] (.bool (decide ((0 - x).val % 2 = 1))) rfl rfl rfl own_odd (fun w1 _=>odd_f v48 w1) rfl rfl ?_;refine f_move (.bool true) rfl rfl rfl rfl rfl ?_;refine f_neqb (decide ((0 - x).val % 2 = 1)) true true rfl rfl rfl rfl rfl rfl (by rw [hp0]; rfl) ?_;refine f_end fun w18 hw18=>hK _ _ ?_;clear hK K;replace b1:=b1.later hw18;replace b2:=b2.later hw18;replace b1100:=b1100.later hw18;replace b14:=b14.later hw18;replace hT:=hT.below hw18;replace hU:=hU.step hw18
     have hno : ¬ ∃ A,Ed.On dd A ∧ encP A = b:=by
      rintro ⟨A,hA,hAb⟩
      obtain ⟨e1,e2⟩:=dec_y hle2 hAb
      have h3 : Ed.On dd ⟨A.x,y⟩:=by rw [← e1]; exact hA
      have h4:=on_vxx.1 h3;have h5:=on_vxx.1 hon;rw [← h5,hx0] at h4
      have h6 : A.x = 0:=by
       by_cases h : A.x = 0
       ·exact h
       ·exact absurd (h4.trans (by grind only)) (mul_ne prime_p (mul_ne prime_p (vv_ne y) h) h)
      rw [h6,hodd] at e2
      revert e2
      decide
     refine c_cond true rfl ?_;rw [if_pos rfl];refine c_seq fun K2 hK2=>?_;refine c_tF 1 ?_;refine f_build [] (Us pz).toArray rfl rfl rfl rfl rfl builtP0 ?_;refine f_set g2 _ ((Us pz).toArray) rfl rfl rfl rfl rfl b2 (size_P pz_len) ((us_size pz_len).trans (us_size pz_len).symm) (Us_oneA _) fun w19 hw19 c19=>?_;replace b1:=(b1.later hw19).rowFar n1_2 ((Us pz).toArray);replace b1100:=(b1100.later hw19).rowFar (Ne.symm n2_1100) ((Us pz).toArray);replace b14:=(b14.later hw19).rowFar (Ne.symm n2_14) ((Us pz).toArray);replace b2:=c19;replace hT:=(hT.below hw19).row (g:=g2) (by have:=hw0; omega) ((Us pz).toArray);replace hU:=up_row (hU.step hw19) q2 ((Us pz).toArray);clear hw19 c19;generalize w19.setRow g2 ((Us pz).toArray) = W19 at *;refine l_assign (.int .i64 50) rfl rfl rfl rfl rfl ?_;refine l_nil ?_;refine hK2 _ _ ?_;refine c_ret (k_then_ret (k_ret_row2 g2 _ rfl rfl rfl b2 Tryz.underlying112 rfl (size_P pz_len) ⟨.inr ⟨hno,rfl⟩,hU⟩))
    ·have hpo : (0 - x : F).val % 2 = 1:=by rw [show (0 - x : F) = -x from by grind only,neg_odd hx0,hev]
     have hp0 : decide ((0 - x : F).val % 2 = 1) = true:=decide_eq_true hpo;refine c_seq fun K0 hK0=>?_;refine c_seq fun K hK=>?_;refine c_qF ?_;refine f_el g14 0 v48.len rfl rfl rfl rfl rfl (fun _ h1=>(h1.blk b14).range) ?_;refine f_call #[.agg (Us r48).toArray] (.bool (decide ((0 - x).val % 2 = 1))) rfl rfl rfl own_odd (fun w1 _=>odd_f v48 w1) rfl rfl ?_;refine f_move (.bool true) rfl rfl rfl rfl rfl ?_;refine f_neqb (decide ((0 - x).val % 2 = 1)) true false rfl rfl rfl rfl rfl rfl (by rw [hp0]; rfl) ?_;refine f_end fun w18 hw18=>hK _ _ ?_;clear hK K;replace b1:=b1.later hw18;replace b2:=b2.later hw18;replace b1100:=b1100.later hw18;replace b14:=b14.later hw18;replace hT:=hT.below hw18;replace hU:=hU.step hw18;refine c_cond false rfl ?_;rw [if_neg (by decide)];refine c_skip ?_;refine hK0 _ _ ?_;clear hK0 K0;refine c_seq fun K hK=>?_;refine c_tF 3 ?_;refine f_el g14 0 v48.len rfl rfl rfl rfl rfl (fun _ h1=>(h1.blk b14).range) ?_;refine f_el g1100 0 v20.len rfl rfl rfl rfl rfl (fun _ h1=>(h1.blk b1100).range) ?_;refine f_us #[.agg (Us r48).toArray,.agg (Us r20).toArray] (QB · ⟨0 - x,y⟩) rfl rfl rfl own_at (fun w1 h1=>at_f v48 v20 (on_vxx.2 (by rw [← on_vxx.1 hon]; grind only)) w1) rfl rfl fun r56 v56=>?_;refine f_set g2 _ ((Us r56).toArray) rfl rfl rfl rfl rfl b2 (size_P v56.len) ((us_size pz_len).trans (us_size v56.len).symm) (Us_oneA _) fun w19 hw19 c19=>?_;replace b1:=(b1.later hw19).rowFar n1_2 ((Us r56).toArray);replace b1100:=(b1100.later hw19).rowFar (Ne.symm n2_1100) ((Us r56).toArray);replace b14:=(b14.later hw19).rowFar (Ne.symm n2_14) ((Us r56).toArray);replace b2:=c19;replace hT:=(hT.below hw19).row (g:=g2) (by have:=hw0; omega) ((Us r56).toArray);replace hU:=up_row (hU.step hw19) q2 ((Us r56).toArray);clear hw19 c19;generalize w19.setRow g2 ((Us r56).toArray) = W19 at *;refine l_assign (.int .i64 0) rfl rfl rfl rfl rfl ?_;refine l_nil ?_;refine hK _ _ ?_;refine c_ret (k_ret_row2 g2 _ rfl rfl rfl b2 Tryz.underlying112 rfl (size_P v56.len) ⟨.inl ⟨_,_,v56,dec_enc hb (s:=1) (by rw [← hodd]; exact hle2) hpo,rfl⟩,hU⟩)
   ·rw [decide_eq_false hodd]
    refine c_cond false rfl ?_;rw [if_neg (by decide)];refine c_skip ?_;refine hK0 _ _ ?_;clear hK0 K0;have hp0 : decide (x.val % 2 = 1) = false:=decide_eq_false (by omega)
    have h00 : hi / 128 = 0:=by omega
    refine c_seq fun K0 hK0=>?_;refine c_seq fun K hK=>?_;refine c_qF ?_;refine f_el g14 0 v39.len rfl rfl rfl rfl rfl (fun _ h1=>(h1.blk b14).range) ?_;refine f_call #[.agg (Us r39).toArray] (.bool (decide ((x).val % 2 = 1))) rfl rfl rfl own_odd (fun w1 _=>odd_f v39 w1) rfl rfl ?_;refine f_move (.bool false) rfl rfl rfl rfl rfl ?_;refine f_neqb (decide ((x).val % 2 = 1)) false false rfl rfl rfl rfl rfl rfl (by rw [hp0]; rfl) ?_;refine f_end fun w17 hw17=>hK _ _ ?_;clear hK K;replace b1:=b1.later hw17;replace b2:=b2.later hw17;replace b1100:=b1100.later hw17;replace b14:=b14.later hw17;replace hT:=hT.below hw17;replace hU:=hU.step hw17;refine c_cond false rfl ?_;rw [if_neg (by decide)];refine c_skip ?_;refine hK0 _ _ ?_;clear hK0 K0;refine c_seq fun K hK=>?_;refine c_tF 3 ?_;refine f_el g14 0 v39.len rfl rfl rfl rfl rfl (fun _ h1=>(h1.blk b14).range) ?_;refine f_el g1100 0 v20.len rfl rfl rfl rfl rfl (fun _ h1=>(h1.blk b1100).range) ?_;refine f_us #[.agg (Us r39).toArray,.agg (Us r20).toArray] (QB · ⟨x,y⟩) rfl rfl rfl own_at (fun w1 h1=>at_f v39 v20 hon w1) rfl rfl fun r56 v56=>?_;refine f_set g2 _ ((Us r56).toArray) rfl rfl rfl rfl rfl b2 (size_P v56.len) ((us_size pz_len).trans (us_size v56.len).symm) (Us_oneA _) fun w18 hw18 c18=>?_;replace b1:=(b1.later hw18).rowFar n1_2 ((Us r56).toArray);replace b1100:=(b1100.later hw18).rowFar (Ne.symm n2_1100) ((Us r56).toArray);replace b14:=(b14.later hw18).rowFar (Ne.symm n2_14) ((Us r56).toArray);replace b2:=c18;replace hT:=(hT.below hw18).row (g:=g2) (by have:=hw0; omega) ((Us r56).toArray);replace hU:=up_row (hU.step hw18) q2 ((Us r56).toArray);clear hw18 c18;generalize w18.setRow g2 ((Us r56).toArray) = W18 at *;refine l_assign (.int .i64 0) rfl rfl rfl rfl rfl ?_;refine l_nil ?_;refine hK _ _ ?_;refine c_ret (k_ret_row2 g2 _ rfl rfl rfl b2 Tryz.underlying112 rfl (size_P v56.len) ⟨.inl ⟨_,_,v56,dec_enc hb (s:=0) (by rw [← h00]; exact hle2) hev,rfl⟩,hU⟩)
  ·have hno : ¬ ∃ A,Ed.On dd A ∧ encP A = b:=by
    rintro ⟨A,hA,hAb⟩
    obtain ⟨e1,_⟩:=dec_y hle2 hAb;exact hnone A.x (by rw [← e1]; exact hA)
   refine f_call #[.agg (Us r33).toArray,.agg (Us r38).toArray] (.tuple #[.agg (Us zl).toArray,.bool false]) rfl rfl rfl own_root3 (fun w1 h1=>hRoot w1 (hT.below h1)) rfl rfl ?_;refine f_move (.tuple #[.agg (Us zl).toArray,.bool false]) rfl rfl rfl rfl rfl ?_;refine f_extract (.agg (Us zl).toArray) rfl rfl rfl rfl rfl rfl ?_;refine f_extract (.bool false) rfl rfl rfl rfl rfl rfl ?_;refine f_tupEnd (Us zl).toArray (.bool false) rfl rfl (fun _=>rfl) (fun _=>rfl) (us_size (l:=zl) rfl |>.trans (us_size zl_len).symm) (size_E zl_len) (Us_oneA _) fun g14 W14 hg14 hw14 b14=>?_;replace b1:=b1.later hw14;replace b2:=b2.later hw14;replace b1100:=b1100.later hw14;replace hT:=hT.below hw14;replace hU:=hU.step hw14;refine k_sub (E':=[(1,.pointer (some ⟨g1,0,none⟩)),(2,.pointer (some ⟨g2,0,none⟩)),(3,.int .i64 0),(4,.bool (decide (hi / 128 = 1))),(5,.pointer (some ⟨g1100,0,none⟩)),(6,.bool false),(9,.pointer (some ⟨g14,0,none⟩))]) ⟨rfl,rfl,rfl,rfl,rfl,rfl,rfl,trivial⟩ ?_;refine hK _ _ ?_;clear hK K;refine c_seq fun K0 hK0=>?_;refine c_seq fun K hK=>?_;refine c_qF ?_;refine f_move (.bool false) rfl rfl rfl rfl rfl ?_;refine f_not false true rfl rfl rfl rfl rfl rfl ?_;refine f_end fun w15 hw15=>hK _ _ ?_;clear hK K;replace b1:=b1.later hw15;replace b2:=b2.later hw15;replace b1100:=b1100.later hw15;replace hT:=hT.below hw15;replace hU:=hU.step hw15;refine c_cond true rfl ?_;rw [if_pos rfl];refine c_seq fun K2 hK2=>?_;refine c_tF 1 ?_;refine f_build [] (Us pz).toArray rfl rfl rfl rfl rfl builtP0 ?_;refine f_set g2 _ ((Us pz).toArray) rfl rfl rfl rfl rfl b2 (size_P pz_len) ((us_size pz_len).trans (us_size pz_len).symm) (Us_oneA _) fun w16 hw16 c16=>?_;replace b1:=(b1.later hw16).rowFar n1_2 ((Us pz).toArray);replace b1100:=(b1100.later hw16).rowFar (Ne.symm n2_1100) ((Us pz).toArray);replace b2:=c16;replace hT:=(hT.below hw16).row (g:=g2) (by have:=hw0; omega) ((Us pz).toArray);replace hU:=up_row (hU.step hw16) q2 ((Us pz).toArray);clear hw16 c16;generalize w16.setRow g2 ((Us pz).toArray) = W16 at *;refine l_assign (.int .i64 50) rfl rfl rfl rfl rfl ?_;refine l_nil ?_;refine hK2 _ _ ?_;refine c_ret (k_then_ret (k_ret_row2 g2 _ rfl rfl rfl b2 Tryz.underlying112 rfl (size_P pz_len) ⟨.inr ⟨hno,rfl⟩,hU⟩))
 ·have hno:=hng hg
  have hNew : ∀ w1,Calls Tryz.prog 72 #[.agg (By (cutb b)).toArray] w1 fun e w'=>e = .returned (.tuple #[.agg (Us zl).toArray,.bool false]) ∧ Below w1.heap.size w1 w':=fun w1=>(new_f hcl w1).mono fun e w' ⟨h,hw⟩=>by
   rcases h with ⟨h,_⟩ | ⟨_,h⟩
   ·rw [hgc,decide_eq_false hg] at h; cases h
   ·exact ⟨h,hw⟩
  refine c_newF 5 [nvE 5] (by decide) ⟨⟨rfl,rfl,rfl,rfl,by kernel_rfl⟩,trivial⟩ ?_;refine f_by g1 0 hcl rfl rfl rfl rfl rfl (fun _ h1=>(h1.blk b1).range) ?_;refine f_call #[.agg (By (cutb b)).toArray] (.tuple #[.agg (Us zl).toArray,.bool false]) rfl rfl rfl own_elnew (fun w1 _=>hNew w1) rfl rfl ?_;refine f_move (.tuple #[.agg (Us zl).toArray,.bool false]) rfl rfl rfl rfl rfl ?_;refine f_extract (.agg (Us zl).toArray) rfl rfl rfl rfl rfl rfl ?_;refine f_extract (.bool false) rfl rfl rfl rfl rfl rfl ?_;refine f_new [.tmp 21] [(Us zl).toArray] ⟨rfl,trivial⟩ (by decide) ⟨⟨rfl,rfl,rfl⟩,rfl⟩ ⟨⟨rfl,rfl,size_E zl_len,Us_oneA _⟩,trivial⟩ fun f11 W11 hg11 hd11 hw11 hb11=>?_;have b1100 : Blk W11 (f11 0) 110 ((Us zl).toArray):=hb11.1;clear hb11;replace b2:=b2.later hw11;replace hT:=hT.below hw11;replace hU:=hU.step hw11;clear hg11 hd11 hw11;generalize hf1100 : f11 0 = g1100 at *;simp only [ptrs,hf1100];clear hf1100 f11;refine l_assign (.bool false) rfl rfl rfl rfl rfl ?_;refine l_nil ?_;refine k_sub (E':=[(1,.pointer (some ⟨g1,0,none⟩)),(2,.pointer (some ⟨g2,0,none⟩)),(3,.int .i64 0),(4,.bool (decide (hi / 128 = 1))),(5,.pointer (some ⟨g1100,0,none⟩)),(6,.bool false)]) ⟨rfl,rfl,rfl,rfl,rfl,rfl,trivial⟩ ?_;refine hK _ _ ?_;clear hK K;refine c_seq fun K0 hK0=>?_;refine c_seq fun K hK=>?_;refine c_qF ?_;refine f_move (.bool false) rfl rfl rfl rfl rfl ?_;refine f_not false true rfl rfl rfl rfl rfl rfl ?_;refine f_end fun w12 hw12=>hK _ _ ?_;clear hK K;replace b2:=b2.later hw12;replace hT:=hT.below hw12;replace hU:=hU.step hw12;refine c_cond true rfl ?_;rw [if_pos rfl];refine c_seq fun K2 hK2=>?_;refine c_tF 1 ?_;refine f_build [] (Us pz).toArray rfl rfl rfl rfl rfl builtP0 ?_;refine f_set g2 _ ((Us pz).toArray) rfl rfl rfl rfl rfl b2 (size_P pz_len) ((us_size pz_len).trans (us_size pz_len).symm) (Us_oneA _) fun w13 hw13 c13=>?_;replace b2:=c13;replace hT:=(hT.below hw13).row (g:=g2) (by have:=hw0; omega) ((Us pz).toArray);replace hU:=up_row (hU.step hw13) q2 ((Us pz).toArray);clear hw13 c13;generalize w13.setRow g2 ((Us pz).toArray) = W13 at *;refine l_assign (.int .i64 50) rfl rfl rfl rfl rfl ?_;refine l_nil ?_;refine hK2 _ _ ?_;refine c_ret (k_then_ret (k_ret_row2 g2 _ rfl rfl rfl b2 Tryz.underlying112 rfl (size_P pz_len) ⟨.inr ⟨hno,rfl⟩,hU⟩))
end Go.Proofs.YtlcbhbahchiofaaGreatDoor
/-
  STEPS OF THE CURVE's LAWS over frames by what is known of them: guarded operations, choices, '==' of what is equal; points of both makes; first.
-/
namespace Go.Proofs.YtlcbhbahchiofaaGreatDoor
open Go.RowKit Go.IntWalk Nums

section
variable {P : Program} {ops : Array Oper} {C0 : World → Prop} {Q : Act → Prop} {N : Nat} {E : List (Nat × Value)} {o : Oper} {rest : List Oper} {k : Nat}
theorem f_pick {c x y : Operand} (v : Value) (hg : o.guard = none) (hd : o.dst = some k) (hk : Nat.blt k N = true) (ho : o.op = .pick c x y) (hc : ev E c = some (.bool true)) (hx : ev E x = some v) (hn : bF P ops C0 Q rest N ((k,v) :: E)) : bF P ops C0 Q (o :: rest) N E :=
 f_val _ hg hd hk (fun a ha w _=>by
  have h1:=ha.eval hc;have h2:=ha.eval hx
  unfold execOp
  simp only [ho,h1,h2]
  go_simp) hn
end
section
variable {ops : Array Oper} {C0 : World → Prop} {Q : Act → Prop} {N : Nat} {E : List (Nat × Value)} {o : Oper} {rest : List Oper} {k : Nat}
theorem f_eqd {t t' : TypeId} {x y : Operand} (l m : List UInt8) (hg : o.guard = none) (hd : o.dst = some k) (hk : Nat.blt k N = true) (ho : o.op = .binOp .eql t x y t') (ht : t = 45) (hx : ev E x = some (.agg (By l).toArray)) (hy : ev E y = some (.agg (By m).toArray))
  (hl : l.length = 32) (hm : m.length = 32) (hn : bF Tryz.prog ops C0 Q rest N ((k,.bool (decide (l = m))) :: E)) : bF Tryz.prog ops C0 Q (o :: rest) N E:=by
 subst ht;exact f_eq (By l).toArray (By m).toArray hg hd hk ho hx hy (by kernel_rfl) (fun w=>equal32 l m hl hm w) hn
end
theorem own_chash : Own 62:=fun _ _=>by go_simp
theorem own_csmall : Own 86:=fun _ _=>by go_simp
theorem own_cmul : Own 61:=fun _ _=>by go_simp
theorem own_cdecode : Own 85:=fun _ _=>by go_simp

/-! ### Known bytes -/
/-! ### Decode, where the bytes are known -/
theorem cdec_pt {A : Ed.Pt p} (hA : Ed.On dd A) (w : World) (hT : Tw w) : Calls Tryz.prog 85 #[.agg (By (encP A)).toArray] w fun e w'=>∃ v,e = .returned v ∧ (∃ l,QB l A ∧ v = .tuple #[.agg (Us l).toArray,.int .i64 0]) ∧ Below w.heap.size w w' :=
 (cdecode_f (encP_len A) w hT).mono fun e w' ⟨h,hw⟩=>by
  rcases h with ⟨l,B,hl,hB,he⟩ | ⟨h,_⟩
  ·have : B = A:=encP_inj hl.on hA hB
   subst this;exact ⟨_,he,⟨l,hl,rfl⟩,hw⟩
  ·exact absurd ⟨A,hA,rfl⟩ h
theorem cdec_no {b : List UInt8} (hb : b.length = 32) (hn : ¬ ∃ A,Ed.On dd A ∧ encP A = b) (w : World) (hT : Tw w) : Calls Tryz.prog 85 #[.agg (By b).toArray] w fun e w'=>e = .returned (.tuple #[.agg (Us pz).toArray,.int .i64 50]) ∧ Below w.heap.size w w' :=
 (cdecode_f hb w hT).mono fun e w' ⟨h,hw⟩=>by
  rcases h with ⟨l,B,hl,hB,he⟩ | ⟨_,he⟩
  ·exact absurd ⟨B,hl.on,hB⟩ hn
  ·exact ⟨he,hw⟩
end Go.Proofs.YtlcbhbahchiofaaGreatDoor
/-
  SLICES OF HASHES: Index and Contains.
-/
namespace Go.Proofs.YtlcbhbahchiofaaGreatDoor
open Go.RowKit Go.IntWalk Nums

theorem own_hindex : Own 81:=fun _ _=>by go_simp
theorem own_hcontains : Own 63:=fun _ _=>by go_simp
noncomputable def ixl (k : Nat) : Code:=((Tryz.f81.body.map loopsOf).getD [])[k]?.getD .skip
def FIx (A : Option Addr) (n c g i : Nat) : List (Nat × Value):=[(8,.int .i64 (i : Int)),(7,.int .i64 (n : Int)),(3,.pointer (some ⟨g,0,none⟩)),(0,.slice A n c)]
set_option maxRecDepth 100000 in
set_option maxHeartbeats 1000000 in
theorem index_l {Q : Exit → Act → World → Prop} {w0 w : World} {A : Option Addr} {ks : List (List UInt8)} {l : List UInt8} {c g : Nat} (hA : HV w0 A ks) (hl : l.length = 32) (hn : ks.length ≤ 9223372036854775807) (hU : Up w0 w) (hb : Blk w g 45 (By l).toArray)
  (hret : ∀ (w' : World) (i : Nat),Up w0 w' → l ∈ ks → kF (Q .ret) 19 [(4,.int .i64 (i : Int))] w') (hend : ∀ w',Up w0 w' → l ∉ ks → kF (Q .normal) 19 [] w') :
  cF Tryz.prog (.loop (ixl 0)) (Exit.inBlock 0 Q) 19 (FIx A ks.length c g 0) w:=by
 refine c_loop (m:=fun i : Nat=>ks.length - i) (F:=FIx A ks.length c g) (R:=fun i w=>i ≤ ks.length ∧ Up w0 w ∧ Blk w g 45 (By l).toArray ∧ l ∉ ks.take i) ?_ 0 ⟨by omega,hU,hb,by simp⟩
 rintro i w ⟨hi,hU,hb,hno⟩
 conv=>arg 2; whnf
 refine c_seq fun K1 hK1=>?_;refine c_qF ?_
 by_cases hil : i < ks.length
 ·refine f_lssI (i : Int) (ks.length : Int) true rfl rfl rfl rfl rfl rfl (decide_eq_true (by omega)) ?_
  refine f_end fun w1 hw1=>hK1 _ _ ?_;refine c_seq fun K2 hK2=>?_;refine c_cond true rfl ?_;refine c_skip ?_;refine hK2 _ _ ?_;refine c_seq fun K3 hK3=>?_;refine c_block ?_;refine c_seq fun K4 hK4=>?_;refine c_qF ?_;refine f_move (.int .i64 (i : Int)) rfl rfl rfl rfl rfl ?_;refine f_assign (.int .i64 (i : Int)) rfl rfl rfl rfl rfl ?_;refine f_end fun w2 hw2=>hK4 _ _ ?_;replace hb:=(hb.later hw1).later hw2;replace hU:=(hU.step hw1).step hw2;clear hw1 hw2;obtain ⟨b,o,rfl,hlt,hc⟩:=(hA.later hU) (by omega);obtain ⟨hx1,hx2⟩:=hc i ks[i] (List.getElem?_eq_getElem hil);refine c_seq fun K6 hK6=>?_;refine c_g 6 (by decide) (by kernel_rfl) (by kernel_rfl) ?_;refine g_op rfl ?_;refine f_by g 0 hl rfl rfl rfl rfl rfl (fun _ h1=>(h1.1.blk hb).range) ?_;refine g_go ?_;refine g_op rfl ?_;refine f_move (.slice (some ⟨b,o,none⟩) ks.length c) rfl rfl rfl rfl rfl ?_;refine g_go ?_;refine g_op rfl ?_;refine f_move (.int .i64 (i : Int)) rfl rfl rfl rfl rfl ?_;refine g_go ?_;refine g_op rfl ?_;refine f_ix _ (i : Int) ⟨b,o + 32 * i,none⟩ rfl rfl rfl rfl rfl rfl (ixHs b o ks.length c i hil) ?_;refine g_go ?_;refine g_op rfl ?_;refine f_by b (o + 32 * i) hx1 rfl rfl rfl rfl rfl (fun _ h1=>rangeAt_later hx2 (h1.1.block b hlt)) ?_;refine g_go ?_;refine g_op rfl ?_;refine f_eqd l ks[i] rfl rfl rfl rfl rfl rfl rfl hl hx1 ?_;refine g_go ?_;refine g_end fun w3 hw3 _=>?_;refine l_nil ?_;refine hK6 _ _ ?_;replace hb:=hb.later hw3;replace hU:=hU.step hw3
  by_cases he : l = ks[i]
  ·refine c_cond (decide (l = ks[i])) rfl ?_
   rw [decide_eq_true he,if_pos rfl];refine c_seq fun K7 hK7=>?_;refine c_qF ?_;refine f_move (.int .i64 (i : Int)) rfl rfl rfl rfl rfl ?_;refine f_assign (.int .i64 (i : Int)) rfl rfl rfl rfl rfl ?_;refine f_end fun w4 hw4=>hK7 _ _ ?_;refine c_ret ?_;exact k_sub (E':=[(4,.int .i64 (i : Int))]) ⟨rfl,trivial⟩ (hret w4 i (hU.step hw4) (by rw [he]; exact List.getElem_mem hil))
  ·refine c_cond (decide (l = ks[i])) rfl ?_
   rw [decide_eq_false he,if_neg (by decide)];refine c_skip ?_;refine hK3 _ _ ?_;refine c_qF ?_;refine f_addI (i : Int) 1 ((i + 1 : Nat) : Int) rfl rfl rfl rfl rfl rfl (by rw [i64_left,wrap64_in _ (by omega)]; omega) ?_;refine f_move (.int .i64 ((i + 1 : Nat) : Int)) rfl rfl rfl rfl rfl ?_;refine f_end fun w5 hw5=>?_;refine k_round (F:=FIx (some ⟨b,o,none⟩) ks.length c g) (m:=fun i : Nat=>ks.length - i) (R:=fun i w=>i ≤ ks.length ∧ Up w0 w ∧ Blk w g 45 (By l).toArray ∧ l ∉ ks.take i) (s:=i) (i + 1) ⟨rfl,rfl,rfl,rfl,trivial⟩ ⟨hil,hU.step hw5,hb.later hw5,?_⟩ (Nat.sub_lt_sub_left hil (Nat.lt_succ_self i));rw [List.take_succ_eq_append_getElem hil]
   intro h
   rcases List.mem_append.1 h with h | h
   ·exact hno h
   ·exact he (by simpa using h)
 ·refine f_lssI (i : Int) (ks.length : Int) false rfl rfl rfl rfl rfl rfl (decide_eq_false (by omega)) ?_
  refine f_end fun w1 hw1=>hK1 _ _ ?_;refine c_seq fun K2 hK2=>?_;refine c_cond false rfl ?_;refine c_exit ?_;refine k_exit (id:=0) (Q:=Q) ?_
  obtain rfl : i = ks.length:=by omega
  rw [List.take_length] at hno;exact k_sub (E':=[]) trivial (hend w1 (hU.step hw1) hno)
set_option maxRecDepth 100000 in
set_option maxHeartbeats 1000000 in
theorem index_f {A : Option Addr} {ks : List (List UInt8)} {l : List UInt8} {c : Nat} (hl : l.length = 32) (hn : ks.length ≤ 9223372036854775807) (w : World) (hA : HV w A ks) :
  Calls Tryz.prog 81 #[.slice A ks.length c,.agg (By l).toArray] w fun e w'=>(∃ r : Int,e = .returned (.int .i64 r) ∧ (0 ≤ r ↔ l ∈ ks)) ∧ Below w.heap.size w w':=by
 refine calls_F (vs:=[.slice A ks.length c,.agg (By l).toArray]) 19 Tryz.func81 rfl (by rw [Tryz.ntmps81]; rfl) ?_;have hU:=Up.refl w;refine c_seq fun K hK=>?_;refine c_lit ?_;refine l_boxA ((By l).toArray) rfl rfl rfl rfl rfl fun W1 g1 hw1 hg1 b1=>?_;replace hU:=hU.step hw1;clear hw1 hg1;refine l_assign (.int .i64 0) rfl rfl rfl rfl rfl ?_;refine l_nil ?_;refine hK _ _ ?_;clear hK K;refine c_seq fun K2 hK2=>?_;refine c_seq fun K3 hK3=>?_;refine c_qF ?_;refine f_move (.slice A ks.length c) rfl rfl rfl rfl rfl ?_;refine f_lenH A ks.length c rfl rfl rfl rfl rfl ?_;refine f_move (.int .i64 0) rfl rfl rfl rfl rfl ?_;refine f_end fun w2 hw2=>?_;refine k_sub (E':=FIx A ks.length c g1 0) ⟨rfl,rfl,rfl,rfl,trivial⟩ ?_;refine hK3 _ _ ?_;refine c_block ?_;refine index_l (w0:=w) hA hl hn (hU.step hw2) (b1.later hw2) (fun w' i hU hm=>?_) (fun w' hU hm=>?_)
 ·exact k_then_ret fun a ha=>bodyPost_ret (results_tmp rfl _ _ _) ha.defers ⟨⟨(i : Int),congrArg Ending.returned (ha.get 4 _ rfl),⟨fun _=>hm,fun _=>by omega⟩⟩,hU⟩
 ·refine hK2 _ _ ?_
  refine c_seq fun K4 hK4=>?_;refine c_qF ?_;refine f_assign (.int .i64 (-1)) rfl rfl rfl rfl rfl ?_;refine f_end fun w3 hw3=>hK4 _ _ ?_;exact c_ret fun a ha=>bodyPost_ret (results_tmp rfl _ _ _) ha.defers ⟨⟨-1,congrArg Ending.returned (ha.get 4 _ rfl),⟨fun h=>absurd h (by decide),fun h=>absurd h hm⟩⟩,hU.step hw3⟩
set_option maxRecDepth 100000 in
set_option maxHeartbeats 1000000 in
theorem contains_f {A : Option Addr} {ks : List (List UInt8)} {l : List UInt8} {c : Nat} (hl : l.length = 32) (hn : ks.length ≤ 9223372036854775807) (w : World) (hA : HV w A ks) :
  Calls Tryz.prog 63 #[.slice A ks.length c,.agg (By l).toArray] w fun e w'=>e = .returned (.bool (decide (l ∈ ks))) ∧ Below w.heap.size w w':=by
 refine calls_F (vs:=[.slice A ks.length c,.agg (By l).toArray]) 9 Tryz.func63 rfl (by rw [Tryz.ntmps63]; rfl) ?_;have hU:=Up.refl w;refine c_seq fun K hK=>?_;refine c_lit ?_;refine l_boxA ((By l).toArray) rfl rfl rfl rfl rfl fun W1 g1 hw1 hg1 b1=>?_;replace hU:=hU.step hw1;clear hw1 hg1;refine l_assign (.bool false) rfl rfl rfl rfl rfl ?_;refine l_nil ?_;refine hK _ _ ?_;clear hK K;refine c_seq fun K hK=>?_;refine c_lit ?_;refine l_ops 2 ?_;refine f_move (.slice A ks.length c) rfl rfl rfl rfl rfl ?_;refine f_by g1 0 hl rfl rfl rfl rfl rfl (fun _ h1=>(h1.blk b1).range) ?_;refine f_tail fun w2 hw2=>?_;refine l_call #[.slice A ks.length c,.agg (By l).toArray] rfl rfl rfl own_hindex (index_f hl hn w2 (hA.later (hU.step hw2))) rfl rfl ?_
 rintro e w3 ⟨⟨r,rfl,hr⟩,hb3⟩
 refine ⟨_,rfl,?_⟩;refine l_ops 2 ?_;refine f_geqI r 0 (decide (l ∈ ks)) rfl rfl rfl rfl rfl rfl (by rw [decide_eq_decide]; exact hr) ?_;refine f_assign (.bool (decide (l ∈ ks))) rfl rfl rfl rfl rfl ?_;refine f_tail fun w4 hw4=>?_;refine l_nil ?_;refine hK _ _ ?_;exact c_ret fun a ha=>bodyPost_ret (results_tmp rfl _ _ _) ha.defers ⟨congrArg Ending.returned (ha.get 4 _ rfl),((hU.step hw2).step hb3).step hw4⟩
end Go.Proofs.YtlcbhbahchiofaaGreatDoor
