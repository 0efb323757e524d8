/-
  SEVERAL TEXTS IN ONE: ElMul, ElRoot, ElIs, ElRoots, CpM.
-/
import Derived.Test.YtlcbhbahchiofaaDoorMd
import Derived.Test.YtlcbhbahchiofaaDoorMa
/-
  THE FIELD'S NUMBERS: Mul.
-/
namespace Go.Proofs.YtlcbhbahchiofaaDoor
open Go.RowKit Go.IntWalk Nums

set_option maxRecDepth 100000 in
set_option maxHeartbeats 2000000 in
theorem elmul_f {a b : List Nat} {x y : F} (ha : EB a x) (hb : EB b y) (w : World) :
  Calls Tryd.prog 55 #[.agg (Us a).toArray,.agg (Us b).toArray] w fun e w'=>∃ r,EB r (x * y) ∧ e = .returned (.agg (Us r).toArray) ∧ Below w.heap.size w w':=by
 obtain ⟨b0,b1,b2,b3,b4,rfl,r0,r1,r2,r3,r4,rv⟩:=hb.five;have e0 : (Us [b0,b1,b2,b3,b4]).toArray = #[.int .u64 (b0 : Int),.int .u64 (b1 : Int),.int .u64 (b2 : Int),.int .u64 (b3 : Int),.int .u64 (b4 : Int)]:=rfl;rw [e0]
 go_enter Tryd.func55,Tryd.ntmps55
 go_wp2
 go_region
 go_wp2
 go_loopw [32,5,6,7,8,9] (fun i v5 v6 v7 v8 v9 wr=>∃ k : Nat,k ≤ 5 ∧ i = .int .i64 k ∧ ∃ c0 c1 c2 c3 c4 s0 s1 s2 s3 s4 : Nat,v5 = .int .u64 c0 ∧ v6 = .int .u64 c1 ∧ v7 = .int .u64 c2 ∧ v8 = .int .u64 c3 ∧ v9 = .int .u64 c4 ∧ MM a y k c0 c1 c2 c3 c4 s0 s1 s2 s3 s4 ∧ MSt w wr a s0 s1 s2 s3 s4) (fun i _ _ _ _ _ _=>5 - (intOf i).toNat)
 case atStart =>
  exact ⟨0,by omega,rfl,b0,b1,b2,b3,b4,0,0,0,0,0,rfl,rfl,rfl,rfl,rfl,MM.start r0 r1 r2 r3 r4 rv,mst_start w a _⟩
 case round =>
  obtain ⟨k,hk,rfl,c0,c1,c2,c3,c4,s0,s1,s2,s3,s4,rfl,rfl,rfl,rfl,rfl,hM,hS⟩:=hrel
  by_cases hlt : k < 5
  ·have hN:=hM.next ha hlt
   have hd:=(hS.ba.cell k).trans (Us_at (by rw [ha.len]; exact hlt));have hv:=eb_get ha hlt
   obtain ⟨g0,g1,g2,g3,g4,u4,t0,t1,t2,t3,t4⟩ : c0 < 42784196465000448 ∧ c1 < 42784196465000448 ∧ c2 < 42784196465000448 ∧ c3 < 42784196465000448 ∧ c4 < 42784196465000448 ∧ c4 < 2251799813947392 ∧ s0 < 41538374868278621028243970633760768 ∧ s1 < 41538374868278621028243970633760768 ∧ s2 < 41538374868278621028243970633760768 ∧ s3 < 41538374868278621028243970633760768 ∧ s4 < 41538374868278621028243970633760768:=by
    obtain ⟨_,_,g0,g1,g2,g3,g4,u0,u1,u2,u3,u4,t0,t1,t2,t3,t4⟩:=hM;exact ⟨g0,g1,g2,g3,g4,u4 (by omega),by omega,by omega,by omega,by omega,by omega⟩
   have p0:=prod_le hv g0;have p1:=prod_le hv g1;have p2:=prod_le hv g2;have p3:=prod_le hv g3;have p4:=prod_le hv g4;generalize a[k]! = v at *;have HP0:=fun w1=>Lib.hid (plus_f s0 v c0 (by omega) (by omega) (by omega) w1);have HP1:=fun w1=>Lib.hid (plus_f s1 v c1 (by omega) (by omega) (by omega) w1);have HP2:=fun w1=>Lib.hid (plus_f s2 v c2 (by omega) (by omega) (by omega) w1);have HP3:=fun w1=>Lib.hid (plus_f s3 v c3 (by omega) (by omega) (by omega) w1);have HP4:=fun w1=>Lib.hid (plus_f s4 v c4 (by omega) (by omega) (by omega) w1);have HN:=Lib.hid hN
   have q1 : IntKind.u64.wrap (19 * (c4 : Int)) = ((19 * c4 : Nat) : Int):=by rw [IntKind.wrap_u64]; omega
   have q2 : (0 : Int) ≤ (k : Int):=by omega
   clear hN hM p0 p1 p2 p3 p4 g0 g1 g2 g3 g4 u4 t0 t1 t2 t3 t4 hv rv r0 r1 r2 r3 r4 hb;generalize s0 + v * c0 = n0 at *;generalize s1 + v * c1 = n1 at *;generalize s2 + v * c2 = n2 at *;generalize s3 + v * c3 = n3 at *;generalize s4 + v * c4 = n4 at *;generalize 19 * c4 = d at *;have hk0:=hS.k0;have HS:=Lib.hid hS;clear hS
   go_wp2_with (refine wpList_load_row rfl 138 _ rfl (w.heap.size + 1 + 1 + 1) rfl 138 (W2 s0) (0,0) _ hk0 Tryd.underlying138 rfl (size_sum _ (W2_size _)) ?_)
   refine (HP0 _).out.mono ?_
   rintro e w1 ⟨rfl,hw⟩
   have hS:=HS.out.step hw;have hk:=hS.k0;have hS2:=hS.set0 n0;have hk2:=hS2.k1;clear HS hw hS;have HS:=Lib.hid hS2;clear hS2
   go_wp2_with (first
    | (refine wpList_store_row rfl 138 _ _ rfl (w.heap.size + 1 + 1 + 1) rfl (W2 n0) rfl 138 _ hk (size_sum _ (W2_size _)) rfl (W2_one _) ?_)
    | (refine wpList_load_row rfl 138 _ rfl (w.heap.size + 1 + 1 + 1 + 1) rfl 138 (W2 s1) (0,0) _ hk2 Tryd.underlying138 rfl (size_sum _ (W2_size _)) ?_))
   clear hk hk2;refine (HP1 _).out.mono ?_
   rintro e w2 ⟨rfl,hw⟩
   have hS:=HS.out.step hw;have hk:=hS.k1;have hS2:=hS.set1 n1;have hk2:=hS2.k2;clear HS hw hS;have HS:=Lib.hid hS2;clear hS2
   go_wp2_with (first
    | (refine wpList_store_row rfl 138 _ _ rfl (w.heap.size + 1 + 1 + 1 + 1) rfl (W2 n1) rfl 138 _ hk (size_sum _ (W2_size _)) rfl (W2_one _) ?_)
    | (refine wpList_load_row rfl 138 _ rfl (w.heap.size + 1 + 1 + 1 + 1 + 1) rfl 138 (W2 s2) (0,0) _ hk2 Tryd.underlying138 rfl (size_sum _ (W2_size _)) ?_))
   clear hk hk2;refine (HP2 _).out.mono ?_
   rintro e w3 ⟨rfl,hw⟩
   have hS:=HS.out.step hw;have hk:=hS.k2;have hS2:=hS.set2 n2;have hk2:=hS2.k3;clear HS hw hS;have HS:=Lib.hid hS2;clear hS2
   go_wp2_with (first
    | (refine wpList_store_row rfl 138 _ _ rfl (w.heap.size + 1 + 1 + 1 + 1 + 1) rfl (W2 n2) rfl 138 _ hk (size_sum _ (W2_size _)) rfl (W2_one _) ?_)
    | (refine wpList_load_row rfl 138 _ rfl (w.heap.size + 1 + 1 + 1 + 1 + 1 + 1) rfl 138 (W2 s3) (0,0) _ hk2 Tryd.underlying138 rfl (size_sum _ (W2_size _)) ?_))
   clear hk hk2;refine (HP3 _).out.mono ?_
   rintro e w4 ⟨rfl,hw⟩
   have hS:=HS.out.step hw;have hk:=hS.k3;have hS2:=hS.set3 n3;have hk2:=hS2.k4;clear HS hw hS;have HS:=Lib.hid hS2;clear hS2
   go_wp2_with (first
    | (refine wpList_store_row rfl 138 _ _ rfl (w.heap.size + 1 + 1 + 1 + 1 + 1 + 1) rfl (W2 n3) rfl 138 _ hk (size_sum _ (W2_size _)) rfl (W2_one _) ?_)
    | (refine wpList_load_row rfl 138 _ rfl (w.heap.size + 1 + 1 + 1 + 1 + 1 + 1 + 1) rfl 138 (W2 s4) (0,0) _ hk2 Tryd.underlying138 rfl (size_sum _ (W2_size _)) ?_))
   clear hk hk2;refine (HP4 _).out.mono ?_
   rintro e w5 ⟨rfl,hw⟩
   have hS:=HS.out.step hw;have hk:=hS.k4;have hS2:=hS.set4 n4;clear HS hw hS;have HS:=Lib.hid hS2;clear hS2
   go_wp2_with (refine wpList_store_row rfl 138 _ _ rfl (w.heap.size + 1 + 1 + 1 + 1 + 1 + 1 + 1) rfl (W2 n4) rfl 138 _ hk (size_sum _ (W2_size _)) rfl (W2_one _) ?_)
   clear hk
   go_roundw
   case rel =>
    exact ⟨k + 1,by omega,by go_num,d,c0,c1,c2,c3,n0,n1,n2,n3,n4,rfl,rfl,rfl,rfl,rfl,HN.out,HS.out⟩
   case measure=>simp [intOf]; omega
  ·obtain rfl : k = 5:=by omega
   obtain ⟨hv,m0,m1,m2,m3,m4,d0,d1,d2,d3,d4⟩:=hM.fin ha;obtain ⟨hba,hbr,k0,k1,k2,k3,k4,hbe⟩:=hS;have hE:=crd_eb (a0:=s0 % 2251799813685248 + 19 * (s4 / 2251799813685248)) (a1:=s1 % 2251799813685248 + s0 / 2251799813685248) (a2:=s2 % 2251799813685248 + s1 / 2251799813685248) (a3:=s3 % 2251799813685248 + s2 / 2251799813685248) (a4:=s4 % 2251799813685248 + s3 / 2251799813685248) (by omega) (by omega) (by omega) (by omega) (by omega)
   have hE2 : EB (crd (s0 % 2251799813685248 + 19 * (s4 / 2251799813685248)) (s1 % 2251799813685248 + s0 / 2251799813685248) (s2 % 2251799813685248 + s1 / 2251799813685248) (s3 % 2251799813685248 + s2 / 2251799813685248) (s4 % 2251799813685248 + s3 / 2251799813685248)) (x * y):=by
    have h : fof (lv (crd s0 s1 s2 s3 s4)) = x * y:=hv
    unfold crd at h
    rw [h] at hE;exact hE
   have HC:=fun w1=>carried_f (s0 % 2251799813685248 + 19 * (s4 / 2251799813685248)) (s1 % 2251799813685248 + s0 / 2251799813685248) (s2 % 2251799813685248 + s1 / 2251799813685248) (s3 % 2251799813685248 + s2 / 2251799813685248) (s4 % 2251799813685248 + s3 / 2251799813685248) (by omega) (by omega) (by omega) (by omega) (by omega) w1;generalize crd (s0 % 2251799813685248 + 19 * (s4 / 2251799813685248)) (s1 % 2251799813685248 + s0 / 2251799813685248) (s2 % 2251799813685248 + s1 / 2251799813685248) (s3 % 2251799813685248 + s2 / 2251799813685248) (s4 % 2251799813685248 + s3 / 2251799813685248) = r at *;clear hE hv hM hba rv r0 r1 r2 r3 r4 hb;have HC2:=Lib.hid HC;have HE:=Lib.hid hE2;clear HC hE2
   go_wp2
   refine reg_set 29 (.tmp 4) 90 (.tmp 94) rfl rfl rfl rfl (by kernel_rfl) (tail_ok (by kernel_rfl)) (fun _ _ d _ _ h=>by cases d <;> exact h) ?_;simp only [List.take_succ_cons,List.take_zero];refine b_sum (w.heap.size + 1 + 1 + 1) _ rfl rfl rfl (fun _ h=>h.blk k0) ?_; simp only [Act.put,List.setIfInBounds_toArray,List.set_cons_zero,List.set_cons_succ];refine b_one rfl own_low (fun w1=>low_f s0 w1) rfl rfl ?_; simp only [Act.put,List.setIfInBounds_toArray,List.set_cons_zero,List.set_cons_succ];refine b_sum (w.heap.size + 1 + 1 + 1 + 1 + 1 + 1 + 1) _ rfl rfl rfl (fun _ h=>h.blk k4) ?_; simp only [Act.put,List.setIfInBounds_toArray,List.set_cons_zero,List.set_cons_succ];refine b_one rfl own_high (fun w1=>high_f s4 m4 w1) rfl rfl ?_; simp only [Act.put,List.setIfInBounds_toArray,List.set_cons_zero,List.set_cons_succ];refine b_mulu 19 (s4 / 2251799813685248) rfl rfl rfl rfl (by omega) ?_; simp only [Act.put,List.setIfInBounds_toArray,List.set_cons_zero,List.set_cons_succ];refine b_addu (s0 % 2251799813685248) (19 * (s4 / 2251799813685248)) rfl rfl rfl rfl (by omega) ?_; simp only [Act.put,List.setIfInBounds_toArray,List.set_cons_zero,List.set_cons_succ];refine b_sum (w.heap.size + 1 + 1 + 1 + 1) _ rfl rfl rfl (fun _ h=>h.blk k1) ?_; simp only [Act.put,List.setIfInBounds_toArray,List.set_cons_zero,List.set_cons_succ];refine b_one rfl own_low (fun w1=>low_f s1 w1) rfl rfl ?_; simp only [Act.put,List.setIfInBounds_toArray,List.set_cons_zero,List.set_cons_succ];refine b_sum (w.heap.size + 1 + 1 + 1) _ rfl rfl rfl (fun _ h=>h.blk k0) ?_; simp only [Act.put,List.setIfInBounds_toArray,List.set_cons_zero,List.set_cons_succ];refine b_one rfl own_high (fun w1=>high_f s0 m0 w1) rfl rfl ?_; simp only [Act.put,List.setIfInBounds_toArray,List.set_cons_zero,List.set_cons_succ];refine b_addu (s1 % 2251799813685248) (s0 / 2251799813685248) rfl rfl rfl rfl (by omega) ?_; simp only [Act.put,List.setIfInBounds_toArray,List.set_cons_zero,List.set_cons_succ];refine b_sum (w.heap.size + 1 + 1 + 1 + 1 + 1) _ rfl rfl rfl (fun _ h=>h.blk k2) ?_; simp only [Act.put,List.setIfInBounds_toArray,List.set_cons_zero,List.set_cons_succ];refine b_one rfl own_low (fun w1=>low_f s2 w1) rfl rfl ?_; simp only [Act.put,List.setIfInBounds_toArray,List.set_cons_zero,List.set_cons_succ];refine b_sum (w.heap.size + 1 + 1 + 1 + 1) _ rfl rfl rfl (fun _ h=>h.blk k1) ?_; simp only [Act.put,List.setIfInBounds_toArray,List.set_cons_zero,List.set_cons_succ];refine b_one rfl own_high (fun w1=>high_f s1 m1 w1) rfl rfl ?_; simp only [Act.put,List.setIfInBounds_toArray,List.set_cons_zero,List.set_cons_succ];refine b_addu (s2 % 2251799813685248) (s1 / 2251799813685248) rfl rfl rfl rfl (by omega) ?_; simp only [Act.put,List.setIfInBounds_toArray,List.set_cons_zero,List.set_cons_succ];refine b_sum (w.heap.size + 1 + 1 + 1 + 1 + 1 + 1) _ rfl rfl rfl (fun _ h=>h.blk k3) ?_; simp only [Act.put,List.setIfInBounds_toArray,List.set_cons_zero,List.set_cons_succ]
   refine b_one rfl own_low (fun w1=>low_f s3 w1) rfl rfl ?_; simp only [Act.put,List.setIfInBounds_toArray,List.set_cons_zero,List.set_cons_succ];refine b_sum (w.heap.size + 1 + 1 + 1 + 1 + 1) _ rfl rfl rfl (fun _ h=>h.blk k2) ?_; simp only [Act.put,List.setIfInBounds_toArray,List.set_cons_zero,List.set_cons_succ];refine b_one rfl own_high (fun w1=>high_f s2 m2 w1) rfl rfl ?_; simp only [Act.put,List.setIfInBounds_toArray,List.set_cons_zero,List.set_cons_succ];refine b_addu (s3 % 2251799813685248) (s2 / 2251799813685248) rfl rfl rfl rfl (by omega) ?_; simp only [Act.put,List.setIfInBounds_toArray,List.set_cons_zero,List.set_cons_succ];refine b_sum (w.heap.size + 1 + 1 + 1 + 1 + 1 + 1 + 1) _ rfl rfl rfl (fun _ h=>h.blk k4) ?_; simp only [Act.put,List.setIfInBounds_toArray,List.set_cons_zero,List.set_cons_succ];refine b_one rfl own_low (fun w1=>low_f s4 w1) rfl rfl ?_; simp only [Act.put,List.setIfInBounds_toArray,List.set_cons_zero,List.set_cons_succ];refine b_sum (w.heap.size + 1 + 1 + 1 + 1 + 1 + 1) _ rfl rfl rfl (fun _ h=>h.blk k3) ?_; simp only [Act.put,List.setIfInBounds_toArray,List.set_cons_zero,List.set_cons_succ];refine b_one rfl own_high (fun w1=>high_f s3 m3 w1) rfl rfl ?_; simp only [Act.put,List.setIfInBounds_toArray,List.set_cons_zero,List.set_cons_succ];refine b_addu (s4 % 2251799813685248) (s3 / 2251799813685248) rfl rfl rfl rfl (by omega) ?_; simp only [Act.put,List.setIfInBounds_toArray,List.set_cons_zero,List.set_cons_succ];refine b_build _ _ rfl rfl rfl (built_u5 _ _ _ _ _) ?_; simp only [Act.put,List.setIfInBounds_toArray,List.set_cons_zero,List.set_cons_succ];refine b_build _ _ rfl rfl rfl (built_el _ _ _ _ _) ?_; simp only [Act.put,List.setIfInBounds_toArray,List.set_cons_zero,List.set_cons_succ];refine b_one rfl own_carried (fun w1=>HC2.out w1) rfl rfl ?_; simp only [Act.put,List.setIfInBounds_toArray,List.set_cons_zero,List.set_cons_succ];have hzr:=len_us HE.out.len;refine wpB_nil ⟨_,z5,(Us r).toArray,rfl,rfl,hbr,by rw [hzr]; rfl,size_el _ hzr,Us_one _,fun w1 hw1=>?_⟩;have hfin:=hw1.blk hbr;have hbe2:=below_up hbe hw1
   go_wp2
   refine bodyPost_ret (results_cell_row rfl _ _ (w.heap.size + 1 + 1) 90 (Us r).toArray (0,0) _ rfl (hfin.row _) Tryd.underlying90 rfl (size_el _ hzr)) rfl ⟨r,HE.out,rfl,?_⟩;exact below_setRow hbe2 (by omega) _
end Go.Proofs.YtlcbhbahchiofaaDoor
/-
  THE FIELD'S NUMBERS: squared, ones, eighth, Inv.
-/
namespace Go.Proofs.YtlcbhbahchiofaaDoor
open Go.RowKit Go.IntWalk Nums

theorem own_squared : Own 86:=fun _ _=>by go_simp
theorem own_ones : Own 87:=fun _ _=>by go_simp
theorem own_eighth : Own 81:=fun _ _=>by go_simp

theorem elmul_p {a b : List Nat} {x : F} {d e : Nat} (ha : EB a (fpow x d)) (hb : EB b (fpow x e)) (w : World) :
  Calls Tryd.prog 55 #[.agg (Us a).toArray,.agg (Us b).toArray] w fun e' w'=>∃ r,EB r (fpow x (d + e)) ∧ e' = .returned (.agg (Us r).toArray) ∧ Below w.heap.size w w':=by
 rw [fpow_add];exact elmul_f ha hb w

set_option maxRecDepth 100000 in
set_option maxHeartbeats 1000000 in
theorem squared_f {a : List Nat} {x : F} (ha : EB a x) (n : Nat) (hn : n < 300) (w : World) :
  Calls Tryd.prog 86 #[.agg (Us a).toArray,.int .i64 n] w fun e w'=>∃ r,EB r (fpow x (2 ^ n)) ∧ e = .returned (.agg (Us r).toArray) ∧ Below w.heap.size w w':=by
 have hs : ∀ k,fpow x (2 ^ (k + 1)) = fpow x (2 ^ k) * fpow x (2 ^ k):=fun k=>by rw [← fpow_add,Nat.pow_succ]; congr 1; omega
 have HS:=Lib.hid hs;clear hs
 go_enter Tryd.func86,Tryd.ntmps86
 go_wp2
 go_loopw [6] (fun i wr=>∃ k : Nat,k ≤ n ∧ i = .int .i64 k ∧ ∃ r,EB r (fpow x (2 ^ k)) ∧ Blk wr w.heap.size 90 (Us r).toArray ∧ Blk wr (w.heap.size + 1) 90 z5 ∧ Below w.heap.size w wr) (fun i _=>n - (intOf i).toNat)
 case atStart =>
  refine ⟨0,by omega,rfl,a,?_,heap_alloc2_old w _ _,heap_alloc2_new w _ _,((Below.refl _ _).alloc (Nat.le_refl _) _).alloc (by simp) _⟩;rw [Nat.pow_zero,fpow_one];exact ha
 case round =>
  obtain ⟨k,hk,rfl,r,hr,h0,h1,hbel⟩:=hrel
  by_cases hlt : k < n
  ·have HM:=fun w1=>Lib.hid (elmul_f hr hr w1)
   rw [← HS.out k] at HM;have hzr:=len_us hr.len;have HK:=Lib.hid (And.intro h0 (And.intro h1 hbel))
   have q0 : (k : Int) < (n : Int):=by omega
   clear h1 hbel
   go_wp2_with (refine wpList_load_row rfl 90 _ rfl w.heap.size rfl 90 (Us r).toArray (0,0) _ h0 Tryd.underlying90 rfl (size_el _ hzr) ?_)
   refine (HM _).out.mono ?_
   rintro e w2 ⟨r1,hr1,rfl,hw2⟩
   have hz1:=len_us hr1.len;obtain ⟨h0,h1,hbel⟩:=HK.out;have k0:=h0.below hw2 h0.lt;have k1:=h1.below hw2 h1.lt;have kb:=hbel.trans (hw2.mono hbel.size)
   have HR:=Lib.hid (show Blk (w2.setRow w.heap.size (Us r1).toArray) w.heap.size 90 (Us r1).toArray ∧ Blk (w2.setRow w.heap.size (Us r1).toArray) (w.heap.size + 1) 90 z5 ∧ Below w.heap.size w (w2.setRow w.heap.size (Us r1).toArray) from
    ⟨k0.row _,k1.rowFar (by omega) _,below_setRow kb (Nat.le_refl _) _⟩)
   clear HM HK h0 h1 hbel k1 kb hw2
   go_wp2_with (refine wpList_store_row rfl 90 _ _ rfl w.heap.size rfl (Us r1).toArray rfl 90 _ k0 (size_el _ hz1) (by rw [hz1,hzr]) (Us_one _) ?_)
   go_roundw
   case rel=>exact ⟨k + 1,by omega,by go_num,r1,hr1,HR.out⟩
   case measure=>simp [intOf]; omega
  ·obtain rfl : k = n:=by omega
   have hzr:=len_us hr.len
   go_wp2_with (first
    | (refine wpList_load_row rfl 90 _ rfl w.heap.size rfl 90 (Us r).toArray (0,0) _ h0 Tryd.underlying90 rfl (size_el _ hzr) ?_)
    | (refine wpList_store_row rfl 90 _ _ rfl (w.heap.size + 1) rfl (Us r).toArray rfl 90 _ h1 (size_el _ hzr) (by rw [hzr]; rfl) (Us_one _) ?_))
   refine bodyPost_ret (results_cell_row rfl _ _ (w.heap.size + 1) 90 (Us r).toArray (0,0) _ rfl (h1.row _) Tryd.underlying90 rfl (size_el _ hzr)) rfl ⟨r,hr,rfl,?_⟩;exact below_setRow hbel (by omega) _

theorem squared_p {a : List Nat} {x : F} {d : Nat} (ha : EB a (fpow x d)) (n : Nat) (hn : n < 300) (w : World) :
  Calls Tryd.prog 86 #[.agg (Us a).toArray,.int .i64 n] w fun e w'=>∃ r,EB r (fpow x (d * 2 ^ n)) ∧ e = .returned (.agg (Us r).toArray) ∧ Below w.heap.size w w':=by
 rw [fpow_mul];exact squared_f ha n hn w

theorem ones_end {r : List Nat} {x : F} (h : EB r (fpow x ((1267650600228229401496703205375 * 2 ^ 100 + 1267650600228229401496703205375) * 2 ^ 50 + 1125899906842623))) : EB r (fpow x (2 ^ 250 - 1)):=by
 rw [show (2 : Nat) ^ 250 - 1 = ((1267650600228229401496703205375 * 2 ^ 100 + 1267650600228229401496703205375) * 2 ^ 50 + 1125899906842623) from by decide];exact h
theorem eighth_end {r : List Nat} {x : F} (h : EB r (fpow (fpow x (2 ^ 250 - 1)) (2 ^ 2) * x)) : EB r (fpow x (2 ^ 252 - 3)):=by
 rw [show (2 : Nat) ^ 252 - 3 = (2 ^ 250 - 1) * 2 ^ 2 + 1 from by decide,fpow_succ,fpow_mul];exact h

set_option maxRecDepth 100000 in
set_option maxHeartbeats 1000000 in
theorem ones_f {a : List Nat} {x : F} (hA1 : EB a x) (w : World) :
  Calls Tryd.prog 87 #[.agg (Us a).toArray] w fun e w'=>∃ r,EB r (fpow x (2 ^ 250 - 1)) ∧ e = .returned (.agg (Us r).toArray) ∧ Below w.heap.size w w':=by
 have hA : EB a (fpow x 1):=by rw [fpow_one]; exact hA1
 go_enter Tryd.func87,Tryd.ntmps87
 refine wp_seq_k fun K hK=>?_;refine wp_region_lit ?_;refine wpl_box (Us a).toArray rfl rfl rfl ?_;refine wpl_alloc (zs:=z5) rfl rfl (by kernel_rfl) ?_;refine wpl_nil ?_
 go_simp
 refine hK _ _ ?_;clear hK K
 refine wp_at (fun W=>Blk W w.heap.size 90 (Us a).toArray ∧ Blk W (w.heap.size + 1) 90 z5 ∧ Below w.heap.size w W)
  ⟨heap_alloc2_old w _ _,heap_alloc2_new w _ _,((Below.refl _ _).alloc (Nat.le_refl _) _).alloc (by simp) _⟩ ?_
 rintro W ⟨ha,ho,hbe⟩
 -- walk ones
 refine wp_seq_k fun K hK=>?_;refine reg_var 4 3 90 (.tmp 14) z5 rfl rfl rfl rfl rfl rfl rfl (by kernel_rfl) (tail_ok (by kernel_rfl)) (by kernel_rfl) (fun _ _ d _ _ h=>by cases d <;> exact h) (exec_alloc rfl (by kernel_rfl)) ?_;simp only [List.take_succ_cons,List.take_zero];refine b_el w.heap.size hA.len _ rfl rfl rfl (fun _ h=>h.blk ha) ?_;simp only [Act.put,List.setIfInBounds_toArray,List.set_cons_zero,List.set_cons_succ];refine b_fe rfl own_squared (fun w1 _=>squared_p hA 1 (by omega) w1) rfl rfl ?_
 intro r1 v1
 simp only [Act.put,List.setIfInBounds_toArray,List.set_cons_zero,List.set_cons_succ];refine b_el w.heap.size hA.len _ rfl rfl rfl (fun _ h=>h.blk ha) ?_;simp only [Act.put,List.setIfInBounds_toArray,List.set_cons_zero,List.set_cons_succ];refine b_fe rfl own_elmul (fun w1 _=>elmul_p v1 hA w1) rfl rfl ?_
 intro r2 v2
 simp only [Act.put,List.setIfInBounds_toArray,List.set_cons_zero,List.set_cons_succ];refine wpB_nil ⟨(Us r2).toArray,fun _=>rfl,fun _=>rfl,(len_us v2.len).symm,size_el _ (len_us v2.len),Us_one _,fun gtwo W1 hgtwo hw1 hbtwo=>?_⟩;simp only [Exit.then,Act.put,List.setIfInBounds_toArray,List.set_cons_zero,List.set_cons_succ];refine hK _ _ ?_;clear hK K;have ha:=hw1.blk ha;have ho:=hw1.blk ho;have hbe:=below_up hbe hw1;clear hw1;have v2 : EB r2 (fpow x 3):=v2;refine wp_seq_k fun K hK=>?_;refine reg_var 4 4 90 (.tmp 18) z5 rfl rfl rfl rfl rfl rfl rfl (by kernel_rfl) (tail_ok (by kernel_rfl)) (by kernel_rfl) (fun _ _ d _ _ h=>by cases d <;> exact h) (exec_alloc rfl (by kernel_rfl)) ?_;simp only [List.take_succ_cons,List.take_zero];refine b_el gtwo v2.len _ rfl rfl rfl (fun _ h=>h.blk hbtwo) ?_;simp only [Act.put,List.setIfInBounds_toArray,List.set_cons_zero,List.set_cons_succ];refine b_fe rfl own_squared (fun w1 _=>squared_p v2 2 (by omega) w1) rfl rfl ?_
 intro r3 v3
 simp only [Act.put,List.setIfInBounds_toArray,List.set_cons_zero,List.set_cons_succ];refine b_el gtwo v2.len _ rfl rfl rfl (fun _ h=>h.blk hbtwo) ?_;simp only [Act.put,List.setIfInBounds_toArray,List.set_cons_zero,List.set_cons_succ];refine b_fe rfl own_elmul (fun w1 _=>elmul_p v3 v2 w1) rfl rfl ?_
 intro r4 v4
 simp only [Act.put,List.setIfInBounds_toArray,List.set_cons_zero,List.set_cons_succ];refine wpB_nil ⟨(Us r4).toArray,fun _=>rfl,fun _=>rfl,(len_us v4.len).symm,size_el _ (len_us v4.len),Us_one _,fun gfour W1 hgfour hw1 hbfour=>?_⟩;simp only [Exit.then,Act.put,List.setIfInBounds_toArray,List.set_cons_zero,List.set_cons_succ];refine hK _ _ ?_;clear hK K;have ha:=hw1.blk ha;have hbtwo:=hw1.blk hbtwo;have ho:=hw1.blk ho;have hbe:=below_up hbe hw1;clear hw1;have v4 : EB r4 (fpow x 15):=v4;refine wp_seq_k fun K hK=>?_;refine reg_var 4 5 90 (.tmp 22) z5 rfl rfl rfl rfl rfl rfl rfl (by kernel_rfl) (tail_ok (by kernel_rfl)) (by kernel_rfl) (fun _ _ d _ _ h=>by cases d <;> exact h) (exec_alloc rfl (by kernel_rfl)) ?_;simp only [List.take_succ_cons,List.take_zero];refine b_el gfour v4.len _ rfl rfl rfl (fun _ h=>h.blk hbfour) ?_;simp only [Act.put,List.setIfInBounds_toArray,List.set_cons_zero,List.set_cons_succ];refine b_fe rfl own_squared (fun w1 _=>squared_p v4 1 (by omega) w1) rfl rfl ?_
 intro r5 v5
 simp only [Act.put,List.setIfInBounds_toArray,List.set_cons_zero,List.set_cons_succ];refine b_el w.heap.size hA.len _ rfl rfl rfl (fun _ h=>h.blk ha) ?_;simp only [Act.put,List.setIfInBounds_toArray,List.set_cons_zero,List.set_cons_succ];refine b_fe rfl own_elmul (fun w1 _=>elmul_p v5 hA w1) rfl rfl ?_
 intro r6 v6
 simp only [Act.put,List.setIfInBounds_toArray,List.set_cons_zero,List.set_cons_succ];refine wpB_nil ⟨(Us r6).toArray,fun _=>rfl,fun _=>rfl,(len_us v6.len).symm,size_el _ (len_us v6.len),Us_one _,fun gfive W1 hgfive hw1 hbfive=>?_⟩;simp only [Exit.then,Act.put,List.setIfInBounds_toArray,List.set_cons_zero,List.set_cons_succ];refine hK _ _ ?_;clear hK K;have ha:=hw1.blk ha;have hbtwo:=hw1.blk hbtwo;have hbfour:=hw1.blk hbfour;have ho:=hw1.blk ho;have hbe:=below_up hbe hw1;clear hw1;have v6 : EB r6 (fpow x 31):=v6;refine wp_seq_k fun K hK=>?_;refine reg_var 4 6 90 (.tmp 26) z5 rfl rfl rfl rfl rfl rfl rfl (by kernel_rfl) (tail_ok (by kernel_rfl)) (by kernel_rfl) (fun _ _ d _ _ h=>by cases d <;> exact h) (exec_alloc rfl (by kernel_rfl)) ?_;simp only [List.take_succ_cons,List.take_zero];refine b_el gfive v6.len _ rfl rfl rfl (fun _ h=>h.blk hbfive) ?_;simp only [Act.put,List.setIfInBounds_toArray,List.set_cons_zero,List.set_cons_succ];refine b_fe rfl own_squared (fun w1 _=>squared_p v6 5 (by omega) w1) rfl rfl ?_
 intro r7 v7
 simp only [Act.put,List.setIfInBounds_toArray,List.set_cons_zero,List.set_cons_succ];refine b_el gfive v6.len _ rfl rfl rfl (fun _ h=>h.blk hbfive) ?_;simp only [Act.put,List.setIfInBounds_toArray,List.set_cons_zero,List.set_cons_succ];refine b_fe rfl own_elmul (fun w1 _=>elmul_p v7 v6 w1) rfl rfl ?_
 intro r8 v8
 simp only [Act.put,List.setIfInBounds_toArray,List.set_cons_zero,List.set_cons_succ];refine wpB_nil ⟨(Us r8).toArray,fun _=>rfl,fun _=>rfl,(len_us v8.len).symm,size_el _ (len_us v8.len),Us_one _,fun gten W1 hgten hw1 hbten=>?_⟩;simp only [Exit.then,Act.put,List.setIfInBounds_toArray,List.set_cons_zero,List.set_cons_succ];refine hK _ _ ?_;clear hK K;have ha:=hw1.blk ha;have hbtwo:=hw1.blk hbtwo;have hbfour:=hw1.blk hbfour;have hbfive:=hw1.blk hbfive;have ho:=hw1.blk ho;have hbe:=below_up hbe hw1;clear hw1;have v8 : EB r8 (fpow x 1023):=v8;refine wp_seq_k fun K hK=>?_;refine reg_var 4 7 90 (.tmp 30) z5 rfl rfl rfl rfl rfl rfl rfl (by kernel_rfl) (tail_ok (by kernel_rfl)) (by kernel_rfl) (fun _ _ d _ _ h=>by cases d <;> exact h) (exec_alloc rfl (by kernel_rfl)) ?_;simp only [List.take_succ_cons,List.take_zero];refine b_el gten v8.len _ rfl rfl rfl (fun _ h=>h.blk hbten) ?_;simp only [Act.put,List.setIfInBounds_toArray,List.set_cons_zero,List.set_cons_succ];refine b_fe rfl own_squared (fun w1 _=>squared_p v8 10 (by omega) w1) rfl rfl ?_
 intro r9 v9
 simp only [Act.put,List.setIfInBounds_toArray,List.set_cons_zero,List.set_cons_succ];refine b_el gten v8.len _ rfl rfl rfl (fun _ h=>h.blk hbten) ?_;simp only [Act.put,List.setIfInBounds_toArray,List.set_cons_zero,List.set_cons_succ];refine b_fe rfl own_elmul (fun w1 _=>elmul_p v9 v8 w1) rfl rfl ?_
 intro r10 v10
 simp only [Act.put,List.setIfInBounds_toArray,List.set_cons_zero,List.set_cons_succ];refine wpB_nil ⟨(Us r10).toArray,fun _=>rfl,fun _=>rfl,(len_us v10.len).symm,size_el _ (len_us v10.len),Us_one _,fun gtwenty W1 hgtwenty hw1 hbtwenty=>?_⟩;simp only [Exit.then,Act.put,List.setIfInBounds_toArray,List.set_cons_zero,List.set_cons_succ];refine hK _ _ ?_;clear hK K;have ha:=hw1.blk ha;have hbtwo:=hw1.blk hbtwo;have hbfour:=hw1.blk hbfour;have hbfive:=hw1.blk hbfive;have hbten:=hw1.blk hbten;have ho:=hw1.blk ho;have hbe:=below_up hbe hw1;clear hw1;have v10 : EB r10 (fpow x 1048575):=v10;refine wp_seq_k fun K hK=>?_;refine reg_var 4 8 90 (.tmp 34) z5 rfl rfl rfl rfl rfl rfl rfl (by kernel_rfl) (tail_ok (by kernel_rfl)) (by kernel_rfl) (fun _ _ d _ _ h=>by cases d <;> exact h) (exec_alloc rfl (by kernel_rfl)) ?_;simp only [List.take_succ_cons,List.take_zero];refine b_el gtwenty v10.len _ rfl rfl rfl (fun _ h=>h.blk hbtwenty) ?_;simp only [Act.put,List.setIfInBounds_toArray,List.set_cons_zero,List.set_cons_succ];refine b_fe rfl own_squared (fun w1 _=>squared_p v10 20 (by omega) w1) rfl rfl ?_
 intro r11 v11
 simp only [Act.put,List.setIfInBounds_toArray,List.set_cons_zero,List.set_cons_succ];refine b_el gtwenty v10.len _ rfl rfl rfl (fun _ h=>h.blk hbtwenty) ?_;simp only [Act.put,List.setIfInBounds_toArray,List.set_cons_zero,List.set_cons_succ];refine b_fe rfl own_elmul (fun w1 _=>elmul_p v11 v10 w1) rfl rfl ?_
 intro r12 v12
 simp only [Act.put,List.setIfInBounds_toArray,List.set_cons_zero,List.set_cons_succ];refine wpB_nil ⟨(Us r12).toArray,fun _=>rfl,fun _=>rfl,(len_us v12.len).symm,size_el _ (len_us v12.len),Us_one _,fun gforty W1 hgforty hw1 hbforty=>?_⟩;simp only [Exit.then,Act.put,List.setIfInBounds_toArray,List.set_cons_zero,List.set_cons_succ];refine hK _ _ ?_;clear hK K;have ha:=hw1.blk ha;have hbtwo:=hw1.blk hbtwo;have hbfour:=hw1.blk hbfour;have hbfive:=hw1.blk hbfive;have hbten:=hw1.blk hbten;have hbtwenty:=hw1.blk hbtwenty;have ho:=hw1.blk ho;have hbe:=below_up hbe hw1;clear hw1;have v12 : EB r12 (fpow x 1099511627775):=v12;refine wp_seq_k fun K hK=>?_;refine reg_var 4 9 90 (.tmp 38) z5 rfl rfl rfl rfl rfl rfl rfl (by kernel_rfl) (tail_ok (by kernel_rfl)) (by kernel_rfl) (fun _ _ d _ _ h=>by cases d <;> exact h) (exec_alloc rfl (by kernel_rfl)) ?_;simp only [List.take_succ_cons,List.take_zero];refine b_el gforty v12.len _ rfl rfl rfl (fun _ h=>h.blk hbforty) ?_;simp only [Act.put,List.setIfInBounds_toArray,List.set_cons_zero,List.set_cons_succ];refine b_fe rfl own_squared (fun w1 _=>squared_p v12 10 (by omega) w1) rfl rfl ?_
 intro r13 v13
 simp only [Act.put,List.setIfInBounds_toArray,List.set_cons_zero,List.set_cons_succ];refine b_el gten v8.len _ rfl rfl rfl (fun _ h=>h.blk hbten) ?_;simp only [Act.put,List.setIfInBounds_toArray,List.set_cons_zero,List.set_cons_succ];refine b_fe rfl own_elmul (fun w1 _=>elmul_p v13 v8 w1) rfl rfl ?_
 intro r14 v14
 simp only [Act.put,List.setIfInBounds_toArray,List.set_cons_zero,List.set_cons_succ];refine wpB_nil ⟨(Us r14).toArray,fun _=>rfl,fun _=>rfl,(len_us v14.len).symm,size_el _ (len_us v14.len),Us_one _,fun gfifty W1 hgfifty hw1 hbfifty=>?_⟩;simp only [Exit.then,Act.put,List.setIfInBounds_toArray,List.set_cons_zero,List.set_cons_succ];refine hK _ _ ?_;clear hK K;have ha:=hw1.blk ha;have hbtwo:=hw1.blk hbtwo;have hbfour:=hw1.blk hbfour;have hbfive:=hw1.blk hbfive;have hbten:=hw1.blk hbten;have hbtwenty:=hw1.blk hbtwenty;have hbforty:=hw1.blk hbforty;have ho:=hw1.blk ho;have hbe:=below_up hbe hw1;clear hw1;have v14 : EB r14 (fpow x 1125899906842623):=v14;refine wp_seq_k fun K hK=>?_;refine reg_var 4 10 90 (.tmp 42) z5 rfl rfl rfl rfl rfl rfl rfl (by kernel_rfl) (tail_ok (by kernel_rfl)) (by kernel_rfl) (fun _ _ d _ _ h=>by cases d <;> exact h) (exec_alloc rfl (by kernel_rfl)) ?_;simp only [List.take_succ_cons,List.take_zero];refine b_el gfifty v14.len _ rfl rfl rfl (fun _ h=>h.blk hbfifty) ?_;simp only [Act.put,List.setIfInBounds_toArray,List.set_cons_zero,List.set_cons_succ];refine b_fe rfl own_squared (fun w1 _=>squared_p v14 50 (by omega) w1) rfl rfl ?_
 intro r15 v15
 simp only [Act.put,List.setIfInBounds_toArray,List.set_cons_zero,List.set_cons_succ];refine b_el gfifty v14.len _ rfl rfl rfl (fun _ h=>h.blk hbfifty) ?_;simp only [Act.put,List.setIfInBounds_toArray,List.set_cons_zero,List.set_cons_succ];refine b_fe rfl own_elmul (fun w1 _=>elmul_p v15 v14 w1) rfl rfl ?_
 intro r16 v16
 simp only [Act.put,List.setIfInBounds_toArray,List.set_cons_zero,List.set_cons_succ];refine wpB_nil ⟨(Us r16).toArray,fun _=>rfl,fun _=>rfl,(len_us v16.len).symm,size_el _ (len_us v16.len),Us_one _,fun ghundred W1 hghundred hw1 hbhundred=>?_⟩;simp only [Exit.then,Act.put,List.setIfInBounds_toArray,List.set_cons_zero,List.set_cons_succ];refine hK _ _ ?_;clear hK K;have ha:=hw1.blk ha;have hbtwo:=hw1.blk hbtwo;have hbfour:=hw1.blk hbfour;have hbfive:=hw1.blk hbfive;have hbten:=hw1.blk hbten;have hbtwenty:=hw1.blk hbtwenty;have hbforty:=hw1.blk hbforty;have hbfifty:=hw1.blk hbfifty;have ho:=hw1.blk ho;have hbe:=below_up hbe hw1;clear hw1;have v16 : EB r16 (fpow x 1267650600228229401496703205375):=v16;refine wp_seq_k fun K hK=>?_;refine reg_set 7 (.tmp 2) 90 (.tmp 49) rfl rfl rfl rfl (by kernel_rfl) (tail_ok (by kernel_rfl)) (fun _ _ d _ _ h=>by cases d <;> exact h) ?_;simp only [List.take_succ_cons,List.take_zero];refine b_el ghundred v16.len _ rfl rfl rfl (fun _ h=>h.blk hbhundred) ?_;simp only [Act.put,List.setIfInBounds_toArray,List.set_cons_zero,List.set_cons_succ];refine b_fe rfl own_squared (fun w1 _=>squared_p v16 100 (by omega) w1) rfl rfl ?_
 intro r17 v17
 simp only [Act.put,List.setIfInBounds_toArray,List.set_cons_zero,List.set_cons_succ];refine b_el ghundred v16.len _ rfl rfl rfl (fun _ h=>h.blk hbhundred) ?_;simp only [Act.put,List.setIfInBounds_toArray,List.set_cons_zero,List.set_cons_succ];refine b_fe rfl own_elmul (fun w1 _=>elmul_p v17 v16 w1) rfl rfl ?_
 intro r18 v18
 simp only [Act.put,List.setIfInBounds_toArray,List.set_cons_zero,List.set_cons_succ];refine b_fe rfl own_squared (fun w1 _=>squared_p v18 50 (by omega) w1) rfl rfl ?_
 intro r19 v19
 simp only [Act.put,List.setIfInBounds_toArray,List.set_cons_zero,List.set_cons_succ];refine b_el gfifty v14.len _ rfl rfl rfl (fun _ h=>h.blk hbfifty) ?_;simp only [Act.put,List.setIfInBounds_toArray,List.set_cons_zero,List.set_cons_succ];refine b_fe rfl own_elmul (fun w1 _=>elmul_p v19 v14 w1) rfl rfl ?_
 intro r20 v20
 simp only [Act.put,List.setIfInBounds_toArray,List.set_cons_zero,List.set_cons_succ];refine wpB_nil ⟨(w.heap.size + 1),_,_,rfl,rfl,ho,(len_us v20.len).symm,size_el _ (len_us v20.len),Us_one _,fun W1 hw1=>?_⟩;simp only [Exit.then];refine hK _ _ ?_;clear hK K;have ho:=hw1.blk ho;have hbe:=below_up hbe hw1;refine wp_ret ?_;refine bodyPost_ret (results_cell_row rfl _ _ (w.heap.size + 1) 90 (Us r20).toArray (0,0) _ rfl (ho.row _) Tryd.underlying90 rfl (size_el _ (len_us v20.len))) rfl ⟨r20,ones_end v20,rfl,?_⟩;exact below_setRow hbe (by omega) _
 -- end ones

set_option maxRecDepth 100000 in
set_option maxHeartbeats 1000000 in
theorem eighth_f {a : List Nat} {x : F} (hA : EB a x) (w : World) :
  Calls Tryd.prog 81 #[.agg (Us a).toArray] w fun e w'=>∃ r,EB r (fpow x (2 ^ 252 - 3)) ∧ e = .returned (.agg (Us r).toArray) ∧ Below w.heap.size w w':=by
 go_enter Tryd.func81,Tryd.ntmps81
 refine wp_seq_k fun K hK=>?_;refine wp_region_lit ?_;refine wpl_box (Us a).toArray rfl rfl rfl ?_;refine wpl_alloc (zs:=z5) rfl rfl (by kernel_rfl) ?_;refine wpl_nil ?_
 go_simp
 refine hK _ _ ?_;clear hK K
 refine wp_at (fun W=>Blk W w.heap.size 90 (Us a).toArray ∧ Blk W (w.heap.size + 1) 90 z5 ∧ Below w.heap.size w W)
  ⟨heap_alloc2_old w _ _,heap_alloc2_new w _ _,((Below.refl _ _).alloc (Nat.le_refl _) _).alloc (by simp) _⟩ ?_
 rintro W ⟨ha,ho,hbe⟩
 -- walk eighth
 refine wp_seq_k fun K hK=>?_;refine reg_set 5 (.tmp 2) 90 (.tmp 7) rfl rfl rfl rfl (by kernel_rfl) (tail_ok (by kernel_rfl)) (fun _ _ d _ _ h=>by cases d <;> exact h) ?_;simp only [List.take_succ_cons,List.take_zero];refine b_el w.heap.size hA.len _ rfl rfl rfl (fun _ h=>h.blk ha) ?_;simp only [Act.put,List.setIfInBounds_toArray,List.set_cons_zero,List.set_cons_succ];refine b_fe rfl own_ones (fun w1 _=>ones_f hA w1) rfl rfl ?_
 intro r1 v1
 simp only [Act.put,List.setIfInBounds_toArray,List.set_cons_zero,List.set_cons_succ];refine b_fe rfl own_squared (fun w1 _=>squared_f v1 2 (by omega) w1) rfl rfl ?_
 intro r2 v2
 simp only [Act.put,List.setIfInBounds_toArray,List.set_cons_zero,List.set_cons_succ];refine b_el w.heap.size hA.len _ rfl rfl rfl (fun _ h=>h.blk ha) ?_;simp only [Act.put,List.setIfInBounds_toArray,List.set_cons_zero,List.set_cons_succ];refine b_fe rfl own_elmul (fun w1 _=>elmul_f v2 hA w1) rfl rfl ?_
 intro r3 v3
 simp only [Act.put,List.setIfInBounds_toArray,List.set_cons_zero,List.set_cons_succ];refine wpB_nil ⟨(w.heap.size + 1),_,_,rfl,rfl,ho,(len_us v3.len).symm,size_el _ (len_us v3.len),Us_one _,fun W1 hw1=>?_⟩;simp only [Exit.then];refine hK _ _ ?_;clear hK K;have ho:=hw1.blk ho;have hbe:=below_up hbe hw1;refine wp_ret ?_;refine bodyPost_ret (results_cell_row rfl _ _ (w.heap.size + 1) 90 (Us r3).toArray (0,0) _ rfl (ho.row _) Tryd.underlying90 rfl (size_el _ (len_us v3.len))) rfl ⟨r3,eighth_end v3,rfl,?_⟩;exact below_setRow hbe (by omega) _
 -- end eighth

theorem inv_end {r : List Nat} {x : F} (h : EB r (fpow x ((2 ^ 250 - 1) * 2 ^ 5 + ((1 + 1) * 2 ^ 2 + (1 + 1) + 1)))) : EB r (finv x):=by
 unfold finv
 rw [show p - 2 = (2 ^ 250 - 1) * 2 ^ 5 + ((1 + 1) * 2 ^ 2 + (1 + 1) + 1) from by decide];exact h

set_option maxRecDepth 100000 in
set_option maxHeartbeats 1000000 in
theorem elinv_f {a : List Nat} {x : F} (hA1 : EB a x) (w : World) :
  Calls Tryd.prog 67 #[.agg (Us a).toArray] w fun e w'=>∃ r,EB r (finv x) ∧ e = .returned (.agg (Us r).toArray) ∧ Below w.heap.size w w':=by
 have hA : EB a (fpow x 1):=by rw [fpow_one]; exact hA1
 go_enter Tryd.func67,Tryd.ntmps67
 refine wp_seq_k fun K hK=>?_;refine wp_region_lit ?_;refine wpl_box (Us a).toArray rfl rfl rfl ?_;refine wpl_alloc (zs:=z5) rfl rfl (by kernel_rfl) ?_;refine wpl_nil ?_
 go_simp
 refine hK _ _ ?_;clear hK K
 refine wp_at (fun W=>Blk W w.heap.size 90 (Us a).toArray ∧ Blk W (w.heap.size + 1) 90 z5 ∧ Below w.heap.size w W)
  ⟨heap_alloc2_old w _ _,heap_alloc2_new w _ _,((Below.refl _ _).alloc (Nat.le_refl _) _).alloc (by simp) _⟩ ?_
 rintro W ⟨ha,ho,hbe⟩
 -- walk inv
 refine wp_seq_k fun K hK=>?_;refine reg_varF 3 3 90 (.tmp 7) z5 rfl rfl rfl rfl rfl rfl rfl (exec_alloc rfl (by kernel_rfl)) ?_;simp only [List.take_succ_cons,List.take_zero];refine b_el w.heap.size hA.len _ rfl rfl rfl (fun _ h=>h.blk ha) ?_;simp only [Act.put,List.setIfInBounds_toArray,List.set_cons_zero,List.set_cons_succ];refine b_el w.heap.size hA.len _ rfl rfl rfl (fun _ h=>h.blk ha) ?_;simp only [Act.put,List.setIfInBounds_toArray,List.set_cons_zero,List.set_cons_succ];refine b_fe rfl own_elmul (fun w1 _=>elmul_p hA hA w1) rfl rfl ?_
 intro r1 v1
 simp only [Act.put,List.setIfInBounds_toArray,List.set_cons_zero,List.set_cons_succ];refine wpB_nil ⟨(Us r1).toArray,fun _=>rfl,fun _=>rfl,(len_us v1.len).symm,size_el _ (len_us v1.len),Us_one _,fun gtwo W1 hgtwo hw1 hbtwo=>?_⟩;simp only [Exit.then,Act.put,List.setIfInBounds_toArray,List.set_cons_zero,List.set_cons_succ];refine hK _ _ ?_;clear hK K;have ha:=hw1.blk ha;have ho:=hw1.blk ho;have hbe:=below_up hbe hw1;clear hw1;refine wp_seq_k fun K hK=>?_;refine reg_var 6 4 90 (.tmp 13) z5 rfl rfl rfl rfl rfl rfl rfl (by kernel_rfl) (tail_ok (by kernel_rfl)) (by kernel_rfl) (fun _ _ d _ _ h=>by cases d <;> exact h) (exec_alloc rfl (by kernel_rfl)) ?_;simp only [List.take_succ_cons,List.take_zero];refine b_el gtwo v1.len _ rfl rfl rfl (fun _ h=>h.blk hbtwo) ?_;simp only [Act.put,List.setIfInBounds_toArray,List.set_cons_zero,List.set_cons_succ];refine b_fe rfl own_squared (fun w1 _=>squared_p v1 2 (by omega) w1) rfl rfl ?_
 intro r2 v2
 simp only [Act.put,List.setIfInBounds_toArray,List.set_cons_zero,List.set_cons_succ];refine b_el gtwo v1.len _ rfl rfl rfl (fun _ h=>h.blk hbtwo) ?_;simp only [Act.put,List.setIfInBounds_toArray,List.set_cons_zero,List.set_cons_succ];refine b_fe rfl own_elmul (fun w1 _=>elmul_p v2 v1 w1) rfl rfl ?_
 intro r3 v3
 simp only [Act.put,List.setIfInBounds_toArray,List.set_cons_zero,List.set_cons_succ];refine b_el w.heap.size hA.len _ rfl rfl rfl (fun _ h=>h.blk ha) ?_;simp only [Act.put,List.setIfInBounds_toArray,List.set_cons_zero,List.set_cons_succ];refine b_fe rfl own_elmul (fun w1 _=>elmul_p v3 hA w1) rfl rfl ?_
 intro r4 v4
 simp only [Act.put,List.setIfInBounds_toArray,List.set_cons_zero,List.set_cons_succ];refine wpB_nil ⟨(Us r4).toArray,fun _=>rfl,fun _=>rfl,(len_us v4.len).symm,size_el _ (len_us v4.len),Us_one _,fun geleven W1 hgeleven hw1 hbeleven=>?_⟩;simp only [Exit.then,Act.put,List.setIfInBounds_toArray,List.set_cons_zero,List.set_cons_succ];refine hK _ _ ?_;clear hK K;have ha:=hw1.blk ha;have hbtwo:=hw1.blk hbtwo;have ho:=hw1.blk ho;have hbe:=below_up hbe hw1;clear hw1;refine wp_seq_k fun K hK=>?_;refine reg_set 5 (.tmp 2) 90 (.tmp 18) rfl rfl rfl rfl (by kernel_rfl) (tail_ok (by kernel_rfl)) (fun _ _ d _ _ h=>by cases d <;> exact h) ?_;simp only [List.take_succ_cons,List.take_zero];refine b_el w.heap.size hA.len _ rfl rfl rfl (fun _ h=>h.blk ha) ?_;simp only [Act.put,List.setIfInBounds_toArray,List.set_cons_zero,List.set_cons_succ];refine b_fe rfl own_ones (fun w1 _=>ones_f hA1 w1) rfl rfl ?_
 intro r90 v90
 simp only [Act.put,List.setIfInBounds_toArray,List.set_cons_zero,List.set_cons_succ];refine b_fe rfl own_squared (fun w1 _=>squared_p v90 5 (by omega) w1) rfl rfl ?_
 intro r91 v91
 simp only [Act.put,List.setIfInBounds_toArray,List.set_cons_zero,List.set_cons_succ];refine b_el geleven v4.len _ rfl rfl rfl (fun _ h=>h.blk hbeleven) ?_;simp only [Act.put,List.setIfInBounds_toArray,List.set_cons_zero,List.set_cons_succ];refine b_fe rfl own_elmul (fun w1 _=>elmul_p v91 v4 w1) rfl rfl ?_
 intro r92 v92
 simp only [Act.put,List.setIfInBounds_toArray,List.set_cons_zero,List.set_cons_succ];refine wpB_nil ⟨(w.heap.size + 1),_,_,rfl,rfl,ho,(len_us v92.len).symm,size_el _ (len_us v92.len),Us_one _,fun W1 hw1=>?_⟩;simp only [Exit.then];refine hK _ _ ?_;clear hK K;have ho:=hw1.blk ho;have hbe:=below_up hbe hw1;refine wp_ret ?_;refine bodyPost_ret (results_cell_row rfl _ _ (w.heap.size + 1) 90 (Us r92).toArray (0,0) _ rfl (ho.row _) Tryd.underlying90 rfl (size_el _ (len_us v92.len))) rfl ⟨r92,inv_end v92,rfl,?_⟩;exact below_setRow hbe (by omega) _
 -- end inv
end Go.Proofs.YtlcbhbahchiofaaDoor
/-
  THE FIELD'S NUMBERS: '==' of the numbers below p; is, Odd.
-/
namespace Go.Proofs.YtlcbhbahchiofaaDoor
open Go.RowKit Go.IntWalk Nums

theorem info64 : (Tryd.prog.info? 74).map (fun i=>(i.zero,i.size,i.bytes)) = some (some (.int .u64 0),1,8):=by kernel_rfl

theorem partU_at (w : World) (l : List Nat) (i : Nat) (hi : i < l.length) : (part 74 (Us l).toArray (i * 1)).run Tryd.prog w = .ok (.int .u64 (l[i] : Nat)) w:=by
 have hagg : (isAgg 74).run Tryd.prog w = .ok false w:=by
  unfold isAgg
  rw [Sem.run_bind,run_underlying Tryd.underlying74 w]
  rfl
 have hc : (Us l)[i]? = some (.int .u64 (l[i] : Nat)):=by simp [Us,List.getElem?_eq_getElem hi]
 unfold part
 simp [Sem.run_bind,hagg,hc,Sem.run_pure]

theorem oneU_eq (d x y : Nat) (w : World) : (Op.equalIn (d + 1) 74 (.int .u64 (x : Int)) (.int .u64 (y : Int))).run Tryd.prog w = .ok (decide (x = y)) w:=by
 simp [Op.equalIn,run_underlying Tryd.underlying74]
 by_cases h : x = y
 ·simp [h]
 ·simp [h]
  omega

set_option maxRecDepth 20000 in
theorem equalIn_words (d n t : Nat) (l m : List Nat) (ht : Tryd.prog.underlying t = some (.array n 74)) (hl : l.length = n) (hm : m.length = n) (w : World) :
  (Op.equalIn (d + 2) t (.agg (Us l).toArray) (.agg (Us m).toArray)).run Tryd.prog w = .ok (decide (l = m)) w:=by
 obtain ⟨i0,hi0,hz0,hz1,hz2⟩:=info_parts info64
 have hI : ∀ (I : List Nat),(∀ i ∈ I,i < n) → (forIn I ((none : Option Bool),()) fun i _=>do
   let a ← part 74 (Us l).toArray (i * 1)
   let b ← part 74 (Us m).toArray (i * 1)
   let r ← Op.equalIn (d + 1) 74 a b
   if (!r) = true then pure (ForInStep.done (some false,())) else pure (ForInStep.yield (none,()))).run Tryd.prog w = .ok (if ∀ i ∈ I,l[i]! = m[i]! then (none,()) else (some false,())) w:=by
  intro I
  induction I with
  | nil=>intro _; simp [Sem.run_pure]
  | cons i I ih =>
   intro h
   have hi : i < l.length:=by have:=h i (by simp); omega
   have hj : i < m.length:=by have:=h i (by simp); omega
   have hp:=partU_at w l i hi;have hq:=partU_at w m i hj;have he:=oneU_eq d l[i] m[i] w;have e1 : l[i]! = l[i]:=getElem!_pos l i hi;have e2 : m[i]! = m[i]:=getElem!_pos m i hj
   by_cases hx : l[i] = m[i]
   ·rw [show decide (l[i] = m[i]) = true by simp [hx]] at he
    simp only [List.forIn_cons,Sem.run_bind,hp,hq,Result.andThen_ok,he,Bool.not_true,Bool.false_eq_true,if_false,Sem.run_pure];rw [ih (fun j hj=>h j (by simp [hj]))]
    congr 1
    by_cases ha : ∀ i ∈ I,l[i]! = m[i]!
    ·have hb : ∀ j ∈ i :: I,l[j]! = m[j]!:=by
      intro j hj
      rcases List.mem_cons.mp hj with rfl | hj
      ·rw [e1,e2,hx]
      ·exact ha j hj
     rw [if_pos ha,if_pos hb]
    ·rw [if_neg ha,if_neg (fun hb=>ha fun j hj=>hb j (List.mem_cons_of_mem _ hj))]
   ·rw [show decide (l[i] = m[i]) = false by simp [hx]] at he
    simp only [List.forIn_cons,Sem.run_bind,hp,hq,Result.andThen_ok,he,Bool.not_false,if_true,Sem.run_pure];rw [if_neg (fun hb=>hx (by have:=hb i (List.mem_cons_self ..); rw [e1,e2] at this; exact this))]
 rw [Op.equalIn];simp only [Sem.run_bind,run_underlying ht,Result.andThen_ok,sizeOf,typeInfo,run_program,hi0,hz1,Sem.run_pure,Std.Legacy.Range.forIn_eq_forIn_range']
 rw [hI _ (fun i hi=>by
  have:=List.mem_range'_1.1 hi
  simp [Std.Legacy.Range.size] at this
  omega)]
 by_cases hlm : l = m
 ·subst hlm
  simp [Sem.run_pure]
 ·have hne : ¬ ∀ i ∈ List.range' 0 n 1,l[i]! = m[i]!:=fun ha=>hlm (by
   apply List.ext_getElem (by rw [hl,hm])
   intro i h1 h2
   have:=ha i (List.mem_range'_1.2 (by omega))
   rwa [getElem!_pos l i h1,getElem!_pos m i h2] at this)
  have hs : Std.Legacy.Range.size [:n] = n:=by simp [Std.Legacy.Range.size]
  rw [hs,if_neg hne,show decide (l = m) = false by simp [hlm]]
  rfl

theorem partEl (w : World) (l : List Nat) (hl : l.length = 5) : (part 88 (Us l).toArray 0).run Tryd.prog w = .ok (.agg (Us l).toArray) w:=by
 have hagg : (isAgg 88).run Tryd.prog w = .ok true w:=by
  unfold isAgg
  rw [Sem.run_bind,run_underlying Tryd.underlying88 w]
  rfl
 have hs : (sizeOf 88).run Tryd.prog w = .ok 5 w:=by kernel_rfl
 have he : (Us l).toArray.extract 0 (0 + 5) = (Us l).toArray:=by
  apply Array.ext'
  simp only [List.extract_toArray,List.extract_eq_take_drop,Nat.zero_add,Nat.sub_zero,List.drop_zero];exact List.take_of_length_le (by rw [Us_len,hl]; exact Nat.le_refl _)
 unfold part
 simp only [Sem.run_bind,hagg,Result.andThen_ok,if_true,hs,Sem.run_pure,he]

theorem run_field_el (l : List Nat) (hl : l.length = 5) (w : World) : (Instr.field 90 (.agg (Us l).toArray) 0).run Tryd.prog w = .ok (.agg (Us l).toArray) w:=by
 have hp:=partEl w l hl
 unfold Instr.field
 simp only [Sem.run_bind,run_underlying Tryd.underlying90,Result.andThen_ok];exact hp

theorem equal_el (l m : List Nat) (hl : l.length = 5) (hm : m.length = 5) (w : World) :
  (Op.equalIn 10000 90 (.agg (Us l).toArray) (.agg (Us m).toArray)).run Tryd.prog w = .ok (decide (l = m)) w:=by
 have he:=equalIn_words 9997 5 88 l m Tryd.underlying88 hl hm w
 have hst : Tryd.prog.stoodInHeld 90 = false:=by kernel_rfl
 rw [Op.equalIn];simp only [Sem.run_bind,run_underlying Tryd.underlying90,Result.andThen_ok,run_program,hst];have he' : (Op.equalIn 9999 88 (.agg (Us l).toArray) (.agg (Us m).toArray)).run Tryd.prog w = .ok (decide (l = m)) w:=he;rw [if_neg (by decide)];have hp:=partEl w l hl;have hq:=partEl w m hm;generalize decide (l = m) = q at *
 cases q <;> simp [Sem.run_bind,hp,hq,he',Sem.run_pure]

theorem lv_inj : ∀ {a b : List Nat},a.length = b.length → (∀ y ∈ a,y < 2251799813685248) → (∀ y ∈ b,y < 2251799813685248) → lv a = lv b → a = b
 | [],[],_,_,_,_=>rfl
 | x :: a,y :: b,hl,ha,hb,h=>by
  have h1:=ha x (List.mem_cons_self ..);have h2:=hb y (List.mem_cons_self ..);have h3 : x + 2251799813685248 * lv a = y + 2251799813685248 * lv b:=h
  have h4 : x = y:=by omega
  have h5 : lv a = lv b:=by omega
  rw [h4,lv_inj (by simpa using hl) (fun z hz=>ha z (List.mem_cons_of_mem _ hz)) (fun z hz=>hb z (List.mem_cons_of_mem _ hz)) h5]

theorem whole_iff {a b : List Nat} {x y : F} (ha : EB a x) (hb : EB b y) : whole a = whole b ↔ x = y:=by
 obtain ⟨l1,b1,v1⟩:=whole_all ha;obtain ⟨l2,b2,v2⟩:=whole_all hb
 constructor
 ·intro h
  apply Fin.ext
  rw [← v1,← v2,h]
 ·rintro rfl
  exact lv_inj (by rw [l1,l2]) b1 b2 (by rw [v1,v2])

set_option maxRecDepth 100000 in
set_option maxHeartbeats 1000000 in
theorem is_f {a b : List Nat} {x y : F} (ha : EB a x) (hb : EB b y) (w : World) :
  Calls Tryd.prog 80 #[.agg (Us a).toArray,.agg (Us b).toArray] w fun e w'=>e = .returned (.bool (decide (x = y))) ∧ Below w.heap.size w w':=by
 have hq : decide (x = y) = decide (whole a = whole b):=decide_eq_decide.2 (whole_iff ha hb).symm;rw [hq];clear hq;have l1:=(whole_all ha).1;have l2:=(whole_all hb).1;have hE:=fun w1=>equal_el (whole a) (whole b) l1 l2 w1;have H1:=fun w1=>whole_f ha w1;have H2:=fun w1=>whole_f hb w1;generalize decide (whole a = whole b) = q at *;generalize whole a = u at *;generalize whole b = v at *;have hza:=ha.len;have hzb:=hb.len;have h0 : Blk ((w.alloc (Obj.cells (Us a).toArray 90)).alloc (Obj.cells (Us b).toArray 90)) w.heap.size 90 (Us a).toArray:=heap_alloc2_old w _ _;have h1 : Blk ((w.alloc (Obj.cells (Us a).toArray 90)).alloc (Obj.cells (Us b).toArray 90)) (w.heap.size + 1) 90 (Us b).toArray:=heap_alloc2_new w _ _;have hbel : Below w.heap.size w ((w.alloc (Obj.cells (Us a).toArray 90)).alloc (Obj.cells (Us b).toArray 90)):=((Below.refl _ _).alloc (Nat.le_refl _) _).alloc (by simp) _;clear ha hb
 go_enter Tryd.func80,Tryd.ntmps80
 go_wp2
 refine reg_q (by kernel_rfl) (tail_ok (by kernel_rfl)) (fun _ _ d _ _ h=>by cases d <;> exact h) ?_;refine b_el w.heap.size hza _ rfl rfl rfl (fun _ h=>h.blk h0) ?_; simp only [Act.put,List.setIfInBounds_toArray,List.set_cons_zero,List.set_cons_succ];refine b_one rfl own_whole (fun w1=>H1 w1) rfl rfl ?_; simp only [Act.put,List.setIfInBounds_toArray,List.set_cons_zero,List.set_cons_succ];refine b_el (w.heap.size + 1) hzb _ rfl rfl rfl (fun _ h=>h.blk h1) ?_; simp only [Act.put,List.setIfInBounds_toArray,List.set_cons_zero,List.set_cons_succ];refine b_one rfl own_whole (fun w1=>H2 w1) rfl rfl ?_; simp only [Act.put,List.setIfInBounds_toArray,List.set_cons_zero,List.set_cons_succ];refine b_eq (Us u).toArray (Us v).toArray rfl rfl rfl rfl (by kernel_rfl) hE ?_; simp only [Act.put,List.setIfInBounds_toArray,List.set_cons_zero,List.set_cons_succ];refine b_assign rfl rfl ?_; simp only [Act.put,List.setIfInBounds_toArray,List.set_cons_zero,List.set_cons_succ];refine wpB_nil ?_
 intro w1 hw1
 have hb2:=below_up hbel hw1
 go_wp2
 go_ret
 exact ⟨rfl,hb2⟩

theorem whole_odd {a : List Nat} {x : F} (ha : EB a x) : (whole a)[0]! % 2 = x.val % 2:=by
 obtain ⟨l1,_,v1⟩:=whole_all ha;obtain ⟨a0,a1,a2,a3,a4,h⟩:=five l1;rw [← v1,h,lv5]
 show a0 % 2 = _
 omega

set_option maxRecDepth 100000 in
set_option maxHeartbeats 1000000 in
theorem odd_f {a : List Nat} {x : F} (ha : EB a x) (w : World) :
  Calls Tryd.prog 60 #[.agg (Us a).toArray] w fun e w'=>e = .returned (.bool (decide (x.val % 2 = 1))) ∧ Below w.heap.size w w':=by
 have ho:=whole_odd ha;obtain ⟨l1,l2,_⟩:=whole_all ha;have H1:=fun w1=>Lib.hid (whole_f ha w1);rw [← ho];clear ho;obtain ⟨a0,a1,a2,a3,a4,h⟩:=five l1;rw [h] at H1 l2 ⊢;have ha0 : a0 < 2251799813685248:=l2 a0 (by simp);have e0 : (Us [a0,a1,a2,a3,a4]).toArray = #[.int .u64 (a0 : Int),.int .u64 (a1 : Int),.int .u64 (a2 : Int),.int .u64 (a3 : Int),.int .u64 (a4 : Int)]:=rfl;have e1 : [a0,a1,a2,a3,a4][0]! = a0:=rfl;rw [e1];rw [e0] at H1;have hza:=len_us ha.len;have h0:=Blk.new w 90 (Us a).toArray;have hbel : Below w.heap.size w (w.alloc (Obj.cells (Us a).toArray 90)):=(Below.refl _ _).alloc (Nat.le_refl _) _
 have hand : bits .and .u64 (a0 : Int) 1 = ((a0 % 2 : Nat) : Int):=by
  have h:=u64_and_nat a0 1 (by omega) (by omega);rw [nat_mask1] at h;exact h
 go_enter Tryd.func60,Tryd.ntmps60
 go_wp2_with (refine wpList_load_row rfl 90 _ rfl w.heap.size rfl 90 (Us a).toArray (0,0) _ h0 Tryd.underlying90 rfl (size_el _ hza) ?_)
 refine (H1 _).out.mono ?_
 rintro e w1 ⟨rfl,hw1⟩
 have hb2:=below_up hbel hw1
 have hfl : ∀ w1,(Instr.field 90 (.agg #[.int .u64 (a0 : Int),.int .u64 (a1 : Int),.int .u64 (a2 : Int),.int .u64 (a3 : Int),.int .u64 (a4 : Int)]) 0).run Tryd.prog w1 = .ok (.agg #[.int .u64 (a0 : Int),.int .u64 (a1 : Int),.int .u64 (a2 : Int),.int .u64 (a3 : Int),.int .u64 (a4 : Int)]) w1 :=
  fun w1=>run_field_el [a0,a1,a2,a3,a4] rfl w1
 have hix : ∀ w1,(Instr.index 88 (.agg #[.int .u64 (a0 : Int),.int .u64 (a1 : Int),.int .u64 (a2 : Int),.int .u64 (a3 : Int),.int .u64 (a4 : Int)]) (.int .i64 0)).run Tryd.prog w1 = .ok (.int .u64 (a0 : Int)) w1:=fun w1=>by kernel_rfl
 have hdec : (((a0 % 2 : Nat) : Int) == 1) = decide (a0 % 2 = 1):=by
  rw [Bool.eq_iff_iff]
  simp
  omega
 generalize ha2 : a0 % 2 = m at hand;rw [ha2] at hdec;have HD:=Lib.hid (show decide (m = 1) = decide (a0 % 2 = 1) by rw [ha2]);clear ha2
 go_wp2
 go_ret
 exact ⟨congrArg (fun q=>Ending.returned (Value.bool q)) HD.out,hb2⟩
end Go.Proofs.YtlcbhbahchiofaaDoor
/-
  THE FIELD'S NUMBERS: Root: the even root of a quotient, where there is one.
-/
namespace Go.Proofs.YtlcbhbahchiofaaDoor
open Go.RowKit Go.IntWalk Nums

theorem own_is : Own 80:=fun _ _=>by go_simp
theorem own_odd : Own 60:=fun _ _=>by go_simp
theorem own_inv3 : Own 67:=fun _ _=>by go_simp
theorem own_root3 : Own 56:=fun _ _=>by go_simp

theorem eb_zero : EB [0,0,0,0,0] 0:=EB.mk5 (by omega) (by omega) (by omega) (by omega) (by omega) fof_zero

def iml : List Nat:=[1718705420411056,234908883556509,2233514472574048,2117202627021982,765476049583133]
def imf : F:=fof (lv iml)
theorem eb_im : EB iml imf:=EB.mk5 (by omega) (by omega) (by omega) (by omega) (by omega) rfl
theorem imf_sq : imf * imf = -1:=by
 unfold imf
 rw [← fof_mul];have : fof (lv iml * lv iml) = fof (p - 1):=fof_eq (by decide +kernel);rw [this,fof_sub (by decide),fof_one,show fof p = 0 from fof_eq (a:=p) (b:=0) (by decide)];generalize (1 : F) = u
 grind only

theorem cand3 (u v : F) (c : F) (hc : fpow (u * (v * v * v) * (v * v * v) * v) (2 ^ 252 - 3) = c) :
  u * (v * v * v) * c * (u * (v * v * v) * c) * v = u * fpow (u * (v * v * v) * (v * v * v) * v) pq:=by
 have e : pq = (2 ^ 252 - 3) + (2 ^ 252 - 3) + 1:=by decide
 rw [e,fpow_succ,fpow_add,hc];generalize hs : u * (v * v * v) * (v * v * v) * v = s;subst hs
 grind only

theorem quarter {u v y : F} (hu : u ≠ 0) (h : v * y * y = u) :
  fpow (u * (v * v * v) * (v * v * v) * v) pq = 1 ∨ fpow (u * (v * v * v) * (v * v * v) * v) pq = -1:=by
 have hs : u * (v * v * v) * (v * v * v) * v = (v * v * v * v * y) * (v * v * v * v * y):=by
  rw [← h]
  grind only
 have hne : v * v * v * v * y ≠ 0:=by
  intro h0
  apply hu
  rw [← h]
  by_cases hv : v = 0
  ·rw [hv]
   grind only
  ·have hvv:=mul_ne prime_p (mul_ne prime_p (mul_ne prime_p hv hv) hv) hv
   rcases zero_or prime_p h0 with h1 | h1
   ·exact absurd h1 hvv
   ·rw [h1]
    grind only
 have h2:=euler_sq hne;rw [← pq_two,fpow_mul] at h2;rw [hs];generalize fpow (v * v * v * v * y * (v * v * v * v * y)) pq = t at *
 have h3 : t * t = 1 * 1:=by
  rw [show fpow t 2 = t * t from by rw [fpow_succ,fpow_one]] at h2;rw [h2]
  grind only
 exact root_or prime_p h3

theorem root_none {u v X : F} (hX : u * (v * v * v) * fpow (u * (v * v * v) * (v * v * v) * v) (2 ^ 252 - 3) = X) (h1 : ¬ X * X * v = u) (h2 : ¬ X * imf * (X * imf) * v = u) (y : F) : v * y * y ≠ u:=by
 intro h
 have hc:=cand3 u v _ rfl;rw [hX] at hc
 have hu : u ≠ 0:=by
  rintro rfl
  apply h1
  rw [hc]
  grind only
 rcases quarter hu h with h3 | h3
 ·apply h1
  rw [hc,h3]
  grind only
 ·apply h2
  rw [h3] at hc;have hi:=imf_sq;generalize imf = i at *;clear h h1 h2 hX h3 hu
  grind only

theorem root_even {u v X : F} (h : X * X * v = u) (ho : ¬ X.val % 2 = 1) : v * X * X = u ∧ X.val % 2 = 0:=by
 refine ⟨?_,by omega⟩;rw [← h]
 grind only
theorem root_odd {u v X : F} (h : X * X * v = u) (ho : X.val % 2 = 1) : v * (0 - X) * (0 - X) = u ∧ (0 - X).val % 2 = 0:=by
 have hne : X ≠ 0:=by
  rintro rfl
  revert ho
  decide
 have e : 0 - X = -X:=by grind only
 refine ⟨?_,?_⟩
 ·rw [← h]
  grind only
 ·rw [e,neg_odd hne]
  omega

theorem Tw.row {w : World} (h : Tw w) {g : Nat} (hg : 1 < g) (cs : Array Value) : Tw (w.setRow g cs) where
 cell:=fun i hi=>by
  have hf : (w.setRow g cs).heap[1]? = w.heap[1]?:=by
   rw [World.setRow];simp only [Array.getElem?_modify];rw [if_neg (by omega)]
  rw [World.cell?_of_block (w:=w) (a:=⟨1,i,none⟩) hf];exact h.cell i hi
 lt:=by rw [size_setRow]; exact h.lt

set_option maxRecDepth 100000 in
set_option maxHeartbeats 4000000 in
theorem elroot_f {a b : List Nat} {u v : F} (hA : EB a u) (hB : EB b v) (w : World) (hT0 : Tw w) :
  Calls Tryd.prog 56 #[.agg (Us a).toArray,.agg (Us b).toArray] w fun e w' =>
   ((∃ r x,EB r x ∧ v ≠ 0 ∧ (v * x * x = u ∧ x.val % 2 = 0) ∧ e = .returned (.tuple #[.agg (Us r).toArray,.bool true])) ∨ ((v = 0 ∨ ∀ x,v * x * x ≠ u) ∧ e = .returned (.tuple #[.agg z5,.bool false]))) ∧ Below w.heap.size w w':=by
 go_enter Tryd.func56,Tryd.ntmps56
 refine wp_seq_k fun K hK=>?_;refine wp_region_lit ?_;refine wpl_box (Us a).toArray rfl rfl rfl ?_;refine wpl_box (Us b).toArray rfl rfl rfl ?_;refine wpl_alloc (zs:=z5) rfl rfl (by kernel_rfl) ?_;refine wpl_assign rfl rfl ?_;refine wpl_nil ?_
 go_simp
 refine hK _ _ ?_;clear hK K
 refine wp_at (fun W=>Blk W w.heap.size 90 (Us a).toArray ∧ Blk W (w.heap.size + 1) 90 (Us b).toArray ∧ Blk W (w.heap.size + 1 + 1) 90 z5 ∧ Below w.heap.size w W)
  ⟨blk3_0 w _ _ _ _,blk3_1 w _ _ _ _,blk3_2 w _ _ _ _,(((Below.refl _ _).alloc (Nat.le_refl _) _).alloc (by simp) _).alloc (by simp; omega) _⟩ ?_
 rintro W ⟨hu,hb,ho,hbe⟩
 have hT:=hT0.below hbe
 -- walk root
 refine wp_seq_k fun K hK=>?_;refine wp_seq_k fun K2 hK2=>?_;refine reg_qF ?_;refine b_el (w.heap.size + 1) hB.len _ rfl rfl rfl (fun _ h=>h.blk hb) ?_;simp only [Act.put,List.setIfInBounds_toArray,List.set_cons_zero,List.set_cons_succ];refine b_build [] z5 rfl rfl rfl built_zero ?_;simp only [Act.put,List.setIfInBounds_toArray,List.set_cons_zero,List.set_cons_succ];refine b_one rfl own_is (fun w1=>is_f hB eb_zero w1) rfl rfl ?_;simp only [Act.put,List.setIfInBounds_toArray,List.set_cons_zero,List.set_cons_succ];refine wpB_nil ?_
 intro W1 hw1
 simp only [Exit.then];refine hK2 _ _ ?_;clear hK2 K2;have hu:=hw1.blk hu;have hb:=hw1.blk hb;have ho:=hw1.blk ho;have hT:=hT.below hw1;have hbe:=below_up hbe hw1;clear hw1
 by_cases hv : v = 0
 ·refine wp_cond (t:=true) (congrArg Value.bool (decide_eq_true hv)) ?_
  rw [if_pos rfl];refine wp_seq_k fun K3 hK3=>?_;refine wp_region_lit ?_;refine wpl_build [] z5 rfl rfl rfl built_zero ?_;simp only [Act.put,List.setIfInBounds_toArray,List.set_cons_zero,List.set_cons_succ];refine wpList_store_row rfl 90 _ _ rfl (w.heap.size + 1 + 1) rfl z5 rfl 90 _ ho (size_el _ rfl) rfl (Us_one _) ?_;refine wpl_assign rfl rfl ?_;refine wpl_nil ?_;simp only [Exit.then,Act.put,List.setIfInBounds_toArray,List.set_cons_zero,List.set_cons_succ];refine hK3 _ _ ?_;refine wp_ret ?_;simp only [Exit.then];refine bodyPost_ret (results_cell_tmp rfl _ _ (w.heap.size + 1 + 1) 90 z5 (0,0) _ (.bool false) rfl rfl (ho.row _) Tryd.underlying90 rfl (size_el _ rfl)) rfl ⟨.inr ⟨.inl hv,rfl⟩,?_⟩;exact below_setRow hbe (by omega) _
 ·refine wp_cond (t:=false) (congrArg Value.bool (decide_eq_false hv)) ?_
  rw [if_neg (by decide)];refine wp_skip ?_;simp only [Exit.then];refine hK _ _ ?_;clear hK K;refine wp_seq_k fun K hK=>?_;refine reg_var 5 6 90 (.tmp 16) z5 rfl rfl rfl rfl rfl rfl rfl (by kernel_rfl) (tail_ok (by kernel_rfl)) (by kernel_rfl) (fun _ _ d _ _ h=>by cases d <;> exact h) (exec_alloc rfl (by kernel_rfl)) ?_;simp only [List.take_succ_cons,List.take_zero];refine b_el (w.heap.size + 1) hB.len _ rfl rfl rfl (fun _ h=>h.blk hb) ?_;simp only [Act.put,List.setIfInBounds_toArray,List.set_cons_zero,List.set_cons_succ];refine b_el (w.heap.size + 1) hB.len _ rfl rfl rfl (fun _ h=>h.blk hb) ?_;simp only [Act.put,List.setIfInBounds_toArray,List.set_cons_zero,List.set_cons_succ];refine b_fe rfl own_elmul (fun w1 _=>elmul_f hB hB w1) rfl rfl ?_
  intro r1 v1
  simp only [Act.put,List.setIfInBounds_toArray,List.set_cons_zero,List.set_cons_succ];refine b_el (w.heap.size + 1) hB.len _ rfl rfl rfl (fun _ h=>h.blk hb) ?_;simp only [Act.put,List.setIfInBounds_toArray,List.set_cons_zero,List.set_cons_succ];refine b_fe rfl own_elmul (fun w1 _=>elmul_f v1 hB w1) rfl rfl ?_
  intro r2 v2
  simp only [Act.put,List.setIfInBounds_toArray,List.set_cons_zero,List.set_cons_succ];refine wpB_nil ⟨(Us r2).toArray,fun _=>rfl,fun _=>rfl,(len_us v2.len).symm,size_el _ (len_us v2.len),Us_one _,fun gthree W1 hgthree hw1 hbthree=>?_⟩;simp only [Exit.then,Act.put,List.setIfInBounds_toArray,List.set_cons_zero,List.set_cons_succ];refine hK _ _ ?_;clear hK K;have hu:=hw1.blk hu;have hb:=hw1.blk hb;have ho:=hw1.blk ho;have hT:=hT.below hw1;have hbe:=below_up hbe hw1;clear hw1;refine wp_seq_k fun K hK=>?_;refine reg_var 12 7 90 (.tmp 28) z5 rfl rfl rfl rfl rfl rfl rfl (by kernel_rfl) (tail_ok (by kernel_rfl)) (by kernel_rfl) (fun _ _ d _ _ h=>by cases d <;> exact h) (exec_alloc rfl (by kernel_rfl)) ?_;simp only [List.take_succ_cons,List.take_zero];refine b_el w.heap.size hA.len _ rfl rfl rfl (fun _ h=>h.blk hu) ?_;simp only [Act.put,List.setIfInBounds_toArray,List.set_cons_zero,List.set_cons_succ];refine b_el gthree v2.len _ rfl rfl rfl (fun _ h=>h.blk hbthree) ?_;simp only [Act.put,List.setIfInBounds_toArray,List.set_cons_zero,List.set_cons_succ];refine b_fe rfl own_elmul (fun w1 _=>elmul_f hA v2 w1) rfl rfl ?_
  intro r3 v3
  simp only [Act.put,List.setIfInBounds_toArray,List.set_cons_zero,List.set_cons_succ];refine b_el w.heap.size hA.len _ rfl rfl rfl (fun _ h=>h.blk hu) ?_;simp only [Act.put,List.setIfInBounds_toArray,List.set_cons_zero,List.set_cons_succ];refine b_el gthree v2.len _ rfl rfl rfl (fun _ h=>h.blk hbthree) ?_;simp only [Act.put,List.setIfInBounds_toArray,List.set_cons_zero,List.set_cons_succ];refine b_fe rfl own_elmul (fun w1 _=>elmul_f hA v2 w1) rfl rfl ?_
  intro r4 v4
  simp only [Act.put,List.setIfInBounds_toArray,List.set_cons_zero,List.set_cons_succ];refine b_el gthree v2.len _ rfl rfl rfl (fun _ h=>h.blk hbthree) ?_;simp only [Act.put,List.setIfInBounds_toArray,List.set_cons_zero,List.set_cons_succ];refine b_fe rfl own_elmul (fun w1 _=>elmul_f v4 v2 w1) rfl rfl ?_
  intro r5 v5
  simp only [Act.put,List.setIfInBounds_toArray,List.set_cons_zero,List.set_cons_succ];refine b_el (w.heap.size + 1) hB.len _ rfl rfl rfl (fun _ h=>h.blk hb) ?_;simp only [Act.put,List.setIfInBounds_toArray,List.set_cons_zero,List.set_cons_succ];refine b_fe rfl own_elmul (fun w1 _=>elmul_f v5 hB w1) rfl rfl ?_
  intro r6 v6
  simp only [Act.put,List.setIfInBounds_toArray,List.set_cons_zero,List.set_cons_succ];refine b_fe rfl own_eighth (fun w1 _=>eighth_f v6 w1) rfl rfl ?_
  intro r7 v7
  simp only [Act.put,List.setIfInBounds_toArray,List.set_cons_zero,List.set_cons_succ];refine b_fe rfl own_elmul (fun w1 _=>elmul_f v3 v7 w1) rfl rfl ?_
  intro r8 v8
  simp only [Act.put,List.setIfInBounds_toArray,List.set_cons_zero,List.set_cons_succ];refine wpB_nil ⟨(Us r8).toArray,fun _=>rfl,fun _=>rfl,(len_us v8.len).symm,size_el _ (len_us v8.len),Us_one _,fun gx W1 hgx hw1 hbx=>?_⟩;simp only [Exit.then,Act.put,List.setIfInBounds_toArray,List.set_cons_zero,List.set_cons_succ];refine hK _ _ ?_;clear hK K;have ne_u:=Nat.ne_of_lt (Nat.lt_of_lt_of_le (hu).lt hgx);have ne_v:=Nat.ne_of_lt (Nat.lt_of_lt_of_le (hb).lt hgx);have ne_three:=Nat.ne_of_lt (Nat.lt_of_lt_of_le (hbthree).lt hgx);have ne_o:=Nat.ne_of_lt (Nat.lt_of_lt_of_le ho.lt hgx);have hb0:=Nat.le_trans hbe.size hgx;have hb1:=Nat.lt_of_lt_of_le hT.lt hgx;have hu:=hw1.blk hu;have hb:=hw1.blk hb;have hbthree:=hw1.blk hbthree;have ho:=hw1.blk ho;have hT:=hT.below hw1;have hbe:=below_up hbe hw1;clear hw1;generalize hX : u * (v * v * v) * fpow (u * (v * v * v) * (v * v * v) * v) (2 ^ 252 - 3) = X at v8;refine wp_seq_k fun K hK=>?_;refine wp_seq_k fun K2 hK2=>?_;refine reg_q (by kernel_rfl) (tail_ok (by kernel_rfl)) (fun _ _ d _ _ h=>by cases d <;> exact h) ?_;refine b_el gx v8.len _ rfl rfl rfl (fun _ h=>h.blk hbx) ?_;simp only [Act.put,List.setIfInBounds_toArray,List.set_cons_zero,List.set_cons_succ];refine b_el gx v8.len _ rfl rfl rfl (fun _ h=>h.blk hbx) ?_;simp only [Act.put,List.setIfInBounds_toArray,List.set_cons_zero,List.set_cons_succ];refine b_fe rfl own_elmul (fun w1 _=>elmul_f v8 v8 w1) rfl rfl ?_
  intro r9 v9
  simp only [Act.put,List.setIfInBounds_toArray,List.set_cons_zero,List.set_cons_succ];refine b_el (w.heap.size + 1) hB.len _ rfl rfl rfl (fun _ h=>h.blk hb) ?_;simp only [Act.put,List.setIfInBounds_toArray,List.set_cons_zero,List.set_cons_succ];refine b_fe rfl own_elmul (fun w1 _=>elmul_f v9 hB w1) rfl rfl ?_
  intro r10 v10
  simp only [Act.put,List.setIfInBounds_toArray,List.set_cons_zero,List.set_cons_succ];refine b_el w.heap.size hA.len _ rfl rfl rfl (fun _ h=>h.blk hu) ?_;simp only [Act.put,List.setIfInBounds_toArray,List.set_cons_zero,List.set_cons_succ];refine b_one rfl own_is (fun w1=>is_f v10 hA w1) rfl rfl ?_;simp only [Act.put,List.setIfInBounds_toArray,List.set_cons_zero,List.set_cons_succ];refine b_not _ rfl rfl rfl ?_;simp only [Act.put,List.setIfInBounds_toArray,List.set_cons_zero,List.set_cons_succ];refine wpB_nil ?_
  intro W1 hw1
  simp only [Exit.then];refine hK2 _ _ ?_;clear hK2 K2;have hu:=hw1.blk hu;have hb:=hw1.blk hb;have hbthree:=hw1.blk hbthree;have hbx:=hw1.blk hbx;have ho:=hw1.blk ho;have hT:=hT.below hw1;have hbe:=below_up hbe hw1;clear hw1
  by_cases h1 : X * X * v = u
  ·refine wp_cond (t:=false) (congrArg Value.bool (by rw [decide_eq_true h1]; rfl)) ?_
   rw [if_neg (by decide)];refine wp_skip ?_;simp only [Exit.then];refine hK _ _ ?_;clear hK K;refine wp_seq_k fun K hK=>?_;refine wp_seq_k fun K2 hK2=>?_;refine reg_q (by kernel_rfl) (tail_ok (by kernel_rfl)) (fun _ _ d _ _ h=>by cases d <;> exact h) ?_;refine b_el gx v8.len _ rfl rfl rfl (fun _ h=>h.blk hbx) ?_;simp only [Act.put,List.setIfInBounds_toArray,List.set_cons_zero,List.set_cons_succ];refine b_el gx v8.len _ rfl rfl rfl (fun _ h=>h.blk hbx) ?_;simp only [Act.put,List.setIfInBounds_toArray,List.set_cons_zero,List.set_cons_succ];refine b_fe rfl own_elmul (fun w1 _=>elmul_f v8 v8 w1) rfl rfl ?_
   intro r11 v11
   simp only [Act.put,List.setIfInBounds_toArray,List.set_cons_zero,List.set_cons_succ];refine b_el (w.heap.size + 1) hB.len _ rfl rfl rfl (fun _ h=>h.blk hb) ?_;simp only [Act.put,List.setIfInBounds_toArray,List.set_cons_zero,List.set_cons_succ];refine b_fe rfl own_elmul (fun w1 _=>elmul_f v11 hB w1) rfl rfl ?_
   intro r12 v12
   simp only [Act.put,List.setIfInBounds_toArray,List.set_cons_zero,List.set_cons_succ];refine b_el w.heap.size hA.len _ rfl rfl rfl (fun _ h=>h.blk hu) ?_;simp only [Act.put,List.setIfInBounds_toArray,List.set_cons_zero,List.set_cons_succ];refine b_one rfl own_is (fun w1=>is_f v12 hA w1) rfl rfl ?_;simp only [Act.put,List.setIfInBounds_toArray,List.set_cons_zero,List.set_cons_succ];refine b_not _ rfl rfl rfl ?_;simp only [Act.put,List.setIfInBounds_toArray,List.set_cons_zero,List.set_cons_succ];refine wpB_nil ?_
   intro W1 hw1
   simp only [Exit.then];refine hK2 _ _ ?_;clear hK2 K2;have hu:=hw1.blk hu;have hb:=hw1.blk hb;have hbthree:=hw1.blk hbthree;have hbx:=hw1.blk hbx;have ho:=hw1.blk ho;have hT:=hT.below hw1;have hbe:=below_up hbe hw1;clear hw1;refine wp_cond (t:=false) (congrArg Value.bool (by rw [decide_eq_true h1]; rfl)) ?_;rw [if_neg (by decide)];refine wp_skip ?_;simp only [Exit.then];refine hK _ _ ?_;clear hK K;refine wp_seq_k fun K hK=>?_;refine wp_seq_k fun K2 hK2=>?_;refine reg_qF ?_;refine b_el gx v8.len _ rfl rfl rfl (fun _ h=>h.blk hbx) ?_;simp only [Act.put,List.setIfInBounds_toArray,List.set_cons_zero,List.set_cons_succ];refine b_one rfl own_odd (fun w1=>odd_f v8 w1) rfl rfl ?_;simp only [Act.put,List.setIfInBounds_toArray,List.set_cons_zero,List.set_cons_succ];refine wpB_nil ?_
   intro W1 hw1
   simp only [Exit.then];refine hK2 _ _ ?_;clear hK2 K2;have hu:=hw1.blk hu;have hb:=hw1.blk hb;have hbthree:=hw1.blk hbthree;have hbx:=hw1.blk hbx;have ho:=hw1.blk ho;have hT:=hT.below hw1;have hbe:=below_up hbe hw1;clear hw1
   by_cases ho2 : (X).val % 2 = 1
   ·refine wp_cond (t:=true) (congrArg Value.bool (decide_eq_true ho2)) ?_
    rw [if_pos rfl];refine reg_setF 3 (.tmp 7) 90 (.tmp 54) rfl rfl rfl rfl ?_;simp only [List.take_succ_cons,List.take_zero];refine b_build [] z5 rfl rfl rfl built_zero ?_;simp only [Act.put,List.setIfInBounds_toArray,List.set_cons_zero,List.set_cons_succ];refine b_el gx v8.len _ rfl rfl rfl (fun _ h=>h.blk hbx) ?_;simp only [Act.put,List.setIfInBounds_toArray,List.set_cons_zero,List.set_cons_succ];refine b_fe rfl own_elsub (fun w1 hw=>elsub_f eb_zero v8 w1 (hT.below hw)) rfl rfl ?_
    intro r13 v13
    simp only [Act.put,List.setIfInBounds_toArray,List.set_cons_zero,List.set_cons_succ];refine wpB_nil ⟨gx,_,_,rfl,rfl,hbx,(len_us v8.len).trans (len_us v13.len).symm,size_el _ (len_us v13.len),Us_one _,fun W1 hw1=>?_⟩;simp only [Exit.then];refine hK _ _ ?_;clear hK K;have hu:=(hw1.blk hu).rowFar ne_u (g':=gx) (Us r13).toArray;have hb:=(hw1.blk hb).rowFar ne_v (g':=gx) (Us r13).toArray;have hbthree:=(hw1.blk hbthree).rowFar ne_three (g':=gx) (Us r13).toArray;have ho:=(hw1.blk ho).rowFar ne_o (g':=gx) (Us r13).toArray;have hbx:=(hw1.blk hbx).row (Us r13).toArray;have hT:=(hT.below hw1).row hb1 (g:=gx) (Us r13).toArray;have hbe:=below_setRow (below_up hbe hw1) hb0 (Us r13).toArray;clear hw1;generalize World.setRow _ gx (Us r13).toArray = W2 at *;refine wp_seq_k fun K hK=>?_;refine wp_region_lit ?_;refine wpList_load_row rfl 90 _ rfl gx rfl 90 (Us r13).toArray (0,0) _ hbx Tryd.underlying90 rfl (size_el _ (len_us v13.len)) ?_;simp only [Act.put,List.setIfInBounds_toArray,List.set_cons_zero,List.set_cons_succ];refine wpList_store_row rfl 90 _ _ rfl (w.heap.size + 1 + 1) rfl (Us r13).toArray rfl 90 _ ho (size_el _ (len_us v13.len)) (len_us v13.len).symm (Us_one _) ?_;refine wpl_assign rfl rfl ?_;refine wpl_nil ?_;simp only [Exit.then,Act.put,List.setIfInBounds_toArray,List.set_cons_zero,List.set_cons_succ];refine hK _ _ ?_;clear hK K;refine wp_ret ?_;refine bodyPost_ret (results_cell_tmp rfl _ _ (w.heap.size + 1 + 1) 90 (Us r13).toArray (0,0) _ (.bool true) rfl rfl (ho.row _) Tryd.underlying90 rfl (size_el _ (len_us v13.len))) rfl ⟨.inl ⟨r13,_,v13,hv,root_odd h1 ho2,rfl⟩,?_⟩;exact below_setRow hbe (by omega) _
   ·refine wp_cond (t:=false) (congrArg Value.bool (decide_eq_false ho2)) ?_
    rw [if_neg (by decide)];refine wp_skip ?_;simp only [Exit.then];refine hK _ _ ?_;clear hK K;refine wp_seq_k fun K hK=>?_;refine wp_region_lit ?_;refine wpList_load_row rfl 90 _ rfl gx rfl 90 (Us r8).toArray (0,0) _ hbx Tryd.underlying90 rfl (size_el _ (len_us v8.len)) ?_;simp only [Act.put,List.setIfInBounds_toArray,List.set_cons_zero,List.set_cons_succ];refine wpList_store_row rfl 90 _ _ rfl (w.heap.size + 1 + 1) rfl (Us r8).toArray rfl 90 _ ho (size_el _ (len_us v8.len)) (len_us v8.len).symm (Us_one _) ?_;refine wpl_assign rfl rfl ?_;refine wpl_nil ?_;simp only [Exit.then,Act.put,List.setIfInBounds_toArray,List.set_cons_zero,List.set_cons_succ];refine hK _ _ ?_;clear hK K;refine wp_ret ?_;refine bodyPost_ret (results_cell_tmp rfl _ _ (w.heap.size + 1 + 1) 90 (Us r8).toArray (0,0) _ (.bool true) rfl rfl (ho.row _) Tryd.underlying90 rfl (size_el _ (len_us v8.len))) rfl ⟨.inl ⟨r8,_,v8,hv,root_even h1 ho2,rfl⟩,?_⟩;exact below_setRow hbe (by omega) _
  ·refine wp_cond (t:=true) (congrArg Value.bool (by rw [decide_eq_false h1]; rfl)) ?_
   rw [if_pos rfl];refine reg_setF 4 (.tmp 7) 90 (.tmp 40) rfl rfl rfl rfl ?_;simp only [List.take_succ_cons,List.take_zero];refine b_el gx v8.len _ rfl rfl rfl (fun _ h=>h.blk hbx) ?_;simp only [Act.put,List.setIfInBounds_toArray,List.set_cons_zero,List.set_cons_succ];refine b_build _ _ rfl rfl rfl (built_u5 _ _ _ _ _) ?_;simp only [Act.put,List.setIfInBounds_toArray,List.set_cons_zero,List.set_cons_succ];refine b_build _ _ rfl rfl rfl (built_el _ _ _ _ _) ?_;simp only [Act.put,List.setIfInBounds_toArray,List.set_cons_zero,List.set_cons_succ];refine b_fe rfl own_elmul (fun w1 _=>elmul_f v8 eb_im w1) rfl rfl ?_
   intro r11 v11
   simp only [Act.put,List.setIfInBounds_toArray,List.set_cons_zero,List.set_cons_succ];refine wpB_nil ⟨gx,_,_,rfl,rfl,hbx,(len_us v8.len).trans (len_us v11.len).symm,size_el _ (len_us v11.len),Us_one _,fun W1 hw1=>?_⟩;simp only [Exit.then];refine hK _ _ ?_;clear hK K;have hu:=(hw1.blk hu).rowFar ne_u (g':=gx) (Us r11).toArray;have hb:=(hw1.blk hb).rowFar ne_v (g':=gx) (Us r11).toArray;have hbthree:=(hw1.blk hbthree).rowFar ne_three (g':=gx) (Us r11).toArray;have ho:=(hw1.blk ho).rowFar ne_o (g':=gx) (Us r11).toArray;have hbx:=(hw1.blk hbx).row (Us r11).toArray;have hT:=(hT.below hw1).row hb1 (g:=gx) (Us r11).toArray;have hbe:=below_setRow (below_up hbe hw1) hb0 (Us r11).toArray;clear hw1;generalize World.setRow _ gx (Us r11).toArray = W2 at *;refine wp_seq_k fun K hK=>?_;refine wp_seq_k fun K2 hK2=>?_;refine reg_q (by kernel_rfl) (tail_ok (by kernel_rfl)) (fun _ _ d _ _ h=>by cases d <;> exact h) ?_;refine b_el gx v11.len _ rfl rfl rfl (fun _ h=>h.blk hbx) ?_;simp only [Act.put,List.setIfInBounds_toArray,List.set_cons_zero,List.set_cons_succ];refine b_el gx v11.len _ rfl rfl rfl (fun _ h=>h.blk hbx) ?_;simp only [Act.put,List.setIfInBounds_toArray,List.set_cons_zero,List.set_cons_succ];refine b_fe rfl own_elmul (fun w1 _=>elmul_f v11 v11 w1) rfl rfl ?_
   intro r12 v12
   simp only [Act.put,List.setIfInBounds_toArray,List.set_cons_zero,List.set_cons_succ];refine b_el (w.heap.size + 1) hB.len _ rfl rfl rfl (fun _ h=>h.blk hb) ?_;simp only [Act.put,List.setIfInBounds_toArray,List.set_cons_zero,List.set_cons_succ];refine b_fe rfl own_elmul (fun w1 _=>elmul_f v12 hB w1) rfl rfl ?_
   intro r13 v13
   simp only [Act.put,List.setIfInBounds_toArray,List.set_cons_zero,List.set_cons_succ];refine b_el w.heap.size hA.len _ rfl rfl rfl (fun _ h=>h.blk hu) ?_;simp only [Act.put,List.setIfInBounds_toArray,List.set_cons_zero,List.set_cons_succ];refine b_one rfl own_is (fun w1=>is_f v13 hA w1) rfl rfl ?_;simp only [Act.put,List.setIfInBounds_toArray,List.set_cons_zero,List.set_cons_succ];refine b_not _ rfl rfl rfl ?_;simp only [Act.put,List.setIfInBounds_toArray,List.set_cons_zero,List.set_cons_succ];refine wpB_nil ?_
   intro W1 hw1
   simp only [Exit.then];refine hK2 _ _ ?_;clear hK2 K2;have hu:=hw1.blk hu;have hb:=hw1.blk hb;have hbthree:=hw1.blk hbthree;have hbx:=hw1.blk hbx;have ho:=hw1.blk ho;have hT:=hT.below hw1;have hbe:=below_up hbe hw1;clear hw1
   by_cases h2 : (X * imf) * ((X * imf)) * v = u
   ·refine wp_cond (t:=false) (congrArg Value.bool (by rw [decide_eq_true h2]; rfl)) ?_
    rw [if_neg (by decide)];refine wp_skip ?_;simp only [Exit.then];refine hK _ _ ?_;clear hK K;refine wp_seq_k fun K hK=>?_;refine wp_seq_k fun K2 hK2=>?_;refine reg_qF ?_;refine b_el gx v11.len _ rfl rfl rfl (fun _ h=>h.blk hbx) ?_;simp only [Act.put,List.setIfInBounds_toArray,List.set_cons_zero,List.set_cons_succ];refine b_one rfl own_odd (fun w1=>odd_f v11 w1) rfl rfl ?_;simp only [Act.put,List.setIfInBounds_toArray,List.set_cons_zero,List.set_cons_succ];refine wpB_nil ?_
    intro W1 hw1
    simp only [Exit.then];refine hK2 _ _ ?_;clear hK2 K2;have hu:=hw1.blk hu;have hb:=hw1.blk hb;have hbthree:=hw1.blk hbthree;have hbx:=hw1.blk hbx;have ho:=hw1.blk ho;have hT:=hT.below hw1;have hbe:=below_up hbe hw1;clear hw1
    by_cases ho2 : ((X * imf)).val % 2 = 1
    ·refine wp_cond (t:=true) (congrArg Value.bool (decide_eq_true ho2)) ?_
     rw [if_pos rfl];refine reg_setF 3 (.tmp 7) 90 (.tmp 54) rfl rfl rfl rfl ?_;simp only [List.take_succ_cons,List.take_zero];refine b_build [] z5 rfl rfl rfl built_zero ?_;simp only [Act.put,List.setIfInBounds_toArray,List.set_cons_zero,List.set_cons_succ];refine b_el gx v11.len _ rfl rfl rfl (fun _ h=>h.blk hbx) ?_;simp only [Act.put,List.setIfInBounds_toArray,List.set_cons_zero,List.set_cons_succ];refine b_fe rfl own_elsub (fun w1 hw=>elsub_f eb_zero v11 w1 (hT.below hw)) rfl rfl ?_
     intro r14 v14
     simp only [Act.put,List.setIfInBounds_toArray,List.set_cons_zero,List.set_cons_succ];refine wpB_nil ⟨gx,_,_,rfl,rfl,hbx,(len_us v11.len).trans (len_us v14.len).symm,size_el _ (len_us v14.len),Us_one _,fun W1 hw1=>?_⟩;simp only [Exit.then];refine hK _ _ ?_;clear hK K;have hu:=(hw1.blk hu).rowFar ne_u (g':=gx) (Us r14).toArray;have hb:=(hw1.blk hb).rowFar ne_v (g':=gx) (Us r14).toArray;have hbthree:=(hw1.blk hbthree).rowFar ne_three (g':=gx) (Us r14).toArray;have ho:=(hw1.blk ho).rowFar ne_o (g':=gx) (Us r14).toArray;have hbx:=(hw1.blk hbx).row (Us r14).toArray;have hT:=(hT.below hw1).row hb1 (g:=gx) (Us r14).toArray;have hbe:=below_setRow (below_up hbe hw1) hb0 (Us r14).toArray;clear hw1;generalize World.setRow _ gx (Us r14).toArray = W2 at *;refine wp_seq_k fun K hK=>?_;refine wp_region_lit ?_;refine wpList_load_row rfl 90 _ rfl gx rfl 90 (Us r14).toArray (0,0) _ hbx Tryd.underlying90 rfl (size_el _ (len_us v14.len)) ?_;simp only [Act.put,List.setIfInBounds_toArray,List.set_cons_zero,List.set_cons_succ];refine wpList_store_row rfl 90 _ _ rfl (w.heap.size + 1 + 1) rfl (Us r14).toArray rfl 90 _ ho (size_el _ (len_us v14.len)) (len_us v14.len).symm (Us_one _) ?_;refine wpl_assign rfl rfl ?_;refine wpl_nil ?_;simp only [Exit.then,Act.put,List.setIfInBounds_toArray,List.set_cons_zero,List.set_cons_succ];refine hK _ _ ?_;clear hK K;refine wp_ret ?_;refine bodyPost_ret (results_cell_tmp rfl _ _ (w.heap.size + 1 + 1) 90 (Us r14).toArray (0,0) _ (.bool true) rfl rfl (ho.row _) Tryd.underlying90 rfl (size_el _ (len_us v14.len))) rfl ⟨.inl ⟨r14,_,v14,hv,root_odd h2 ho2,rfl⟩,?_⟩;exact below_setRow hbe (by omega) _
    ·refine wp_cond (t:=false) (congrArg Value.bool (decide_eq_false ho2)) ?_
     rw [if_neg (by decide)];refine wp_skip ?_;simp only [Exit.then];refine hK _ _ ?_;clear hK K;refine wp_seq_k fun K hK=>?_;refine wp_region_lit ?_;refine wpList_load_row rfl 90 _ rfl gx rfl 90 (Us r11).toArray (0,0) _ hbx Tryd.underlying90 rfl (size_el _ (len_us v11.len)) ?_;simp only [Act.put,List.setIfInBounds_toArray,List.set_cons_zero,List.set_cons_succ];refine wpList_store_row rfl 90 _ _ rfl (w.heap.size + 1 + 1) rfl (Us r11).toArray rfl 90 _ ho (size_el _ (len_us v11.len)) (len_us v11.len).symm (Us_one _) ?_;refine wpl_assign rfl rfl ?_;refine wpl_nil ?_;simp only [Exit.then,Act.put,List.setIfInBounds_toArray,List.set_cons_zero,List.set_cons_succ];refine hK _ _ ?_;clear hK K;refine wp_ret ?_;refine bodyPost_ret (results_cell_tmp rfl _ _ (w.heap.size + 1 + 1) 90 (Us r11).toArray (0,0) _ (.bool true) rfl rfl (ho.row _) Tryd.underlying90 rfl (size_el _ (len_us v11.len))) rfl ⟨.inl ⟨r11,_,v11,hv,root_even h2 ho2,rfl⟩,?_⟩;exact below_setRow hbe (by omega) _
   ·refine wp_cond (t:=true) (congrArg Value.bool (by rw [decide_eq_false h2]; rfl)) ?_
    rw [if_pos rfl];refine wp_seq_k fun K3 hK3=>?_;refine wp_region_lit ?_;refine wpl_build [] z5 rfl rfl rfl built_zero ?_;simp only [Act.put,List.setIfInBounds_toArray,List.set_cons_zero,List.set_cons_succ];refine wpList_store_row rfl 90 _ _ rfl (w.heap.size + 1 + 1) rfl z5 rfl 90 _ ho (size_el _ rfl) rfl (Us_one _) ?_;refine wpl_assign rfl rfl ?_;refine wpl_nil ?_;simp only [Exit.then,Act.put,List.setIfInBounds_toArray,List.set_cons_zero,List.set_cons_succ];refine hK3 _ _ ?_;refine wp_ret ?_;simp only [Exit.then];refine bodyPost_ret (results_cell_tmp rfl _ _ (w.heap.size + 1 + 1) 90 z5 (0,0) _ (.bool false) rfl rfl (ho.row _) Tryd.underlying90 rfl (size_el _ rfl)) rfl ⟨.inr ⟨.inr fun x=>root_none hX h1 h2 x,rfl⟩,?_⟩;exact below_setRow hbe (by omega) _
 -- end root
end Go.Proofs.YtlcbhbahchiofaaDoor
/-
  PLAIN NUMBERS: the program's formulas for sums and doublings of points; points that are small. No program is imported.
-/
namespace Nums
namespace Ed
section
variable {n : Nat} [NeZero n] {d : Fin n}

theorem Rep.t_eq (hn : Prime n) {x y z t : Fin n} {P : Pt n} (r : Rep x y z P) (ht : t * z = x * y) : t = P.x * P.y * z:=by
 refine cancel hn r.z ?_;rw [ht,r.x,r.y]
 grind only

theorem plus_e (px py qx qy z1 z2 : Fin n) : (py * z1 + px * z1) * (qy * z2 + qx * z2) - (py * z1 - px * z1) * (qy * z2 - qx * z2) = (px * qy + py * qx) * (2 * (z1 * z2)):=by grind only
theorem plus_h (px py qx qy z1 z2 : Fin n) : (py * z1 + px * z1) * (qy * z2 + qx * z2) + (py * z1 - px * z1) * (qy * z2 - qx * z2) = (py * qy + px * qx) * (2 * (z1 * z2)):=by grind only
theorem plus_t (px py qx qy z1 z2 d : Fin n) : px * py * z1 * ((qx * qy * z2 + qx * qy * z2) * d) = d * px * qx * py * qy * (2 * (z1 * z2)):=by grind only
theorem plus_z (z1 z2 : Fin n) : z1 * (z2 + z2) = 2 * (z1 * z2):=by grind only
theorem fac_p (k u : Fin n) : u + k * u = (1 + k) * u:=by grind only
theorem fac_m (k u : Fin n) : u - k * u = (1 - k) * u:=by grind only
theorem Rep.efgh (g : Good n d) {P Q : Pt n} (hP : On d P) (hQ : On d Q) {e f gg h u : Fin n} (hu : u ≠ 0) (he : e = (P.x * Q.y + P.y * Q.x) * u) (hf : f = (1 - kk d P Q) * u) (hg : gg = (1 + kk d P Q) * u) (hh : h = (P.y * Q.y + P.x * Q.x) * u) :
  Rep (e * f) (gg * h) (f * gg) (Ed.add d P Q):=by
 have hx:=add_x g hP hQ;have hy:=add_y g hP hQ;have n1:=plus_ne g hP hQ;have n2:=minus_ne g hP hQ;subst he hf hg hh;refine ⟨mul_ne g.pr (mul_ne g.pr n2 hu) (mul_ne g.pr n1 hu),?_,?_⟩
 ·rw [← hx]
  grind only
 ·rw [← hy]
  grind only

theorem Rep.plus (g : Good n d) {P Q : Pt n} (hP : On d P) (hQ : On d Q) {x1 y1 z1 t1 x2 y2 z2 t2 : Fin n} (r : Rep x1 y1 z1 P) (h1 : t1 * z1 = x1 * y1) (s : Rep x2 y2 z2 Q) (h2 : t2 * z2 = x2 * y2) {un li z t e f gg h : Fin n}
  (hun : un = (y1 - x1) * (y2 - x2)) (hli : li = (y1 + x1) * (y2 + x2)) (hz : z = z1 * (z2 + z2)) (ht : t = t1 * ((t2 + t2) * d)) (he : e = li - un) (hf : f = z - t) (hg : gg = z + t) (hh : h = li + un) :
  Rep (e * f) (gg * h) (f * gg) (Ed.add d P Q) ∧ e * h * (f * gg) = e * f * (gg * h):=by
 have e1:=r.t_eq g.pr h1;have e2:=s.t_eq g.pr h2;have hu : (2 : Fin n) * (z1 * z2) ≠ 0:=mul_ne g.pr g.two (mul_ne g.pr r.z s.z);refine ⟨Rep.efgh g hP hQ hu ?_ ?_ ?_ ?_,by grind only⟩
 ·rw [he,hli,hun,r.x,r.y,s.x,s.y,plus_e]
 ·rw [hf,hz,ht,e1,e2,plus_t,plus_z,← fac_m]
  rfl
 ·rw [hg,hz,ht,e1,e2,plus_t,plus_z,← fac_p]
  rfl
 ·rw [hh,hli,hun,r.x,r.y,s.x,s.y,plus_h]

theorem dbl_e (px py z : Fin n) : px * z * (py * z) + px * z * (py * z) = (px * py + py * px) * (z * z):=by grind only
theorem dbl_g (px py z : Fin n) : py * z * (py * z) - px * z * (px * z) = (py * py - px * px) * (z * z):=by grind only
theorem dbl_h (px py z : Fin n) : py * z * (py * z) + px * z * (px * z) = (py * py + px * px) * (z * z):=by grind only
theorem dbl_f (k u : Fin n) : u + u - (1 + k) * u = (1 - k) * u:=by grind only
theorem on_kk {P : Pt n} (hP : On d P) : P.y * P.y - P.x * P.x = 1 + kk d P P:=by
 have h : P.y*P.y - P.x*P.x = 1 + d*P.x*P.x*P.y*P.y:=hP;rw [h]
 rfl
theorem Rep.dbl (g : Good n d) {P : Pt n} (hP : On d P) {x y z : Fin n} (r : Rep x y z P) {xx yy zz xy e gg h f : Fin n} (hxx : xx = x * x) (hyy : yy = y * y) (hzz : zz = z * z) (hxy : xy = x * y)
  (he : e = xy + xy) (hg : gg = yy - xx) (hh : h = yy + xx) (hf : f = zz + zz - gg) : Rep (e * f) (gg * h) (f * gg) (Ed.add d P P) ∧ e * h * (f * gg) = e * f * (gg * h):=by
 have hu : z * z ≠ 0:=mul_ne g.pr r.z r.z
 have hgg : gg = (1 + kk d P P) * (z * z):=by rw [hg,hyy,hxx,r.x,r.y,dbl_g,on_kk hP]
 refine ⟨Rep.efgh g hP hP hu ?_ ?_ hgg ?_,by grind only⟩
 ·rw [he,hxy,r.x,r.y,dbl_e]
 ·rw [hf,hzz,hgg,dbl_f]
 ·rw [hh,hyy,hxx,r.x,r.y,dbl_h]

theorem Rep.one (hn : Prime n) (x y : Fin n) : Rep x y 1 ⟨x,y⟩:=⟨fun h=>ne_one hn h.symm,by show x = x * 1; grind only,by show y = y * 1; grind only⟩
theorem y_one (g : Good n d) {P : Pt n} (hP : On d P) (hy : P.y = 1) : P = zero:=by
 have h : P.y*P.y - P.x*P.x = 1 + d*P.x*P.x*P.y*P.y:=hP;rw [hy] at h
 have h2 : P.x * P.x * (d + 1) = 0:=by grind only
 have hd : d + 1 ≠ 0:=fun h0=>by
  obtain ⟨i,hi⟩:=g.i;refine g.d i ?_;rw [hi]
  grind only
 have hx : P.x = 0:=by
  by_cases hx : P.x = 0
  ·exact hx
  ·exact absurd h2 (mul_ne g.pr (mul_ne g.pr hx hx) hd)
 cases P
 simp only at hx hy;rw [hx,hy]
 rfl
theorem Rep.y_iff (g : Good n d) {P : Pt n} (hP : On d P) {x y z : Fin n} (r : Rep x y z P) : y = z ↔ P = Ed.zero:=by
 constructor
 ·intro h
  refine y_one g hP (cancel g.pr r.z ?_);rw [← r.y,h]
  grind only
 ·rintro rfl
  rw [r.y]
  show 1 * z = z
  grind only
end
end Ed
end Nums
