/-
  SEVERAL TEXTS IN ONE: PAdd, PSmall, PBytes, Same, PRoot, PMul, PDecode, CpH.
-/
import Derived.Test.YtminmeljonbogaaDoorMi
import Derived.Test.YtminmeljonbogaaDoorMf
import Derived.Test.YtminmeljonbogaaDoorMh
import Derived.Test.YtminmeljonbogaaDoorMa
/-
  THE DOCUMENT'S OWN POINTS: Add.
-/
namespace Go.Proofs.YtminmeljonbogaaDoor
open Go.RowKit Go.IntWalk Nums

set_option maxRecDepth 100000 in
set_option maxHeartbeats 2000000 in
theorem padd_f {D X1 Y1 Z1 T1 X2 Y2 Z2 T2 : List Int} {A B : Ed.Pt p} (hD : NB 65573 D dd) (h1 : PR X1 Y1 Z1 T1 A) (h2 : PR X2 Y2 Z2 T2 B) (w : World) :
  Calls Tryd.prog 51 #[.agg (Is D).toArray,.agg (pt X1 Y1 Z1 T1).toArray,.agg (pt X2 Y2 Z2 T2).toArray] w fun e w' =>
   ∃ X Y Z T,PR X Y Z T (Ed.add dd A B) ∧ e = .returned (.agg (pt X Y Z T).toArray) ∧ Below w.heap.size w w':=by
 obtain ⟨⟨x1,y1,z1,nx1,ny1,nz1,r1⟩,o1,t1⟩:=h1;obtain ⟨⟨x2,y2,z2,nx2,ny2,nz2,r2⟩,o2,t2⟩:=h2;have HR:=Lib.hid (Ed.Rep.add good o1 o2 r1 r2 rfl rfl);have HO:=Lib.hid (Ed.on_add good o1 o2);clear r1 r2
 go_enter Tryd.func51,Tryd.ntmps51
 refine wp_seq_k fun K hK=>?_;refine wp_region_lit ?_;refine wpl_box (Is D).toArray rfl rfl rfl ?_;refine wpl_box (pt X1 Y1 Z1 T1).toArray rfl rfl rfl ?_;refine wpl_box (pt X2 Y2 Z2 T2).toArray rfl rfl rfl ?_;refine wpl_alloc (zs:=(pt n16 n16 n16 n16).toArray) rfl rfl (by kernel_rfl) ?_;refine wpl_nil ?_
 go_simp
 refine hK _ _ ?_;clear hK K
 refine wp_at (fun W=>Blk W w.heap.size 29 (Is D).toArray ∧ Blk W (w.heap.size + 1) 69 (pt X1 Y1 Z1 T1).toArray ∧ Blk W (w.heap.size + 1 + 1) 69 (pt X2 Y2 Z2 T2).toArray ∧
  Blk W (w.heap.size + 1 + 1 + 1) 69 (pt n16 n16 n16 n16).toArray ∧ Below w.heap.size w W) ⟨blk4_0 w _ _ _ _ _,blk4_1 w _ _ _ _ _,blk4_2 w _ _ _ _ _,blk4_3 w _ _ _ _ _,below4 _ _ _ _ _⟩ ?_
 rintro W ⟨hc,hp,hq,ho,hbe⟩
 -- walk add
 refine wp_seq_k fun K hK=>?_;refine reg_varF 5 7 27 (.tmp 18) z16 rfl rfl rfl rfl rfl rfl rfl (exec_alloc rfl (by kernel_rfl)) ?_;simp only [List.take_succ_cons,List.take_zero];refine b_field (w.heap.size + 1) 0 32 rfl rfl rfl (fld2 _) ?_;simp only [Act.put,List.setIfInBounds_toArray,List.set_cons_zero,List.set_cons_succ];refine b_ld (w.heap.size + 1) 32 nz1.len _ rfl rfl rfl (fun _ h=>(h.blk hp).ptZ nx1.len ny1.len) ?_;simp only [Act.put,List.setIfInBounds_toArray,List.set_cons_zero,List.set_cons_succ];refine b_field (w.heap.size + 1 + 1) 0 32 rfl rfl rfl (fld2 _) ?_;simp only [Act.put,List.setIfInBounds_toArray,List.set_cons_zero,List.set_cons_succ];refine b_ld (w.heap.size + 1 + 1) 32 nz2.len _ rfl rfl rfl (fun _ h=>(h.blk hq).ptZ nx2.len ny2.len) ?_;simp only [Act.put,List.setIfInBounds_toArray,List.set_cons_zero,List.set_cons_succ];refine b_num rfl own_mul (fun w1=>mul_f (nz1.mono (by omega)) (nz2.mono (by omega)) w1) rfl rfl ?_
 intro r1 v1
 simp only [Act.put,List.setIfInBounds_toArray,List.set_cons_zero,List.set_cons_succ];refine wpB_nil ⟨(Is r1).toArray,fun _=>rfl,fun _=>rfl,(len_is v1.len).symm,size_num _ (len_is v1.len),Is_one _,fun gz W1 hgz hw1 hbz=>?_⟩;simp only [Exit.then,Act.put,List.setIfInBounds_toArray,List.set_cons_zero,List.set_cons_succ];refine hK _ _ ?_;clear hK K;have hc:=hw1.blk hc;have hp:=hw1.blk hp;have hq:=hw1.blk hq;have ho:=hw1.blk ho;have hbe:=below_up hbe hw1;clear hw1;refine wp_seq_k fun K hK=>?_;refine reg_varF 3 8 27 (.tmp 21) z16 rfl rfl rfl rfl rfl rfl rfl (exec_alloc rfl (by kernel_rfl)) ?_;simp only [List.take_succ_cons,List.take_zero];refine b_ld gz 0 v1.len _ rfl rfl rfl (fun _ h=>(h.blk hbz).range) ?_;simp only [Act.put,List.setIfInBounds_toArray,List.set_cons_zero,List.set_cons_succ];refine b_ld gz 0 v1.len _ rfl rfl rfl (fun _ h=>(h.blk hbz).range) ?_;simp only [Act.put,List.setIfInBounds_toArray,List.set_cons_zero,List.set_cons_succ];refine b_num rfl own_mul (fun w1=>mul_f (v1.mono (by omega)) (v1.mono (by omega)) w1) rfl rfl ?_
 intro r2 v2
 simp only [Act.put,List.setIfInBounds_toArray,List.set_cons_zero,List.set_cons_succ];refine wpB_nil ⟨(Is r2).toArray,fun _=>rfl,fun _=>rfl,(len_is v2.len).symm,size_num _ (len_is v2.len),Is_one _,fun gzz W1 hgzz hw1 hbzz=>?_⟩;simp only [Exit.then,Act.put,List.setIfInBounds_toArray,List.set_cons_zero,List.set_cons_succ];refine hK _ _ ?_;clear hK K;have hc:=hw1.blk hc;have hp:=hw1.blk hp;have hq:=hw1.blk hq;have hbz:=hw1.blk hbz;have ho:=hw1.blk ho;have hbe:=below_up hbe hw1;clear hw1;refine wp_seq_k fun K hK=>?_;refine reg_var 14 9 27 (.tmp 35) z16 rfl rfl rfl rfl rfl rfl rfl (by kernel_rfl) (by kernel_rfl) (by kernel_rfl) (fun _ _ d _ _ h=>by cases d <;> exact h) (exec_alloc rfl (by kernel_rfl)) ?_;simp only [List.take_succ_cons,List.take_zero];refine b_field w.heap.size 0 0 rfl rfl rfl (fldc _) ?_;simp only [Act.put,List.setIfInBounds_toArray,List.set_cons_zero,List.set_cons_succ];refine b_ld w.heap.size 0 hD.len _ rfl rfl rfl (fun _ h=>(h.blk hc).range) ?_;simp only [Act.put,List.setIfInBounds_toArray,List.set_cons_zero,List.set_cons_succ];refine b_field (w.heap.size + 1) 0 0 rfl rfl rfl (fld0 _) ?_;simp only [Act.put,List.setIfInBounds_toArray,List.set_cons_zero,List.set_cons_succ];refine b_ld (w.heap.size + 1) 0 nx1.len _ rfl rfl rfl (fun _ h=>(h.blk hp).ptX) ?_;simp only [Act.put,List.setIfInBounds_toArray,List.set_cons_zero,List.set_cons_succ];refine b_field (w.heap.size + 1 + 1) 0 0 rfl rfl rfl (fld0 _) ?_;simp only [Act.put,List.setIfInBounds_toArray,List.set_cons_zero,List.set_cons_succ];refine b_ld (w.heap.size + 1 + 1) 0 nx2.len _ rfl rfl rfl (fun _ h=>(h.blk hq).ptX) ?_;simp only [Act.put,List.setIfInBounds_toArray,List.set_cons_zero,List.set_cons_succ];refine b_num rfl own_mul (fun w1=>mul_f (nx1.mono (by omega)) (nx2.mono (by omega)) w1) rfl rfl ?_
 intro r3 v3
 simp only [Act.put,List.setIfInBounds_toArray,List.set_cons_zero,List.set_cons_succ];refine b_field (w.heap.size + 1) 0 16 rfl rfl rfl (fld1 _) ?_;simp only [Act.put,List.setIfInBounds_toArray,List.set_cons_zero,List.set_cons_succ];refine b_ld (w.heap.size + 1) 16 ny1.len _ rfl rfl rfl (fun _ h=>(h.blk hp).ptY nx1.len) ?_;simp only [Act.put,List.setIfInBounds_toArray,List.set_cons_zero,List.set_cons_succ];refine b_field (w.heap.size + 1 + 1) 0 16 rfl rfl rfl (fld1 _) ?_;simp only [Act.put,List.setIfInBounds_toArray,List.set_cons_zero,List.set_cons_succ];refine b_ld (w.heap.size + 1 + 1) 16 ny2.len _ rfl rfl rfl (fun _ h=>(h.blk hq).ptY nx2.len) ?_;simp only [Act.put,List.setIfInBounds_toArray,List.set_cons_zero,List.set_cons_succ];refine b_num rfl own_mul (fun w1=>mul_f (ny1.mono (by omega)) (ny2.mono (by omega)) w1) rfl rfl ?_
 intro r4 v4
 simp only [Act.put,List.setIfInBounds_toArray,List.set_cons_zero,List.set_cons_succ];refine b_num rfl own_mul (fun w1=>mul_f (v3.mono (by omega)) (v4.mono (by omega)) w1) rfl rfl ?_
 intro r5 v5
 simp only [Act.put,List.setIfInBounds_toArray,List.set_cons_zero,List.set_cons_succ];refine b_num rfl own_mul (fun w1=>mul_f (hD.mono (by omega)) (v5.mono (by omega)) w1) rfl rfl ?_
 intro r6 v6
 simp only [Act.put,List.setIfInBounds_toArray,List.set_cons_zero,List.set_cons_succ];refine wpB_nil ⟨(Is r6).toArray,fun _=>rfl,fun _=>rfl,(len_is v6.len).symm,size_num _ (len_is v6.len),Is_one _,fun gm W1 hgm hw1 hbm=>?_⟩;simp only [Exit.then,Act.put,List.setIfInBounds_toArray,List.set_cons_zero,List.set_cons_succ];refine hK _ _ ?_;clear hK K;have hc:=hw1.blk hc;have hp:=hw1.blk hp;have hq:=hw1.blk hq;have hbz:=hw1.blk hbz;have hbzz:=hw1.blk hbzz;have ho:=hw1.blk ho;have hbe:=below_up hbe hw1;clear hw1;refine wp_seq_k fun K hK=>?_;refine reg_var 11 10 27 (.tmp 46) z16 rfl rfl rfl rfl rfl rfl rfl (by kernel_rfl) (by kernel_rfl) (by kernel_rfl) (fun _ _ d _ _ h=>by cases d <;> exact h) (exec_alloc rfl (by kernel_rfl)) ?_;simp only [List.take_succ_cons,List.take_zero];refine b_field (w.heap.size + 1) 0 0 rfl rfl rfl (fld0 _) ?_;simp only [Act.put,List.setIfInBounds_toArray,List.set_cons_zero,List.set_cons_succ];refine b_ld (w.heap.size + 1) 0 nx1.len _ rfl rfl rfl (fun _ h=>(h.blk hp).ptX) ?_;simp only [Act.put,List.setIfInBounds_toArray,List.set_cons_zero,List.set_cons_succ];refine b_field (w.heap.size + 1 + 1) 0 16 rfl rfl rfl (fld1 _) ?_;simp only [Act.put,List.setIfInBounds_toArray,List.set_cons_zero,List.set_cons_succ];refine b_ld (w.heap.size + 1 + 1) 16 ny2.len _ rfl rfl rfl (fun _ h=>(h.blk hq).ptY nx2.len) ?_;simp only [Act.put,List.setIfInBounds_toArray,List.set_cons_zero,List.set_cons_succ];refine b_num rfl own_mul (fun w1=>mul_f (nx1.mono (by omega)) (ny2.mono (by omega)) w1) rfl rfl ?_
 intro r7 v7
 simp only [Act.put,List.setIfInBounds_toArray,List.set_cons_zero,List.set_cons_succ];refine b_field (w.heap.size + 1) 0 16 rfl rfl rfl (fld1 _) ?_;simp only [Act.put,List.setIfInBounds_toArray,List.set_cons_zero,List.set_cons_succ];refine b_ld (w.heap.size + 1) 16 ny1.len _ rfl rfl rfl (fun _ h=>(h.blk hp).ptY nx1.len) ?_;simp only [Act.put,List.setIfInBounds_toArray,List.set_cons_zero,List.set_cons_succ];refine b_field (w.heap.size + 1 + 1) 0 0 rfl rfl rfl (fld0 _) ?_;simp only [Act.put,List.setIfInBounds_toArray,List.set_cons_zero,List.set_cons_succ];refine b_ld (w.heap.size + 1 + 1) 0 nx2.len _ rfl rfl rfl (fun _ h=>(h.blk hq).ptX) ?_;simp only [Act.put,List.setIfInBounds_toArray,List.set_cons_zero,List.set_cons_succ];refine b_num rfl own_mul (fun w1=>mul_f (ny1.mono (by omega)) (nx2.mono (by omega)) w1) rfl rfl ?_
 intro r8 v8
 simp only [Act.put,List.setIfInBounds_toArray,List.set_cons_zero,List.set_cons_succ];refine b_num rfl own_add (fun w1=>add_f v7 v8 (by omega) (by omega) w1) rfl rfl ?_
 intro r9 v9
 simp only [Act.put,List.setIfInBounds_toArray,List.set_cons_zero,List.set_cons_succ];refine wpB_nil ⟨(Is r9).toArray,fun _=>rfl,fun _=>rfl,(len_is v9.len).symm,size_num _ (len_is v9.len),Is_one _,fun gnx W1 hgnx hw1 hbnx=>?_⟩;simp only [Exit.then,Act.put,List.setIfInBounds_toArray,List.set_cons_zero,List.set_cons_succ];refine hK _ _ ?_;clear hK K;have hc:=hw1.blk hc;have hp:=hw1.blk hp;have hq:=hw1.blk hq;have hbz:=hw1.blk hbz;have hbzz:=hw1.blk hbzz;have hbm:=hw1.blk hbm;have ho:=hw1.blk ho;have hbe:=below_up hbe hw1;clear hw1;refine wp_seq_k fun K hK=>?_;refine reg_var 11 11 27 (.tmp 57) z16 rfl rfl rfl rfl rfl rfl rfl (by kernel_rfl) (by kernel_rfl) (by kernel_rfl) (fun _ _ d _ _ h=>by cases d <;> exact h) (exec_alloc rfl (by kernel_rfl)) ?_;simp only [List.take_succ_cons,List.take_zero];refine b_field (w.heap.size + 1) 0 16 rfl rfl rfl (fld1 _) ?_;simp only [Act.put,List.setIfInBounds_toArray,List.set_cons_zero,List.set_cons_succ];refine b_ld (w.heap.size + 1) 16 ny1.len _ rfl rfl rfl (fun _ h=>(h.blk hp).ptY nx1.len) ?_;simp only [Act.put,List.setIfInBounds_toArray,List.set_cons_zero,List.set_cons_succ];refine b_field (w.heap.size + 1 + 1) 0 16 rfl rfl rfl (fld1 _) ?_;simp only [Act.put,List.setIfInBounds_toArray,List.set_cons_zero,List.set_cons_succ];refine b_ld (w.heap.size + 1 + 1) 16 ny2.len _ rfl rfl rfl (fun _ h=>(h.blk hq).ptY nx2.len) ?_;simp only [Act.put,List.setIfInBounds_toArray,List.set_cons_zero,List.set_cons_succ];refine b_num rfl own_mul (fun w1=>mul_f (ny1.mono (by omega)) (ny2.mono (by omega)) w1) rfl rfl ?_
 intro r10 v10
 simp only [Act.put,List.setIfInBounds_toArray,List.set_cons_zero,List.set_cons_succ];refine b_field (w.heap.size + 1) 0 0 rfl rfl rfl (fld0 _) ?_;simp only [Act.put,List.setIfInBounds_toArray,List.set_cons_zero,List.set_cons_succ];refine b_ld (w.heap.size + 1) 0 nx1.len _ rfl rfl rfl (fun _ h=>(h.blk hp).ptX) ?_;simp only [Act.put,List.setIfInBounds_toArray,List.set_cons_zero,List.set_cons_succ];refine b_field (w.heap.size + 1 + 1) 0 0 rfl rfl rfl (fld0 _) ?_;simp only [Act.put,List.setIfInBounds_toArray,List.set_cons_zero,List.set_cons_succ];refine b_ld (w.heap.size + 1 + 1) 0 nx2.len _ rfl rfl rfl (fun _ h=>(h.blk hq).ptX) ?_;simp only [Act.put,List.setIfInBounds_toArray,List.set_cons_zero,List.set_cons_succ];refine b_num rfl own_mul (fun w1=>mul_f (nx1.mono (by omega)) (nx2.mono (by omega)) w1) rfl rfl ?_
 intro r11 v11
 simp only [Act.put,List.setIfInBounds_toArray,List.set_cons_zero,List.set_cons_succ];refine b_num rfl own_add (fun w1=>add_f v10 v11 (by omega) (by omega) w1) rfl rfl ?_
 intro r12 v12
 simp only [Act.put,List.setIfInBounds_toArray,List.set_cons_zero,List.set_cons_succ];refine wpB_nil ⟨(Is r12).toArray,fun _=>rfl,fun _=>rfl,(len_is v12.len).symm,size_num _ (len_is v12.len),Is_one _,fun gny W1 hgny hw1 hbny=>?_⟩;simp only [Exit.then,Act.put,List.setIfInBounds_toArray,List.set_cons_zero,List.set_cons_succ];refine hK _ _ ?_;clear hK K;have hc:=hw1.blk hc;have hp:=hw1.blk hp;have hq:=hw1.blk hq;have hbz:=hw1.blk hbz;have hbzz:=hw1.blk hbzz;have hbm:=hw1.blk hbm;have hbnx:=hw1.blk hbnx;have ho:=hw1.blk ho;have hbe:=below_up hbe hw1;clear hw1;refine wp_seq_k fun K hK=>?_;refine reg_var2 6 12 13 27 27 (.tmp 60) (.tmp 63) z16 z16 rfl rfl rfl rfl rfl rfl rfl rfl rfl rfl rfl rfl rfl (by decide) (by kernel_rfl) (by kernel_rfl) (by kernel_rfl) (by kernel_rfl) (by kernel_rfl) (fun _ _ d _ _ h=>by cases d <;> exact h) (exec_alloc rfl (by kernel_rfl)) (exec_alloc rfl (by kernel_rfl)) ?_;simp only [List.take_succ_cons,List.take_zero];refine b_ld gzz 0 v2.len _ rfl rfl rfl (fun _ h=>(h.blk hbzz).range) ?_;simp only [Act.put,List.setIfInBounds_toArray,List.set_cons_zero,List.set_cons_succ];refine b_ld gm 0 v6.len _ rfl rfl rfl (fun _ h=>(h.blk hbm).range) ?_;simp only [Act.put,List.setIfInBounds_toArray,List.set_cons_zero,List.set_cons_succ];refine b_num rfl own_add (fun w1=>add_f v2 v6 (by omega) (by omega) w1) rfl rfl ?_
 intro r13 v13
 simp only [Act.put,List.setIfInBounds_toArray,List.set_cons_zero,List.set_cons_succ];refine b_ld gzz 0 v2.len _ rfl rfl rfl (fun _ h=>(h.blk hbzz).range) ?_;simp only [Act.put,List.setIfInBounds_toArray,List.set_cons_zero,List.set_cons_succ];refine b_ld gm 0 v6.len _ rfl rfl rfl (fun _ h=>(h.blk hbm).range) ?_;simp only [Act.put,List.setIfInBounds_toArray,List.set_cons_zero,List.set_cons_succ];refine b_num rfl own_sub (fun w1=>sub_f v2 v6 (by omega) (by omega) w1) rfl rfl ?_
 intro r14 v14
 simp only [Act.put,List.setIfInBounds_toArray,List.set_cons_zero,List.set_cons_succ];refine wpB_nil ⟨(Is r13).toArray,(Is r14).toArray,fun _ _=>rfl,fun _ _=>rfl,fun _ _=>rfl,fun _ _=>rfl,(len_is v13.len).symm,(len_is v14.len).symm,size_num _ (len_is v13.len),size_num _ (len_is v14.len),Is_one _,Is_one _,fun gplus gminus W1 hgplus hgminus hw1 hbplus hbminus=>?_⟩;simp only [Exit.then,Act.put,List.setIfInBounds_toArray,List.set_cons_zero,List.set_cons_succ];refine hK _ _ ?_;clear hK K;have hc:=hw1.blk hc;have hp:=hw1.blk hp;have hq:=hw1.blk hq;have hbz:=hw1.blk hbz;have hbzz:=hw1.blk hbzz;have hbm:=hw1.blk hbm;have hbnx:=hw1.blk hbnx;have hbny:=hw1.blk hbny;have ho:=hw1.blk ho;have hbe:=below_up hbe hw1;clear hw1;refine wp_seq_k fun K hK=>?_;refine reg_set 14 (.tmp 6) 69 (.tmp 77) rfl rfl rfl rfl (by kernel_rfl) (by kernel_rfl) (fun _ _ d _ _ h=>by cases d <;> exact h) ?_;simp only [List.take_succ_cons,List.take_zero];refine b_ld gnx 0 v9.len _ rfl rfl rfl (fun _ h=>(h.blk hbnx).range) ?_;simp only [Act.put,List.setIfInBounds_toArray,List.set_cons_zero,List.set_cons_succ];refine b_ld gz 0 v1.len _ rfl rfl rfl (fun _ h=>(h.blk hbz).range) ?_;simp only [Act.put,List.setIfInBounds_toArray,List.set_cons_zero,List.set_cons_succ];refine b_num rfl own_mul (fun w1=>mul_f (v9.mono (by omega)) (v1.mono (by omega)) w1) rfl rfl ?_
 intro r15 v15
 simp only [Act.put,List.setIfInBounds_toArray,List.set_cons_zero,List.set_cons_succ];refine b_ld gminus 0 v14.len _ rfl rfl rfl (fun _ h=>(h.blk hbminus).range) ?_;simp only [Act.put,List.setIfInBounds_toArray,List.set_cons_zero,List.set_cons_succ];refine b_num rfl own_mul (fun w1=>mul_f (v15.mono (by omega)) (v14.mono (by omega)) w1) rfl rfl ?_
 intro r16 v16
 simp only [Act.put,List.setIfInBounds_toArray,List.set_cons_zero,List.set_cons_succ];refine b_ld gny 0 v12.len _ rfl rfl rfl (fun _ h=>(h.blk hbny).range) ?_;simp only [Act.put,List.setIfInBounds_toArray,List.set_cons_zero,List.set_cons_succ];refine b_ld gz 0 v1.len _ rfl rfl rfl (fun _ h=>(h.blk hbz).range) ?_;simp only [Act.put,List.setIfInBounds_toArray,List.set_cons_zero,List.set_cons_succ];refine b_num rfl own_mul (fun w1=>mul_f (v12.mono (by omega)) (v1.mono (by omega)) w1) rfl rfl ?_
 intro r17 v17
 simp only [Act.put,List.setIfInBounds_toArray,List.set_cons_zero,List.set_cons_succ];refine b_ld gplus 0 v13.len _ rfl rfl rfl (fun _ h=>(h.blk hbplus).range) ?_;simp only [Act.put,List.setIfInBounds_toArray,List.set_cons_zero,List.set_cons_succ];refine b_num rfl own_mul (fun w1=>mul_f (v17.mono (by omega)) (v13.mono (by omega)) w1) rfl rfl ?_
 intro r18 v18
 simp only [Act.put,List.setIfInBounds_toArray,List.set_cons_zero,List.set_cons_succ];refine b_ld gplus 0 v13.len _ rfl rfl rfl (fun _ h=>(h.blk hbplus).range) ?_;simp only [Act.put,List.setIfInBounds_toArray,List.set_cons_zero,List.set_cons_succ];refine b_ld gminus 0 v14.len _ rfl rfl rfl (fun _ h=>(h.blk hbminus).range) ?_;simp only [Act.put,List.setIfInBounds_toArray,List.set_cons_zero,List.set_cons_succ];refine b_num rfl own_mul (fun w1=>mul_f (v13.mono (by omega)) (v14.mono (by omega)) w1) rfl rfl ?_
 intro r19 v19
 simp only [Act.put,List.setIfInBounds_toArray,List.set_cons_zero,List.set_cons_succ];refine b_build [(0,.agg (Is r16).toArray),(1,.agg (Is r18).toArray),(2,.agg (Is r19).toArray)] _ rfl rfl rfl (built3 v16.len v18.len v19.len) ?_;simp only [Act.put,List.setIfInBounds_toArray,List.set_cons_zero,List.set_cons_succ];refine wpB_nil ⟨w.heap.size + 1 + 1 + 1,_,_,rfl,rfl,ho,(pt_len rfl rfl rfl rfl).trans (pt_len v16.len v18.len v19.len rfl).symm,size_pt _ (pt_len v16.len v18.len v19.len rfl),pt_one _ _ _ _,fun W1 hw1=>?_⟩;simp only [Exit.then];refine hK _ _ ?_;clear hK K;have ho:=hw1.blk ho;have hbe:=below_up hbe hw1;refine wp_ret ?_;refine bodyPost_ret (results_cell_row rfl _ _ (w.heap.size + 1 + 1 + 1) 69 (pt r16 r18 r19 n16).toArray (0,0) _ rfl (ho.row _) Tryd.underlying69 rfl (size_pt _ (pt_len v16.len v18.len v19.len rfl))) rfl ⟨r16,r18,r19,n16,⟨⟨_,_,_,v16,v18,v19,HR.out⟩,HO.out,rfl⟩,rfl,?_⟩;exact below_setRow hbe (by omega) _
 -- end add
end Go.Proofs.YtminmeljonbogaaDoor
/-
  THE DOCUMENT'S OWN POINTS: Dee, New, Zero, on, Neg.
-/
namespace Go.Proofs.YtminmeljonbogaaDoor
open Go.RowKit Go.IntWalk Nums

set_option maxRecDepth 100000 in
set_option maxHeartbeats 2000000 in
theorem dee_f (w : World) : Calls Tryd.prog 26 #[] w fun e w'=>∃ r,NB 65573 r dd ∧ e = .returned (.agg (Is r).toArray) ∧ Below w.heap.size w w':=by
 go_enter Tryd.func26,Tryd.ntmps26
 refine wp_seq_k fun K hK=>?_;refine wp_region_lit ?_;refine wpl_alloc (zs:=z16) rfl rfl (by kernel_rfl) ?_;refine wpl_nil ?_;simp only [Exit.then,Act.put,List.setIfInBounds_toArray,List.set_cons_zero];refine hK _ _ ?_;clear hK K;refine wp_at (fun W=>Blk W w.heap.size 27 z16 ∧ Below w.heap.size w W) ⟨Blk.new w _ _,(Below.refl _ _).alloc (Nat.le_refl _) _⟩ ?_
 rintro W ⟨ho,hbe⟩
 -- walk dee
 refine wp_seq_k fun K hK=>?_;refine reg_setF 6 (.tmp 0) 27 (.tmp 6) rfl rfl rfl rfl ?_;simp only [List.take_succ_cons,List.take_zero];refine b_num rfl own_of (fun w1=>of_f 0 (by omega) w1) rfl rfl ?_
 intro r1 v1
 simp only [Act.put,List.setIfInBounds_toArray,List.set_cons_zero,List.set_cons_succ];refine b_num rfl own_of (fun w1=>of_f 121665 (by omega) w1) rfl rfl ?_
 intro r2 v2
 simp only [Act.put,List.setIfInBounds_toArray,List.set_cons_zero,List.set_cons_succ];refine b_num rfl own_sub (fun w1=>sub_f v1 v2 (by omega) (by omega) w1) rfl rfl ?_
 intro r3 v3
 simp only [Act.put,List.setIfInBounds_toArray,List.set_cons_zero,List.set_cons_succ];refine b_num rfl own_of (fun w1=>of_f 121666 (by omega) w1) rfl rfl ?_
 intro r4 v4
 simp only [Act.put,List.setIfInBounds_toArray,List.set_cons_zero,List.set_cons_succ];refine b_num rfl own_inv (fun w1=>inv_f (v4.mono (by omega)) w1) rfl rfl ?_
 intro r5 v5
 simp only [Act.put,List.setIfInBounds_toArray,List.set_cons_zero,List.set_cons_succ];refine b_num rfl own_mul (fun w1=>mul_f (v3.mono (by omega)) (v5.mono (by omega)) w1) rfl rfl ?_
 intro r6 v6
 simp only [Act.put,List.setIfInBounds_toArray,List.set_cons_zero,List.set_cons_succ];rw [fof_zero,← dd_def] at v6;refine wpB_nil ⟨w.heap.size,_,_,rfl,rfl,ho,(len_is v6.len).symm,size_num _ (len_is v6.len),Is_one _,fun W1 hw1=>?_⟩;simp only [Exit.then];refine hK _ _ ?_;clear hK K;have ho:=hw1.blk ho;have hbe:=below_up hbe hw1;refine wp_ret ?_;refine bodyPost_ret (results_cell_row rfl _ _ (w.heap.size) 27 (Is r6).toArray (0,0) _ rfl (ho.row _) Tryd.underlying27 rfl (size_num _ (len_is v6.len))) rfl ⟨r6,v6,rfl,?_⟩;exact below_setRow hbe (by omega) _
 -- end dee

set_option maxRecDepth 100000 in
set_option maxHeartbeats 2000000 in
theorem rnew_f (w : World) : Calls Tryd.prog 8 #[] w fun e w'=>∃ r,NB 65573 r dd ∧ e = .returned (.agg (Is r).toArray) ∧ Below w.heap.size w w':=by
 go_enter Tryd.func8,Tryd.ntmps8
 refine wp_seq_k fun K hK=>?_;refine wp_region_lit ?_;refine wpl_alloc (zs:=z16) rfl rfl (by kernel_rfl) ?_;refine wpl_nil ?_;simp only [Exit.then,Act.put,List.setIfInBounds_toArray,List.set_cons_zero];refine hK _ _ ?_;clear hK K;refine wp_at (fun W=>Blk W w.heap.size 29 z16 ∧ Below w.heap.size w W) ⟨Blk.new w _ _,(Below.refl _ _).alloc (Nat.le_refl _) _⟩ ?_
 rintro W ⟨ho,hbe⟩
 -- walk new
 refine wp_seq_k fun K hK=>?_;refine reg_setF 2 (.tmp 0) 29 (.tmp 2) rfl rfl rfl rfl ?_;simp only [List.take_succ_cons,List.take_zero];refine b_num rfl own_dee (fun w1=>dee_f w1) rfl rfl ?_
 intro r1 v1
 simp only [Act.put,List.setIfInBounds_toArray,List.set_cons_zero,List.set_cons_succ];refine b_build [(0,.agg (Is r1).toArray)] _ rfl rfl rfl (put_D r1 v1.len) ?_;simp only [Act.put,List.setIfInBounds_toArray,List.set_cons_zero,List.set_cons_succ];refine wpB_nil ⟨w.heap.size,_,_,rfl,rfl,ho,(len_is v1.len).symm,size_curve _ (len_is v1.len),Is_one _,fun W1 hw1=>?_⟩;simp only [Exit.then];refine hK _ _ ?_;clear hK K;have ho:=hw1.blk ho;have hbe:=below_up hbe hw1;refine wp_ret ?_;refine bodyPost_ret (results_cell_row rfl _ _ (w.heap.size) 29 (Is r1).toArray (0,0) _ rfl (ho.row _) Tryd.underlying29 rfl (size_curve _ (len_is v1.len))) rfl ⟨r1,v1,rfl,?_⟩;exact below_setRow hbe (by omega) _
 -- end new

set_option maxRecDepth 100000 in
set_option maxHeartbeats 2000000 in
theorem zero_f (w : World) : Calls Tryd.prog 71 #[] w fun e w'=>∃ X Y Z T,PR X Y Z T Ed.zero ∧ e = .returned (.agg (pt X Y Z T).toArray) ∧ Below w.heap.size w w':=by
 go_enter Tryd.func71,Tryd.ntmps71
 refine wp_seq_k fun K hK=>?_;refine wp_region_lit ?_;refine wpl_alloc (zs:=(pt n16 n16 n16 n16).toArray) rfl rfl (by kernel_rfl) ?_;refine wpl_nil ?_;simp only [Exit.then,Act.put,List.setIfInBounds_toArray,List.set_cons_zero];refine hK _ _ ?_;clear hK K;refine wp_at (fun W=>Blk W w.heap.size 69 (pt n16 n16 n16 n16).toArray ∧ Below w.heap.size w W) ⟨Blk.new w _ _,(Below.refl _ _).alloc (Nat.le_refl _) _⟩ ?_
 rintro W ⟨ho,hbe⟩
 -- walk zero
 refine wp_seq_k fun K hK=>?_;refine reg_setF 3 (.tmp 0) 69 (.tmp 3) rfl rfl rfl rfl ?_;simp only [List.take_succ_cons,List.take_zero];refine b_num rfl own_of (fun w1=>of_f 1 (by omega) w1) rfl rfl ?_
 intro r1 v1
 simp only [Act.put,List.setIfInBounds_toArray,List.set_cons_zero,List.set_cons_succ];refine b_num rfl own_of (fun w1=>of_f 1 (by omega) w1) rfl rfl ?_
 intro r2 v2
 simp only [Act.put,List.setIfInBounds_toArray,List.set_cons_zero,List.set_cons_succ];refine b_build [(1,.agg (Is r1).toArray),(2,.agg (Is r2).toArray)] _ rfl rfl rfl (built12 v1.len v2.len) ?_;simp only [Act.put,List.setIfInBounds_toArray,List.set_cons_zero,List.set_cons_succ];refine wpB_nil ⟨w.heap.size,_,_,rfl,rfl,ho,(pt_len rfl rfl rfl rfl).trans (pt_len rfl v1.len v2.len rfl).symm,size_pt _ (pt_len rfl v1.len v2.len rfl),pt_one _ _ _ _,fun W1 hw1=>?_⟩;simp only [Exit.then];refine hK _ _ ?_;clear hK K;have ho:=hw1.blk ho;have hbe:=below_up hbe hw1;refine wp_ret ?_;refine bodyPost_ret (results_cell_row rfl _ _ (w.heap.size) 69 (pt n16 r1 r2 n16).toArray (0,0) _ rfl (ho.row _) Tryd.underlying69 rfl (size_pt _ (pt_len rfl v1.len v2.len rfl))) rfl ⟨n16,r1,r2,n16,⟨⟨0,fof 1,fof 1,nb_n16,v1.mono (by omega),v2.mono (by omega),rep_zero⟩,Ed.on_zero,rfl⟩,rfl,?_⟩;exact below_setRow hbe (by omega) _
 -- end zero

theorem rep_on {x y : F} : Ed.Rep x y (fof 1) ⟨x,y⟩:=by
 rw [fof_one];exact ⟨ne_one prime_p |>.symm,(by show x = x * 1; grind only),(by show y = y * 1; grind only)⟩

set_option maxRecDepth 100000 in
set_option maxHeartbeats 2000000 in
theorem on_f {X Y : List Int} {x y : F} (hX : NB 65573 X x) (hY : NB 65573 Y y) (hon : Ed.On dd ⟨x,y⟩) (w : World) :
  Calls Tryd.prog 73 #[.agg (Is X).toArray,.agg (Is Y).toArray] w fun e w'=>∃ X Y Z T,PR X Y Z T ⟨x,y⟩ ∧ e = .returned (.agg (pt X Y Z T).toArray) ∧ Below w.heap.size w w':=by
 have HO:=Lib.hid hon;clear hon
 go_enter Tryd.func73,Tryd.ntmps73
 refine wp_seq_k fun K hK=>?_;refine wp_region_lit ?_;refine wpl_box (Is X).toArray rfl rfl rfl ?_;refine wpl_box (Is Y).toArray rfl rfl rfl ?_;refine wpl_alloc (zs:=(pt n16 n16 n16 n16).toArray) rfl rfl (by kernel_rfl) ?_;refine wpl_nil ?_
 go_simp
 refine hK _ _ ?_;clear hK K
 refine wp_at (fun W=>Blk W w.heap.size 27 (Is X).toArray ∧ Blk W (w.heap.size + 1) 27 (Is Y).toArray ∧ Blk W (w.heap.size + 1 + 1) 69 (pt n16 n16 n16 n16).toArray ∧ Below w.heap.size w W)
  ⟨blk3_0 w _ _ _ _,blk3_1 w _ _ _ _,blk3_2 w _ _ _ _,(((Below.refl _ _).alloc (Nat.le_refl _) _).alloc (by simp) _).alloc (by simp; omega) _⟩ ?_
 rintro W ⟨hp,hq,ho,hbe⟩
 -- walk on
 refine wp_seq_k fun K hK=>?_;refine reg_set 7 (.tmp 4) 69 (.tmp 11) rfl rfl rfl rfl (by kernel_rfl) (by kernel_rfl) (fun _ _ d _ _ h=>by cases d <;> exact h) ?_;simp only [List.take_succ_cons,List.take_zero];refine b_ld w.heap.size 0 hX.len _ rfl rfl rfl (fun _ h=>(h.blk hp).range) ?_;simp only [Act.put,List.setIfInBounds_toArray,List.set_cons_zero,List.set_cons_succ];refine b_ld (w.heap.size + 1) 0 hY.len _ rfl rfl rfl (fun _ h=>(h.blk hq).range) ?_;simp only [Act.put,List.setIfInBounds_toArray,List.set_cons_zero,List.set_cons_succ];refine b_num rfl own_of (fun w1=>of_f 1 (by omega) w1) rfl rfl ?_
 intro r1 v1
 simp only [Act.put,List.setIfInBounds_toArray,List.set_cons_zero,List.set_cons_succ];refine b_ld w.heap.size 0 hX.len _ rfl rfl rfl (fun _ h=>(h.blk hp).range) ?_;simp only [Act.put,List.setIfInBounds_toArray,List.set_cons_zero,List.set_cons_succ];refine b_ld (w.heap.size + 1) 0 hY.len _ rfl rfl rfl (fun _ h=>(h.blk hq).range) ?_;simp only [Act.put,List.setIfInBounds_toArray,List.set_cons_zero,List.set_cons_succ];refine b_num rfl own_mul (fun w1=>mul_f (hX.mono (by omega)) (hY.mono (by omega)) w1) rfl rfl ?_
 intro r2 v2
 simp only [Act.put,List.setIfInBounds_toArray,List.set_cons_zero,List.set_cons_succ];refine b_build [(0,.agg (Is X).toArray),(1,.agg (Is Y).toArray),(2,.agg (Is r1).toArray),(3,.agg (Is r2).toArray)] _ rfl rfl rfl (built4 hX.len hY.len v1.len v2.len) ?_;simp only [Act.put,List.setIfInBounds_toArray,List.set_cons_zero,List.set_cons_succ];refine wpB_nil ⟨w.heap.size + 1 + 1,_,_,rfl,rfl,ho,(pt_len rfl rfl rfl rfl).trans (pt_len hX.len hY.len v1.len v2.len).symm,size_pt _ (pt_len hX.len hY.len v1.len v2.len),pt_one _ _ _ _,fun W1 hw1=>?_⟩;simp only [Exit.then];refine hK _ _ ?_;clear hK K;have ho:=hw1.blk ho;have hbe:=below_up hbe hw1;refine wp_ret ?_;refine bodyPost_ret (results_cell_row rfl _ _ (w.heap.size + 1 + 1) 69 (pt X Y r1 r2).toArray (0,0) _ rfl (ho.row _) Tryd.underlying69 rfl (size_pt _ (pt_len hX.len hY.len v1.len v2.len))) rfl ⟨X,Y,r1,r2,⟨⟨x,y,fof 1,hX,hY,v1.mono (by omega),rep_on⟩,HO.out,v2.len⟩,rfl,?_⟩;exact below_setRow hbe (by omega) _
 -- end on

theorem neg_num (x : F) : (fof 0 - x) * fof 1 = -x:=by
 rw [fof_zero,fof_one]
 grind only

end Go.Proofs.YtminmeljonbogaaDoor
/-
  THE DOCUMENT'S OWN POINTS: Bytes.
-/
namespace Go.Proofs.YtminmeljonbogaaDoor
open Go.RowKit Go.IntWalk Nums

set_option maxRecDepth 100000 in
set_option maxHeartbeats 2000000 in
theorem pbytes_f {X1 Y1 Z1 T1 : List Int} {A : Ed.Pt p} (h1 : PR X1 Y1 Z1 T1 A) (w : World) :
  Calls Tryd.prog 33 #[.agg (pt X1 Y1 Z1 T1).toArray] w fun e w'=>e = .returned (.agg (By (encP A)).toArray) ∧ Below w.heap.size w w':=by
 obtain ⟨⟨x1,y1,z1,nx1,ny1,nz1,r1⟩,o1,t1⟩:=h1;obtain ⟨ex,ey⟩:=r1.aff prime_p;clear r1 o1
 go_enter Tryd.func33,Tryd.ntmps33
 refine wp_seq_k fun K hK=>?_;refine wp_region_lit ?_;refine wpl_box (pt X1 Y1 Z1 T1).toArray rfl rfl rfl ?_;refine wpl_alloc (zs:=z32) rfl rfl (by kernel_rfl) ?_;refine wpl_nil ?_
 go_simp
 refine hK _ _ ?_;clear hK K
 refine wp_at (fun W=>Blk W w.heap.size 69 (pt X1 Y1 Z1 T1).toArray ∧ Blk W (w.heap.size + 1) 22 z32 ∧ Below w.heap.size w W)
  ⟨heap_alloc2_old w _ _,heap_alloc2_new w _ _,((Below.refl _ _).alloc (Nat.le_refl _) _).alloc (by simp) _⟩ ?_
 rintro W ⟨hp,ho,hbe⟩
 -- walk bytes
 refine wp_seq_k fun K hK=>?_;refine reg_varF 3 3 27 (.tmp 7) z16 rfl rfl rfl rfl rfl rfl rfl (exec_alloc rfl (by kernel_rfl)) ?_;simp only [List.take_succ_cons,List.take_zero];refine b_field w.heap.size 0 32 rfl rfl rfl (fld2 _) ?_;simp only [Act.put,List.setIfInBounds_toArray,List.set_cons_zero,List.set_cons_succ];refine b_ld w.heap.size 32 nz1.len _ rfl rfl rfl (fun _ h=>(h.blk hp).ptZ nx1.len ny1.len) ?_;simp only [Act.put,List.setIfInBounds_toArray,List.set_cons_zero,List.set_cons_succ];refine b_num rfl own_inv (fun w1=>inv_f (nz1.mono (by omega)) w1) rfl rfl ?_
 intro r1 v1
 simp only [Act.put,List.setIfInBounds_toArray,List.set_cons_zero,List.set_cons_succ];refine wpB_nil ⟨(Is r1).toArray,fun _=>rfl,fun _=>rfl,(len_is v1.len).symm,size_num _ (len_is v1.len),Is_one _,fun gi W1 hgi hw1 hbi=>?_⟩;simp only [Exit.then,Act.put,List.setIfInBounds_toArray,List.set_cons_zero,List.set_cons_succ];refine hK _ _ ?_;clear hK K;have hp:=hw1.blk hp;have ho:=hw1.blk ho;have hbe:=below_up hbe hw1;clear hw1;refine wp_seq_k fun K hK=>?_;refine reg_varF 5 4 22 (.tmp 12) z32 rfl rfl rfl rfl rfl rfl rfl (exec_alloc rfl (by kernel_rfl)) ?_;simp only [List.take_succ_cons,List.take_zero];refine b_field w.heap.size 0 16 rfl rfl rfl (fld1 _) ?_;simp only [Act.put,List.setIfInBounds_toArray,List.set_cons_zero,List.set_cons_succ];refine b_ld w.heap.size 16 ny1.len _ rfl rfl rfl (fun _ h=>(h.blk hp).ptY nx1.len) ?_;simp only [Act.put,List.setIfInBounds_toArray,List.set_cons_zero,List.set_cons_succ];refine b_ld gi 0 v1.len _ rfl rfl rfl (fun _ h=>(h.blk hbi).range) ?_;simp only [Act.put,List.setIfInBounds_toArray,List.set_cons_zero,List.set_cons_succ];refine b_num rfl own_mul (fun w1=>mul_f (ny1.mono (by omega)) (v1.mono (by omega)) w1) rfl rfl ?_
 intro r2 v2
 simp only [Act.put,List.setIfInBounds_toArray,List.set_cons_zero,List.set_cons_succ];rw [ey] at v2;refine b_one rfl own_pack (fun w1=>pack_f (v2.mono (by omega)) w1) rfl rfl ?_;simp only [Act.put,List.setIfInBounds_toArray,List.set_cons_zero,List.set_cons_succ];refine wpB_nil ⟨(By (enc A.y)).toArray,fun _=>rfl,fun _=>rfl,(len_by (enc_len _)).symm,size_hash _ (len_by (enc_len _)),By_one _,fun gb W1 hgb hw1 hbb=>?_⟩;simp only [Exit.then,Act.put,List.setIfInBounds_toArray,List.set_cons_zero,List.set_cons_succ];refine hK _ _ ?_;clear hK K;have hne : w.heap.size + 1 ≠ gb:=Nat.ne_of_lt (Nat.lt_of_lt_of_le ho.lt hgb);have hwg : w.heap.size ≤ gb:=Nat.le_trans hbe.size hgb;clear hgb;have hp:=hw1.blk hp;have hbi:=hw1.blk hbi;have ho:=hw1.blk ho;have hbe:=below_up hbe hw1;clear hw1;refine wp_seq_k fun K hK=>?_;refine wp_seq_k fun K2 hK2=>?_;refine reg_qF ?_;refine b_field w.heap.size 0 0 rfl rfl rfl (fld0 _) ?_;simp only [Act.put,List.setIfInBounds_toArray,List.set_cons_zero,List.set_cons_succ];refine b_ld w.heap.size 0 nx1.len _ rfl rfl rfl (fun _ h=>(h.blk hp).ptX) ?_;simp only [Act.put,List.setIfInBounds_toArray,List.set_cons_zero,List.set_cons_succ];refine b_ld gi 0 v1.len _ rfl rfl rfl (fun _ h=>(h.blk hbi).range) ?_;simp only [Act.put,List.setIfInBounds_toArray,List.set_cons_zero,List.set_cons_succ];refine b_num rfl own_mul (fun w1=>mul_f (nx1.mono (by omega)) (v1.mono (by omega)) w1) rfl rfl ?_
 intro r3 v3
 simp only [Act.put,List.setIfInBounds_toArray,List.set_cons_zero,List.set_cons_succ];rw [ex] at v3;refine b_one rfl own_pack (fun w1=>pack_f (v3.mono (by omega)) w1) rfl rfl ?_;simp only [Act.put,List.setIfInBounds_toArray,List.set_cons_zero,List.set_cons_succ];refine b_index (enc (A.x)) (by rw [enc_len]; omega) rfl rfl rfl ?_;simp only [Act.put,List.setIfInBounds_toArray,List.set_cons_zero,List.set_cons_succ];refine b_rem2 _ ((enc (A.x))[0]!).toNat_lt rfl rfl rfl ?_;simp only [Act.put,List.setIfInBounds_toArray,List.set_cons_zero,List.set_cons_succ];rw [le_low (b:=enc (A.x)) (by rw [enc_len]; omega),le_enc];refine b_is1 _ rfl rfl rfl ?_;simp only [Act.put,List.setIfInBounds_toArray,List.set_cons_zero,List.set_cons_succ];refine wpB_nil ?_
 intro W1 hw1
 simp only [Exit.then];refine hK2 _ _ ?_;clear hK2 K2;have hp:=hw1.blk hp;have hbi:=hw1.blk hbi;have ho:=hw1.blk ho;have hbb:=hw1.blk hbb;have hbe:=below_up hbe hw1;clear hw1
 -- end bytes
 have hu:=enc_top A.y;have hul:=enc_len A.y;have c31:=(hbb.cell 31).trans (By_get (l:=enc A.y) (by rw [enc_len]; omega));have f31:=hbb.free 31;have hz:=len_by hul
 by_cases hpar : A.x.val % 2 = 1
 ·refine wp_cond (t:=true) (congrArg Value.bool (decide_eq_true hpar)) ?_
  rw [encP_odd hpar] at hK;have hb2:=hbb.set 31 (.int .u8 ((UInt8.ofNat (((enc A.y)[31]!).toNat + 128)).toNat : Int));rw [By_set] at hb2;have ho2:=ho.far (p:=⟨gb,31,none⟩) hne (.int .u8 ((UInt8.ofNat (((enc A.y)[31]!).toNat + 128)).toNat : Int));have hbe2:=hbe.setCell (p:=⟨gb,31,none⟩) hwg (.int .u8 ((UInt8.ofNat (((enc A.y)[31]!).toNat + 128)).toNat : Int));have hz2 : (By ((enc A.y).set 31 (UInt8.ofNat (((enc A.y)[31]!).toNat + 128)))).toArray.size = 32:=len_by (by rw [List.length_set,enc_len])
  have hv : ((UInt8.ofNat (((enc A.y)[31]!).toNat + 128)).toNat : Int) = (((enc A.y)[31]!).toNat : Int) + 128:=by
   rw [UInt8.toNat_ofNat_of_lt' (by show _ < 256; omega)]; rfl
  generalize (enc A.y).set 31 (UInt8.ofNat (((enc A.y)[31]!).toNat + 128)) = u2 at *;rw [hv] at hb2 ho2 hbe2;generalize ((enc A.y)[31]!).toNat = hi at *;clear hv hbb ho hpar
  go_wp2_with (first
   | (refine wpList_load_row rfl 22 _ rfl gb rfl 22 (By u2).toArray (0,0) _ hb2 Tryd.underlying22 rfl (size_hash _ hz2) ?_)
   | (refine wpList_store_row rfl 22 _ _ rfl (w.heap.size + 1) rfl (By u2).toArray rfl 22 _ ho2 (size_hash _ hz2) (by rw [hz2]; rfl) (By_one _) ?_))
  refine bodyPost_ret (results_cell_row rfl _ _ (w.heap.size + 1) 22 (By u2).toArray (0,0) _ rfl (ho2.row _) Tryd.underlying22 rfl (size_hash _ hz2)) rfl ⟨rfl,?_⟩;exact below_setRow hbe2 (by omega) _
 ·refine wp_cond (t:=false) (congrArg Value.bool (decide_eq_false hpar)) ?_
  rw [encP_even hpar] at hK;rw [if_neg (by decide)];refine wp_skip ?_;simp only [Exit.then];refine hK _ _ ?_;clear hK K;generalize enc A.y = u2 at *;refine wp_seq_k fun K hK=>?_;refine reg_setF 1 (.tmp 2) 22 (.tmp 25) rfl rfl rfl rfl ?_;simp only [List.take_succ_cons,List.take_zero];refine b_mid rfl 22 _ rfl gb 0 rfl (By u2) _ (fun _ h=>(h.blk hbb).range) Tryd.underlying22 rfl (size_hash (By u2).toArray hz) ?_;simp only [Act.put,List.setIfInBounds_toArray,List.set_cons_zero,List.set_cons_succ];refine wpB_nil ⟨w.heap.size + 1,_,_,rfl,rfl,ho,(by rw [hz]; rfl),size_hash _ hz,By_one _,fun W1 hw1=>?_⟩;simp only [Exit.then];refine hK _ _ ?_;clear hK K;have ho:=hw1.blk ho;have hbe:=below_up hbe hw1;refine wp_ret ?_;refine bodyPost_ret (results_cell_row rfl _ _ (w.heap.size + 1) 22 (By u2).toArray (0,0) _ rfl (ho.row _) Tryd.underlying22 rfl (size_hash _ hz)) rfl ⟨rfl,?_⟩;exact below_setRow hbe (by omega) _
end Go.Proofs.YtminmeljonbogaaDoor
/-
  THE DOCUMENT'S OWN NUMBERS: Same.
-/
namespace Go.Proofs.YtminmeljonbogaaDoor
open Go.RowKit Go.IntWalk Nums

set_option maxRecDepth 100000 in
set_option maxHeartbeats 2000000 in
theorem same_f {a b : List Int} {x y : F} (ha : NB 1048576 a x) (hb : NB 1048576 b y) (w : World) :
  Calls Tryd.prog 107 #[.agg (Is a).toArray,.agg (Is b).toArray] w fun e w'=>e = .returned (.bool (decide (x = y))) ∧ Below w.heap.size w w':=by
 have h0 : Blk ((w.alloc (Obj.cells (Is a).toArray 27)).alloc (Obj.cells (Is b).toArray 27)).drew w.heap.size 27 (Is a).toArray:=(Blk.new w _ _).alloc _;have h1 : Blk ((w.alloc (Obj.cells (Is a).toArray 27)).alloc (Obj.cells (Is b).toArray 27)).drew (w.heap.size + 1) 27 (Is b).toArray:=heap_alloc2_new w _ _;have hbel : Below w.heap.size w ((w.alloc (Obj.cells (Is a).toArray 27)).alloc (Obj.cells (Is b).toArray 27)).drew:=(((Below.refl _ _).alloc (Nat.le_refl _) _).alloc (by simp) _).drew;have HW : Hid (SW w _ a b):=Lib.hid ⟨h0,h1,hbel⟩;have HA:=fun w1=>Lib.hid (pack_f ha w1);have HB:=fun w1=>Lib.hid (pack_f hb w1);have hE:=fun w1=>equal32 (enc x) (enc y) (enc_len _) (enc_len _) w1
 have hxy : decide (enc x = enc y) = decide (x = y):=by
  by_cases h : x = y
  ·simp [h]
  ·have h2 : ¬ enc x = enc y:=fun e=>h (enc_inj e)
   simp [h,h2]
 rw [hxy] at hE
 have hza : (Is a).toArray.size = 16:=by rw [List.size_toArray,Is_len,ha.len]
 have hzb : (Is b).toArray.size = 16:=by rw [List.size_toArray,Is_len,hb.len]
 clear h0 h1 hbel ha hb hxy;generalize decide (x = y) = q at *;generalize enc x = u at *;generalize enc y = v at *
 go_enter Tryd.func107,Tryd.ntmps107
 go_wp2
 refine wp_region_quiet_C (fun w'=>SW w w' a b) (by kernel_rfl) (by kernel_rfl) HW.out ?_;refine q_load_row rfl 27 _ rfl w.heap.size rfl 27 (Is a).toArray (0,0) _ (fun w1 hw1=>hw1.b0) Tryd.underlying27 rfl (size_num _ hza) ?_;refine wpQuiet_step (fun K hK=>?_)
 go_simp
 apply Exists.intro
 refine ⟨fun w1 hw1=>(HA w1).out.mono fun e w2 ⟨he,hw2⟩=>⟨he,hw1.step hw2⟩,hK _ ?_⟩;clear hK K;refine q_load_row rfl 27 _ rfl (w.heap.size + 1) rfl 27 (Is b).toArray (0,0) _ (fun w1 hw1=>hw1.b1) Tryd.underlying27 rfl (size_num _ hzb) ?_;refine wpQuiet_step (fun K hK=>?_)
 go_simp
 apply Exists.intro
 refine ⟨fun w1 hw1=>(HB w1).out.mono fun e w2 ⟨he,hw2⟩=>⟨he,hw1.step hw2⟩,hK _ ?_⟩;clear hK K;refine wpQuiet_step (fun K hK=>?_)
 go_simp
 refine ⟨.bool q,fun _ _=>rfl,hK _ ?_⟩;clear hK K;refine wpQuiet_step (fun K hK=>?_)
 go_simp
 refine ⟨_,fun _ _=>rfl,hK _ ?_⟩;clear hK K;refine wpQuiet_nil ?_
 intro w1 hw1
 go_wp2
 go_ret
 exact ⟨rfl,hw1.be⟩
end Go.Proofs.YtminmeljonbogaaDoor
/-
  THE DOCUMENT'S OWN POINTS: root.
-/
namespace Go.Proofs.YtminmeljonbogaaDoor
open Go.RowKit Go.IntWalk Nums

theorem e_pe : (2 : Nat) ^ 252 - 2 = pe:=by decide
theorem e_pq : (2 : Nat) ^ 253 - 5 = pq:=by decide
theorem ww_def (y : F) : (y * y - fof 1) * finv (y * y * dd + fof 1) = ww y:=by
 rw [fof_one]
 rfl

theorem rootE_odd {w : F} (h : (rootc w).val % 2 = 1) : rootE w = -rootc w:=by
 unfold rootE evenOf
 rw [if_pos h]
theorem rootE_not {w : F} (h : ¬ (rootc w).val % 2 = 1) : rootE w = rootc w:=by
 unfold rootE evenOf
 rw [if_neg h]

set_option maxRecDepth 100000 in
set_option maxHeartbeats 4000000 in
theorem root_f {D Y : List Int} {y : F} (hD : NB 65573 D dd) (hY : NB 65573 Y y) (w : World) :
  Calls Tryd.prog 72 #[.agg (Is D).toArray,.agg (Is Y).toArray] w fun e w' =>
   ((∃ r,NB 65573 r (rootE (ww y)) ∧ (∃ x,x * x = ww y) ∧ e = .returned (.tuple #[.agg (Is r).toArray,.bool true])) ∨ ((¬ ∃ x,x * x = ww y) ∧ e = .returned (.tuple #[.agg z16,.bool false]))) ∧ Below w.heap.size w w':=by
 have hroot:=rootc_iff (ww y)
 go_enter Tryd.func72,Tryd.ntmps72
 refine wp_seq_k fun K hK=>?_;refine wp_region_lit ?_;refine wpl_box (Is D).toArray rfl rfl rfl ?_;refine wpl_box (Is Y).toArray rfl rfl rfl ?_;refine wpl_alloc (zs:=z16) rfl rfl (by kernel_rfl) ?_;refine wpl_assign rfl rfl ?_;refine wpl_nil ?_
 go_simp
 refine hK _ _ ?_;clear hK K
 refine wp_at (fun W=>Blk W w.heap.size 29 (Is D).toArray ∧ Blk W (w.heap.size + 1) 27 (Is Y).toArray ∧ Blk W (w.heap.size + 1 + 1) 27 z16 ∧ Below w.heap.size w W)
  ⟨blk3_0 w _ _ _ _,blk3_1 w _ _ _ _,blk3_2 w _ _ _ _,(((Below.refl _ _).alloc (Nat.le_refl _) _).alloc (by simp) _).alloc (by simp; omega) _⟩ ?_
 rintro W ⟨hc,hy,ho,hbe⟩
 -- walk root
 refine wp_seq_k fun K hK=>?_;refine reg_varF 3 6 27 (.tmp 13) z16 rfl rfl rfl rfl rfl rfl rfl (exec_alloc rfl (by kernel_rfl)) ?_;simp only [List.take_succ_cons,List.take_zero];refine b_ld (w.heap.size + 1) 0 hY.len _ rfl rfl rfl (fun _ h=>(h.blk hy).range) ?_;simp only [Act.put,List.setIfInBounds_toArray,List.set_cons_zero,List.set_cons_succ];refine b_ld (w.heap.size + 1) 0 hY.len _ rfl rfl rfl (fun _ h=>(h.blk hy).range) ?_;simp only [Act.put,List.setIfInBounds_toArray,List.set_cons_zero,List.set_cons_succ];refine b_num rfl own_mul (fun w1=>mul_f (hY.mono (by omega)) (hY.mono (by omega)) w1) rfl rfl ?_
 intro r1 v1
 simp only [Act.put,List.setIfInBounds_toArray,List.set_cons_zero,List.set_cons_succ];refine wpB_nil ⟨(Is r1).toArray,fun _=>rfl,fun _=>rfl,(len_is v1.len).symm,size_num _ (len_is v1.len),Is_one _,fun gs W1 hgs hw1 hbs=>?_⟩;simp only [Exit.then,Act.put,List.setIfInBounds_toArray,List.set_cons_zero,List.set_cons_succ];refine hK _ _ ?_;clear hK K;have hc:=hw1.blk hc;have hy:=hw1.blk hy;have ho:=hw1.blk ho;have hbe:=below_up hbe hw1;clear hw1;refine wp_seq_k fun K hK=>?_;refine reg_var 3 7 27 (.tmp 16) z16 rfl rfl rfl rfl rfl rfl rfl (by kernel_rfl) (by kernel_rfl) (by kernel_rfl) (fun _ _ d _ _ h=>by cases d <;> exact h) (exec_alloc rfl (by kernel_rfl)) ?_;simp only [List.take_succ_cons,List.take_zero];refine b_ld gs 0 v1.len _ rfl rfl rfl (fun _ h=>(h.blk hbs).range) ?_;simp only [Act.put,List.setIfInBounds_toArray,List.set_cons_zero,List.set_cons_succ];refine b_num rfl own_of (fun w1=>of_f 1 (by omega) w1) rfl rfl ?_
 intro r2 v2
 simp only [Act.put,List.setIfInBounds_toArray,List.set_cons_zero,List.set_cons_succ];refine b_num rfl own_sub (fun w1=>sub_f v1 v2 (by omega) (by omega) w1) rfl rfl ?_
 intro r3 v3
 simp only [Act.put,List.setIfInBounds_toArray,List.set_cons_zero,List.set_cons_succ];refine wpB_nil ⟨(Is r3).toArray,fun _=>rfl,fun _=>rfl,(len_is v3.len).symm,size_num _ (len_is v3.len),Is_one _,fun gu W1 hgu hw1 hbu=>?_⟩;simp only [Exit.then,Act.put,List.setIfInBounds_toArray,List.set_cons_zero,List.set_cons_succ];refine hK _ _ ?_;clear hK K;have hc:=hw1.blk hc;have hy:=hw1.blk hy;have hbs:=hw1.blk hbs;have ho:=hw1.blk ho;have hbe:=below_up hbe hw1;clear hw1;refine wp_seq_k fun K hK=>?_;refine reg_varF 6 8 27 (.tmp 22) z16 rfl rfl rfl rfl rfl rfl rfl (exec_alloc rfl (by kernel_rfl)) ?_;simp only [List.take_succ_cons,List.take_zero];refine b_ld gs 0 v1.len _ rfl rfl rfl (fun _ h=>(h.blk hbs).range) ?_;simp only [Act.put,List.setIfInBounds_toArray,List.set_cons_zero,List.set_cons_succ];refine b_field w.heap.size 0 0 rfl rfl rfl (fldc _) ?_;simp only [Act.put,List.setIfInBounds_toArray,List.set_cons_zero,List.set_cons_succ];refine b_ld w.heap.size 0 hD.len _ rfl rfl rfl (fun _ h=>(h.blk hc).range) ?_;simp only [Act.put,List.setIfInBounds_toArray,List.set_cons_zero,List.set_cons_succ];refine b_num rfl own_mul (fun w1=>mul_f (v1.mono (by omega)) (hD.mono (by omega)) w1) rfl rfl ?_
 intro r4 v4
 simp only [Act.put,List.setIfInBounds_toArray,List.set_cons_zero,List.set_cons_succ];refine b_num rfl own_of (fun w1=>of_f 1 (by omega) w1) rfl rfl ?_
 intro r5 v5
 simp only [Act.put,List.setIfInBounds_toArray,List.set_cons_zero,List.set_cons_succ];refine b_num rfl own_add (fun w1=>add_f v4 v5 (by omega) (by omega) w1) rfl rfl ?_
 intro r6 v6
 simp only [Act.put,List.setIfInBounds_toArray,List.set_cons_zero,List.set_cons_succ];refine wpB_nil ⟨(Is r6).toArray,fun _=>rfl,fun _=>rfl,(len_is v6.len).symm,size_num _ (len_is v6.len),Is_one _,fun gv W1 hgv hw1 hbv=>?_⟩;simp only [Exit.then,Act.put,List.setIfInBounds_toArray,List.set_cons_zero,List.set_cons_succ];refine hK _ _ ?_;clear hK K;have hc:=hw1.blk hc;have hy:=hw1.blk hy;have hbs:=hw1.blk hbs;have hbu:=hw1.blk hbu;have ho:=hw1.blk ho;have hbe:=below_up hbe hw1;clear hw1;refine wp_seq_k fun K hK=>?_;refine reg_var 4 9 27 (.tmp 26) z16 rfl rfl rfl rfl rfl rfl rfl (by kernel_rfl) (by kernel_rfl) (by kernel_rfl) (fun _ _ d _ _ h=>by cases d <;> exact h) (exec_alloc rfl (by kernel_rfl)) ?_;simp only [List.take_succ_cons,List.take_zero];refine b_ld gu 0 v3.len _ rfl rfl rfl (fun _ h=>(h.blk hbu).range) ?_;simp only [Act.put,List.setIfInBounds_toArray,List.set_cons_zero,List.set_cons_succ];refine b_ld gv 0 v6.len _ rfl rfl rfl (fun _ h=>(h.blk hbv).range) ?_;simp only [Act.put,List.setIfInBounds_toArray,List.set_cons_zero,List.set_cons_succ];refine b_num rfl own_inv (fun w1=>inv_f (v6.mono (by omega)) w1) rfl rfl ?_
 intro r7 v7
 simp only [Act.put,List.setIfInBounds_toArray,List.set_cons_zero,List.set_cons_succ];refine b_num rfl own_mul (fun w1=>mul_f (v3.mono (by omega)) (v7.mono (by omega)) w1) rfl rfl ?_
 intro r8 v8
 simp only [Act.put,List.setIfInBounds_toArray,List.set_cons_zero,List.set_cons_succ];refine wpB_nil ⟨(Is r8).toArray,fun _=>rfl,fun _=>rfl,(len_is v8.len).symm,size_num _ (len_is v8.len),Is_one _,fun gw W1 hgw hw1 hbw=>?_⟩;simp only [Exit.then,Act.put,List.setIfInBounds_toArray,List.set_cons_zero,List.set_cons_succ];refine hK _ _ ?_;clear hK K;have hc:=hw1.blk hc;have hy:=hw1.blk hy;have hbs:=hw1.blk hbs;have hbu:=hw1.blk hbu;have hbv:=hw1.blk hbv;have ho:=hw1.blk ho;have hbe:=below_up hbe hw1;clear hw1;rw [ww_def] at v8;refine wp_seq_k fun K hK=>?_;refine reg_varF 2 10 27 (.tmp 28) z16 rfl rfl rfl rfl rfl rfl rfl (exec_alloc rfl (by kernel_rfl)) ?_;simp only [List.take_succ_cons,List.take_zero];refine b_ld gw 0 v8.len _ rfl rfl rfl (fun _ h=>(h.blk hbw).range) ?_;simp only [Act.put,List.setIfInBounds_toArray,List.set_cons_zero,List.set_cons_succ];refine b_num rfl own_power (fun w1=>power_f (v8.mono (by omega)) 252 2 (by omega) (by decide) (by omega) w1) rfl rfl ?_
 intro r9 v9
 simp only [Act.put,List.setIfInBounds_toArray,List.set_cons_zero,List.set_cons_succ];refine wpB_nil ⟨(Is r9).toArray,fun _=>rfl,fun _=>rfl,(len_is v9.len).symm,size_num _ (len_is v9.len),Is_one _,fun gx W1 hgx hw1 hbx=>?_⟩;simp only [Exit.then,Act.put,List.setIfInBounds_toArray,List.set_cons_zero,List.set_cons_succ];refine hK _ _ ?_;clear hK K;have hxw : gw ≠ gx:=Nat.ne_of_lt (Nat.lt_of_lt_of_le hbw.lt hgx);have hxo : w.heap.size + 1 + 1 ≠ gx:=Nat.ne_of_lt (Nat.lt_of_lt_of_le ho.lt hgx);have hwx : w.heap.size ≤ gx:=Nat.le_trans hbe.size hgx;have hc:=hw1.blk hc;have hy:=hw1.blk hy;have hbs:=hw1.blk hbs;have hbu:=hw1.blk hbu;have hbv:=hw1.blk hbv;have hbw:=hw1.blk hbw;have ho:=hw1.blk ho;have hbe:=below_up hbe hw1;clear hw1;rw [e_pe] at v9
 change NB 65573 r9 (cand (ww y)) at v9
 refine wp_seq_k fun K hK=>?_
 have hrest : ∀ (q29 q30 q31 q32 q33 q34 q35 q36 q37 q38 : Value) (W : World) (rx : List Int),NB 65573 rx (rootc (ww y)) → Blk W gw 27 (Is r8).toArray → Blk W gx 27 (Is rx).toArray → Blk W (w.heap.size + 1 + 1) 27 z16 → Below w.heap.size w W → K { tmps:=#[.agg (Is D).toArray,.agg (Is Y).toArray,.pointer (some ⟨w.heap.size,0,none⟩),.pointer (some ⟨w.heap.size + 1,0,none⟩),.pointer (some ⟨w.heap.size + 1 + 1,0,none⟩),.bool false,.pointer (some ⟨gs,0,none⟩),.pointer (some ⟨gu,0,none⟩),.pointer (some ⟨gv,0,none⟩),.pointer (some ⟨gw,0,none⟩),.pointer (some ⟨gx,0,none⟩),.agg (Is Y).toArray,.agg (Is Y).toArray,.agg (Is r1).toArray,.agg (Is r1).toArray,.agg (Is r2).toArray,.agg (Is r3).toArray,.agg (Is r1).toArray,.pointer (some ⟨w.heap.size,0,none⟩),.agg (Is D).toArray,.agg (Is r4).toArray,.agg (Is r5).toArray,.agg (Is r6).toArray,.agg (Is r3).toArray,.agg (Is r6).toArray,.agg (Is r7).toArray,.agg (Is r8).toArray,.agg (Is r8).toArray,.agg (Is r9).toArray,q29,q30,q31,q32,q33,q34,q35,q36,q37,q38,undef,undef,undef,undef,undef,undef,undef,undef,undef,undef,undef,undef,undef,undef,undef,undef,undef,undef],defers:=[] } W:=by
  intro q29 q30 q31 q32 q33 q34 q35 q36 q37 q38 W rx nrx hbw hbx ho hbe
  refine hK _ _ ?_;clear hK K;refine wp_seq_k fun K hK=>?_;refine wp_seq_k fun K2 hK2=>?_;refine reg_q (by kernel_rfl) (by kernel_rfl) (fun _ _ d _ _ h=>by cases d <;> exact h) ?_;refine b_ld gx 0 nrx.len _ rfl rfl rfl (fun _ h=>(h.blk hbx).range) ?_;simp only [Act.put,List.setIfInBounds_toArray,List.set_cons_zero,List.set_cons_succ];refine b_ld gx 0 nrx.len _ rfl rfl rfl (fun _ h=>(h.blk hbx).range) ?_;simp only [Act.put,List.setIfInBounds_toArray,List.set_cons_zero,List.set_cons_succ];refine b_num rfl own_mul (fun w1=>mul_f (nrx.mono (by omega)) (nrx.mono (by omega)) w1) rfl rfl ?_
  intro r10 v10
  simp only [Act.put,List.setIfInBounds_toArray,List.set_cons_zero,List.set_cons_succ];refine b_ld gw 0 v8.len _ rfl rfl rfl (fun _ h=>(h.blk hbw).range) ?_;simp only [Act.put,List.setIfInBounds_toArray,List.set_cons_zero,List.set_cons_succ];refine b_one rfl own_same (fun w1=>same_f (v10.mono (by omega)) (v8.mono (by omega)) w1) rfl rfl ?_;simp only [Act.put,List.setIfInBounds_toArray,List.set_cons_zero,List.set_cons_succ];refine b_not _ rfl rfl rfl ?_;simp only [Act.put,List.setIfInBounds_toArray,List.set_cons_zero,List.set_cons_succ];refine wpB_nil ?_
  intro W1 hw1
  simp only [Exit.then];refine hK2 _ _ ?_;clear hK2 K2;have hbw:=hw1.blk hbw;have hbx:=hw1.blk hbx;have ho:=hw1.blk ho;have hbe:=below_up hbe hw1;clear hw1
  by_cases hs : rootc (ww y) * rootc (ww y) = ww y
  ·have hsq:=hroot.2 hs
   refine wp_cond (t:=false) (congrArg Value.bool (by rw [decide_eq_true hs]; rfl)) ?_;rw [if_neg (by decide)];refine wp_skip ?_;simp only [Exit.then];refine hK _ _ ?_;clear hK K;refine wp_seq_k fun K hK=>?_;refine wp_seq_k fun K2 hK2=>?_;refine reg_qF ?_;refine b_ld gx 0 nrx.len _ rfl rfl rfl (fun _ h=>(h.blk hbx).range) ?_;simp only [Act.put,List.setIfInBounds_toArray,List.set_cons_zero,List.set_cons_succ];refine b_one rfl own_pack (fun w1=>pack_f (nrx.mono (by omega)) w1) rfl rfl ?_;simp only [Act.put,List.setIfInBounds_toArray,List.set_cons_zero,List.set_cons_succ];refine b_index (enc (rootc (ww y))) (by rw [enc_len]; omega) rfl rfl rfl ?_;simp only [Act.put,List.setIfInBounds_toArray,List.set_cons_zero,List.set_cons_succ];refine b_rem2 _ ((enc (rootc (ww y)))[0]!).toNat_lt rfl rfl rfl ?_;simp only [Act.put,List.setIfInBounds_toArray,List.set_cons_zero,List.set_cons_succ];rw [le_low (b:=enc (rootc (ww y))) (by rw [enc_len]; omega),le_enc];refine b_is1 _ rfl rfl rfl ?_;simp only [Act.put,List.setIfInBounds_toArray,List.set_cons_zero,List.set_cons_succ];refine wpB_nil ?_
   intro W1 hw1
   simp only [Exit.then];refine hK2 _ _ ?_;clear hK2 K2;have hbw:=hw1.blk hbw;have hbx:=hw1.blk hbx;have ho:=hw1.blk ho;have hbe:=below_up hbe hw1;clear hw1
   by_cases hpar : (rootc (ww y)).val % 2 = 1
   ·have hE:=rootE_odd hpar
    refine wp_cond (t:=true) (congrArg Value.bool (decide_eq_true hpar)) ?_;rw [if_pos rfl];refine reg_set 5 (.tmp 10) 27 (.tmp 55) rfl rfl rfl rfl (by kernel_rfl) (by kernel_rfl) (fun _ _ d _ _ h=>by cases d <;> exact h) ?_;simp only [List.take_succ_cons,List.take_zero];refine b_num rfl own_of (fun w1=>of_f 0 (by omega) w1) rfl rfl ?_
    intro r11 v11
    simp only [Act.put,List.setIfInBounds_toArray,List.set_cons_zero,List.set_cons_succ];refine b_ld gx 0 nrx.len _ rfl rfl rfl (fun _ h=>(h.blk hbx).range) ?_;simp only [Act.put,List.setIfInBounds_toArray,List.set_cons_zero,List.set_cons_succ];refine b_num rfl own_sub (fun w1=>sub_f v11 nrx (by omega) (by omega) w1) rfl rfl ?_
    intro r12 v12
    simp only [Act.put,List.setIfInBounds_toArray,List.set_cons_zero,List.set_cons_succ];refine b_num rfl own_of (fun w1=>of_f 1 (by omega) w1) rfl rfl ?_
    intro r13 v13
    simp only [Act.put,List.setIfInBounds_toArray,List.set_cons_zero,List.set_cons_succ];refine b_num rfl own_mul (fun w1=>mul_f (v12.mono (by omega)) (v13.mono (by omega)) w1) rfl rfl ?_
    intro r14 v14
    simp only [Act.put,List.setIfInBounds_toArray,List.set_cons_zero,List.set_cons_succ];rw [neg_num,← hE] at v14;refine wpB_nil ⟨gx,_,_,rfl,rfl,hbx,(len_is nrx.len).trans (len_is v14.len).symm,size_num _ (len_is v14.len),Is_one _,fun W1 hw1=>?_⟩;simp only [Exit.then];refine hK _ _ ?_;clear hK K;have hbw:=hw1.blk hbw;have hbx:=hw1.blk hbx;have ho:=hw1.blk ho;have hbe:=below_up hbe hw1;clear hw1;have ho:=ho.rowFar hxo (Is r14).toArray;have hbx:=hbx.row (Is r14).toArray;have hbe:=below_setRow hbe hwx (Is r14).toArray;refine wp_seq_k fun K hK=>?_;refine wp_region_lit ?_;refine wpList_load_row rfl 27 _ rfl gx rfl 27 (Is r14).toArray (0,0) _ hbx Tryd.underlying27 rfl (size_num _ (len_is v14.len)) ?_;simp only [Act.put,List.setIfInBounds_toArray,List.set_cons_zero,List.set_cons_succ];refine wpList_store_row rfl 27 _ _ rfl (w.heap.size + 1 + 1) rfl (Is r14).toArray rfl 27 _ ho (size_num _ (len_is v14.len)) (len_is v14.len).symm (Is_one _) ?_;refine wpl_assign rfl rfl ?_;refine wpl_nil ?_;simp only [Exit.then,Act.put,List.setIfInBounds_toArray,List.set_cons_zero,List.set_cons_succ];refine hK _ _ ?_;clear hK K;refine wp_ret ?_;refine bodyPost_ret (results_cell_tmp rfl _ _ (w.heap.size + 1 + 1) 27 (Is r14).toArray (0,0) _ (.bool true) rfl rfl (ho.row _) Tryd.underlying27 rfl (size_num _ (len_is v14.len))) rfl ⟨.inl ⟨r14,v14,hsq,rfl⟩,?_⟩;exact below_setRow hbe (by omega) _
   ·have hE:=rootE_not hpar
    rw [← hE] at nrx;refine wp_cond (t:=false) (congrArg Value.bool (decide_eq_false hpar)) ?_;rw [if_neg (by decide)];refine wp_skip ?_;simp only [Exit.then];refine hK _ _ ?_;clear hK K;refine wp_seq_k fun K hK=>?_;refine wp_region_lit ?_;refine wpList_load_row rfl 27 _ rfl gx rfl 27 (Is rx).toArray (0,0) _ hbx Tryd.underlying27 rfl (size_num _ (len_is nrx.len)) ?_;simp only [Act.put,List.setIfInBounds_toArray,List.set_cons_zero,List.set_cons_succ];refine wpList_store_row rfl 27 _ _ rfl (w.heap.size + 1 + 1) rfl (Is rx).toArray rfl 27 _ ho (size_num _ (len_is nrx.len)) (len_is nrx.len).symm (Is_one _) ?_;refine wpl_assign rfl rfl ?_;refine wpl_nil ?_;simp only [Exit.then,Act.put,List.setIfInBounds_toArray,List.set_cons_zero,List.set_cons_succ];refine hK _ _ ?_;clear hK K;refine wp_ret ?_;refine bodyPost_ret (results_cell_tmp rfl _ _ (w.heap.size + 1 + 1) 27 (Is rx).toArray (0,0) _ (.bool true) rfl rfl (ho.row _) Tryd.underlying27 rfl (size_num _ (len_is nrx.len))) rfl ⟨.inl ⟨rx,nrx,hsq,rfl⟩,?_⟩;exact below_setRow hbe (by omega) _
  ·have hsq : ¬ ∃ x,x * x = ww y:=fun h=>hs (hroot.1 h)
   refine wp_cond (t:=true) (congrArg Value.bool (by rw [decide_eq_false hs]; rfl)) ?_;rw [if_pos rfl];refine wp_seq_k fun K2 hK2=>?_;refine wp_region_lit ?_;refine wpl_build [] z16 rfl rfl rfl (by kernel_rfl) ?_;simp only [Act.put,List.setIfInBounds_toArray,List.set_cons_zero,List.set_cons_succ];refine wpList_store_row rfl 27 _ _ rfl (w.heap.size + 1 + 1) rfl z16 rfl 27 _ ho (size_num _ rfl) rfl (Is_one n16) ?_;refine wpl_assign rfl rfl ?_;refine wpl_nil ?_;simp only [Exit.then,Act.put,List.setIfInBounds_toArray,List.set_cons_zero,List.set_cons_succ];refine hK2 _ _ ?_;refine wp_ret ?_;simp only [Exit.then];refine bodyPost_ret (results_cell_tmp rfl _ _ (w.heap.size + 1 + 1) 27 z16 (0,0) _ (.bool false) rfl rfl (ho.row _) Tryd.underlying27 rfl (size_num _ rfl)) rfl ⟨.inr ⟨hsq,rfl⟩,?_⟩;exact below_setRow hbe (by omega) _
 clear hK;refine wp_seq_k fun K2 hK2=>?_;refine reg_q (by kernel_rfl) (by kernel_rfl) (fun _ _ d _ _ h=>by cases d <;> exact h) ?_;refine b_ld gx 0 v9.len _ rfl rfl rfl (fun _ h=>(h.blk hbx).range) ?_;simp only [Act.put,List.setIfInBounds_toArray,List.set_cons_zero,List.set_cons_succ];refine b_ld gx 0 v9.len _ rfl rfl rfl (fun _ h=>(h.blk hbx).range) ?_;simp only [Act.put,List.setIfInBounds_toArray,List.set_cons_zero,List.set_cons_succ];refine b_num rfl own_mul (fun w1=>mul_f (v9.mono (by omega)) (v9.mono (by omega)) w1) rfl rfl ?_
 intro r15 v15
 simp only [Act.put,List.setIfInBounds_toArray,List.set_cons_zero,List.set_cons_succ];refine b_ld gw 0 v8.len _ rfl rfl rfl (fun _ h=>(h.blk hbw).range) ?_;simp only [Act.put,List.setIfInBounds_toArray,List.set_cons_zero,List.set_cons_succ];refine b_one rfl own_same (fun w1=>same_f (v15.mono (by omega)) (v8.mono (by omega)) w1) rfl rfl ?_;simp only [Act.put,List.setIfInBounds_toArray,List.set_cons_zero,List.set_cons_succ];refine b_not _ rfl rfl rfl ?_;simp only [Act.put,List.setIfInBounds_toArray,List.set_cons_zero,List.set_cons_succ];refine wpB_nil ?_
 intro W1 hw1
 simp only [Exit.then];refine hK2 _ _ ?_;clear hK2 K2;have hbw:=hw1.blk hbw;have hbx:=hw1.blk hbx;have ho:=hw1.blk ho;have hbe:=below_up hbe hw1;clear hw1
 by_cases hs : cand (ww y) * cand (ww y) = ww y
 ·have hE : rootc (ww y) = cand (ww y):=if_pos hs
  refine wp_cond (t:=false) (congrArg Value.bool (by rw [decide_eq_true hs]; rfl)) ?_;rw [if_neg (by decide)];refine wp_skip ?_;simp only [Exit.then];refine hrest _ _ _ _ _ _ _ _ _ _ W1 _ ?_ hbw hbx ho hbe;rw [hE];exact v9
 ·have hE : rootc (ww y) = cand (ww y) * im:=if_neg hs
  refine wp_cond (t:=true) (congrArg Value.bool (by rw [decide_eq_false hs]; rfl)) ?_;rw [if_pos rfl];refine reg_set 4 (.tmp 10) 27 (.tmp 38) rfl rfl rfl rfl (by kernel_rfl) (by kernel_rfl) (fun _ _ d _ _ h=>by cases d <;> exact h) ?_;simp only [List.take_succ_cons,List.take_zero];refine b_ld gx 0 v9.len _ rfl rfl rfl (fun _ h=>(h.blk hbx).range) ?_;simp only [Act.put,List.setIfInBounds_toArray,List.set_cons_zero,List.set_cons_succ];refine b_num rfl own_of (fun w1=>of_f 2 (by omega) w1) rfl rfl ?_
  intro r16 v16
  simp only [Act.put,List.setIfInBounds_toArray,List.set_cons_zero,List.set_cons_succ];refine b_num rfl own_power (fun w1=>power_f (v16.mono (by omega)) 253 5 (by omega) (by decide) (by omega) w1) rfl rfl ?_
  intro r17 v17
  simp only [Act.put,List.setIfInBounds_toArray,List.set_cons_zero,List.set_cons_succ];refine b_num rfl own_mul (fun w1=>mul_f (v9.mono (by omega)) (v17.mono (by omega)) w1) rfl rfl ?_
  intro r18 v18
  simp only [Act.put,List.setIfInBounds_toArray,List.set_cons_zero,List.set_cons_succ];rw [e_pq] at v18
  change NB 65573 r18 (cand (ww y) * im) at v18
  rw [← hE] at v18;refine wpB_nil ⟨gx,_,_,rfl,rfl,hbx,(len_is v9.len).trans (len_is v18.len).symm,size_num _ (len_is v18.len),Is_one _,fun W1 hw1=>?_⟩;simp only [Exit.then];have hbw:=hw1.blk hbw;have hbx:=hw1.blk hbx;have ho:=hw1.blk ho;have hbe:=below_up hbe hw1;clear hw1;exact hrest _ _ _ _ _ _ _ _ _ _ _ r18 v18 (hbw.rowFar hxw _) (hbx.row _) (ho.rowFar hxo _) (below_setRow hbe hwx _)
 -- end root
end Go.Proofs.YtminmeljonbogaaDoor
/-
  THE DOCUMENT'S OWN POINTS: Base, Mul, Small.
-/
namespace Go.Proofs.YtminmeljonbogaaDoor
open Go.RowKit Go.IntWalk Nums

section
variable {ops : Array Oper} {C0 : World → Prop} {Q : Act → Prop} {a : Act} {o : Oper} {rest : List Oper}
theorem b_pt {f : FuncId} {xs : Array Operand} {ats : Array TypeId} {args : Array Value} {A : Ed.Pt p} (hg : Region.wanted o (yielded ops a.tmps) = true)
  (hf : Own f) (hc : ∀ w,Calls Tryd.prog f args w (fun e w'=>∃ X Y Z T,PR X Y Z T A ∧ e = .returned (.agg (pt X Y Z T).toArray) ∧ Below w.heap.size w w'))
  (ho : o.op = .call { callee:=.value (.func f),args:=xs,argTypes:=ats }) (hx : xs.toList.map a.eval = args.toList) (hk : ∀ X Y Z T,PR X Y Z T A → wpB Tryd.prog ops C0 Q rest (a.put o.dst (.agg (pt X Y Z T).toArray))) : wpB Tryd.prog ops C0 Q (o :: rest) a:=by
 refine b_call (f:=f) (args:=args) (fun v=>∃ X Y Z T,PR X Y Z T A ∧ v = .agg (pt X Y Z T).toArray) hg (by rw [ho]; rfl) (fun w _=>(hc w).mono ?_) (fun w=>by rw [run_call_fn hf ho,map_eval hx]) ?_
 ·rintro e w2 ⟨X,Y,Z,T,hr,rfl,hw2⟩
  exact ⟨_,rfl,⟨X,Y,Z,T,hr,rfl⟩,hw2⟩
 ·rintro _ ⟨X,Y,Z,T,hr,rfl⟩
  exact hk X Y Z T hr
end
theorem own_root : Own 72:=fun _ _=>by go_simp
theorem own_on : Own 73:=fun _ _=>by go_simp
theorem own_zero : Own 71:=fun _ _=>by go_simp
theorem PR.len {X Y Z T : List Int} {A : Ed.Pt p} (h : PR X Y Z T A) : (pt X Y Z T).toArray.size = 64:=by
 obtain ⟨⟨x,y,z,hx,hy,hz,_⟩,_,ht⟩:=h;exact pt_len hx.len hy.len hz.len ht
set_option maxRecDepth 100000 in
set_option maxHeartbeats 2000000 in
theorem base_f {D : List Int} (hD : NB 65573 D dd) (w : World) :
  Calls Tryd.prog 35 #[.agg (Is D).toArray] w fun e w'=>∃ X Y Z T,PR X Y Z T base ∧ e = .returned (.agg (pt X Y Z T).toArray) ∧ Below w.heap.size w w':=by
 have hsq : ∃ x,x * x = ww (fof bY):=⟨_,(on_iff (fof bx) (fof bY)).mp on_base⟩
 go_enter Tryd.func35,Tryd.ntmps35
 refine wp_seq_k fun K hK=>?_;refine wp_region_lit ?_;refine wpl_box (Is D).toArray rfl rfl rfl ?_;refine wpl_alloc (zs:=(pt n16 n16 n16 n16).toArray) rfl rfl (by kernel_rfl) ?_;refine wpl_nil ?_
 go_simp
 refine hK _ _ ?_;clear hK K
 refine wp_at (fun W=>Blk W w.heap.size 29 (Is D).toArray ∧ Blk W (w.heap.size + 1) 69 (pt n16 n16 n16 n16).toArray ∧ Below w.heap.size w W)
  ⟨heap_alloc2_old w _ _,heap_alloc2_new w _ _,((Below.refl _ _).alloc (Nat.le_refl _) _).alloc (by simp) _⟩ ?_
 rintro W ⟨hc,ho,hbe⟩
 -- walk base
 refine wp_seq_k fun K hK=>?_;refine reg_varF 4 3 27 (.tmp 9) z16 rfl rfl rfl rfl rfl rfl rfl (exec_alloc rfl (by kernel_rfl)) ?_;simp only [List.take_succ_cons,List.take_zero];refine b_num rfl own_of (fun w1=>of_f 4 (by omega) w1) rfl rfl ?_
 intro r1 v1
 simp only [Act.put,List.setIfInBounds_toArray,List.set_cons_zero,List.set_cons_succ];refine b_num rfl own_of (fun w1=>of_f 5 (by omega) w1) rfl rfl ?_
 intro r2 v2
 simp only [Act.put,List.setIfInBounds_toArray,List.set_cons_zero,List.set_cons_succ];refine b_num rfl own_inv (fun w1=>inv_f (v2.mono (by omega)) w1) rfl rfl ?_
 intro r3 v3
 simp only [Act.put,List.setIfInBounds_toArray,List.set_cons_zero,List.set_cons_succ];refine b_num rfl own_mul (fun w1=>mul_f (v1.mono (by omega)) (v3.mono (by omega)) w1) rfl rfl ?_
 intro r4 v4
 simp only [Act.put,List.setIfInBounds_toArray,List.set_cons_zero,List.set_cons_succ];refine wpB_nil ⟨(Is r4).toArray,fun _=>rfl,fun _=>rfl,(len_is v4.len).symm,size_num _ (len_is v4.len),Is_one _,fun gy W1 hgy hw1 hby=>?_⟩;simp only [Exit.then,Act.put,List.setIfInBounds_toArray,List.set_cons_zero,List.set_cons_succ];refine hK _ _ ?_;clear hK K;have hc:=hw1.blk hc;have ho:=hw1.blk ho;have hbe:=below_up hbe hw1;clear hw1;rw [← base_y] at v4;refine wp_seq_k fun K hK=>?_;refine reg_tailF 6 ?_;simp only [List.take_succ_cons,List.take_zero,List.drop_succ_cons,List.drop_zero];refine b_ldc w.heap.size hD.len _ rfl rfl rfl (fun _ h=>(h.blk hc).range) ?_;simp only [Act.put,List.setIfInBounds_toArray,List.set_cons_zero,List.set_cons_succ];refine b_ld gy 0 v4.len _ rfl rfl rfl (fun _ h=>(h.blk hby).range) ?_;simp only [Act.put,List.setIfInBounds_toArray,List.set_cons_zero,List.set_cons_succ];refine b_call (f:=72) (args:=#[.agg (Is D).toArray,.agg (Is r4).toArray]) (fun v=>∃ r,NB 65573 r (fof bx) ∧ v = .tuple #[.agg (Is r).toArray,.bool true]) rfl rfl (fun w1 _=>(root_f hD (v4) w1).mono ?_) (fun w=>by rw [run_call_fn own_root rfl,map_eval (args:=#[.agg (Is D).toArray,.agg (Is r4).toArray]) rfl]) ?_
 ·rintro e w2 ⟨⟨r,hr,_,rfl⟩ | ⟨hn,_⟩,hw2⟩
  ·rw [base_x] at hr
   exact ⟨_,rfl,⟨r,hr,rfl⟩,hw2⟩
  ·exact absurd hsq hn
 rintro _ ⟨rx,nrx,rfl⟩
 simp only [Act.put,List.setIfInBounds_toArray,List.set_cons_zero,List.set_cons_succ];refine b_move rfl rfl ?_;simp only [Act.put,List.setIfInBounds_toArray,List.set_cons_zero,List.set_cons_succ];refine b_extract (.agg (Is rx).toArray) rfl rfl rfl rfl ?_;simp only [Act.put,List.setIfInBounds_toArray,List.set_cons_zero,List.set_cons_succ];refine b_extract (.bool true) rfl rfl rfl rfl ?_;simp only [Act.put,List.setIfInBounds_toArray,List.set_cons_zero,List.set_cons_succ];refine wpB_nil ?_
 intro W1 hw1
 have hc:=hw1.blk hc
 have hby:=hw1.blk hby
 have ho:=hw1.blk ho;have hbe:=below_up hbe hw1;clear hw1;refine wpl_alloc (zs:=z16) rfl rfl (by kernel_rfl) ?_;simp only [Act.put,List.setIfInBounds_toArray,List.set_cons_zero,List.set_cons_succ];generalize hgx : W1.heap.size = gx
 have hbx : Blk (W1.alloc (.cells z16 27)) gx 27 z16:=by rw [← hgx]; exact Blk.new W1 _ _
 refine wpList_store_row rfl 27 _ _ rfl gx rfl (Is rx).toArray rfl 27 _ hbx (size_num _ (len_is nrx.len)) (len_is nrx.len).symm (Is_one _) ?_;refine wpl_assign rfl rfl ?_;refine wpl_nil ?_;simp only [Exit.then,Act.put,List.setIfInBounds_toArray,List.set_cons_zero,List.set_cons_succ];refine hK _ _ ?_;clear hK K;have hgo : w.heap.size + 1 ≠ gx:=Nat.ne_of_lt (hgx ▸ ho.lt);have hwx : w.heap.size ≤ gx:=hgx ▸ hbe.size;have ho:=(ho.alloc (.cells z16 27)).rowFar hgo (Is rx).toArray;have hby:=(hby.alloc (.cells z16 27)).rowFar (Nat.ne_of_lt (hgx ▸ hby.lt)) (Is rx).toArray;have hbx:=hbx.row (Is rx).toArray;have hbe:=below_setRow (hbe.alloc hbe.size (.cells z16 27)) hwx (Is rx).toArray;clear hc hgx;generalize (W1.alloc (.cells z16 27)).setRow gx (Is rx).toArray = W1 at *;refine wp_seq_k fun K hK=>?_;refine reg_setF 3 (.tmp 2) 69 (.tmp 18) rfl rfl rfl rfl ?_;simp only [List.take_succ_cons,List.take_zero];refine b_ld gx 0 nrx.len _ rfl rfl rfl (fun _ h=>(h.blk hbx).range) ?_;simp only [Act.put,List.setIfInBounds_toArray,List.set_cons_zero,List.set_cons_succ];refine b_ld gy 0 v4.len _ rfl rfl rfl (fun _ h=>(h.blk hby).range) ?_;simp only [Act.put,List.setIfInBounds_toArray,List.set_cons_zero,List.set_cons_succ];refine b_pt rfl own_on (fun w1=>on_f nrx v4 on_base w1) rfl rfl ?_
 intro X Y Z T hr
 simp only [Act.put,List.setIfInBounds_toArray,List.set_cons_zero,List.set_cons_succ];refine wpB_nil ⟨w.heap.size + 1,_,_,rfl,rfl,ho,(pt_len rfl rfl rfl rfl).trans hr.len.symm,size_pt _ hr.len,pt_one _ _ _ _,fun W1 hw1=>?_⟩;simp only [Exit.then];refine hK _ _ ?_;clear hK K;have ho:=hw1.blk ho;have hbe:=below_up hbe hw1;refine wp_ret ?_;refine bodyPost_ret (results_cell_row rfl _ _ (w.heap.size + 1) 69 (pt X Y Z T).toArray (0,0) _ rfl (ho.row _) Tryd.underlying69 rfl (size_pt _ hr.len)) rfl ⟨X,Y,Z,T,hr,rfl,?_⟩;exact below_setRow hbe (by omega) _
 -- end base

structure MW (w wr : World) (g : Nat) (D X1 Y1 Z1 T1 X Y Z T : List Int) (n : List UInt8) : Prop where
  c : Blk wr w.heap.size 29 (Is D).toArray
  p : Blk wr (w.heap.size + 1) 69 (pt X1 Y1 Z1 T1).toArray
  n : Blk wr (w.heap.size + 1 + 1) 22 (By n).toArray
  o : Blk wr (w.heap.size + 1 + 1 + 1) 69 (pt n16 n16 n16 n16).toArray
  r : Blk wr g 69 (pt X Y Z T).toArray
  hg : w.heap.size + 1 + 1 + 1 < g
  be : Below w.heap.size w wr
theorem MW.next {w wr w1 : World} {g : Nat} {D X1 Y1 Z1 T1 X Y Z T X' Y' Z' T' : List Int} {n : List UInt8} (h : MW w wr g D X1 Y1 Z1 T1 X Y Z T n) (hw : Below wr.heap.size wr w1) :
  MW w (w1.setRow g (pt X' Y' Z' T').toArray) g D X1 Y1 Z1 T1 X' Y' Z' T' n where
 c:=(h.c.later hw).rowFar (by have:=h.hg; omega) _
 p:=(h.p.later hw).rowFar (by have:=h.hg; omega) _
 n:=(h.n.later hw).rowFar (by have:=h.hg; omega) _
 o:=(h.o.later hw).rowFar (by have:=h.hg; omega) _
 r:=(h.r.later hw).row _
 hg:=h.hg
 be:=below_setRow (h.be.trans (hw.mono h.be.size)) (by have:=h.hg; omega) _

theorem le_bit {n : List UInt8} (i : Nat) (hi : i / 8 < n.length) : (n[i / 8]!).toNat / 2 ^ (i % 8) % 2 = le n / 2 ^ i % 2:=by
 have e1 : n = n.take (i / 8) ++ (n[i / 8]! :: n.drop (i / 8 + 1)):=by
  conv=>lhs; rw [← List.take_append_drop (i / 8) n]
  rw [List.drop_eq_getElem_cons hi,getElem!_pos n (i / 8) hi]
 have e2 : le n = le (n.take (i / 8)) + 256 ^ (i / 8) * ((n[i / 8]!).toNat + 256 * le (n.drop (i / 8 + 1))):=by
  conv=>lhs; rw [e1]
  rw [le_append,List.length_take,Nat.min_eq_left (by omega)]
  rfl
 have h1:=le_lt (n.take (i / 8));rw [List.length_take,Nat.min_eq_left (by omega)] at h1
 have e3 : (2 : Nat) ^ i = 256 ^ (i / 8) * 2 ^ (i % 8):=by
  rw [show (256 : Nat) = 2 ^ 8 by decide,← Nat.pow_mul,← Nat.pow_add]
  congr 1
  omega
 rw [e2,e3,← Nat.div_div_eq_div_mul,Nat.add_mul_div_left _ _ (by exact Nat.pow_pos (by decide)),Nat.div_eq_of_lt h1,Nat.zero_add];have h8 : i % 8 < 8:=Nat.mod_lt _ (by decide);generalize (n[i / 8]!).toNat = c;generalize le (n.drop (i / 8 + 1)) = d;generalize i % 8 = k at *
 have e4 : (256 : Nat) = 2 ^ k * 2 ^ (8 - k):=by
  rw [← Nat.pow_add,show k + (8 - k) = 8 by omega]
 rw [e4,Nat.mul_assoc,Nat.add_mul_div_left _ _ (Nat.pow_pos (by decide))]
 have e5 : 2 ^ (8 - k) * d = 2 * (2 ^ (7 - k) * d):=by
  rw [show 8 - k = (7 - k) + 1 by omega,Nat.pow_succ]
  grind only
 rw [e5]
 omega

set_option maxRecDepth 100000 in
set_option maxHeartbeats 4000000 in
theorem pmul_f {D X1 Y1 Z1 T1 : List Int} {A : Ed.Pt p} {n : List UInt8} (hD : NB 65573 D dd) (h1 : PR X1 Y1 Z1 T1 A) (hn : n.length = 32) (w : World) :
  Calls Tryd.prog 34 #[.agg (Is D).toArray,.agg (pt X1 Y1 Z1 T1).toArray,.agg (By n).toArray] w fun e w'=>∃ X Y Z T,PR X Y Z T (Ed.mul dd (le n) A) ∧ e = .returned (.agg (pt X Y Z T).toArray) ∧ Below w.heap.size w w':=by
 go_enter Tryd.func34,Tryd.ntmps34
 refine wp_seq_k fun K hK=>?_;refine wp_region_lit ?_;refine wpl_box (Is D).toArray rfl rfl rfl ?_;refine wpl_box (pt X1 Y1 Z1 T1).toArray rfl rfl rfl ?_;refine wpl_box (By n).toArray rfl rfl rfl ?_;refine wpl_alloc (zs:=(pt n16 n16 n16 n16).toArray) rfl rfl (by kernel_rfl) ?_;refine wpl_nil ?_
 go_simp
 refine hK _ _ ?_;clear hK K
 refine wp_at (fun W=>Blk W w.heap.size 29 (Is D).toArray ∧ Blk W (w.heap.size + 1) 69 (pt X1 Y1 Z1 T1).toArray ∧ Blk W (w.heap.size + 1 + 1) 22 (By n).toArray ∧
  Blk W (w.heap.size + 1 + 1 + 1) 69 (pt n16 n16 n16 n16).toArray ∧ Below w.heap.size w W) ⟨blk4_0 w _ _ _ _ _,blk4_1 w _ _ _ _ _,blk4_2 w _ _ _ _ _,blk4_3 w _ _ _ _ _,below4 _ _ _ _ _⟩ ?_
 rintro W ⟨hc,hp,hq,ho,hbe⟩
 refine wp_seq_k fun K hK=>?_;refine reg_varF 1 7 69 (.tmp 9) (pt n16 n16 n16 n16).toArray rfl rfl rfl rfl rfl rfl rfl (exec_alloc rfl (by kernel_rfl)) ?_;simp only [List.take_succ_cons,List.take_zero];refine b_pt rfl own_zero (fun w1=>zero_f w1) rfl rfl ?_
 intro X0 Y0 Z0 T0 hr0
 simp only [Act.put,List.setIfInBounds_toArray,List.set_cons_zero,List.set_cons_succ];refine wpB_nil ⟨_,fun _=>rfl,fun _=>rfl,(pt_len rfl rfl rfl rfl).trans hr0.len.symm,size_pt _ hr0.len,pt_one _ _ _ _,fun g W1 hg hw1 hb=>?_⟩;simp only [Exit.then,Act.put,List.setIfInBounds_toArray,List.set_cons_zero,List.set_cons_succ];refine hK _ _ ?_;clear hK K;have HM : Hid (MW w W1 g D X1 Y1 Z1 T1 X0 Y0 Z0 T0 n):=Lib.hid ⟨hw1.blk hc,hw1.blk hp,hw1.blk hq,hw1.blk ho,hb,Nat.lt_of_lt_of_le ho.lt hg,below_up hbe hw1⟩;have H1:=Lib.hid h1;have H0:=Lib.hid hr0;clear hc hp hq ho hbe hw1 hb hg h1 hr0
 go_wp2
 go_loopw [8] (fun i wr=>∃ k : Nat,k ≤ 256 ∧ i = .int .i64 ((k : Int) - 1) ∧ ∃ X Y Z T,PR X Y Z T (Ed.mul dd (le n / 2 ^ k) A) ∧ MW w wr g D X1 Y1 Z1 T1 X Y Z T n) (fun i _=>(intOf i + 1).toNat)
 case atStart =>
  refine ⟨256,by omega,rfl,X0,Y0,Z0,T0,?_,HM.out⟩;have h:=le_lt n;rw [hn,show (256 : Nat) ^ 32 = 2 ^ 256 by decide] at h;rw [Nat.div_eq_of_lt h];exact H0.out
 case round =>
  clear HM H0;obtain ⟨k,hk,rfl,X,Y,Z,T,hr,hM⟩:=hrel
  by_cases hlt : 0 < k
  ·obtain ⟨i,rfl⟩ : ∃ i,k = i + 1:=⟨k - 1,by omega⟩
   have e0 : (((i + 1 : Nat) : Int) - 1) = (i : Int):=by omega
   rw [e0];have HA:=fun w1=>Lib.hid (padd_f hD hr hr w1)
   have hdb : Ed.add dd (Ed.mul dd (le n / 2 ^ (i + 1)) A) (Ed.mul dd (le n / 2 ^ (i + 1)) A) = Ed.mul dd (2 * (le n / 2 ^ (i + 1))) A:=by
    rw [Nat.two_mul,Ed.mul_add good H1.out.on]
   rw [hdb] at HA;have hzc : (Is D).toArray.size = 16:=len_is hD.len;have hzr:=hr.len;have hbc:=hM.c;have hbr:=hM.r;have HM:=Lib.hid hM;clear hM hdb
   go_wp2_with (first
    | (refine wpList_load_row rfl 29 _ rfl w.heap.size rfl 29 (Is D).toArray (0,0) _ hbc Tryd.underlying29 rfl (size_curve _ hzc) ?_)
    | (refine wpList_load_row rfl 69 _ rfl g rfl 69 (pt X Y Z T).toArray (0,0) _ hbr Tryd.underlying69 rfl (size_pt _ hzr) ?_))
   refine (HA _).out.mono ?_
   rintro e w2 ⟨X2,Y2,Z2,T2,hr2,rfl,hw2⟩
   have hz2:=hr2.len;have hbr2:=HM.out.r.later hw2;have hM2:=HM.out.next (X':=X2) (Y':=Y2) (Z':=Z2) (T':=T2) hw2;have hbc2:=hM2.c;have hbp2:=hM2.p;have hbr3:=hM2.r;have cn:=(hM2.n.cell (i / 8)).trans (By_get (by omega));have hbit:=le_bit (n:=n) i (by omega);have HM2:=Lib.hid hM2;have hcl : (n[i / 8]!).toNat < 256:=(n[i / 8]!).toNat_lt;clear HM HA hbc hbr hw2 hM2
   have hin : (((n[i / 8]!).toNat : Int) / 2 ^ (i % 8)).tmod 2 = ((le n / 2 ^ i % 2 : Nat) : Int):=by
    rw [← hbit,Int.tmod_eq_emod_of_nonneg (Int.ediv_nonneg (by omega) (Int.pow_nonneg (by decide)))]
    simp
   have hsplit : le n / 2 ^ i / 2 = le n / 2 ^ (i + 1):=by rw [Nat.div_div_eq_div_mul,Nat.pow_succ]
   generalize (n[i / 8]!).toNat = cc at *;clear hbit;have hz1:=H1.out.len
   by_cases hb : le n / 2 ^ i % 2 = 1
   ·rw [hb] at hin
    have HA:=fun w1=>Lib.hid (padd_f hD hr2 H1.out w1)
    have hdb : Ed.add dd (Ed.mul dd (2 * (le n / 2 ^ (i + 1))) A) A = Ed.mul dd (le n / 2 ^ i) A:=by
     rw [← Ed.mul_succ]
     congr 1
     omega
    rw [hdb] at HA;clear hdb hsplit hb
    go_wp2_with (first
     | (refine wpList_store_row rfl 69 _ _ rfl g rfl (pt X2 Y2 Z2 T2).toArray rfl 69 _ hbr2 (size_pt _ hz2) (hzr.trans hz2.symm) (pt_one _ _ _ _) ?_)
     | (refine wpList_load_row rfl 29 _ rfl w.heap.size rfl 29 (Is D).toArray (0,0) _ hbc2 Tryd.underlying29 rfl (size_curve _ hzc) ?_)
     | (refine wpList_load_row rfl 69 _ rfl g rfl 69 (pt X2 Y2 Z2 T2).toArray (0,0) _ hbr3 Tryd.underlying69 rfl (size_pt _ hz2) ?_)
     | (refine wpList_load_row rfl 69 _ rfl (w.heap.size + 1) rfl 69 (pt X1 Y1 Z1 T1).toArray (0,0) _ hbp2 Tryd.underlying69 rfl (size_pt _ hz1) ?_))
    refine (HA _).out.mono ?_
    rintro e w3 ⟨X3,Y3,Z3,T3,hr3,rfl,hw3⟩
    have hz3:=hr3.len;have hbr4:=HM2.out.r.later hw3;have HM3:=Lib.hid (HM2.out.next (X':=X3) (Y':=Y3) (Z':=Z3) (T':=T3) hw3);clear HM2 HA hbc2 hbp2 hbr2 hbr3 hw3 hin
    go_wp2_with (refine wpList_store_row rfl 69 _ _ rfl g rfl (pt X3 Y3 Z3 T3).toArray rfl 69 _ hbr4 (size_pt _ hz3) (hz2.trans hz3.symm) (pt_one _ _ _ _) ?_)
    go_roundw
    case rel=>exact ⟨i,by omega,rfl,X3,Y3,Z3,T3,hr3,HM3.out⟩
    case measure=>simp [intOf]
   ·have hb0 : le n / 2 ^ i % 2 = 0:=by omega
    rw [hb0] at hin
    have he : 2 * (le n / 2 ^ (i + 1)) = le n / 2 ^ i:=by omega
    rw [he] at hr2;clear hsplit hb hb0
    go_wp2_with (refine wpList_store_row rfl 69 _ _ rfl g rfl (pt X2 Y2 Z2 T2).toArray rfl 69 _ hbr2 (size_pt _ hz2) (hzr.trans hz2.symm) (pt_one _ _ _ _) ?_)
    go_roundw
    case rel=>exact ⟨i,by omega,rfl,X2,Y2,Z2,T2,hr2,HM2.out⟩
    case measure=>simp [intOf]
  ·obtain rfl : k = 0:=by omega
   rw [Nat.pow_zero,Nat.div_one] at hr;have hzr:=hr.len;have hbr:=hM.r;have hbo:=hM.o;have HB:=Lib.hid hM.be;clear hM
   go_wp2_with (first
    | (refine wpList_load_row rfl 69 _ rfl g rfl 69 (pt X Y Z T).toArray (0,0) _ hbr Tryd.underlying69 rfl (size_pt _ hzr) ?_)
    | (refine wpList_store_row rfl 69 _ _ rfl (w.heap.size + 1 + 1 + 1) rfl (pt X Y Z T).toArray rfl 69 _ hbo (size_pt _ hzr) ((pt_len rfl rfl rfl rfl).trans hzr.symm) (pt_one _ _ _ _) ?_))
   refine bodyPost_ret (results_cell_row rfl _ _ (w.heap.size + 1 + 1 + 1) 69 (pt X Y Z T).toArray (0,0) _ rfl (hbo.row _) Tryd.underlying69 rfl (size_pt _ hzr)) rfl ⟨X,Y,Z,T,hr,rfl,?_⟩;exact below_setRow HB.out (by omega) _

end Go.Proofs.YtminmeljonbogaaDoor
/-
  THE DOCUMENT'S OWN POINTS: Decode.
-/
namespace Go.Proofs.YtminmeljonbogaaDoor
open Go.RowKit Go.IntWalk Nums

/-! ### Plain: the highest bit away -/
def cutb (b : List UInt8) : List UInt8:=b.set 31 (UInt8.ofNat ((b[31]!).toNat % 128))
theorem cutb_len {b : List UInt8} (hb : b.length = 32) : (cutb b).length = 32:=by rw [cutb,List.length_set,hb]
theorem le_cutb {b : List UInt8} (hb : b.length = 32) : le b = le (cutb b) + 57896044618658097711785492504343953926634992332820282019728792003956564819968 * ((b[31]!).toNat / 128) ∧ le (cutb b) < 57896044618658097711785492504343953926634992332820282019728792003956564819968:=by
 have h1:=le_top hb;have h2:=le_rest hb;have h3:=set31 hb (UInt8.ofNat ((b[31]!).toNat % 128));rw [UInt8.toNat_ofNat_of_lt' (by show _ < 256; omega)] at h3
 unfold cutb
 omega
theorem good_cutb {b : List UInt8} (hb : b.length = 32) : isGood (cutb b) = decide (le (cutb b) < p):=by
 have h:=(le_cutb hb).2;have hl:=cutb_len hb;have h128:=(top_iff hl).2 h
 unfold isGood
 rw [Nat.mod_eq_of_lt h,decide_eq_true h128,Bool.true_and]
 congr 1
 refine propext ⟨fun e=>?_,fun e=>?_⟩
 ·rw [← e,le_enc]
  exact (fof _).isLt
 ·exact (enc_of hl (x:=fof (le (cutb b))) (by rw [fof_val,Nat.mod_eq_of_lt e])).symm
theorem not_good {b : List UInt8} (hb : b.length = 32) (h : ¬ le (cutb b) < p) : ¬ ∃ A,Ed.On dd A ∧ encP A = b:=by
 rintro ⟨A,_,rfl⟩
 have h1:=le_cutb hb;rw [le_encP] at h1
 unfold encN at h1
 have h2:=A.y.isLt;have h3:=p_lt
 omega
end Go.Proofs.YtminmeljonbogaaDoor
/-
  STEPS AT BYTES, over frames by what is known of them; points and their bytes, in plain numbers.
-/
namespace Go.Proofs.YtminmeljonbogaaDoor
open Go.RowKit Go.IntWalk Nums

section
variable {ops : Array Oper} {C0 : World → Prop} {Q : Act → Prop} {N : Nat} {E : List (Nat × Value)} {o : Oper} {rest : List Oper} {k : Nat}
theorem f_by {x : Operand} {l : List UInt8} (b off : Nat) (hl : l.length = 32) (hg : o.guard = none) (hd : o.dst = some k) (hk : Nat.blt k N = true) (ho : o.op = .load 22 x) (hx : ev E x = some (.pointer (some ⟨b,off,none⟩)))
  (hc : ∀ w,C0 w → w.rangeAt b off (By l)) (hn : bF Tryd.prog ops C0 Q rest N ((k,.agg (By l).toArray) :: E)) : bF Tryd.prog ops C0 Q (o :: rest) N E :=
 f_row b off (By l) _ hg hd hk ho hx hc Tryd.underlying22 rfl (by have:=size_hash (By l).toArray (len_by hl); simpa using this) hn
theorem f_orB {x y : Operand} {t : TypeId} (m n r : Int) (hg : o.guard = none) (hd : o.dst = some k) (hk : Nat.blt k N = true) (ho : o.op = .binOp .or 5 x y t) (hx : ev E x = some (.int .u8 m)) (hy : ev E y = some (.int .u8 n))
  (hr : bits .or .u8 m n = r) (hn : bF Tryd.prog ops C0 Q rest N ((k,.int .u8 r) :: E)) : bF Tryd.prog ops C0 Q (o :: rest) N E :=
 f_val _ hg hd hk (fun a ha w _=>by
  have h1:=ha.eval hx;have h2:=ha.eval hy
  unfold execOp
  simp only [ho,h1,h2]
  go_simp) hn
theorem f_andB {x y : Operand} {t : TypeId} (m n r : Int) (hg : o.guard = none) (hd : o.dst = some k) (hk : Nat.blt k N = true) (ho : o.op = .binOp .and 5 x y t) (hx : ev E x = some (.int .u8 m)) (hy : ev E y = some (.int .u8 n))
  (hr : bits .and .u8 m n = r) (hn : bF Tryd.prog ops C0 Q rest N ((k,.int .u8 r) :: E)) : bF Tryd.prog ops C0 Q (o :: rest) N E :=
 f_val _ hg hd hk (fun a ha w _=>by
  have h1:=ha.eval hx;have h2:=ha.eval hy
  unfold execOp
  simp only [ho,h1,h2]
  go_simp) hn
theorem f_shrB {x y : Operand} {t : TypeId} (K : IntKind) (hK : K = .i64 ∨ K = .u64) (m : Int) (n : Nat) (r : Int) (h8 : n ≤ 8) (hg : o.guard = none) (hd : o.dst = some k) (hk : Nat.blt k N = true) (ho : o.op = .binOp .shr 5 x y t) (hx : ev E x = some (.int .u8 m)) (hy : ev E y = some (.int K (n : Int)))
  (hr : m / 2 ^ n = r) (hn : bF Tryd.prog ops C0 Q rest N ((k,.int .u8 r) :: E)) : bF Tryd.prog ops C0 Q (o :: rest) N E :=
 f_val _ hg hd hk (fun a ha w _=>by
  have h1:=ha.eval hx;have h2:=ha.eval hy
  have h3 : (n : Int) ≤ 8:=by omega
  have h4 : (0 : Int) ≤ n:=by omega
  unfold execOp
  simp only [ho,h1,h2]
  rcases hK with rfl | rfl <;> go_simp) hn
theorem f_shlB {x y : Operand} {t : TypeId} (m : Int) (n : Nat) (r : Int) (h8 : n ≤ 8) (hg : o.guard = none) (hd : o.dst = some k) (hk : Nat.blt k N = true) (ho : o.op = .binOp .shl 5 x y t) (hx : ev E x = some (.int .u8 m)) (hy : ev E y = some (.int .i64 (n : Int)))
  (hr : IntKind.u8.wrap (m * 2 ^ n) = r) (hn : bF Tryd.prog ops C0 Q rest N ((k,.int .u8 r) :: E)) : bF Tryd.prog ops C0 Q (o :: rest) N E :=
 f_val _ hg hd hk (fun a ha w _=>by
  have h1:=ha.eval hx;have h2:=ha.eval hy
  have h3 : (n : Int) ≤ 8:=by omega
  have h4 : (0 : Int) ≤ n:=by omega
  unfold execOp
  simp only [ho,h1,h2]
  go_simp) hn
theorem f_eqlB {x y : Operand} {t : TypeId} (m n : Int) (q : Bool) (hg : o.guard = none) (hd : o.dst = some k) (hk : Nat.blt k N = true) (ho : o.op = .binOp .eql 5 x y t) (hx : ev E x = some (.int .u8 m)) (hy : ev E y = some (.int .u8 n))
  (hr : decide (m = n) = q) (hn : bF Tryd.prog ops C0 Q rest N ((k,.bool q) :: E)) : bF Tryd.prog ops C0 Q (o :: rest) N E :=
 f_val _ hg hd hk (fun a ha w _=>by
  have h1:=ha.eval hx;have h2:=ha.eval hy;subst hr
  unfold execOp
  simp only [ho,h1,h2]
  by_cases e : m = n <;> go_simp) hn
theorem f_gtrB {x y : Operand} {t : TypeId} (m n : Int) (q : Bool) (hg : o.guard = none) (hd : o.dst = some k) (hk : Nat.blt k N = true) (ho : o.op = .binOp .gtr 5 x y t) (hx : ev E x = some (.int .u8 m)) (hy : ev E y = some (.int .u8 n))
  (hr : decide (n < m) = q) (hn : bF Tryd.prog ops C0 Q rest N ((k,.bool q) :: E)) : bF Tryd.prog ops C0 Q (o :: rest) N E :=
 f_val _ hg hd hk (fun a ha w _=>by
  have h1:=ha.eval hx;have h2:=ha.eval hy;subst hr
  unfold execOp
  simp only [ho,h1,h2]
  go_simp) hn
theorem f_quoB {x y : Operand} {t : TypeId} (m n r : Int) (hz : n ≠ 0) (hg : o.guard = none) (hd : o.dst = some k) (hk : Nat.blt k N = true) (ho : o.op = .binOp .quo 5 x y t) (hx : ev E x = some (.int .u8 m)) (hy : ev E y = some (.int .u8 n))
  (hr : IntKind.u8.wrap (m.tdiv n) = r) (hn : bF Tryd.prog ops C0 Q rest N ((k,.int .u8 r) :: E)) : bF Tryd.prog ops C0 Q (o :: rest) N E :=
 f_val _ hg hd hk (fun a ha w _=>by
  have h1:=ha.eval hx;have h2:=ha.eval hy;subst hr
  unfold execOp
  simp only [ho,h1,h2]
  go_simp) hn
theorem f_quoI {x y : Operand} {t : TypeId} (m n r : Int) (hz : n ≠ 0) (hg : o.guard = none) (hd : o.dst = some k) (hk : Nat.blt k N = true) (ho : o.op = .binOp .quo 3 x y t) (hx : ev E x = some (.int .i64 m)) (hy : ev E y = some (.int .i64 n))
  (hr : IntKind.i64.wrap (m.tdiv n) = r) (hn : bF Tryd.prog ops C0 Q rest N ((k,.int .i64 r) :: E)) : bF Tryd.prog ops C0 Q (o :: rest) N E :=
 f_val _ hg hd hk (fun a ha w _=>by
  have h1:=ha.eval hx;have h2:=ha.eval hy;subst hr
  unfold execOp
  simp only [ho,h1,h2]
  go_simp) hn
theorem f_not {x : Operand} {t : TypeId} (q r : Bool) (hg : o.guard = none) (hd : o.dst = some k) (hk : Nat.blt k N = true) (ho : o.op = .unOp .not t x) (hx : ev E x = some (.bool q)) (hr : (!q) = r) (hn : bF Tryd.prog ops C0 Q rest N ((k,.bool r) :: E)) : bF Tryd.prog ops C0 Q (o :: rest) N E :=
 f_val _ hg hd hk (fun a ha w _=>by
  have h1:=ha.eval hx;subst hr
  unfold execOp
  simp only [ho,h1]
  go_simp) hn
theorem f_neqb {x y : Operand} {t : TypeId} (m n q : Bool) (hg : o.guard = none) (hd : o.dst = some k) (hk : Nat.blt k N = true) (ho : o.op = .binOp .neq 4 x y t) (hx : ev E x = some (.bool m)) (hy : ev E y = some (.bool n))
  (hr : (m != n) = q) (hn : bF Tryd.prog ops C0 Q rest N ((k,.bool q) :: E)) : bF Tryd.prog ops C0 Q (o :: rest) N E :=
 f_val _ hg hd hk (fun a ha w _=>by
  have h1:=ha.eval hx;have h2:=ha.eval hy;subst hr
  unfold execOp
  simp only [ho,h1,h2]
  cases m <;> cases n <;> go_simp) hn
end
theorem ixH (b i : Nat) (h : i < 32) (w : World) : (Instr.indexAt 22 (.pointer (some ⟨b,0,none⟩)) (.int .i64 (i : Int))).run Tryd.prog w = .ok (.pointer (some ⟨b,i,none⟩)) w:=by
 have h3 : (i : Int) < 32:=by omega
 have h4 : (0 : Int) ≤ i:=by omega
 go_simp
def nvH (t : Nat) : NV:=⟨t,22,z32⟩
theorem size_H {l : List UInt8} (h : l.length = 32) : (Tryd.prog.info? 22).map (·.size) = some (By l).toArray.size:=size_hash _ (len_by h)
theorem By_oneA (l : List UInt8) : ∀ v ∈ (By l).toArray.toList,v.oneCell' = true:=fun v hv=>By_one l v (by simpa using hv)
theorem own_cneg : Own 45:=fun _ _=>by go_simp
theorem k_ret_row2 {P : Program} {fn : Func} {R : Ending → World → Prop} {N : Nat} {E : List (Nat × Value)} {w : World} {q q2 : Tmp} {ty t : TypeId} {d : TypeDesc} {v : Value} (g : Nat) (cs : Array Value) (hr : fn.results = #[.cell q ty,.tmp q2]) (hq : look E q = some (.pointer (some ⟨g,0,none⟩))) (hv : look E q2 = some v) (hb : Blk w g t cs)
  (hu : P.underlying ty = some d) (hd : (match d with | .struct _ | .array _ _=>true | _=>false) = true) (hi : (P.info? ty).map (·.size) = some cs.size) (h : R (.returned (.tuple #[.agg cs,v])) w) : kF (bodyPost P fn R .ret) N E w:=fun _ ha =>
 bodyPost_ret (results_cell_tmp hr _ _ g t cs (0,0) d v (ha.at hq) (ha.at hv) hb hu hd hi) ha.defers h

/-! ### Plain numbers -/
theorem PB.yz {l : List Nat} {A : Ed.Pt p} (h : PB l A) : ∃ X Y Z T x y z t,l = pc X Y Z T ∧ EB X x ∧ EB Y y ∧ EB Z z ∧ EB T t ∧ (y = z ↔ A = Ed.zero):=by
 rcases h with ⟨rfl,rfl⟩ | ⟨⟨X,Y,Z,T,x,y,z,t,rfl,hX,hY,hZ,hT,hR,_⟩,hon⟩
 ·exact ⟨zl,zl,zl,zl,0,0,0,0,rfl,eb_zero,eb_zero,eb_zero,eb_zero,by simp⟩
 ·exact ⟨X,Y,Z,T,x,y,z,t,rfl,hX,hY,hZ,hT,hR.y_iff good hon⟩
theorem on_vxx {x y : F} : Ed.On dd ⟨x,y⟩ ↔ (y * y * dd + 1) * x * x = y * y - 1:=by
 show y*y - x*x = 1 + dd*x*x*y*y ↔ _
 constructor <;> intro h <;> grind only
theorem dec_y {b : List UInt8} {A : Ed.Pt p} {y : F} {s : Nat} (hle : le b = y.val + 57896044618658097711785492504343953926634992332820282019728792003956564819968 * s) (h : encP A = b) : A.y = y ∧ A.x.val % 2 = s:=by
 rw [← h,le_encP] at hle
 unfold encN at hle
 have h1:=y.isLt;have h2:=A.y.isLt;have h3:=p_lt;exact ⟨Fin.ext (by omega),by omega⟩
theorem dec_enc {b : List UInt8} (hb : b.length = 32) {x y : F} {s : Nat} (hle : le b = y.val + 57896044618658097711785492504343953926634992332820282019728792003956564819968 * s) (hs : x.val % 2 = s) : encP ⟨x,y⟩ = b:=by
 apply le_inj (by rw [encP_len,hb])
 rw [le_encP,hle]
 unfold encN
 rw [hs]
theorem bit7 (m : Nat) (h : m < 128) : bits .or .u8 (m : Int) 128 = ((m + 128 : Nat) : Int):=by
 have key : ∀ m : Nat,m < 128 → bits .or .u8 (m : Int) 128 = ((m + 128 : Nat) : Int)   := by decide +kernel
 exact key m h
theorem low7 (m : Nat) (h : m < 256) : bits .and .u8 (m : Int) 127 = ((m % 128 : Nat) : Int):=by
 have key : ∀ m : Nat,m < 256 → bits .and .u8 (m : Int) 127 = ((m % 128 : Nat) : Int)   := by decide +kernel
 exact key m h
end Go.Proofs.YtminmeljonbogaaDoor
