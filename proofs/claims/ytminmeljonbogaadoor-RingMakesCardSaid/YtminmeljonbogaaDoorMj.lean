/-
  SEVERAL TEXTS IN ONE: Turn512, Lay512, Clear, End512, EndW512, Fill512, Sum512, PrimeL, SgP, SgNum.
-/
import Derived.Test.YtminmeljonbogaaDoorMi
import Derived.Test.YtminmeljonbogaaDoorMa
import Derived.Test.YtminmeljonbogaaDoorMc
import Derived.Test.YtminmeljonbogaaDoorMb
import Derived.Test.YtminmeljonbogaaDoorMh
/-
  THE DIGESTS: turn512: the eight words turned by a block.
-/
namespace Go.Proofs.YtminmeljonbogaaDoor
open Go.RowKit Go.IntWalk Nums

theorem own_long512 : Own 129:=fun _ _=>by go_simp
theorem size_w8 (cs : Array Value) (h : cs.size = 8) : (Tryd.prog.info? 142).map (·.size) = some cs.size:=by
 rw [h]
 kernel_rfl
theorem size_b128 (cs : Array Value) (h : cs.size = 128) : (Tryd.prog.info? 143).map (·.size) = some cs.size:=by
 rw [h]
 kernel_rfl
theorem len_b128 {l : List UInt8} (h : l.length = 128) : (By l).toArray.size = 128:=by rw [List.size_toArray,By_len,h]
def z8w : Array Value:=(Us [0,0,0,0,0,0,0,0]).toArray
structure Ts (w : World) : Prop where
  cell : ∀ i,i < 80 → w.cell? ⟨2,i,none⟩ = some (.int .u64 (cbs[i]! : Nat))
  lt : 2 < w.heap.size
theorem Ts.below {w w' : World} (h : Ts w) (hb : Below w.heap.size w w') : Ts w' :=
 ⟨fun i hi=>(hb.cell (p:=⟨2,i,none⟩) h.lt).trans (h.cell i hi),Nat.lt_of_lt_of_le h.lt hb.size⟩
theorem Ts.drew {w : World} (h : Ts w) : Ts w.drew:=⟨h.cell,h.lt⟩
theorem cbs_lt {t : Nat} (h : t < 80) : cbs[t]! < 18446744073709551616:=by
 have h1 : ∀ x ∈ cbs,x < 18446744073709551616:=by decide
 have h2 : t < cbs.length:=h;rw [getElem!_pos cbs t h2];exact h1 _ (List.getElem_mem _)

section
variable {ops : Array Oper} {C0 : World → Prop} {Q : Act → Prop} {a : Act} {o : Oper} {rest : List Oper}
theorem b_by128 {l : List UInt8} (g : Nat) (hl : l.length = 128) (x : Operand) (hg : Region.wanted o (yielded ops a.tmps) = true) (ho : o.op = .load 143 x) (hx : a.eval x = .pointer (some ⟨g,0,none⟩))
  (hc : ∀ w,C0 w → Blk w g 143 (By l).toArray) (hk : wpB Tryd.prog ops C0 Q rest (a.put o.dst (.agg (By l).toArray))) : wpB Tryd.prog ops C0 Q (o :: rest) a :=
 b_mid hg 143 x ho g 0 hx (By l) _ (fun w h=>(hc w h).range) Tryd.underlying143 rfl (size_b128 (By l).toArray (len_b128 hl)) hk
theorem b_idx8 {x : Operand} (g k : Nat) (hk8 : k < 8) (hg : Region.wanted o (yielded ops a.tmps) = true) (ho : o.op = .indexAddr 142 x (.const (.int .i64 (k : Int)))) (hx : a.eval x = .pointer (some ⟨g,0,none⟩))
  (hk : wpB Tryd.prog ops C0 Q rest (a.put o.dst (.pointer (some ⟨g,k,none⟩)))) : wpB Tryd.prog ops C0 Q (o :: rest) a :=
 b_val hg (fun w _=>by
  have h1 : (k : Int) < 8:=by omega
  have h2 : (0 : Int) ≤ (k : Int):=by omega
  unfold execOp
  simp only [ho,hx]
  go_simp) hk
theorem b_cellW {x : Operand} (g k v : Nat) (hg : Region.wanted o (yielded ops a.tmps) = true) (ho : o.op = .load 56 x) (hx : a.eval x = .pointer (some ⟨g,k,none⟩)) (hc : ∀ w,C0 w → w.cell? ⟨g,k,none⟩ = some (.int .u64 (v : Int)))
  (hk : wpB Tryd.prog ops C0 Q rest (a.put o.dst (.int .u64 (v : Int)))) : wpB Tryd.prog ops C0 Q (o :: rest) a :=
 b_val hg (fun w hw=>by
  have h1:=hc w hw
  unfold execOp
  simp only [ho,hx]
  go_simp) hk
theorem b_assignV {x : Operand} (v : Value) (hg : Region.wanted o (yielded ops a.tmps) = true) (ho : o.op = .assign x) (hx : a.eval x = v) (hk : wpB Tryd.prog ops C0 Q rest (a.put o.dst v)) : wpB Tryd.prog ops C0 Q (o :: rest) a:=by
 subst hx;exact b_assign hg ho hk
end

theorem not64 {e : Nat} (he : e < 18446744073709551616) : bits .xor .u64 (if IntKind.u64.signed = true then -1 else IntKind.u64.max) (e : Int) = ((2 ^ 64 - 1 - e : Nat) : Int):=by
 have h:=u64_xor_nat 18446744073709551615 e (by omega) he
 have h2 : 18446744073709551615 ^^^ e = 2 ^ 64 - 1 - e:=by
  apply Nat.eq_of_testBit_eq
  intro i
  rw [show 2 ^ 64 - 1 - e = 2 ^ 64 - (e + 1) by omega,Nat.testBit_two_pow_sub_succ he,Nat.testBit_xor,show 18446744073709551615 = 2 ^ 64 - 1 from rfl,Nat.testBit_two_pow_sub_one]
  by_cases hi : i < 64
  ·simp [hi]
  ·have h3 : e.testBit i = false:=Nat.testBit_lt_two_pow (Nat.lt_of_lt_of_le he (Nat.pow_le_pow_right (n:=2) (by decide) (show 64 ≤ i by omega)))
   simp [hi,h3]
 rw [h2] at h;exact h

structure TS5 (w wr : World) (o : Oct) (gx : Nat) (l : List Nat) : Prop where
  b0 : Blk wr w.heap.size 142 (Us o.list).toArray
  b2 : Blk wr (w.heap.size + 1 + 1) 142 z8w
  bx : Blk wr gx 172 (Us l).toArray
  tw : Ts wr
  be : Below w.heap.size w wr
theorem TS5.up {w wr w1 : World} {o : Oct} {gx : Nat} {l : List Nat} (h : TS5 w wr o gx l) (k : Up wr w1) : TS5 w w1 o gx l:=⟨k.blk h.b0,k.blk h.b2,k.blk h.bx,h.tw.below k,below_up h.be k⟩
theorem TS5.drew {w wr : World} {o : Oct} {gx : Nat} {l : List Nat} (h : TS5 w wr o gx l) : TS5 w wr.drew o gx l:=⟨h.b0,h.b2,h.bx,h.tw.drew,h.be.drew⟩

set_option maxRecDepth 100000 in
set_option maxHeartbeats 8000000 in
theorem turn512_f {o : Oct} (ho : OB 64 o) {b : List UInt8} (hb : b.length = 128) (w : World) (hT : Ts w) :
  Calls Tryd.prog 102 #[.agg (Us o.list).toArray,.agg (By b).toArray] w fun e w'=>e = .returned (.agg (Us (turnw s512 o b).list).toArray) ∧ Below w.heap.size w w':=by
 have HL:=fun w1=>long512_f hb w1;have hxl : ∀ t,t < 80 → (mxl (sx s512 b) z80 80)[t]! = sx s512 b t:=fun t h=>mxl_in h (by rw [z80_len]; exact h);have hxb:=sx_lt s512 b (by decide)
 have hxn : (mxl (sx s512 b) z80 80).length = 80:=by rw [mxl_len,z80_len]
 have hO:=fun t=>OB.rnds (s:=s512) (b:=b) ho t;have hstep : ∀ t,rnds s512 b o (t + 1) = rnd s512 (cbs[t]!) (sx s512 b t) (rnds s512 b o t):=fun t=>rfl;have h0 : rnds s512 b o 0 = o:=rfl;have hend : turnw s512 o b = add8 64 o (rnds s512 b o 80):=rfl;rw [hend];clear hend
 have hzx : (Us (mxl (sx s512 b) z80 80)).toArray.size = 80:=by rw [List.size_toArray,Us_len,hxn]
 generalize mxl (sx s512 b) z80 80 = l at *;generalize sx s512 b = F at *;generalize rnds s512 b o = R at *
 go_enter Tryd.func102,Tryd.ntmps102
 refine wp_seq_k fun K hK=>?_;refine wp_region_lit ?_;refine wpl_box (Us o.list).toArray rfl rfl rfl ?_;refine wpl_box (By b).toArray rfl rfl rfl ?_;refine wpl_alloc (zs:=z8w) rfl rfl (by kernel_rfl) ?_;refine wpl_nil ?_
 go_simp
 refine hK _ _ ?_;clear hK K;refine wp_at (fun W=>Blk W w.heap.size 142 (Us o.list).toArray ∧ Blk W (w.heap.size + 1) 143 (By b).toArray ∧ Blk W (w.heap.size + 1 + 1) 142 z8w ∧ Ts W ∧ Below w.heap.size w W) ⟨blk3_0 w _ _ _ _,blk3_1 w _ _ _ _,blk3_2 w _ _ _ _,hT.below ((((Below.refl _ _).alloc (Nat.le_refl _) _).alloc (by simp) _).alloc (by simp; omega) _),(((Below.refl _ _).alloc (Nat.le_refl _) _).alloc (by simp) _).alloc (by simp; omega) _⟩ ?_
 rintro W ⟨k0,k1,k2,hTW,hbe⟩
 refine wp_seq_k fun K hK=>?_;refine reg_varF 2 5 172 (.tmp 20) (Us z80).toArray rfl rfl rfl rfl rfl rfl rfl (exec_alloc rfl zx80) ?_;simp only [List.take_succ_cons,List.take_zero];refine b_by128 (w.heap.size + 1) hb _ rfl rfl rfl (fun _ h=>h.blk k1) ?_;simp only [Act.put,List.setIfInBounds_toArray,List.set_cons_zero,List.set_cons_succ];refine b_one rfl own_long512 (fun w1=>HL w1) rfl rfl ?_;simp only [Act.put,List.setIfInBounds_toArray,List.set_cons_zero,List.set_cons_succ];refine wpB_nil ⟨(Us l).toArray,fun _=>rfl,fun _=>rfl,by rw [hzx,List.size_toArray,Us_len,z80_len],size_x80 _ hzx,Us_one _,fun gx W3 hgx hw1 hbx=>?_⟩;simp only [Exit.then,Act.put,List.setIfInBounds_toArray,List.set_cons_zero,List.set_cons_succ];refine hK _ _ ?_;clear hK K;have hS : TS5 w W3 o gx l:=⟨hw1.blk k0,hw1.blk k2,hbx,hTW.below hw1,below_up hbe hw1⟩;clear k0 k1 k2 hTW hbe hw1 hbx HL hT;have hb0:=hS.b0;have HS:=Lib.hid (And.intro hS h0);clear hS h0;refine wp_seq_k fun K hK=>?_;refine reg_q (by kernel_rfl) (tail_ok (by kernel_rfl)) (fun _ _ d _ _ h=>by cases d <;> exact h) ?_;refine b_idx8 w.heap.size 0 (by decide) rfl rfl rfl ?_;simp only [Act.put,List.setIfInBounds_toArray,List.set_cons_zero,List.set_cons_succ];refine b_cellW w.heap.size 0 o.a rfl rfl rfl (fun _ h=>(h.blk hb0).cell 0) ?_;simp only [Act.put,List.setIfInBounds_toArray,List.set_cons_zero,List.set_cons_succ];refine b_idx8 w.heap.size 1 (by decide) rfl rfl rfl ?_;simp only [Act.put,List.setIfInBounds_toArray,List.set_cons_zero,List.set_cons_succ];refine b_cellW w.heap.size 1 o.b rfl rfl rfl (fun _ h=>(h.blk hb0).cell 1) ?_;simp only [Act.put,List.setIfInBounds_toArray,List.set_cons_zero,List.set_cons_succ];refine b_idx8 w.heap.size 2 (by decide) rfl rfl rfl ?_;simp only [Act.put,List.setIfInBounds_toArray,List.set_cons_zero,List.set_cons_succ];refine b_cellW w.heap.size 2 o.c rfl rfl rfl (fun _ h=>(h.blk hb0).cell 2) ?_;simp only [Act.put,List.setIfInBounds_toArray,List.set_cons_zero,List.set_cons_succ];refine b_idx8 w.heap.size 3 (by decide) rfl rfl rfl ?_;simp only [Act.put,List.setIfInBounds_toArray,List.set_cons_zero,List.set_cons_succ];refine b_cellW w.heap.size 3 o.d rfl rfl rfl (fun _ h=>(h.blk hb0).cell 3) ?_;simp only [Act.put,List.setIfInBounds_toArray,List.set_cons_zero,List.set_cons_succ];refine b_idx8 w.heap.size 4 (by decide) rfl rfl rfl ?_;simp only [Act.put,List.setIfInBounds_toArray,List.set_cons_zero,List.set_cons_succ];refine b_cellW w.heap.size 4 o.e rfl rfl rfl (fun _ h=>(h.blk hb0).cell 4) ?_;simp only [Act.put,List.setIfInBounds_toArray,List.set_cons_zero,List.set_cons_succ];refine b_idx8 w.heap.size 5 (by decide) rfl rfl rfl ?_;simp only [Act.put,List.setIfInBounds_toArray,List.set_cons_zero,List.set_cons_succ];refine b_cellW w.heap.size 5 o.f rfl rfl rfl (fun _ h=>(h.blk hb0).cell 5) ?_;simp only [Act.put,List.setIfInBounds_toArray,List.set_cons_zero,List.set_cons_succ];refine b_idx8 w.heap.size 6 (by decide) rfl rfl rfl ?_
 simp only [Act.put,List.setIfInBounds_toArray,List.set_cons_zero,List.set_cons_succ];refine b_cellW w.heap.size 6 o.g rfl rfl rfl (fun _ h=>(h.blk hb0).cell 6) ?_;simp only [Act.put,List.setIfInBounds_toArray,List.set_cons_zero,List.set_cons_succ];refine b_idx8 w.heap.size 7 (by decide) rfl rfl rfl ?_;simp only [Act.put,List.setIfInBounds_toArray,List.set_cons_zero,List.set_cons_succ];refine b_cellW w.heap.size 7 o.h rfl rfl rfl (fun _ h=>(h.blk hb0).cell 7) ?_;simp only [Act.put,List.setIfInBounds_toArray,List.set_cons_zero,List.set_cons_succ];refine b_assignV (.int .u64 (o.a : Int)) rfl rfl rfl ?_;simp only [Act.put,List.setIfInBounds_toArray,List.set_cons_zero,List.set_cons_succ];refine b_assignV (.int .u64 (o.b : Int)) rfl rfl rfl ?_;simp only [Act.put,List.setIfInBounds_toArray,List.set_cons_zero,List.set_cons_succ];refine b_assignV (.int .u64 (o.c : Int)) rfl rfl rfl ?_;simp only [Act.put,List.setIfInBounds_toArray,List.set_cons_zero,List.set_cons_succ];refine b_assignV (.int .u64 (o.d : Int)) rfl rfl rfl ?_;simp only [Act.put,List.setIfInBounds_toArray,List.set_cons_zero,List.set_cons_succ];refine b_assignV (.int .u64 (o.e : Int)) rfl rfl rfl ?_;simp only [Act.put,List.setIfInBounds_toArray,List.set_cons_zero,List.set_cons_succ];refine b_assignV (.int .u64 (o.f : Int)) rfl rfl rfl ?_;simp only [Act.put,List.setIfInBounds_toArray,List.set_cons_zero,List.set_cons_succ];refine b_assignV (.int .u64 (o.g : Int)) rfl rfl rfl ?_;simp only [Act.put,List.setIfInBounds_toArray,List.set_cons_zero,List.set_cons_succ];refine b_assignV (.int .u64 (o.h : Int)) rfl rfl rfl ?_;simp only [Act.put,List.setIfInBounds_toArray,List.set_cons_zero,List.set_cons_succ];refine wpB_nil ?_
 intro W4 hw1
 simp only [Exit.then];refine hK _ _ ?_;clear hK K hb0;have HS:=Lib.hid (And.intro (HS.out.1.up hw1) HS.out.2);clear hw1
 go_wp2
 go_loopw [37,6,7,8,9,10,11,12,13] (fun i va vb vc vd ve vf vg vh wr=>∃ t : Nat,t ≤ 80 ∧ i = .int .i64 t ∧ va = .int .u64 (R t).a ∧ vb = .int .u64 (R t).b ∧ vc = .int .u64 (R t).c ∧ vd = .int .u64 (R t).d ∧ ve = .int .u64 (R t).e ∧ vf = .int .u64 (R t).f ∧ vg = .int .u64 (R t).g ∧ vh = .int .u64 (R t).h ∧ TS5 w wr o gx l) (fun i _ _ _ _ _ _ _ _ _=>80 - (intOf i).toNat)
 case atStart =>
  obtain ⟨hS,h0⟩:=HS.out;refine ⟨0,by omega,rfl,?_⟩;rw [h0];exact ⟨rfl,rfl,rfl,rfl,rfl,rfl,rfl,rfl,hS⟩
 case round =>
  clear HS;obtain ⟨t,ht,rfl,rfl,rfl,rfl,rfl,rfl,rfl,rfl,rfl,hS⟩:=hrel
  by_cases htl : t < 80
  ·have hs:=hstep t
   obtain ⟨ba,bb,bc,bd,be,bf,bg,bh⟩:=hO t;have hX : F t < 18446744073709551616:=hxb t;have hKt:=cbs_lt htl;have cx:=(hS.drew.bx.cell t).trans (Us_at (by omega));rw [hxl t htl] at cx;have ck:=hS.drew.tw.cell t htl;generalize R t = q at *;obtain ⟨a,b',c,d,e,f,g,h⟩:=q;generalize F t = X at *;generalize cbs[t]! = Kt at *
   dsimp only at ba bb bc bd be bf bg bh ⊢
   have e1 : bigw 64 (14,18,41) e = rotw 64 14 e ^^^ rotw 64 18 e ^^^ rotw 64 41 e:=rfl;have e0 : bigw 64 (28,34,39) a = rotw 64 28 a ^^^ rotw 64 34 a ^^^ rotw 64 39 a:=rfl;have r1:=rotw_lt (w:=64) (n:=14) (x:=e) (by decide) be;have r2:=rotw_lt (w:=64) (n:=18) (x:=e) (by decide) be;have r3:=rotw_lt (w:=64) (n:=41) (x:=e) (by decide) be;have r4:=rotw_lt (w:=64) (n:=28) (x:=a) (by decide) ba;have r5:=rotw_lt (w:=64) (n:=34) (x:=a) (by decide) ba;have r6:=rotw_lt (w:=64) (n:=39) (x:=a) (by decide) ba;have R1:=fun w1=>Lib.hid (rot64_f e 14 be (by decide) (by decide) w1);have R2:=fun w1=>Lib.hid (rot64_f e 18 be (by decide) (by decide) w1);have R3:=fun w1=>Lib.hid (rot64_f e 41 be (by decide) (by decide) w1);have R4:=fun w1=>Lib.hid (rot64_f a 28 ba (by decide) (by decide) w1);have R5:=fun w1=>Lib.hid (rot64_f a 34 ba (by decide) (by decide) w1);have R6:=fun w1=>Lib.hid (rot64_f a 39 ba (by decide) (by decide) w1);have hnew : rnd s512 Kt X ⟨a,b',c,d,e,f,g,h⟩ = ⟨(h + bigw 64 (14,18,41) e + chw 64 e f g + Kt + X + (bigw 64 (28,34,39) a + maw a b' c)) % 18446744073709551616,a,b',c,(d + (h + bigw 64 (14,18,41) e + chw 64 e f g + Kt + X)) % 18446744073709551616,e,f,g⟩:=rfl;rw [hnew] at hs;clear hnew;have u1:=bigw_lt (w:=64) (t:=(14,18,41)) (x:=e) (by decide) be;have u0:=bigw_lt (w:=64) (t:=(28,34,39)) (x:=a) (by decide) ba;have uc:=chw_lt (w:=64) (e:=e) (f:=f) (g:=g) be;have um:=maw_lt (w:=64) (a:=a) (b:=b') (c:=c) ba bb;have x1:=u64_xor_nat _ _ r1 r2;have x2:=u64_xor_nat _ _ (xor_lt r1 r2) r3;have x3:=u64_xor_nat _ _ r4 r5;have x4:=u64_xor_nat _ _ (xor_lt r4 r5) r6;rw [← e1] at x2;rw [← e0] at x4;generalize bigw 64 (14,18,41) e = s1 at *;generalize bigw 64 (28,34,39) a = s0 at *;generalize rotw 64 14 e ^^^ rotw 64 18 e = y1 at *;generalize rotw 64 28 a ^^^ rotw 64 34 a = y0 at *;generalize rotw 64 14 e = p1 at *;generalize rotw 64 18 e = p2 at *;generalize rotw 64 41 e = p3 at *;generalize rotw 64 28 a = p4 at *;generalize rotw 64 34 a = p5 at *;generalize rotw 64 39 a = p6 at *;have n1:=u64_and_nat e f be bf;have n2:=u64_and_nat (2 ^ 64 - 1 - e) g (by omega) bg;have n3 : bits .xor .u64 ((e &&& f : Nat) : Int) (((2 ^ 64 - 1 - e) &&& g : Nat) : Int) = ((chw 64 e f g : Nat) : Int):=u64_xor_nat _ _ (and_lt (w:=64) be) (and_lt (w:=64) (Nat.lt_of_le_of_lt (Nat.sub_le (2 ^ 64 - 1) e) (by decide)));have n4:=u64_and_nat a b' ba bb;have n5:=u64_and_nat a c ba bc;have n6:=u64_and_nat b' c bb bc;have n7:=u64_xor_nat (a &&& b') (a &&& c) (and_lt ba) (and_lt ba);have n8 : bits .xor .u64 (((a &&& b') ^^^ (a &&& c) : Nat) : Int) ((b' &&& c : Nat) : Int) = ((maw a b' c : Nat) : Int):=u64_xor_nat _ _ (xor_lt (and_lt ba) (and_lt ba)) (and_lt bb);generalize chw 64 e f g = ch at *;generalize maw a b' c = ma at *;generalize (a &&& b') ^^^ (a &&& c) = m4 at *;generalize a &&& b' = m1 at *;generalize a &&& c = m2 at *
   generalize b' &&& c = m3 at *;generalize e &&& f = m5 at *;generalize (2 ^ 64 - 1 - e) &&& g = m6 at *;have nn:=not64 be;generalize 2 ^ 64 - 1 - e = ne at *;obtain ⟨q1,hq1⟩ : ∃ z,z = (h + s1) % 18446744073709551616:=⟨_,rfl⟩;obtain ⟨q2,hq2⟩ : ∃ z,z = (q1 + ch) % 18446744073709551616:=⟨_,rfl⟩;obtain ⟨q3,hq3⟩ : ∃ z,z = (q2 + Kt) % 18446744073709551616:=⟨_,rfl⟩;obtain ⟨q4,hq4⟩ : ∃ z,z = (q3 + X) % 18446744073709551616:=⟨_,rfl⟩;obtain ⟨q5,hq5⟩ : ∃ z,z = (s0 + ma) % 18446744073709551616:=⟨_,rfl⟩;obtain ⟨q6,hq6⟩ : ∃ z,z = (d + q4) % 18446744073709551616:=⟨_,rfl⟩;obtain ⟨q7,hq7⟩ : ∃ z,z = (q4 + q5) % 18446744073709551616:=⟨_,rfl⟩
   have t1 : IntKind.u64.wrap ((h : Int) + (s1 : Int)) = (q1 : Int):=by rw [IntKind.wrap_u64]; omega
   have t2 : IntKind.u64.wrap ((q1 : Int) + (ch : Int)) = (q2 : Int):=by rw [IntKind.wrap_u64]; omega
   have t3 : IntKind.u64.wrap ((q2 : Int) + (Kt : Int)) = (q3 : Int):=by rw [IntKind.wrap_u64]; omega
   have t4 : IntKind.u64.wrap ((q3 : Int) + (X : Int)) = (q4 : Int):=by rw [IntKind.wrap_u64]; omega
   have t5 : IntKind.u64.wrap ((s0 : Int) + (ma : Int)) = (q5 : Int):=by rw [IntKind.wrap_u64]; omega
   have t6 : IntKind.u64.wrap ((d : Int) + (q4 : Int)) = (q6 : Int):=by rw [IntKind.wrap_u64]; omega
   have t7 : IntKind.u64.wrap ((q4 : Int) + (q5 : Int)) = (q7 : Int):=by rw [IntKind.wrap_u64]; omega
   have h6 : (d + (h + s1 + ch + Kt + X)) % 18446744073709551616 = q6:=by omega
   have h7 : (h + s1 + ch + Kt + X + (s0 + ma)) % 18446744073709551616 = q7:=by omega
   rw [h6,h7] at hs;clear hq1 hq2 hq3 hq4 hq5 hq6 hq7 h6 h7;have HN:=Lib.hid (And.intro hs hS.drew);clear hs hS e1 e0 r1 r2 r3 r4 r5 r6
   go_wp2_with (fail)
   refine (R1 _).out.mono ?_
   rintro z w4 ⟨rfl,rfl⟩
   go_wp2_with (fail)
   refine (R2 _).out.mono ?_
   rintro z w4 ⟨rfl,rfl⟩
   go_wp2_with (fail)
   refine (R3 _).out.mono ?_
   rintro z w4 ⟨rfl,rfl⟩
   go_wp2_with (fail)
   refine (R4 _).out.mono ?_
   rintro z w4 ⟨rfl,rfl⟩
   go_wp2_with (fail)
   refine (R5 _).out.mono ?_
   rintro z w4 ⟨rfl,rfl⟩
   go_wp2_with (fail)
   refine (R6 _).out.mono ?_
   rintro z w4 ⟨rfl,rfl⟩
   go_wp2_with (fail)
   go_region
   go_wp2
   go_roundw
   case rel =>
    obtain ⟨hs,hS⟩:=HN.out;refine ⟨t + 1,by omega,by go_num,?_⟩;rw [hs];exact ⟨rfl,rfl,rfl,rfl,rfl,rfl,rfl,rfl,hS⟩
   case measure=>simp [intOf]; omega
  ·obtain rfl : t = 80:=by omega
   obtain ⟨ba,bb,bc,bd,be,bf,bg,bh⟩:=hO 80;obtain ⟨ha,hb',hc,hd,he,hf,hg,hh⟩:=ho;generalize hq : R 80 = q at *;obtain ⟨a,b',c,d,e,f,g,h⟩:=q;have HQ:=Lib.hid hq;clear hq
   dsimp only at ba bb bc bd be bf bg bh ⊢
   obtain ⟨k0,k2,kx,kt,kb⟩:=hS;have c0 : wr.cell? ⟨w.heap.size,0,none⟩ = some (.int .u64 (o.a : Int)):=k0.cell 0;have c1 : wr.cell? ⟨w.heap.size,1,none⟩ = some (.int .u64 (o.b : Int)):=k0.cell 1;have c2 : wr.cell? ⟨w.heap.size,2,none⟩ = some (.int .u64 (o.c : Int)):=k0.cell 2;have c3 : wr.cell? ⟨w.heap.size,3,none⟩ = some (.int .u64 (o.d : Int)):=k0.cell 3;have c4 : wr.cell? ⟨w.heap.size,4,none⟩ = some (.int .u64 (o.e : Int)):=k0.cell 4;have c5 : wr.cell? ⟨w.heap.size,5,none⟩ = some (.int .u64 (o.f : Int)):=k0.cell 5;have c6 : wr.cell? ⟨w.heap.size,6,none⟩ = some (.int .u64 (o.g : Int)):=k0.cell 6;have c7 : wr.cell? ⟨w.heap.size,7,none⟩ = some (.int .u64 (o.h : Int)):=k0.cell 7
   have w0 : IntKind.u64.wrap ((o.a : Int) + (a : Int)) = (((o.a + a) % 18446744073709551616 : Nat) : Int):=by rw [IntKind.wrap_u64]; omega
   have w1 : IntKind.u64.wrap ((o.b : Int) + (b' : Int)) = (((o.b + b') % 18446744073709551616 : Nat) : Int):=by rw [IntKind.wrap_u64]; omega
   have w2 : IntKind.u64.wrap ((o.c : Int) + (c : Int)) = (((o.c + c) % 18446744073709551616 : Nat) : Int):=by rw [IntKind.wrap_u64]; omega
   have w3 : IntKind.u64.wrap ((o.d : Int) + (d : Int)) = (((o.d + d) % 18446744073709551616 : Nat) : Int):=by rw [IntKind.wrap_u64]; omega
   have w4 : IntKind.u64.wrap ((o.e : Int) + (e : Int)) = (((o.e + e) % 18446744073709551616 : Nat) : Int):=by rw [IntKind.wrap_u64]; omega
   have w5 : IntKind.u64.wrap ((o.f : Int) + (f : Int)) = (((o.f + f) % 18446744073709551616 : Nat) : Int):=by rw [IntKind.wrap_u64]; omega
   have w6 : IntKind.u64.wrap ((o.g : Int) + (g : Int)) = (((o.g + g) % 18446744073709551616 : Nat) : Int):=by rw [IntKind.wrap_u64]; omega
   have w7 : IntKind.u64.wrap ((o.h : Int) + (h : Int)) = (((o.h + h) % 18446744073709551616 : Nat) : Int):=by rw [IntKind.wrap_u64]; omega
   have hres : add8 64 o ⟨a,b',c,d,e,f,g,h⟩ = ⟨(o.a + a) % 18446744073709551616,(o.b + b') % 18446744073709551616,(o.c + c) % 18446744073709551616,(o.d + d) % 18446744073709551616,(o.e + e) % 18446744073709551616,(o.f + f) % 18446744073709551616,(o.g + g) % 18446744073709551616,(o.h + h) % 18446744073709551616⟩:=rfl;generalize (o.a + a) % 18446744073709551616 = z0 at *;generalize (o.b + b') % 18446744073709551616 = z1 at *;generalize (o.c + c) % 18446744073709551616 = z2 at *;generalize (o.d + d) % 18446744073709551616 = z3 at *;generalize (o.e + e) % 18446744073709551616 = z4 at *;generalize (o.f + f) % 18446744073709551616 = z5 at *;generalize (o.g + g) % 18446744073709551616 = z6 at *;generalize (o.h + h) % 18446744073709551616 = z7 at *;have HR:=Lib.hid hres;clear hres ba bb bc bd be bf bg bh ha hb' hc hd he hf hg hh k0 kx kt;have HK:=Lib.hid (And.intro k2 kb);clear k2 kb;have hz : (Us [z0,z1,z2,z3,z4,z5,z6,z7]).toArray.size = 8:=rfl;have k2:=HK.out.1
   go_wp2_with (refine wpList_store_row rfl 142 _ _ rfl (w.heap.size + 1 + 1) rfl (Us [z0,z1,z2,z3,z4,z5,z6,z7]).toArray rfl 142 _ k2 (size_w8 _ hz) (by rw [hz]; rfl) (Us_one _) ?_)
   refine bodyPost_ret (results_cell_row rfl _ _ (w.heap.size + 1 + 1) 142 (Us [z0,z1,z2,z3,z4,z5,z6,z7]).toArray (0,0) _ rfl (k2.row _) Tryd.underlying142 rfl (size_w8 _ hz)) rfl ⟨by rw [HQ.out,HR.out]; rfl,?_⟩;exact below_setRow HK.out.2 (by omega) _
end Go.Proofs.YtminmeljonbogaaDoor
/-
  THE DIGESTS: lay512: the eight words' bytes, the greatest first.
-/
namespace Nums
def pf (D : List UInt8) (p : Nat → Bool) : List UInt8:=(List.range D.length).map fun m=>if p m then D[m]! else 0
theorem pf_len (D : List UInt8) (p : Nat → Bool) : (pf D p).length = D.length:=by simp [pf]
theorem pf_congr {D : List UInt8} {p q : Nat → Bool} (h : ∀ m,m < D.length → p m = q m) : pf D p = pf D q:=by
 apply List.ext_getElem (by simp [pf])
 intro i h1 h2
 have hi : i < D.length:=by simpa [pf] using h1
 simp [pf,h i hi]
theorem pf_set {D : List UInt8} {p q : Nat → Bool} {k : Nat} (h : ∀ m,m < D.length → q m = (p m || decide (m = k))) : (pf D p).set k D[k]! = pf D q:=by
 apply List.ext_getElem (by simp [pf])
 intro i h1 h2
 have hi : i < D.length:=by simpa [pf] using h2
 rw [List.getElem_set]
 by_cases e : k = i
 ·subst e
  simp [pf,h k hi]
 ·rw [if_neg e]
  have e2 : decide (i = k) = false:=decide_eq_false (fun h=>e h.symm)
  simp [pf,h i hi,e2]
theorem pf_all {D : List UInt8} {p : Nat → Bool} (h : ∀ m,m < D.length → p m = true) : pf D p = D:=by
 apply List.ext_getElem (by simp [pf])
 intro i h1 h2
 simp [pf,h i h2,h2]
theorem pf_none {D : List UInt8} {p : Nat → Bool} (h : ∀ m,m < D.length → p m = false) : pf D p = List.replicate D.length 0:=by
 apply List.ext_getElem (by simp [pf])
 intro i h1 h2
 have hi : i < D.length:=by simpa [pf] using h1
 simp [pf,h i hi]
theorem flat_get {n : Nat} (f : Nat → List UInt8) (hf : ∀ x,(f x).length = n) : ∀ (l : List Nat) {i j : Nat},i < l.length → j < n → ((l.map f).flatten)[n * i + j]! = (f l[i]!)[j]!
 | [],i,_,h,_=>absurd h (by simp)
 | x :: l,0,j,_,hj=>by
  rw [List.map_cons,List.flatten_cons,Nat.mul_zero,Nat.zero_add]
  have h1 : j < (f x).length:=by rw [hf]; exact hj
  rw [getElem!_pos (f x ++ (l.map f).flatten) j (by rw [List.length_append]; omega),List.getElem_append_left h1];exact (getElem!_pos (f x) j h1).symm
 | x :: l,i + 1,j,h,hj=>by
  have ih:=flat_get f hf l (i:=i) (j:=j) (by simpa using h) hj
  have e : ((x :: l).map f).flatten = f x ++ (l.map f).flatten:=by rw [List.map_cons,List.flatten_cons]
  have e2 : (x :: l)[i + 1]! = l[i]!:=rfl;rw [e2,← ih,e];have hx:=hf x
  have hi : n * (i + 1) + j = (f x).length + (n * i + j):=by rw [hx,Nat.mul_add]; omega
  rw [hi]
  by_cases hb : n * i + j < (l.map f).flatten.length
  ·rw [getElem!_pos (l.map f).flatten _ hb,getElem!_pos (f x ++ (l.map f).flatten) _ (by rw [List.length_append]; omega),List.getElem_append_right (by omega)]
   congr 1
   omega
  ·rw [getElem!_neg (l.map f).flatten _ hb,getElem!_neg (f x ++ (l.map f).flatten) _ (by rw [List.length_append]; omega)]
theorem flat_lenB {n : Nat} (f : Nat → List UInt8) (hf : ∀ x,(f x).length = n) : ∀ (l : List Nat),((l.map f).flatten).length = n * l.length
 | []=>rfl
 | x :: l=>by rw [List.map_cons,List.flatten_cons,List.length_append,hf,flat_lenB f hf l,List.length_cons,Nat.mul_add]; omega
theorem layw_len (s : Sha) (x : Nat) : (layw s x).length = s.w / 8:=by
 unfold layw
 rw [List.length_reverse,bytes_len]
end Nums
namespace Go.Proofs.YtminmeljonbogaaDoor
open Go.RowKit Go.IntWalk Nums

theorem layw_get {s : Sha} {x j : Nat} (h : j < s.w / 8) : ((layw s x)[s.w / 8 - 1 - j]!).toNat = x / 256 ^ j % 256:=by
 have hl : (Nums.bytes (s.w / 8) x).length = s.w / 8:=bytes_len _ _
 have e : (layw s x)[s.w / 8 - 1 - j]! = (Nums.bytes (s.w / 8) x)[j]!:=by
  unfold layw
  rw [getElem!_pos _ _ (by rw [List.length_reverse,hl]; omega),List.getElem_reverse,getElem!_pos _ j (by rw [hl]; exact h)]
  congr 1
  rw [hl]
  omega
 rw [e,bytes_get _ _ h]

theorem size_b64 (cs : Array Value) (h : cs.size = 64) : (Tryd.prog.info? 32).map (·.size) = some cs.size:=by
 rw [h]
 kernel_rfl
def z64b : List UInt8:=List.replicate 64 0
theorem zb64 : (Tryd.prog.info? 32).bind (fun i=>i.zero.map (·.cells)) = some (By z64b).toArray:=by kernel_rfl

structure LY (w wr : World) (cs : Array Value) (m : List UInt8) : Prop where
  b0 : Blk wr w.heap.size 142 cs
  b1 : Blk wr (w.heap.size + 1) 32 (By z64b).toArray
  b2 : Blk wr (w.heap.size + 1 + 1) 32 (By m).toArray
  be : Below w.heap.size w wr
theorem LY.set {w wr : World} {cs : Array Value} {m : List UInt8} (h : LY w wr cs m) (k : Nat) (x : UInt8) : LY w (wr.setCell ⟨w.heap.size + 1 + 1,k,none⟩ (.int .u8 (x.toNat : Int))) cs (m.set k x) where
 b0:=h.b0.far (by show w.heap.size ≠ w.heap.size + 1 + 1; omega) _
 b1:=h.b1.far (by show w.heap.size + 1 ≠ w.heap.size + 1 + 1; omega) _
 b2:=by
  have h4:=h.b2.set k (.int .u8 (x.toNat : Int));rw [By_set] at h4;exact h4
 be:=h.be.setCell (by show w.heap.size ≤ w.heap.size + 1 + 1; omega) _

set_option maxRecDepth 100000 in
set_option maxHeartbeats 2000000 in
theorem lay512_f {l : List Nat} (hl : l.length = 8) (hw : ∀ x ∈ l,x < 18446744073709551616) (w : World) :
  Calls Tryd.prog 103 #[.agg (Us l).toArray] w fun e w'=>e = .returned (.agg (By (l.map (layw s512)).flatten).toArray) ∧ Below w.heap.size w w':=by
 have hD:=flat_lenB (layw s512) (n:=8) (fun x=>layw_len s512 x) l;rw [hl] at hD
 have hg : ∀ i j,i < 8 → j < 8 → (((l.map (layw s512)).flatten)[8 * i + 7 - j]!).toNat = l[i]! / 256 ^ j % 256:=fun i j hi hj=>by
  have h1:=flat_get (layw s512) (n:=8) (fun x=>layw_len s512 x) l (i:=i) (j:=7 - j) (by omega) (by omega);rw [show 8 * i + 7 - j = 8 * i + (7 - j) by omega,h1];exact layw_get (s:=s512) (j:=j) hj
 have hzs : (Us l).toArray.size = 8:=by rw [List.size_toArray,Us_len,hl]
 have hix : ∀ i,i < 8 → ∀ w1,(Instr.index 142 (.agg (Us l).toArray) (.int .i64 ((i : Nat) : Int))).run Tryd.prog w1 = .ok (.int .u64 (l[i]! : Nat)) w1:=fun i hi w1=>by
  have h0 : (Us l).toArray[i]? = some (.int .u64 (l[i]! : Nat)):=Us_at (by omega)
  have h1 : ((i : Nat) : Int) < 8:=by omega
  have h2 : (0 : Int) ≤ (i : Nat):=by omega
  generalize l[i]! = c at *;generalize (Us l).toArray = cs at *
  unfold Instr.index Go.part
  go_simp
  obtain ⟨_,h⟩:=Array.getElem?_eq_some_iff.1 h0;exact h
 have hwl : ∀ i,i < 8 → l[i]! < 18446744073709551616:=fun i hi=>by
  rw [getElem!_pos l i (by omega)];exact hw _ (List.getElem_mem _)
 generalize (l.map (layw s512)).flatten = D at *;generalize (Us l).toArray = cs at *
 go_enter Tryd.func103,Tryd.ntmps103
 refine wp_seq_k fun K hK=>?_;refine wp_region_lit ?_;refine wpl_box cs rfl rfl rfl ?_;refine wpl_alloc (zs:=(By z64b).toArray) rfl rfl zb64 ?_;refine wpl_nil ?_
 go_simp
 refine hK _ _ ?_;clear hK K;refine wp_seq_k fun K hK=>?_;refine wp_region_lit ?_;refine wpl_alloc (zs:=(By z64b).toArray) rfl rfl zb64 ?_;refine wpl_nil ?_
 go_simp
 refine hK _ _ ?_;clear hK K;refine wp_at (fun W=>LY w W cs z64b) ⟨blk3_0 w _ _ _ _,blk3_1 w _ _ _ _,blk3_2 w _ _ _ _,(((Below.refl _ _).alloc (Nat.le_refl _) _).alloc (by simp) _).alloc (by simp; omega) _⟩ ?_
 intro W hW
 have k0:=hW.b0;have HW:=Lib.hid hW;clear hW
 go_wp2_with (refine wpList_load_row rfl 142 _ rfl w.heap.size rfl 142 cs (0,0) _ k0 Tryd.underlying142 rfl (size_w8 _ hzs) ?_)
 clear k0
 go_loopw [8] (fun i wr=>∃ t : Nat,t ≤ 8 ∧ i = .int .i64 t ∧ LY w wr cs (pf D fun m=>decide (m < 8 * t))) (fun i _=>8 - (intOf i).toNat)
 case atStart =>
  refine ⟨0,by omega,rfl,?_⟩;rw [pf_none (fun m _=>decide_eq_false (by omega)),hD];exact HW.out
 case round =>
  clear HW;obtain ⟨t,ht,rfl,hS⟩:=hrel
  by_cases htl : t < 8
  ·have hi:=hix t htl
   have hx:=hwl t htl;have hby:=fun j hj=>hg t j htl hj;generalize l[t]! = x at *
   have g4 : (0 : Int) ≤ (t : Int):=by omega
   have HS:=Lib.hid hS;clear hS hg hix hwl
   go_wp2
   go_loopw [12,5] (fun j v wq=>∃ n : Nat,n ≤ 8 ∧ j = .int .i64 n ∧ v = .int .u64 ((x / 256 ^ n : Nat) : Int) ∧ LY w wq cs (pf D fun m=>decide (m < 8 * t ∨ 8 * t + 8 - n ≤ m ∧ m < 8 * t + 8))) (fun j _ _=>8 - (intOf j).toNat)
   case atStart =>
    refine ⟨0,by omega,rfl,by rw [Nat.pow_zero,Nat.div_one],?_⟩;rw [pf_congr (q:=fun m=>decide (m < 8 * t)) (fun m _=>decide_eq_decide.2 (by omega))];exact HS.out
   case round =>
    clear HS;obtain ⟨n,hn,rfl,rfl,hS⟩:=hrel
    by_cases hnl : n < 8
    ·have hN:=hS.set (8 * t + 7 - n) D[8 * t + 7 - n]!
     rw [pf_set (q:=fun m=>decide (m < 8 * t ∨ 8 * t + 8 - (n + 1) ≤ m ∧ m < 8 * t + 8)) (fun m _=>by rw [← Bool.decide_or]; exact decide_eq_decide.2 (by omega))] at hN;have hb:=hby n hnl
     have hdiv : x / 256 ^ (n + 1) = x / 256 ^ n / 256:=by rw [Nat.pow_succ,Nat.div_div_eq_div_mul]
     have hle : x / 256 ^ n < 18446744073709551616:=Nat.lt_of_le_of_lt (Nat.div_le_self _ _) hx;have c2:=(hS.b2.cell (8 * t + 7 - n)).trans (By_get (by rw [pf_len,hD]; omega));have f2:=hS.b2.free (8 * t + 7 - n);generalize x / 256 ^ n = y at *
     have q4 : IntKind.u8.wrap (y : Int) = ((D[8 * t + 7 - n]!).toNat : Int):=by
      rw [IntKind.wrap_u8',hb]
      omega
     have g5 : (0 : Int) ≤ (n : Int):=by omega
     have q5 : (y : Int) / 256 = ((y / 256 : Nat) : Int):=by omega
     have HN:=Lib.hid (And.intro hN hdiv);clear hS hN hdiv hb hby hi;generalize (D[8 * t + 7 - n]!).toNat = v at *;generalize ((pf D fun m=>decide (m < 8 * t ∨ 8 * t + 8 - n ≤ m ∧ m < 8 * t + 8))[8 * t + 7 - n]!).toNat = old at *;generalize y / 256 = y2 at *
     go_wp2
     go_roundw
     case rel =>
      obtain ⟨hN,hdiv⟩:=HN.out;refine ⟨n + 1,by omega,by go_num,by rw [hdiv],hN⟩
     case measure=>simp [intOf]; omega
    ·obtain rfl : n = 8:=by omega
     rw [pf_congr (q:=fun m=>decide (m < 8 * (t + 1))) (fun m _=>decide_eq_decide.2 (by omega))] at hS;have HS:=Lib.hid hS;clear hS
     go_wp2
     go_roundw
     case rel=>exact ⟨t + 1,by omega,by go_num,HS.out⟩
     case measure=>simp [intOf]; omega
  ·obtain rfl : t = 8:=by omega
   rw [pf_all (fun m hm=>decide_eq_true (by omega))] at hS;obtain ⟨b0,b1,b2,be⟩:=hS
   have hz : (By D).toArray.size = 64:=by rw [List.size_toArray,By_len,hD]
   clear b0
   go_wp2_with (first
    | (refine wpList_load_row rfl 32 _ rfl (w.heap.size + 1 + 1) rfl 32 (By D).toArray (0,0) _ b2 Tryd.underlying32 rfl (size_b64 _ hz) ?_)
    | (refine wpList_store_row rfl 32 _ _ rfl (w.heap.size + 1) rfl (By D).toArray rfl 32 _ b1 (size_b64 _ hz) (by rw [hz]; rfl) (By_one _) ?_))
   refine bodyPost_ret (results_cell_row rfl _ _ (w.heap.size + 1) 32 (By D).toArray (0,0) _ rfl (b1.row _) Tryd.underlying32 rfl (size_b64 _ hz)) rfl ⟨rfl,?_⟩;exact below_setRow be (by omega) _
end Go.Proofs.YtminmeljonbogaaDoor
/-
  STEPS: 'clear(b)' of a slice of bytes; bytes of which the first are others; calls of closures.
-/
namespace Go.Proofs.YtminmeljonbogaaDoor
open Go.RowKit Go.IntWalk

theorem setRow_same {w : World} {g t : Nat} {cs : Array Value} (h : Blk w g t cs) : w.setRow g cs = w:=setRow_self w g cs t (0,0) h

def clr (z : List UInt8) (o : Nat) : List UInt8:=z.take o ++ List.replicate (z.length - o) 0
theorem clr_len {z : List UInt8} {o : Nat} (h : o ≤ z.length) : (clr z o).length = z.length:=by
 simp [clr]
 omega
theorem wpl_clear {ops : Array Oper} {rest : List Oper} {op : Oper} {a : Act} {w : World} {Q : Exit → Act → World → Prop} (x : Operand) (hgd : op.guard = none) (ho : op.op = .call { callee:=.builtin .clear,args:=#[x],argTypes:=#[23] })
  (g o n c : Nat) (A : Option Addr) (hx : a.eval x = .slice A n c) (hA : 0 < n → A = some ⟨g,o,none⟩) (z : List UInt8) (t : Nat) (hz : Blk w g t (By z).toArray) (hn : o + n = z.length)
  (z' : List UInt8) (hz' : Hid (clr z o = z')) (h : wpList Tryd.prog ops Q rest (a.put op.dst (.tuple #[])) (w.setRow g (By z').toArray)) : wpList Tryd.prog ops Q (op :: rest) a w:=by
 rw [← hz'.out] at h;refine wpList_plain hgd fun K hK=>?_
 have hrun : (Builtin.clear_ #[23] op.type #[.slice A n c]).run Tryd.prog w = .ok (.tuple #[]) (w.setRow g (By (clr z o)).toArray):=by
  by_cases h0 : n = 0
  ·subst h0
   have e : clr z o = z:=by
    unfold clr
    rw [← hn,Nat.add_zero,Nat.sub_self,List.replicate_zero,List.append_nil,List.take_of_length_le (by omega)]
   rw [e,setRow_same hz];have hu:=Tryd.underlying23
   cases A <;> simp [Builtin.clear_,run_underlying hu]
  ·obtain rfl:=hA (by omega)
   have hst:=run_storeCells_at (P:=Tryd.prog) g o t (List.replicate n (.int .u8 0)) 0 (By z).toArray w hz (by rw [List.length_replicate,List.size_toArray,By_len]; omega) (by intro v hv; rw [List.eq_of_mem_replicate hv]; rfl)
   have e : ((By z).toArray.toList.take (o + 0) ++ List.replicate n (.int .u8 0) ++ (By z).toArray.toList.drop (o + 0 + (List.replicate n (Value.int .u8 0)).length)) = By (clr z o):=by
    have hd : (By z).drop (o + n) = []:=List.drop_eq_nil_of_le (by rw [By_len]; omega);simp only [List.length_replicate,Nat.add_zero,hd,List.append_nil]
    unfold clr
    rw [By_app,← hn,Nat.add_sub_cancel_left]
    simp [By]
   rw [e] at hst
   have hzc : (Builtin.zeroCells #[.int .u8 0] n).toList = List.replicate n (.int .u8 0):=by
    simp [Builtin.zeroCells]
    apply List.ext_getElem
    ·simp
    ·intro i h1 h2
     simp [Nat.mod_one]
   obtain ⟨m,rfl⟩ : ∃ m,n = m + 1:=⟨n - 1,by omega⟩;have hu:=Tryd.underlying23
   simp [Builtin.clear_,run_underlying hu,Value.cells,hzc,hst]
 unfold Oper.wp
 simp [execOp,ho,resolve,invoke,builtin,hx,hrun,Result.andThen]
 exact hK _ _ h
end Go.Proofs.YtminmeljonbogaaDoor
/-
  THE DIGESTS: what a full block does (the function that Sum512 hands over), and the message's end.
-/
namespace Go.Proofs.YtminmeljonbogaaDoor
open Go.RowKit Go.IntWalk Nums

structure S5 (B gh gb : Nat) (w0 w : World) (o : Oct) (b : List UInt8) : Prop where
  h : Blk w gh 142 (Us o.list).toArray
  m : Blk w gb 143 (By b).toArray
  ob : OB 64 o
  len : b.length = 128
  ts : Ts w
  be : Below B w0 w
  bh : B ≤ gh
  bb : B ≤ gb
  ne : gh ≠ gb
  ht : 2 < B
theorem Ts.belowB {B : Nat} {w w' : World} (h : Ts w) (hb : Below B w w') (hB : 2 < B) : Ts w' :=
 ⟨fun i hi=>(hb.cell (p:=⟨2,i,none⟩) hB).trans (h.cell i hi),Nat.lt_of_lt_of_le h.lt hb.size⟩
section
variable {B gh gb : Nat} {w0 w w' : World} {o : Oct} {b : List UInt8}
theorem S5.up (h : S5 B gh gb w0 w o b) (k : Below w.heap.size w w') (hB : B ≤ w.heap.size) : S5 B gh gb w0 w' o b :=
 ⟨h.h.later k,h.m.later k,h.ob,h.len,h.ts.below k,h.be.trans (k.mono hB),h.bh,h.bb,h.ne,h.ht⟩
theorem S5.rebase (h : S5 B gh gb w0 w o b) : S5 B gh gb w w o b:=⟨h.h,h.m,h.ob,h.len,h.ts,Below.refl _ _,h.bh,h.bb,h.ne,h.ht⟩
theorem S5.since {w1 : World} (h : S5 B gh gb w0 w o b) (k : Below B w1 w0) : S5 B gh gb w1 w o b:=⟨h.h,h.m,h.ob,h.len,h.ts,k.trans h.be,h.bh,h.bb,h.ne,h.ht⟩
theorem S5.size (h : S5 B gh gb w0 w o b) : B ≤ w.heap.size:=Nat.le_of_lt (Nat.lt_of_le_of_lt h.bh h.h.lt)
theorem S5.setH (h : S5 B gh gb w0 w o b) {p : Oct} (hp : OB 64 p) : S5 B gh gb w0 (w.setRow gh (Us p.list).toArray) p b :=
 ⟨h.h.row _,h.m.rowFar (Ne.symm h.ne) _,hp,h.len,h.ts.belowB (below_setRow (Below.refl B w) h.bh _) h.ht,below_setRow h.be h.bh _,h.bh,h.bb,h.ne,h.ht⟩
theorem S5.setM (h : S5 B gh gb w0 w o b) {c : List UInt8} (hc : c.length = 128) : S5 B gh gb w0 (w.setRow gb (By c).toArray) o c :=
 ⟨h.h.rowFar h.ne _,h.m.row _,h.ob,hc,h.ts.belowB (below_setRow (Below.refl B w) h.bb _) h.ht,below_setRow h.be h.bb _,h.bh,h.bb,h.ne,h.ht⟩
theorem S5.setB (h : S5 B gh gb w0 w o b) (k : Nat) (x : UInt8) : S5 B gh gb w0 (w.setCell ⟨gb,k,none⟩ (.int .u8 (x.toNat : Int))) o (b.set k x) where
 h:=h.h.far (by show gh ≠ gb; exact h.ne) _
 m:=by
  have h4:=h.m.set k (.int .u8 (x.toNat : Int));rw [By_set] at h4;exact h4
 ob:=h.ob
 len:=by rw [List.length_set]; exact h.len
 ts:=h.ts.belowB ((Below.refl B w).setCell (p:=⟨gb,k,none⟩) h.bb _) h.ht
 be:=h.be.setCell h.bb _
 bh:=h.bh
 bb:=h.bb
 ne:=h.ne
 ht:=h.ht
end

set_option maxRecDepth 100000 in
set_option maxHeartbeats 1000000 in
theorem take512_f {B gh gb : Nat} {w0 w : World} {o : Oct} {b : List UInt8} (h : S5 B gh gb w0 w o b) :
  Calls Tryd.prog 101 #[.pointer (some ⟨gh,0,none⟩),.pointer (some ⟨gb,0,none⟩)] w fun e w'=>e = .returned (.tuple #[]) ∧ S5 B gh gb w0 w' (turnw s512 o b) b:=by
 have HT:=turn512_f h.ob h.len w h.ts;have kh:=h.h;have km:=h.m;have hz : (Us o.list).toArray.size = 8:=rfl;have hz2 : (Us (turnw s512 o b).list).toArray.size = 8:=rfl;have hb128:=len_b128 h.len;have hp:=OB.turnw s512 o b;have HK:=Lib.hid h;clear h;generalize turnw s512 o b = p at *
 go_enter Tryd.func101,Tryd.ntmps101
 go_wp2_with (first
  | (refine wpList_load_row rfl 142 _ rfl gh rfl 142 (Us o.list).toArray (0,0) _ kh Tryd.underlying142 rfl (size_w8 _ hz) ?_)
  | (refine wpList_load_row rfl 143 _ rfl gb rfl 143 (By b).toArray (0,0) _ km Tryd.underlying143 rfl (size_b128 _ hb128) ?_))
 refine HT.mono ?_
 rintro e w1 ⟨rfl,hw1⟩
 have h1:=HK.out.up hw1 HK.out.size;have kh1:=h1.h;have H2:=Lib.hid (h1.setH hp);clear h1 hw1 HT kh km
 go_wp2_with (refine wpList_store_row rfl 142 _ _ rfl gh rfl (Us p.list).toArray rfl 142 _ kh1 (size_w8 _ hz2) (by rw [hz,hz2]) (Us_one _) ?_)
 go_end0
 exact ⟨rfl,H2.out⟩

/-! ### The message's end -/
theorem be64_len (v : Nat) : (be64 v).length = 8:=by
 unfold be64
 rw [List.length_reverse,bytes_len]
theorem be64_mod (v : Nat) : be64 (v % 18446744073709551616) = be64 v:=by
 unfold be64
 congr 1
 refine le_inj (by rw [bytes_len,bytes_len]) ?_;rw [le_bytes,le_bytes];exact Nat.mod_mod _ _
theorem be64_get {v i : Nat} (h : i < 8) : ((be64 v)[7 - i]!).toNat = v / 256 ^ i % 256:=by
 have hl : (Nums.bytes 8 v).length = 8:=bytes_len _ _
 have e : (be64 v)[7 - i]! = (Nums.bytes 8 v)[i]!:=by
  unfold be64
  rw [getElem!_pos _ _ (by rw [List.length_reverse,hl]; omega),List.getElem_reverse,getElem!_pos _ i (by rw [hl]; exact h)]
  congr 1
  rw [hl]
  omega
 rw [e,bytes_get _ _ h]
def eig (c e : List UInt8) (n i : Nat) : List UInt8:=c.take (n - i) ++ e.drop (8 - i)
theorem eig_len {c e : List UInt8} {n i : Nat} (hc : c.length = n) (he : e.length = 8) (hi : i ≤ 8) (hn : 8 ≤ n) : (eig c e n i).length = n:=by
 unfold eig
 rw [List.length_append,List.length_take,List.length_drop]
 omega
theorem eig_zero {c e : List UInt8} {n : Nat} (hc : c.length = n) (he : e.length = 8) : eig c e n 0 = c:=by
 unfold eig
 rw [List.take_of_length_le (by omega),List.drop_of_length_le (by omega),List.append_nil]
theorem eig_set {c e : List UInt8} {n i : Nat} (hc : c.length = n) (he : e.length = 8) (hi : i < 8) (hn : 8 ≤ n) : (eig c e n i).set (n - 1 - i) e[7 - i]! = eig c e n (i + 1):=by
 unfold eig
 have h1 : c.take (n - i) = c.take (n - (i + 1)) ++ [c[n - (i + 1)]!]:=by
  rw [show n - i = n - (i + 1) + 1 by omega,List.take_succ_eq_append_getElem (by omega),getElem!_pos c _ (by omega)]
 have h2 : e.drop (8 - (i + 1)) = e[7 - i]! :: e.drop (8 - i):=by
  rw [List.drop_eq_getElem_cons (by omega),getElem!_pos e _ (by omega)]
  congr 1
  ·congr 1
   omega
  ·congr 1
   omega
 have hl : (c.take (n - (i + 1))).length = n - (i + 1):=by rw [List.length_take]; omega
 rw [h1,h2,List.append_assoc,List.set_append_right _ _ (by omega),hl,show n - 1 - i - (n - (i + 1)) = 0 by omega]
 rfl

theorem clr_set {b : List UInt8} {n r : Nat} (hb : b.length = n) (hr : r < n) : clr (b.set r 128) (r + 1) = b.take r ++ 128 :: List.replicate (n - 1 - r) 0:=by
 unfold clr
 rw [List.length_set,hb]
 have h1 : (b.set r 128).take (r + 1) = b.take r ++ [128]:=by
  rw [List.take_succ_eq_append_getElem (by rw [List.length_set]; omega),List.getElem_set_self,List.take_set_of_le (Nat.le_refl r)]
 rw [h1,List.append_assoc,show n - (r + 1) = n - 1 - r by omega]
 rfl
theorem clr_all (c : List UInt8) : clr c 0 = List.replicate c.length 0:=by
 unfold clr
 simp
theorem end_one {s : Sha} {b : List UInt8} {n r v : Nat} {o : Oct} (hn : 64 ≤ n) (hb : b.length = n) (hr : r < n) (h : r + 1 ≤ n - n / 8) :
  turnw s o (eig (b.take r ++ 128 :: List.replicate (n - 1 - r) 0) (be64 v) n 8) = runw s n o (b.take r ++ tailw n r v):=by
 have h8 : n / 8 * 8 ≤ n:=Nat.div_mul_le_self n 8
 have h9 : 2 ≤ n / 8:=by omega
 have e : eig (b.take r ++ 128 :: List.replicate (n - 1 - r) 0) (be64 v) n 8 = b.take r ++ tailw n r v:=by
  unfold eig tailw
  have hl : (b.take r).length = r:=by rw [List.length_take]; omega
  rw [if_pos h,List.take_append,hl,List.take_of_length_le (by omega),List.append_assoc,Nat.sub_self,List.drop_zero]
  congr 1
  rw [show n - 8 - r = (n - 9 - r) + 1 by omega,List.take_succ_cons,List.take_replicate,Nat.min_eq_left (by omega),List.cons_append]
 rw [e]
 have hl : (b.take r ++ tailw n r v).length = n:=by
  rw [← e,eig_len (by rw [List.length_append,List.length_take,List.length_cons,List.length_replicate]; omega) (be64_len _) (Nat.le_refl _) (by omega)]
 have h0:=runw_block (s:=s) (B:=n) (o:=o) (b:=b.take r ++ tailw n r v) (l:=[]) (by omega) hl;rw [List.append_nil] at h0;rw [h0,runw_short (by simp only [List.length_nil]; omega)]
theorem end_two {s : Sha} {b : List UInt8} {n r v : Nat} {o : Oct} (hn : 64 ≤ n) (hb : b.length = n) (hr : r < n) (h : ¬ r + 1 ≤ n - n / 8) :
  turnw s (turnw s o (b.take r ++ 128 :: List.replicate (n - 1 - r) 0)) (eig (List.replicate n 0) (be64 v) n 8) = runw s n o (b.take r ++ tailw n r v):=by
 have hl1 : (b.take r ++ 128 :: List.replicate (n - 1 - r) 0).length = n:=by
  rw [List.length_append,List.length_take,List.length_cons,List.length_replicate]
  omega
 have hl2 : (eig (List.replicate n 0) (be64 v) n 8).length = n:=eig_len (List.length_replicate) (be64_len _) (Nat.le_refl _) (by omega)
 have e : b.take r ++ tailw n r v = (b.take r ++ 128 :: List.replicate (n - 1 - r) 0) ++ eig (List.replicate n 0) (be64 v) n 8:=by
  unfold tailw eig
  rw [if_neg h,List.append_assoc,List.cons_append,Nat.sub_self,List.drop_zero,List.take_replicate,Nat.min_eq_left (by omega),← List.append_assoc (List.replicate _ 0),List.replicate_append_replicate]
  congr 4
  omega
 have h0:=runw_block (s:=s) (B:=n) (o:=turnw s o (b.take r ++ 128 :: List.replicate (n - 1 - r) 0)) (b:=eig (List.replicate n 0) (be64 v) n 8) (l:=[]) (by omega) hl2;rw [List.append_nil] at h0;rw [e,runw_block (by omega) hl1,h0,runw_short (by simp only [List.length_nil]; omega)]
end Go.Proofs.YtminmeljonbogaaDoor
/-
  THE DIGESTS: end: the message's end.
-/
namespace Go.Proofs.YtminmeljonbogaaDoor
open Go.RowKit Go.IntWalk Nums

set_option maxRecDepth 100000 in
set_option maxHeartbeats 4000000 in
theorem end512_f {B gh gb : Nat} {w0 w : World} {o : Oct} {b : List UInt8} (h : S5 B gh gb w0 w o b) (r v : Nat) (hr : r < 128) :
  Calls Tryd.prog 128 #[.slice (some ⟨gb,0,none⟩) 128 128,.int .i64 (r : Int),.int .u64 (v : Int),.func (.func 101) #[] #[.pointer (some ⟨gh,0,none⟩),.pointer (some ⟨gb,0,none⟩)]] w fun e w' =>
   e = .returned (.tuple #[]) ∧ ∃ b',S5 B gh gb w0 w' (runw s512 128 o (b.take r ++ tailw 128 r (8 * v))) b':=by
 have hlen:=h.len;have h1:=end_one (s:=s512) (o:=o) (v:=8 * v) (n:=128) (by omega) hlen hr;have h2:=end_two (s:=s512) (o:=o) (v:=8 * v) (n:=128) (by omega) hlen hr;have hcl:=clr_set hlen hr;have hS1 : S5 B gh gb w0 (w.setCell ⟨gb,r,none⟩ (.int .u8 128)) o (b.set r 128):=h.setB r 128
 have hsl : (b.set r 128).length = 128:=by rw [List.length_set]; exact hlen
 have hm1:=hS1.m;have hS2:=hS1.setM (c:=clr (b.set r 128) (r + 1)) (by rw [clr_len (by rw [hsl]; omega)]; exact hsl);rw [hcl] at hS2;have hc0:=(h.m.cell r).trans (By_get (by omega));have hf0:=h.m.free r;generalize (b[r]!).toNat = old at *
 have hl1 : (b.take r ++ 128 :: List.replicate (128 - 1 - r) 0).length = 128:=by
  rw [List.length_append,List.length_take,List.length_cons,List.length_replicate]
  omega
 obtain ⟨c1,hc1⟩ : ∃ c,c = b.take r ++ 128 :: List.replicate (128 - 1 - r) 0:=⟨_,rfl⟩;rw [← hc1] at hcl hS2 hl1 h1 h2;have HC:=Lib.hid hcl;have HK:=Lib.hid (And.intro h hS2)
 have hr2 : (r : Int) < 128:=by omega
 have hr3 : (0 : Int) ≤ (r : Int):=by omega
 have hx:=be64_mod (8 * v);have hxe:=be64_len (8 * v);have hxg:=fun i hi=>be64_get (v:=8 * v % 18446744073709551616) (i:=i) hi;rw [hx] at hxg
 have hv8 : IntKind.u64.wrap ((v : Int) * 8) = ((8 * v % 18446744073709551616 : Nat) : Int):=by rw [IntKind.wrap_u64]; omega
 have hvb : 8 * v % 18446744073709551616 < 18446744073709551616:=Nat.mod_lt _ (by decide);generalize be64 (8 * v) = E at *;generalize 8 * v % 18446744073709551616 = y at *;clear hS2 hx h hc1 hcl
 rcases (show r = 127 ∨ r + 1 ≤ 112 ∨ (112 < r + 1 ∧ r < 127) by omega) with rfl | hc | ⟨hc,h127⟩
 ·rw [show ((127 : Nat) : Int) = (127 : Int) from rfl]
  go_enter Tryd.func128,Tryd.ntmps128
  go_wp2_with (refine wpl_clear (.tmp 16) rfl rfl gb 128 0 0 (some ⟨gb,0,none⟩) rfl (fun h=>absurd h (by decide)) (b.set 127 128) 143 hm1 (by rw [hsl]) c1 HC ?_)
  have hS:=HK.out.2;clear HK hm1 hc0 hf0 hS1;refine (take512_f hS).mono ?_
  rintro z w3 ⟨rfl,hS3⟩
  have hm3:=hS3.m;have hS4:=hS3.setM (c:=clr c1 0) (by rw [clr_len (by omega)]; exact hl1)
  have hz4 : clr c1 0 = List.replicate 128 0:=by rw [clr_all,hl1]
  have HF:=Lib.hid (h2 (by omega));rw [hz4] at hS4;have hl : (List.replicate 128 (0 : UInt8)).length = 128:=List.length_replicate;generalize List.replicate 128 (0 : UInt8) = c at *;generalize turnw s512 o c1 = p at *;have HZ:=Lib.hid hz4;have HS:=Lib.hid hS4;clear hS hS3 h1 h2 hS4 hz4
  go_wp2_with (refine wpl_clear (.tmp 28) rfl rfl gb 0 128 128 (some ⟨gb,0,none⟩) rfl (fun _=>rfl) c1 143 hm3 (by rw [hl1]) c HZ ?_)
  clear hm3
  go_loopw [31,8] (fun i u wr=>∃ k : Nat,k ≤ 8 ∧ i = .int .i64 k ∧ u = .int .u64 ((y / 256 ^ k : Nat) : Int) ∧ S5 B gh gb w0 wr p (eig c E 128 k)) (fun i _ _=>8 - (intOf i).toNat)
  case atStart =>
   refine ⟨0,by omega,rfl,by rw [Nat.pow_zero,Nat.div_one],?_⟩;rw [eig_zero hl hxe];exact HS.out
  case round =>
   clear HS;obtain ⟨k,hk,rfl,rfl,hS⟩:=hrel
   by_cases hkl : k < 8
   ·have hN:=hS.setB (127 - k) E[7 - k]!
    have hset:=eig_set hl hxe hkl (by omega);rw [show 128 - 1 - k = 127 - k by omega] at hset;rw [hset] at hN;have hb:=hxg k hkl
    have hdiv : y / 256 ^ (k + 1) = y / 256 ^ k / 256:=by rw [Nat.pow_succ,Nat.div_div_eq_div_mul]
    have hle : y / 256 ^ k < 18446744073709551616:=Nat.lt_of_le_of_lt (Nat.div_le_self _ _) hvb;have c2:=(hS.m.cell (127 - k)).trans (By_get (by rw [eig_len hl hxe (by omega) (by omega)]; omega));have f2:=hS.m.free (127 - k);generalize y / 256 ^ k = z at *
    have q4 : IntKind.u8.wrap (z : Int) = ((E[7 - k]!).toNat : Int):=by
     rw [IntKind.wrap_u8',hb]
     omega
    have q5 : (z : Int) / 256 = ((z / 256 : Nat) : Int):=by omega
    have g5 : (0 : Int) ≤ (k : Int):=by omega
    have HN:=Lib.hid (And.intro hN hdiv);clear hS hN hdiv hb hset hxg;generalize (E[7 - k]!).toNat = x at *;generalize ((eig c E 128 k)[127 - k]!).toNat = old2 at *;generalize z / 256 = z2 at *
    go_wp2
    go_roundw
    case rel =>
     obtain ⟨hN,hdiv⟩:=HN.out;exact ⟨k + 1,by omega,by go_num,by rw [hdiv],hN⟩
    case measure=>simp [intOf]; omega
   ·obtain rfl : k = 8:=by omega
    have HT:=take512_f hS;rw [HF.out] at HT;have HT:=Lib.hid HT;clear hS hxg
    go_wp2_with (fail)
    refine HT.out.mono ?_
    rintro z w5 ⟨rfl,hS5⟩
    go_wp2_with (fail)
    go_end0
    exact ⟨rfl,_,hS5⟩
 ·go_enter Tryd.func128,Tryd.ntmps128
  go_wp2_with (refine wpl_clear (.tmp 16) rfl rfl gb (r + 1) (127 - r) (127 - r) (some ⟨gb,r + 1,none⟩) rfl (fun _=>rfl) (b.set r 128) 143 hm1 (by rw [hsl]; omega) c1 HC ?_)
  have HF:=Lib.hid (h1 (by omega));have HS:=Lib.hid HK.out.2;have hl:=hl1;clear HK h1 h2 hl1 hm1 hc0 hf0 hS1;generalize c1 = c at *
  go_loopw [31,8] (fun i u wr=>∃ k : Nat,k ≤ 8 ∧ i = .int .i64 k ∧ u = .int .u64 ((y / 256 ^ k : Nat) : Int) ∧ S5 B gh gb w0 wr o (eig c E 128 k)) (fun i _ _=>8 - (intOf i).toNat)
  case atStart =>
   refine ⟨0,by omega,rfl,by rw [Nat.pow_zero,Nat.div_one],?_⟩;rw [eig_zero hl hxe];exact HS.out
  case round =>
   clear HS;obtain ⟨k,hk,rfl,rfl,hS⟩:=hrel
   by_cases hkl : k < 8
   ·have hN:=hS.setB (127 - k) E[7 - k]!
    have hset:=eig_set hl hxe hkl (by omega);rw [show 128 - 1 - k = 127 - k by omega] at hset;rw [hset] at hN;have hb:=hxg k hkl
    have hdiv : y / 256 ^ (k + 1) = y / 256 ^ k / 256:=by rw [Nat.pow_succ,Nat.div_div_eq_div_mul]
    have hle : y / 256 ^ k < 18446744073709551616:=Nat.lt_of_le_of_lt (Nat.div_le_self _ _) hvb;have c2:=(hS.m.cell (127 - k)).trans (By_get (by rw [eig_len hl hxe (by omega) (by omega)]; omega));have f2:=hS.m.free (127 - k);generalize y / 256 ^ k = z at *
    have q4 : IntKind.u8.wrap (z : Int) = ((E[7 - k]!).toNat : Int):=by
     rw [IntKind.wrap_u8',hb]
     omega
    have q5 : (z : Int) / 256 = ((z / 256 : Nat) : Int):=by omega
    have g5 : (0 : Int) ≤ (k : Int):=by omega
    have HN:=Lib.hid (And.intro hN hdiv);clear hS hN hdiv hb hset hxg;generalize (E[7 - k]!).toNat = x at *;generalize ((eig c E 128 k)[127 - k]!).toNat = old2 at *;generalize z / 256 = z2 at *
    go_wp2
    go_roundw
    case rel =>
     obtain ⟨hN,hdiv⟩:=HN.out;exact ⟨k + 1,by omega,by go_num,by rw [hdiv],hN⟩
    case measure=>simp [intOf]; omega
   ·obtain rfl : k = 8:=by omega
    have HT:=take512_f hS;rw [HF.out] at HT;have HT:=Lib.hid HT;clear hS hxg
    go_wp2_with (fail)
    refine HT.out.mono ?_
    rintro z w5 ⟨rfl,hS5⟩
    go_wp2_with (fail)
    go_end0
    exact ⟨rfl,_,hS5⟩
 ·go_enter Tryd.func128,Tryd.ntmps128
  go_wp2_with (refine wpl_clear (.tmp 16) rfl rfl gb (r + 1) (127 - r) (127 - r) (some ⟨gb,r + 1,none⟩) rfl (fun _=>rfl) (b.set r 128) 143 hm1 (by rw [hsl]; omega) c1 HC ?_)
  have hS:=HK.out.2;clear HK hm1 hc0 hf0 hS1;refine (take512_f hS).mono ?_
  rintro z w3 ⟨rfl,hS3⟩
  have hm3:=hS3.m;have hS4:=hS3.setM (c:=clr c1 0) (by rw [clr_len (by omega)]; exact hl1)
  have hz4 : clr c1 0 = List.replicate 128 0:=by rw [clr_all,hl1]
  have HF:=Lib.hid (h2 (by omega));rw [hz4] at hS4;have hl : (List.replicate 128 (0 : UInt8)).length = 128:=List.length_replicate;generalize List.replicate 128 (0 : UInt8) = c at *;generalize turnw s512 o c1 = p at *;have HZ:=Lib.hid hz4;have HS:=Lib.hid hS4;clear hS hS3 h1 h2 hS4 hz4
  go_wp2_with (refine wpl_clear (.tmp 28) rfl rfl gb 0 128 128 (some ⟨gb,0,none⟩) rfl (fun _=>rfl) c1 143 hm3 (by rw [hl1]) c HZ ?_)
  clear hm3
  go_loopw [31,8] (fun i u wr=>∃ k : Nat,k ≤ 8 ∧ i = .int .i64 k ∧ u = .int .u64 ((y / 256 ^ k : Nat) : Int) ∧ S5 B gh gb w0 wr p (eig c E 128 k)) (fun i _ _=>8 - (intOf i).toNat)
  case atStart =>
   refine ⟨0,by omega,rfl,by rw [Nat.pow_zero,Nat.div_one],?_⟩;rw [eig_zero hl hxe];exact HS.out
  case round =>
   clear HS;obtain ⟨k,hk,rfl,rfl,hS⟩:=hrel
   by_cases hkl : k < 8
   ·have hN:=hS.setB (127 - k) E[7 - k]!
    have hset:=eig_set hl hxe hkl (by omega);rw [show 128 - 1 - k = 127 - k by omega] at hset;rw [hset] at hN;have hb:=hxg k hkl
    have hdiv : y / 256 ^ (k + 1) = y / 256 ^ k / 256:=by rw [Nat.pow_succ,Nat.div_div_eq_div_mul]
    have hle : y / 256 ^ k < 18446744073709551616:=Nat.lt_of_le_of_lt (Nat.div_le_self _ _) hvb;have c2:=(hS.m.cell (127 - k)).trans (By_get (by rw [eig_len hl hxe (by omega) (by omega)]; omega));have f2:=hS.m.free (127 - k);generalize y / 256 ^ k = z at *
    have q4 : IntKind.u8.wrap (z : Int) = ((E[7 - k]!).toNat : Int):=by
     rw [IntKind.wrap_u8',hb]
     omega
    have q5 : (z : Int) / 256 = ((z / 256 : Nat) : Int):=by omega
    have g5 : (0 : Int) ≤ (k : Int):=by omega
    have HN:=Lib.hid (And.intro hN hdiv);clear hS hN hdiv hb hset hxg;generalize (E[7 - k]!).toNat = x at *;generalize ((eig c E 128 k)[127 - k]!).toNat = old2 at *;generalize z / 256 = z2 at *
    go_wp2
    go_roundw
    case rel =>
     obtain ⟨hN,hdiv⟩:=HN.out;exact ⟨k + 1,by omega,by go_num,by rw [hdiv],hN⟩
    case measure=>simp [intOf]; omega
   ·obtain rfl : k = 8:=by omega
    have HT:=take512_f hS;rw [HF.out] at HT;have HT:=Lib.hid HT;clear hS hxg
    go_wp2_with (fail)
    refine HT.out.mono ?_
    rintro z w5 ⟨rfl,hS5⟩
    go_wp2_with (fail)
    go_end0
    exact ⟨rfl,_,hS5⟩
end Go.Proofs.YtminmeljonbogaaDoor
/-
  THE DIGESTS: fill: the parts' bytes, block by block; Sum512.
-/
namespace Nums
theorem cop_take {t r b : List UInt8} {n : Nat} (ht : b.take t.length = t) : (Go.Proofs.YtminmeljonbogaaDoor.cop b t.length (r.take (n - t.length))).take (t.length + min r.length (n - t.length)) = t ++ r.take (n - t.length):=by
 unfold Go.Proofs.YtminmeljonbogaaDoor.cop
 rw [ht,← List.append_assoc]
 have hl : (t ++ r.take (n - t.length)).length = t.length + min r.length (n - t.length):=by
  rw [List.length_append,List.length_take,Nat.min_comm]
 rw [← hl,List.take_left]
theorem run_full {s : Sha} {n k : Nat} {o : Oct} {a z : List UInt8} (hn : 0 < n) (ha : a.length = k * n) (hz : z.length = n) : turnw s (runw s n o a) z = runw s n o (a ++ z):=by
 rw [runw_append hn k ha];have h:=runw_block (s:=s) (B:=n) (o:=runw s n o a) (b:=z) (l:=[]) hn hz;rw [List.append_nil] at h;have h2:=runw_short (s:=s) (B:=n) (o:=turnw s (runw s n o a) z) (l:=[]) (by simpa using hn);rw [h,h2]
theorem run_end {s : Sha} {n k : Nat} {o : Oct} {a t x : List UInt8} (hn : 0 < n) (ha : a.length = k * n) : runw s n (runw s n o a) (t ++ x) = runw s n o ((a ++ t) ++ x):=by
 rw [List.append_assoc,runw_append hn k ha]
theorem tailw_mod (n r v : Nat) : tailw n r (8 * (v % 18446744073709551616)) = tailw n r (8 * v):=by
 unfold tailw
 have e : be64 (8 * (v % 18446744073709551616)) = be64 (8 * v):=by
  have h1:=Go.Proofs.YtminmeljonbogaaDoor.be64_mod (8 * (v % 18446744073709551616));have h2:=Go.Proofs.YtminmeljonbogaaDoor.be64_mod (8 * v);rw [← h1,← h2]
  congr 1
  omega
 rw [e]
end Nums
namespace Go.Proofs.YtminmeljonbogaaDoor
open Go.RowKit Go.IntWalk Nums

def lenv : Value → Nat
  | .slice _ n _=>n
  | _=>0

structure FS5 (B gh gb : Nat) (w wr : World) (o : Oct) (m : List UInt8) (a t b : List UInt8) (k : Nat) : Prop where
  em : m = a ++ t
  ea : a.length = k * 128
  et : t.length < 128
  es : S5 B gh gb w wr (runw s512 128 o a) b
  eb : b.take t.length = t
theorem flat_take (ls : List (List UInt8)) (k : Nat) (h : k < ls.length) : (ls.take (k + 1)).flatten = (ls.take k).flatten ++ ls[k]:=by
 rw [List.take_succ_eq_append_getElem h,List.flatten_append,List.flatten_cons,List.flatten_nil,List.append_nil]

set_option maxRecDepth 100000 in
set_option maxHeartbeats 4000000 in
theorem fill512_f {B gh gb : Nat} {w : World} {o : Oct} {b : List UInt8} (h : S5 B gh gb w w o b) (A : Option Addr) (ls : List (List UInt8)) (pc : Nat) (hA : Parts w B A ls) (hpc : ls.length ≤ pc) (hpm : pc ≤ 9223372036854775807) :
  Calls Tryd.prog 100 #[.slice (some ⟨gb,0,none⟩) 128 128,.slice A ls.length pc,.func (.func 101) #[] #[.pointer (some ⟨gh,0,none⟩),.pointer (some ⟨gb,0,none⟩)]] w fun e w' =>
   e = .returned (.tuple #[]) ∧ ∃ b',S5 B gh gb w w' (runw s512 128 o (ls.flatten ++ tailw 128 (ls.flatten.length % 128) (8 * ls.flatten.length))) b':=by
 have h0 : FS5 B gh gb w w o (ls.take 0).flatten [] [] b 0:=by
  refine ⟨by simp,by simp,by simp,?_,by simp⟩;have e:=runw_short (s:=s512) (B:=128) (o:=o) (l:=[]) (by simp);rw [e];exact h
 have H0:=Lib.hid h0;have HA:=Lib.hid hA;clear h h0 hA
 go_enter Tryd.func100,Tryd.ntmps100
 go_wp2
 go_loopw [13,6,7] (fun i f z wr=>∃ n : Nat,n ≤ ls.length ∧ i = .int .i64 n ∧ ∃ a t b k,f = .int .i64 ((t : List UInt8).length : Nat) ∧ z = .int .u64 (((ls.take n).flatten.length % 18446744073709551616 : Nat) : Int) ∧ FS5 B gh gb w wr o (ls.take n).flatten a t b k) (fun i _ _ _=>ls.length - (intOf i).toNat)
 case atStart=>exact ⟨0,by omega,rfl,[],[],b,0,rfl,rfl,H0.out⟩
 case round =>
  clear H0;obtain ⟨n,hn,rfl,a,t,b,k,rfl,rfl,hF⟩:=hrel
  by_cases hnl : n < ls.length
  ·obtain ⟨ad,rfl,had,hcell⟩:=HA.out.below hF.es.be (Nat.le_refl _) (by omega)
   obtain ⟨P,c,hx,hsl⟩:=hcell n ls[n] (List.getElem?_eq_getElem hnl);have hfl:=flat_take ls n hnl
   have hsz : IntKind.u64.wrap ((((ls.take n).flatten.length % 18446744073709551616 : Nat) : Int) + (ls[n].length : Int)) = (((ls.take (n + 1)).flatten.length % 18446744073709551616 : Nat) : Int):=by
    rw [hfl,List.length_append,IntKind.wrap_u64]
    omega
   have HL:=Lib.hid hfl;have hl1:=hsl.1;have hl2:=hsl.2.1;have hwn : IntKind.u64.wrap (ls[n].length : Int) = (ls[n].length : Int):=wrapN _ (by omega);have HS:=Lib.hid (And.intro hF hsl);clear hF hsl hcell hfl;obtain ⟨zn,hzn⟩ : ∃ z,(ls.take (n + 1)).flatten.length % 18446744073709551616 = z:=⟨_,rfl⟩;rw [hzn] at hsz;have HZN:=Lib.hid hzn;clear hzn;generalize (ls.take n).flatten.length % 18446744073709551616 = z0 at *;generalize ls[n] = l at *
   go_wp2
   go_loopw [9,6] (fun p f wq=>∃ d r P c a t b k,l = d ++ r ∧ p = .slice P (r : List UInt8).length c ∧ f = .int .i64 ((t : List UInt8).length : Nat) ∧ SL wq 0 B P r c ∧ FS5 B gh gb w wq o ((ls.take n).flatten ++ d) a t b k) (fun p _ _=>lenv p)
   case atStart =>
    obtain ⟨hF,hsl⟩:=HS.out;refine ⟨[],l,P,c,a,t,b,k,rfl,rfl,rfl,hsl,?_⟩;rw [List.append_nil];exact hF
   case round =>
    clear HS hwn hsz hx hl1 hl2;obtain ⟨d,r,P,c,a,t,b,k,hd,rfl,rfl,hsl,hF⟩:=hrel
    by_cases hr : 0 < r.length
    ·skip
     have hm0:=hF.es.m;have hlt:=hF.et;have hz128:=hF.es.len;have hbv:=hsl.2.2.2;have hs1:=hsl.1;have hs2:=hsl.2.1;have hcut:=hsl.cut (k:=min r.length (128 - t.length)) (Nat.min_le_left _ _);have htl:=cop_take (r:=r) (n:=128) hF.eb
     have hzl : (cop b t.length (r.take (128 - t.length))).length = 128:=by
      rw [cop_len (by rw [List.length_take]; omega)];exact hz128
     have hS2:=hF.es.setM hzl;obtain ⟨z',hz'⟩ : ∃ z,cop b t.length (r.take (128 - t.length)) = z:=⟨_,rfl⟩;obtain ⟨m,hm⟩ : ∃ m,min r.length (128 - t.length) = m:=⟨_,rfl⟩;rw [hz'] at hS2 hzl htl;rw [hm] at hcut htl;have HZ:=Lib.hid hz';have HM:=Lib.hid hm;have hrd : (r.drop m).length = r.length - m:=List.length_drop
     have hmr : m ≤ r.length:=by omega
     have hmt : t.length + m ≤ 128:=by omega
     have hm1 : 0 < m:=by omega
     have hq : IntKind.i64.wrap ((t.length : Int) + (m : Int)) = ((t.length + m : Nat) : Int):=by rw [i64_left,wrap64_in _ (by omega)]; omega
     have hsl2 : SL (wr.setRow gb (By z').toArray) 0 B (if c = m then P else P.map (·.add m)) (r.drop m) (c - m):=hcut.below (below_setRow (Below.refl B wr) hF.es.bb _) (Nat.le_refl _)
     have hd2 : l = (d ++ r.take m) ++ r.drop m:=by rw [hd,List.append_assoc,List.take_append_drop]
     have htm : r.take (128 - t.length) = r.take m:=by
      rw [← hm]
      by_cases hh : r.length ≤ 128 - t.length
      ·rw [Nat.min_eq_left hh,List.take_of_length_le hh,List.take_of_length_le (Nat.le_refl _)]
      ·rw [Nat.min_eq_right (by omega)]
     rw [htm] at htl;have hem:=hF.em;have hea:=hF.ea;have HS:=Lib.hid (And.intro hS2 (And.intro hsl2 (And.intro hd2 (And.intro htl (And.intro hem hea)))));clear hF hsl hcut hS2 hsl2 hd hd2 htl htm hm hz' hem hea
     by_cases hf : t.length + m < 128
     ·by_cases hck : c = m
      ·have hck2:=hck.symm
       subst hck2
       go_wp2_with (refine wpl_copy (.tmp 27) (.tmp 28) rfl rfl gb t.length (128 - t.length) (128 - t.length) rfl P r m rfl b 143 hm0 0 B hbv (by rw [hz128]; omega) z' HZ m HM ?_)
       go_roundw
       case rel =>
        obtain ⟨hS2,hsl2,hd2,htl,hem,hea⟩:=HS.out
        first | rw [if_pos rfl] at hsl2 | rw [if_pos trivial] at hsl2
        refine ⟨d ++ r.take m,r.drop m,P,m - m,a,t ++ r.take m,z',k,hd2,by rw [hrd,show r.length - m = 0 by omega,Nat.sub_self],?_,hsl2,?_,hea,?_,hS2,?_⟩
        ·rw [List.length_append,List.length_take,Nat.min_eq_left hmr]
         go_num
        ·rw [← List.append_assoc,hem,List.append_assoc]
        ·rw [List.length_append,List.length_take,Nat.min_eq_left hmr]
         exact hf
        ·rw [List.length_append,List.length_take,Nat.min_eq_left hmr]
         exact htl
       case measure=>simp [lenv]; omega
      ·skip
       go_wp2_with (refine wpl_copy (.tmp 27) (.tmp 28) rfl rfl gb t.length (128 - t.length) (128 - t.length) rfl P r c rfl b 143 hm0 0 B hbv (by rw [hz128]; omega) z' HZ m HM ?_)
       go_roundw
       case rel =>
        obtain ⟨hS2,hsl2,hd2,htl,hem,hea⟩:=HS.out;rw [if_neg hck] at hsl2;refine ⟨d ++ r.take m,r.drop m,(P.map (·.add m)),c - m,a,t ++ r.take m,z',k,hd2,by rw [hrd],?_,hsl2,?_,hea,?_,hS2,?_⟩
        ·rw [List.length_append,List.length_take,Nat.min_eq_left hmr]
         go_num
        ·rw [← List.append_assoc,hem,List.append_assoc]
        ·rw [List.length_append,List.length_take,Nat.min_eq_left hmr]
         exact hf
        ·rw [List.length_append,List.length_take,Nat.min_eq_left hmr]
         exact htl
       case measure=>simp [lenv]; omega
     ·have hf : t.length + m = 128:=by omega
      by_cases hck : c = m
      ·have hck2:=hck.symm
       subst hck2
       go_wp2_with (refine wpl_copy (.tmp 27) (.tmp 28) rfl rfl gb t.length (128 - t.length) (128 - t.length) rfl P r m rfl b 143 hm0 0 B hbv (by rw [hz128]; omega) z' HZ m HM ?_)
       refine (take512_f HS.out.1.rebase).mono ?_
       rintro e w4 ⟨rfl,hS4⟩
       go_wp2_with (fail)
       go_roundw
       case rel =>
        obtain ⟨hS2,hsl2,hd2,htl,hem,hea⟩:=HS.out
        first | rw [if_pos rfl] at hsl2 | rw [if_pos trivial] at hsl2
        have hzz : z' = t ++ r.take m:=by
         rw [← htl,hf,List.take_of_length_le (by omega)]
        have hfull:=run_full (s:=s512) (n:=128) (o:=o) (by decide) hea hzl;rw [hfull] at hS4;refine ⟨d ++ r.take m,r.drop m,P,m - m,a ++ z',[],z',k + 1,hd2,by rw [hrd,show r.length - m = 0 by omega,Nat.sub_self],rfl,?_,?_,?_,by decide,hS4.since hS2.be,rfl⟩
        ·exact hsl2.below hS4.be (Nat.le_refl _)
        ·rw [List.append_nil,hzz,← List.append_assoc,hem,List.append_assoc]
        ·rw [List.length_append,hea,hzl,Nat.add_mul,Nat.one_mul]
       case measure=>simp [lenv]; omega
      ·skip
       go_wp2_with (refine wpl_copy (.tmp 27) (.tmp 28) rfl rfl gb t.length (128 - t.length) (128 - t.length) rfl P r c rfl b 143 hm0 0 B hbv (by rw [hz128]; omega) z' HZ m HM ?_)
       refine (take512_f HS.out.1.rebase).mono ?_
       rintro e w4 ⟨rfl,hS4⟩
       go_wp2_with (fail)
       go_roundw
       case rel =>
        obtain ⟨hS2,hsl2,hd2,htl,hem,hea⟩:=HS.out;rw [if_neg hck] at hsl2
        have hzz : z' = t ++ r.take m:=by
         rw [← htl,hf,List.take_of_length_le (by omega)]
        have hfull:=run_full (s:=s512) (n:=128) (o:=o) (by decide) hea hzl;rw [hfull] at hS4;refine ⟨d ++ r.take m,r.drop m,(P.map (·.add m)),c - m,a ++ z',[],z',k + 1,hd2,by rw [hrd],rfl,?_,?_,?_,by decide,hS4.since hS2.be,rfl⟩
        ·exact hsl2.below hS4.be (Nat.le_refl _)
        ·rw [List.append_nil,hzz,← List.append_assoc,hem,List.append_assoc]
        ·rw [List.length_append,hea,hzl,Nat.add_mul,Nat.one_mul]
       case measure=>simp [lenv]; omega
    ·have hr0 : r = []:=List.eq_nil_of_length_eq_zero (by omega)
     subst hr0;rw [List.append_nil] at hd;subst hd;have HF:=Lib.hid hF;clear hF hsl
     go_wp2
     go_roundw
     case rel =>
      refine ⟨n + 1,by omega,by go_num,a,t,b,k,rfl,?_,?_⟩
      ·rw [HZN.out]
      ·rw [HL.out]
       exact HF.out
     case measure=>simp [intOf]; omega
  ·obtain rfl : n = ls.length:=by omega
   rw [List.take_length] at hF ⊢;have hE:=end512_f hF.es t.length (ls.flatten.length % 18446744073709551616) hF.et;rw [tailw_mod,hF.eb,run_end (by decide) hF.ea,← hF.em] at hE
   have hmod : t.length = ls.flatten.length % 128:=by
    have h1:=hF.ea;have h2:=hF.et;rw [hF.em,List.length_append]
    omega
   have HE:=Lib.hid hE;have HMO:=Lib.hid hmod;clear hE hF hmod;generalize ls.flatten.length % 18446744073709551616 = zz at *
   go_wp2_with (fail)
   refine HE.out.mono ?_
   rintro e w4 ⟨rfl,hS4⟩
   go_wp2_with (fail)
   go_end0
   rw [HMO.out] at hS4;exact ⟨rfl,hS4⟩
end Go.Proofs.YtminmeljonbogaaDoor
/-
  THE DIGESTS: Sum512.
-/
namespace Go.Proofs.YtminmeljonbogaaDoor
open Go.RowKit Go.IntWalk Nums

theorem own_sum512 : Own 63:=fun _ _=>by go_simp

structure Tsh (w : World) : Prop where
  steps : Ts w
  cell : ∀ i,i < 8 → w.cell? ⟨0,i,none⟩ = some (.int .u64 (sqs[i]! : Nat))
  lt : 0 < w.heap.size
theorem Tsh.below {w w' : World} (h : Tsh w) (hb : Below w.heap.size w w') : Tsh w' :=
 ⟨h.steps.below hb,fun i hi=>(hb.cell (p:=⟨0,i,none⟩) h.lt).trans (h.cell i hi),Nat.lt_of_lt_of_le h.lt hb.size⟩
def start512 : Oct:=⟨sqs[0]!,sqs[1]!,sqs[2]!,sqs[3]!,sqs[4]!,sqs[5]!,sqs[6]!,sqs[7]!⟩
theorem start512_ob : OB 64 start512:=by
 constructor <;> decide
theorem start512_list : start512.list = sqs:=by decide
theorem Tsh.range {w : World} (h : Tsh w) : w.rangeAt 0 0 (Us sqs):=fun j v hv=>by
 rw [Nat.zero_add]
 have hj : j < 8:=by
  have:=(List.getElem?_eq_some_iff.1 hv).1;rw [Us_len] at this;exact this
 rw [h.cell j hj];have h1 : (Us sqs).toArray[j]? = some (.int .u64 (sqs[j]! : Nat)):=Us_at (show j < sqs.length from hj);rw [← h1]
 simpa using hv
def z128 : List UInt8:=List.replicate 128 0
theorem zb128 : (Tryd.prog.info? 143).bind (fun i=>i.zero.map (·.cells)) = some (By z128).toArray:=by kernel_rfl
theorem OB.list_lt {o : Oct} (h : OB 64 o) : ∀ x ∈ o.list,x < 18446744073709551616:=by
 intro x hx
 simp only [Oct.list,List.mem_cons,List.not_mem_nil,or_false] at hx
 rcases hx with rfl | rfl | rfl | rfl | rfl | rfl | rfl | rfl
 ·exact h.a
 ·exact h.b
 ·exact h.c
 ·exact h.d
 ·exact h.e
 ·exact h.f
 ·exact h.g
 ·exact h.h

set_option maxRecDepth 100000 in
set_option maxHeartbeats 2000000 in
theorem sum512_f (A : Option Addr) (ls : List (List UInt8)) (pc : Nat) (w : World) (hT : Tsh w) (hA : Parts w w.heap.size A ls) (hpc : ls.length ≤ pc) (hpm : pc ≤ 9223372036854775807) :
  Calls Tryd.prog 63 #[.slice A ls.length pc] w fun e w'=>e = .returned (.agg (By (digest s512 ls.flatten)).toArray) ∧ Below w.heap.size w w':=by
 have hD : digest s512 ls.flatten = ((runw s512 128 start512 (ls.flatten ++ tailw 128 (ls.flatten.length % 128) (8 * ls.flatten.length))).list.map (layw s512)).flatten:=rfl;rw [hD];clear hD;generalize hR : runw s512 128 start512 (ls.flatten ++ tailw 128 (ls.flatten.length % 128) (8 * ls.flatten.length)) = R at *;have HR:=Lib.hid hR;clear hR
 go_enter Tryd.func63,Tryd.ntmps63
 refine wp_seq_k fun K hK=>?_;refine wp_region_lit ?_;refine wpl_alloc (zs:=(By z64b).toArray) rfl rfl zb64 ?_;refine wpl_nil ?_
 go_simp
 refine hK _ _ ?_;clear hK K;refine wp_at (fun W=>Blk W w.heap.size 32 (By z64b).toArray ∧ Below w.heap.size w W ∧ w.heap.size < W.heap.size) ⟨Blk.new w _ _,(Below.refl _ _).alloc (Nat.le_refl _) _,by rw [World.size_alloc]; omega⟩ ?_
 rintro W ⟨ho,hbe,hsz⟩
 refine wp_seq_k fun K hK=>?_;refine reg_varF 1 3 142 (.tmp 5) z8w rfl rfl rfl rfl rfl rfl rfl (exec_alloc rfl (by kernel_rfl)) ?_;simp only [List.take_succ_cons,List.take_zero];refine b_mid rfl 142 _ rfl 0 0 rfl (Us sqs) _ (fun w1 h=>((hT.below hbe).below h).range) Tryd.underlying142 rfl (size_w8 (Us sqs).toArray rfl) ?_;simp only [Act.put,List.setIfInBounds_toArray,List.set_cons_zero,List.set_cons_succ];refine wpB_nil ⟨(Us sqs).toArray,fun _=>rfl,fun _=>rfl,rfl,size_w8 _ rfl,Us_one _,fun gh W1 hgh hw1 hbh=>?_⟩;simp only [Exit.then,Act.put,List.setIfInBounds_toArray,List.set_cons_zero,List.set_cons_succ];refine hK _ _ ?_;clear hK K;have ho:=hw1.blk ho;have hbe:=below_up hbe hw1;clear hw1;have hng:=hbh.lt;refine wp_seq_k fun K hK=>?_;refine wp_region_lit ?_;refine wpl_alloc (zs:=(By z128).toArray) rfl rfl zb128 ?_;refine wpl_nil ?_
 go_simp
 refine hK _ _ ?_;clear hK K;have ho:=ho.alloc (.cells (By z128).toArray 143);have hbh:=hbh.alloc (.cells (By z128).toArray 143);have hbe:=hbe.alloc hbe.size (.cells (By z128).toArray 143);have hbb:=Blk.new W1 143 (By z128).toArray;generalize W1.alloc (.cells (By z128).toArray 143) = W2 at *;generalize W1.heap.size = gb at *;have hTw:=hT.below hbe;rw [← start512_list] at hbh;have hsgh : w.heap.size < gh:=Nat.lt_of_lt_of_le hsz hgh;have hS : S5 gh gh gb W2 W2 start512 z128:=⟨hbh,hbb,start512_ob,rfl,hTw.steps,Below.refl _ _,Nat.le_refl _,Nat.le_of_lt hng,Nat.ne_of_lt hng,Nat.lt_of_lt_of_le hT.steps.lt (Nat.le_of_lt hsgh)⟩
 have hP : Parts W2 gh A ls:=fun hl=>by
  obtain ⟨ad,e,h1,h2⟩:=(hA.below hbe (Nat.le_refl _)) hl;refine ⟨ad,e,Nat.lt_trans h1 hsgh,fun i l hi=>?_⟩;obtain ⟨A',c',h3,h4⟩:=h2 i l hi;exact ⟨A',c',h3,h4.more (Nat.le_refl _) (Nat.le_of_lt hsgh)⟩
 have HF:=Lib.hid (fill512_f hS A ls pc hP hpc hpm);have hmf : ∀ (fn : Fn) (first cap : Array Value) (w : World),(Instr.makeFunc fn first cap).run Tryd.prog w = .ok (.func fn first cap) w:=fun _ _ _ _=>rfl;have HK:=Lib.hid (And.intro ho hbe);clear hS hP hTw hbb hbh ho hbe hA hT
 go_wp2_with (fail)
 refine HF.out.mono ?_
 rintro e W3 ⟨rfl,b',hS3⟩
 rw [HR.out] at hS3;have kh:=hS3.h;have hb3:=hS3.be;have hzr : (Us R.list).toArray.size = 8:=rfl;have HL:=Lib.hid (fun w1=>lay512_f (l:=R.list) rfl (OB.list_lt hS3.ob) w1);have hko : Blk W3 w.heap.size 32 (By z64b).toArray:=HK.out.1.below hb3 hsgh;have hbe3 : Below w.heap.size w W3:=HK.out.2.trans (hb3.mono (Nat.le_of_lt hsgh));clear HF HK hS3 hb3 hmf
 go_wp2_with (refine wpList_load_row rfl 142 _ rfl gh rfl 142 (Us R.list).toArray (0,0) _ kh Tryd.underlying142 rfl (size_w8 _ hzr) ?_)
 refine (HL.out _).mono ?_
 rintro e W4 ⟨rfl,hw4⟩
 have hko:=hko.later hw4;have hbe4:=below_up hbe3 hw4
 have hz : (By (R.list.map (layw s512)).flatten).toArray.size = 64:=by
  rw [List.size_toArray,By_len,flat_lenB (layw s512) (n:=8) (fun x=>layw_len s512 x) R.list]
  rfl
 clear HL hw4 kh hbe3;obtain ⟨D,hDD⟩ : ∃ D,(R.list.map (layw s512)).flatten = D:=⟨_,rfl⟩;rw [hDD] at hz ⊢;have HDD:=Lib.hid hDD;clear hDD
 go_wp2_with (refine wpList_store_row rfl 32 _ _ rfl w.heap.size rfl (By D).toArray rfl 32 _ hko (size_b64 _ hz) (by rw [hz]; rfl) (By_one _) ?_)
 refine bodyPost_ret (results_cell_row rfl _ _ w.heap.size 32 (By D).toArray (0,0) _ rfl (hko.row _) Tryd.underlying32 rfl (size_b64 _ hz)) rfl ⟨by rw [HDD.out],?_⟩;exact below_setRow hbe4 (Nat.le_refl _) _
end Go.Proofs.YtminmeljonbogaaDoor
/-
  PLAIN NUMBERS: L is prime; the base point's order is just L; a clamped number's multiple is no small point. No program is imported.
-/
namespace Nums
theorem prime_1224481 : Prime 1224481:=prime_trial (k:=1107) (by decide) (by decide +kernel) (by decide +kernel)
theorem prime_531581 : Prime 531581:=prime_trial (k:=730) (by decide) (by decide +kernel) (by decide +kernel)
theorem prime_41 : Prime 41:=prime_trial (k:=7) (by decide) (by decide) (by decide +kernel)
theorem prime_2851 : Prime 2851:=prime_trial (k:=54) (by decide) (by decide) (by decide +kernel)
theorem prime_269 : Prime 269:=prime_trial (k:=17) (by decide) (by decide) (by decide +kernel)
theorem prime_7 : Prime 7:=prime_trial (k:=3) (by decide) (by decide) (by decide +kernel)
theorem prime_11 : Prime 11:=prime_trial (k:=4) (by decide) (by decide) (by decide +kernel)
theorem prime_l1 : Prime 1257559732178653:=prime_of (q1:=1224481) (q2:=531581) (a:=2) (k:=51) prime_1224481 prime_531581 (by decide +kernel)
theorem prime_l2 : Prime 4434155615661930479:=prime_of (q1:=1257559732178653) (q2:=41) (a:=3) (k:=62) prime_l1 prime_41 (by decide +kernel)
theorem prime_l3 : Prime 172054593956031949258510691:=prime_of (q1:=4434155615661930479) (q2:=2851) (a:=2) (k:=88) prime_l2 prime_2851 (by decide +kernel)
theorem prime_l4 : Prime 19757330305831588566944191468367130476339:=prime_of (q1:=172054593956031949258510691) (q2:=269) (a:=2) (k:=134) prime_l3 prime_269 (by decide +kernel)
theorem prime_l5 : Prime 276602624281642239937218680557139826668747:=prime_of (q1:=19757330305831588566944191468367130476339) (q2:=7) (a:=2) (k:=138) prime_l4 prime_7 (by decide +kernel)
theorem prime_L : Prime LL:=prime_of (q1:=276602624281642239937218680557139826668747) (q2:=11) (a:=2) (k:=253) prime_l5 prime_11 (by decide +kernel)
theorem base_ne : base ≠ Ed.zero:=fun h=>by
 have h1:=congrArg Ed.Pt.y h;have h2 : (fof bY : F).val = (1 : F).val:=congrArg Fin.val h1;rw [val_one prime_p,fof_val] at h2
 revert h2
 decide
theorem ord_iff (n : Nat) : Ed.mul dd n base = Ed.zero ↔ LL ∣ n:=by
 constructor
 ·intro h
  by_cases hd : LL ∣ n
  ·exact hd
  ·exfalso
   have hf:=fermat prime_L hd;obtain ⟨e,he⟩ : ∃ e,LL - 1 = e + 1:=⟨LL - 2,by decide⟩;rw [he,Nat.pow_succ] at hf;generalize n ^ e = c at hf
   have h1 : n * c = LL * (c * n / LL) + 1:=by
    have:=Nat.div_add_mod (c * n) LL;rw [hf] at this;rw [Nat.mul_comm n c];exact this.symm
   exact base_ne (Ed.zero_of good on_base h order h1)
 ·rintro ⟨c,rfl⟩
  rw [Ed.mul_mul good on_base,order,Ed.mul_zero good]
def clampN (x : Nat) : Nat:=x % 28948022309329048855892746252171976963317496166410141009864396001978282409984 / 8 * 8 + 28948022309329048855892746252171976963317496166410141009864396001978282409984
theorem clamp_ne (x : Nat) : ¬ LL ∣ clampN x:=by
 rintro ⟨c,hc⟩
 obtain ⟨y,hy⟩ : ∃ y,y = x % 28948022309329048855892746252171976963317496166410141009864396001978282409984:=⟨_,rfl⟩
 have hy2 : y < 28948022309329048855892746252171976963317496166410141009864396001978282409984:=by rw [hy]; exact Nat.mod_lt _ (by decide)
 have h0 : clampN x = y / 8 * 8 + 28948022309329048855892746252171976963317496166410141009864396001978282409984:=by rw [hy]; rfl
 rw [h0] at hc
 have h8 : LL * c % 8 = 0:=by rw [← hc]; omega
 have h1 : LL * c < LL * 8:=by
  rw [← hc];refine Nat.lt_of_lt_of_le (m:=57896044618658097711785492504343953926634992332820282019728792003956564819968) ?_ (by decide)
  omega
 have h2 : 0 < LL * c:=by rw [← hc]; omega
 have hc8 : c < 8:=Nat.lt_of_mul_lt_mul_left h1;clear hc h0 hy hy2 h1
 have h5 : LL * c % 8 = 5 * c % 8:=by rw [Nat.mul_mod,show LL % 8 = 5 from by decide,Nat.mul_mod 5 c,show 5 % 8 = 5 from rfl]
 rw [h5] at h8
 have hcz : c = 0:=by omega
 rw [hcz,Nat.mul_zero] at h2;exact absurd h2 (by decide)
theorem clamp_small (x : Nat) : Ed.mul dd 8 (Ed.mul dd (clampN x) base) ≠ Ed.zero:=by
 intro h
 rw [Ed.mul_times good on_base,ord_iff] at h
 rcases prime_L.dvd_mul h with h1 | h1
 ·exact absurd (Nat.le_of_dvd (by decide) h1) (by decide)
 ·exact clamp_ne x h1
theorem sign_right (r k a : Nat) : Ed.add dd (Ed.mul dd ((r + k * a) % LL) base) (Ed.neg (Ed.mul dd k (Ed.mul dd a base))) = Ed.mul dd r base:=by
 have hr:=Ed.on_mul good on_base r;have hk:=Ed.on_mul good on_base (k * a);rw [← Ed.mul_mod good on_base order,Ed.mul_add good on_base,Ed.mul_times good on_base,Ed.add_assoc good hr hk (Ed.on_neg hk),Ed.add_neg good hk,Ed.add_zero good]
end Nums
/-
  PLAIN NUMBERS of the signatures: what a seed's number, key and signatures are, and when one is right. No program is imported.
-/
namespace Nums

def lowB (l : List UInt8) : List UInt8:=l.set 0 (UInt8.ofNat ((l[0]!).toNat / 8 * 8))
def topB (l : List UInt8) : List UInt8:=l.set 31 (UInt8.ofNat ((l[31]!).toNat % 64 + 64))
def clampB (l : List UInt8) : List UInt8:=topB (lowB l)
theorem lowB_len (l : List UInt8) : (lowB l).length = l.length:=List.length_set
theorem topB_len (l : List UInt8) : (topB l).length = l.length:=List.length_set
theorem clampB_len (l : List UInt8) : (clampB l).length = l.length:=by rw [clampB,topB_len,lowB_len]
theorem ofNat_toNat {n : Nat} (h : n < 256) : (UInt8.ofNat n).toNat = n:=by
 rw [UInt8.toNat_ofNat']
 omega
theorem clamp_cut (x b t : Nat) (h : x = b + 28948022309329048855892746252171976963317496166410141009864396001978282409984 * t) (hb : b < 28948022309329048855892746252171976963317496166410141009864396001978282409984) : clampN x = b / 8 * 8 + 28948022309329048855892746252171976963317496166410141009864396001978282409984:=by
 unfold clampN
 rw [h,Nat.add_mul_mod_self_left,Nat.mod_eq_of_lt hb]
theorem le_lowB : ∀ {l : List UInt8},0 < l.length → le (lowB l) = le l / 8 * 8
 | [],h=>absurd h (by simp)
 | x :: l,_=>by
  have hx:=x.toNat_lt;have e : lowB (x :: l) = UInt8.ofNat (x.toNat / 8 * 8) :: l:=rfl;rw [e]
  show (UInt8.ofNat (x.toNat / 8 * 8)).toNat + 256 * le l = (x.toNat + 256 * le l) / 8 * 8
  rw [ofNat_toNat (by omega)]
  omega
theorem le_topB {l : List UInt8} (h : l.length = 32) : ∃ b t,b < 28948022309329048855892746252171976963317496166410141009864396001978282409984 ∧ le l = b + 28948022309329048855892746252171976963317496166410141009864396001978282409984 * t ∧ le (topB l) = b + 28948022309329048855892746252171976963317496166410141009864396001978282409984 ∧ b % 8 = le l % 8:=by
 have hs : l = l.take 31 ++ [l[31]!]:=by
  have h1 : l.drop 31 = [l[31]!]:=by
   rw [List.drop_eq_getElem_cons (by omega),List.drop_eq_nil_of_le (by omega),getElem!_pos l 31 (by omega)]
  rw [← h1,List.take_append_drop]
 have hlen : (l.take 31).length = 31:=by rw [List.length_take]; omega
 have ht : topB l = l.take 31 ++ [UInt8.ofNat ((l[31]!).toNat % 64 + 64)]:=by
  unfold topB
  conv=>lhs; arg 1; rw [hs]
  rw [List.set_append_right _ _ (by rw [hlen]; exact Nat.le_refl _),hlen]
  rfl
 have hx:=(l[31]!).toNat_lt;have hlo:=le_lt (l.take 31);rw [hlen] at hlo
 have e1 : le l = le (l.take 31) + 256 ^ 31 * (l[31]!).toNat:=by
  conv=>lhs; rw [hs]
  rw [le_append,hlen]
  rfl
 have e2 : le (topB l) = le (l.take 31) + 256 ^ 31 * ((l[31]!).toNat % 64 + 64):=by
  rw [ht,le_append,hlen]
  show _ + 256 ^ 31 * ((UInt8.ofNat ((l[31]!).toNat % 64 + 64)).toNat + 256 * 0) = _
  rw [ofNat_toNat (by omega)]
 generalize le (l.take 31) = u at *;generalize (l[31]!).toNat = y at *;refine ⟨u + 256 ^ 31 * (y % 64),y / 64,?_,?_,?_,?_⟩
 ·omega
 ·rw [e1]
  omega
 ·rw [e2]
  omega
 ·rw [e1]
  omega
theorem le_clampB {l : List UInt8} (h : l.length = 32) : le (clampB l) = clampN (le l):=by
 have h1:=le_lowB (l:=l) (by omega);obtain ⟨b,t,hb,e1,e2,e3⟩:=le_topB (l:=lowB l) (by rw [lowB_len,h]);rw [h1] at e1 e3
 have h8 : b % 8 = 0:=by rw [e3]; omega
 obtain ⟨r,hr,hr8⟩ : ∃ r,le l = le l / 8 * 8 + r ∧ r < 8:=⟨le l % 8,by omega,by omega⟩;rw [clampB,e2,clamp_cut (le l) (b + r) t (by omega) (by omega)]
 omega

def sgD (seed : List UInt8) : List UInt8:=digest s512 seed
def sgAB (seed : List UInt8) : List UInt8:=clampB ((sgD seed).take 32)
def sgPre (seed : List UInt8) : List UInt8:=(sgD seed).drop 32
def sgKey (seed : List UInt8) : List UInt8:=encP (Ed.mul dd (le (sgAB seed)) base)
def sgR (seed m : List UInt8) : Nat:=le (digest s512 (sgPre seed ++ m)) % LL
def sgRB (seed m : List UInt8) : List UInt8:=encP (Ed.mul dd (sgR seed m) base)
def sgK (R key m : List UInt8) : Nat:=le (digest s512 (R ++ (key ++ m))) % LL
def sgS (seed m : List UInt8) : Nat:=(sgR seed m + sgK (sgRB seed m) (sgKey seed) m * le (sgAB seed)) % LL
def sgSig (seed m : List UInt8) : List UInt8:=sgRB seed m ++ bytes 32 (sgS seed m)
def Right (key sig m : List UInt8) : Prop:=∃ A,Ed.On dd A ∧ encP A = key ∧ Ed.mul dd 8 A ≠ Ed.zero ∧ le (sig.drop 32) < LL ∧
  encP (Ed.add dd (Ed.mul dd (le (sig.drop 32)) base) (Ed.neg (Ed.mul dd (sgK (sig.take 32) key m) A))) = sig.take 32

theorem digest512_len (m : List UInt8) : (digest s512 m).length = 64:=by
 unfold digest
 have h : ∀ l : List Nat,((l.map (layw s512)).flatten).length = 8 * l.length:=by
  intro l
  induction l with
  | nil=>rfl
  | cons x l ih =>
   rw [List.map_cons,List.flatten_cons,List.length_append,ih,List.length_cons]
   have : (layw s512 x).length = 8:=by
    unfold layw
    rw [List.length_reverse,bytes_len]
    rfl
   omega
 rw [h]
 rfl
theorem sgD_len (seed : List UInt8) : (sgD seed).length = 64:=digest512_len _
theorem sgAB_len (seed : List UInt8) : (sgAB seed).length = 32:=by rw [sgAB,clampB_len,List.length_take,sgD_len]; rfl
theorem sgPre_len (seed : List UInt8) : (sgPre seed).length = 32:=by rw [sgPre,List.length_drop,sgD_len]
theorem sgKey_len (seed : List UInt8) : (sgKey seed).length = 32:=encP_len _
theorem sgRB_len (seed m : List UInt8) : (sgRB seed m).length = 32:=encP_len _
theorem sgSig_len (seed m : List UInt8) : (sgSig seed m).length = 64:=by rw [sgSig,List.length_append,sgRB_len,bytes_len]
theorem sgSig_take (seed m : List UInt8) : (sgSig seed m).take 32 = sgRB seed m:=by rw [sgSig,List.take_append_of_le_length (by rw [sgRB_len]; exact Nat.le_refl _),List.take_of_length_le (by rw [sgRB_len]; exact Nat.le_refl _)]
theorem sgSig_drop (seed m : List UInt8) : (sgSig seed m).drop 32 = bytes 32 (sgS seed m):=by
 rw [sgSig,List.drop_append,sgRB_len,List.drop_of_length_le (by rw [sgRB_len]; exact Nat.le_refl _)]
 rfl
theorem mod_LL_lt (n : Nat) : n % LL < LL:=Nat.mod_lt _ (by decide)
theorem sgS_lt (seed m : List UInt8) : sgS seed m < LL:=mod_LL_lt _
theorem le_bytesL {n : Nat} (h : n < LL) : le (bytes 32 n) = n:=by
 rw [le_bytes,Nat.mod_eq_of_lt (Nat.lt_trans h (by decide))]
theorem le_sgS (seed m : List UInt8) : le ((sgSig seed m).drop 32) = sgS seed m:=by rw [sgSig_drop,le_bytesL (sgS_lt _ _)]
theorem key_small (seed : List UInt8) : Ed.mul dd 8 (Ed.mul dd (le (sgAB seed)) base) ≠ Ed.zero:=by
 have h : le (sgAB seed) = clampN (le ((sgD seed).take 32)):=le_clampB (by rw [List.length_take,sgD_len]; rfl);rw [h];exact clamp_small _
theorem key_ne (seed : List UInt8) : ¬ LL ∣ le (sgAB seed):=by
 have h : le (sgAB seed) = clampN (le ((sgD seed).take 32)):=le_clampB (by rw [List.length_take,sgD_len]; rfl);rw [h];exact clamp_ne _
theorem right_own (seed m : List UInt8) : Right (sgKey seed) (sgSig seed m) m:=by
 refine ⟨_,Ed.on_mul good on_base _,rfl,key_small seed,?_,?_⟩
 ·rw [le_sgS]
  exact sgS_lt _ _
 ·rw [le_sgS,sgSig_take,sgS,sign_right]
  rfl
theorem mul_inj {a b : Nat} (ha : a < LL) (hb : b < LL) (h : Ed.mul dd a base = Ed.mul dd b base) : a = b:=by
 have key : ∀ {a b : Nat},a ≤ b → b < LL → Ed.mul dd a base = Ed.mul dd b base → a = b:=fun {a b} hab hb h=>by
  obtain ⟨c,rfl⟩ : ∃ c,b = a + c:=⟨b - a,by omega⟩;have hA:=Ed.on_mul good on_base a;have hC:=Ed.on_mul good on_base c;rw [Ed.mul_add good on_base] at h
  have h1 : Ed.mul dd c base = Ed.zero:=by
   have h2 : Ed.add dd (Ed.add dd (Ed.mul dd a base) (Ed.mul dd c base)) (Ed.neg (Ed.mul dd a base)) = Ed.add dd (Ed.mul dd a base) (Ed.neg (Ed.mul dd a base)):=by rw [← h]
   rw [Ed.add_neg good hA,Ed.add_comm (Ed.mul dd a base) (Ed.mul dd c base),Ed.add_assoc good hC hA (Ed.on_neg hA),Ed.add_neg good hA,Ed.add_zero good] at h2;exact h2
  rw [ord_iff] at h1;have h3 : c = 0:=Nat.eq_zero_of_dvd_of_lt h1 (by omega)
  omega
 rcases Nat.le_total a b with h1 | h1
 ·exact key h1 hb h
 ·exact (key h1 ha h.symm).symm
theorem add_right {P Q R : Ed.Pt p} (hP : Ed.On dd P) (hQ : Ed.On dd Q) (hR : Ed.On dd R) (h : Ed.add dd P R = Ed.add dd Q R) : P = Q:=by
 have h1 : Ed.add dd (Ed.add dd P R) (Ed.neg R) = Ed.add dd (Ed.add dd Q R) (Ed.neg R):=by rw [h]
 rwa [Ed.add_assoc good hP hR (Ed.on_neg hR),Ed.add_assoc good hQ hR (Ed.on_neg hR),Ed.add_neg good hR,Ed.add_zero good,Ed.add_zero good] at h1
theorem msg_core {a k1 k2 S : Nat} (ha : ¬ LL ∣ a) (h1 : k1 < LL) (h2 : k2 < LL) (h : Ed.add dd (Ed.mul dd S base) (Ed.neg (Ed.mul dd k1 (Ed.mul dd a base))) = Ed.add dd (Ed.mul dd S base) (Ed.neg (Ed.mul dd k2 (Ed.mul dd a base)))) : k1 = k2:=by
 have hK:=Ed.on_mul good on_base a;have hS:=Ed.on_mul good on_base S;have hN1:=Ed.on_mul good hK k1;have hN2:=Ed.on_mul good hK k2;rw [Ed.add_comm (Ed.mul dd S base),Ed.add_comm (Ed.mul dd S base)] at h;have h4:=add_right (Ed.on_neg hN1) (Ed.on_neg hN2) hS h;have h5:=congrArg Ed.neg h4;rw [Ed.neg_neg,Ed.neg_neg,Ed.mul_times good on_base,Ed.mul_times good on_base] at h5
 have key : ∀ {x y : Nat},x ≤ y → y < LL → Ed.mul dd (x * a) base = Ed.mul dd (y * a) base → x = y:=fun {x y} hxy hy h=>by
  rw [Ed.mul_mod good on_base order (x * a),Ed.mul_mod good on_base order (y * a)] at h;have h7:=mul_inj (mod_LL_lt _) (mod_LL_lt _) h
  have h8 : LL ∣ y * a - x * a:=by
   have h10:=Nat.div_add_mod (x * a) LL;have h11:=Nat.div_add_mod (y * a) LL;rw [← h7] at h11;refine ⟨y * a / LL - x * a / LL,?_⟩;rw [Nat.mul_sub];generalize LL * (y * a / LL) = u at *;generalize LL * (x * a / LL) = v at *
   omega
  rw [← Nat.sub_mul] at h8
  rcases prime_L.dvd_mul h8 with h9 | h9
  ·have:=Nat.eq_zero_of_dvd_of_lt h9 (by omega)
   omega
  ·exact absurd h9 ha
 rcases Nat.le_total k1 k2 with h6 | h6
 ·exact key h6 h2 h5
 ·exact (key h6 h1 h5.symm).symm
theorem right_msg {seed s m n : List UInt8} (hs : Right (sgKey seed) s m) (ht : Right (sgKey seed) s n) : sgK (s.take 32) (sgKey seed) m = sgK (s.take 32) (sgKey seed) n:=by
 obtain ⟨A,hA,hk,_,hl,he⟩:=hs;obtain ⟨B,hB,hk2,_,hl2,he2⟩:=ht;have hK:=Ed.on_mul good on_base (le (sgAB seed));have e1 : A = Ed.mul dd (le (sgAB seed)) base:=encP_inj hA hK hk;have e2 : B = Ed.mul dd (le (sgAB seed)) base:=encP_inj hB hK hk2;rw [e1] at he;rw [e2] at he2;have hS:=Ed.on_mul good on_base (le (s.drop 32));exact msg_core (key_ne seed) (mod_LL_lt _) (mod_LL_lt _) (encP_inj (Ed.on_add good hS (Ed.on_neg (Ed.on_mul good hK _))) (Ed.on_add good hS (Ed.on_neg (Ed.on_mul good hK _))) (he.trans he2.symm))
end Nums
/-
  THE PROGRAM'S SIGNATURES: number.
-/
namespace Go.Proofs.YtminmeljonbogaaDoor
open Go.RowKit Go.IntWalk Nums

theorem pt_none {w : World} {P : Option Addr} {ls : List (List UInt8)} (h : PT w P ls) (hP : P = none) : ls = []:=by
 cases ls with
 | nil=>rfl
 | cons l ls =>
  obtain ⟨ad,e,_⟩:=h (by simp);rw [hP] at e
  cases e
set_option maxRecDepth 100000 in
set_option maxHeartbeats 1000000 in
theorem number_f {v1 v2 : Value} {l1 l2 : List UInt8} {P : Option Addr} {ls : List (List UInt8)} {pc : Nat} (w : World) (hT : Tsh w) (h1 : SB w v1 l1) (h2 : SB w v2 l2) (hP : PT w P ls) (h0 : P = none → pc = 0) (hls : ls.length ≤ 1000000) :
  Calls Tryd.prog 29 #[v1,v2,.slice P ls.length pc] w fun e w'=>e = .returned (.agg (Us (ws (le (digest s512 (l1 ++ (l2 ++ ls.flatten))) % LL))).toArray) ∧ Below w.heap.size w w':=by
 refine calls_F (vs:=[v1,v2,.slice P ls.length pc]) 16 Tryd.func29 rfl (by rw [Tryd.ntmps29]; rfl) ?_;refine c_seq fun K hK=>?_;refine c_lit ?_;refine l_allocA z4 rfl rfl rfl rfl (by kernel_rfl) fun W1 g1 hw1 hg1 b1=>?_;refine l_nil ?_;refine hK _ _ ?_;clear hK K;replace h1:=h1.later hw1;replace h2:=h2.later hw1;replace hP:=hP.later hw1;replace hT:=hT.below hw1;have hU : Up w W1:=hw1
 have q1 : w.heap.size ≤ g1:=by rw [hg1]; exact Nat.le_refl _
 clear hw1;refine c_seq fun K hK=>?_;refine c_gF 4 ?_;refine g_op rfl ?_;refine f_move v1 rfl rfl rfl rfl rfl ?_;refine g_go ?_;refine g_op rfl ?_;refine f_move v2 rfl rfl rfl rfl rfl ?_;refine g_go ?_;refine g_slices [v1,v2] [l1,l2] W1.heap.size rfl rfl rfl rfl rfl rfl rfl (by decide) (by decide) (fun _ h=>h.size) (fun _ h _=>⟨h1.later h,h2.later h,trivial⟩) fun g2 _ _ _=>?_;refine g_op rfl ?_;refine f_move (.slice P ls.length pc) rfl rfl rfl rfl rfl ?_;refine g_go ?_;refine g_end fun W2 hw2 hF=>?_;have n2:=hF 2 _ rfl;clear hF;refine l_appS (vs:=[v1,v2]) (ls:=ls) (base:=W1.heap.size) rfl rfl rfl rfl rfl rfl (n2.gs (n:=2) rfl (by decide)) hw2 hP (fun e=>⟨h0 e,pt_none hP e⟩) (by simp; omega) hw2.size fun A' c' W3 us hus hgs hgr=>?_;have hU3 : Up W1 W3:=GS.grew (n2.gs (n:=2) rfl (by decide)) hw2 hgr hw2.size;have hall : All2 W3 ([v1,v2] ++ us) ([l1,l2] ++ ls):=All2.app ⟨h1.later hU3,h2.later hU3,trivial⟩ (All2.later hU3 hus);obtain ⟨hPT,hc1,hc2⟩:=hgs.pt hall;rw [hall.len];refine l_assign (.slice A' ([l1,l2] ++ ls).length c') rfl rfl rfl rfl rfl ?_;refine l_nil ?_;refine hK _ _ ?_;clear hK K;replace b1:=b1.later hU3;replace hT:=hT.below hU3;replace hU:=hU.step hU3;refine c_seq fun K hK=>?_;refine c_tF 3 ?_;refine f_move (.slice A' ([l1,l2] ++ ls).length c') rfl rfl rfl rfl rfl ?_;refine f_call #[.slice A' ([l1,l2] ++ ls).length c'] (.agg (By (digest s512 ([l1,l2] ++ ls).flatten)).toArray) rfl rfl rfl own_sum512 (fun w1 h=>sum512_f A' ([l1,l2] ++ ls) c' w1 (hT.below h) (hPT.later h) hc1 hc2) rfl rfl ?_;refine f_call #[.agg (By (digest s512 ([l1,l2] ++ ls).flatten)).toArray] (.agg (Us (ws (le (digest s512 ([l1,l2] ++ ls).flatten) % LL))).toArray) rfl rfl rfl own_wide (fun w1 _=>wide_f (digest512_len _) w1) rfl rfl ?_;refine f_set g1 _ (Us (ws (le (digest s512 ([l1,l2] ++ ls).flatten) % LL))).toArray rfl rfl rfl rfl rfl b1 (size_S _) (by rw [us_size (ws_len _)]; rfl) (Us_oneA _) fun w4 hw4 c4=>?_;refine l_nil ?_;refine hK _ _ ?_;clear hK K;refine c_ret (k_ret_row g1 _ rfl rfl c4 Tryd.underlying59 rfl (size_S _) ⟨?_,up_row (hU.step hw4) q1 _⟩)
 rfl
end Go.Proofs.YtminmeljonbogaaDoor
