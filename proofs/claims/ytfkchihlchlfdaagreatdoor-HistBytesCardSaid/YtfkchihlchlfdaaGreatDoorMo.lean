import Derived.Test.YtfkchihlchlfdaaGreatDoorMl
import Derived.Test.YtfkchihlchlfdaaGreatDoorMn
import Derived.Test.YtfkchihlchlfdaaGreatDoorMm
import Derived.Lib.AppendZeros
set_option maxRecDepth 100000
set_option maxHeartbeats 8000000
open And renaming intro->a5
open Go.Act renaming put->aG
open Go.Builtin renaming zeroCells->pA
open Go.IntKind renaming wrap_u64->aP,wrap_u32->bQ,wrap_u8'->jM
open Go.Lib renaming hid->aL
open Go.Region renaming wanted->aN
open Go.Sem renaming run_bind->aJ
open Go.Value renaming int->eG,bool->jU
open Go.World renaming size_alloc->aZ
open List renaming setIfInBounds_toArray->aA,set_cons_zero->aB,set_cons_succ->aC,replicate->aE,length_append->aI,append_assoc->aU,getElem?_eq_getElem->aX,length_take->aY,take_succ_cons->a6,size_toArray->a9,length_replicate->bH,mem_singleton->bK,take_zero->bP,append_nil->bV,take_of_length_le->bW,mem_cons->b7,take_append_drop->dR,length_set->eP,mem_of_getElem?->gK,take_length->iD,nil_append->kG,getElem_mem->yJ
open Nat renaming le_refl->aH,lt_of_lt_of_le->bM,lt_of_le_of_lt->bX,zero_le->bZ,min_eq_left->cW,pow_succ->dD,le_of_lt->fJ,div_le_self->gD,div_div_eq_div_mul->iE,le_trans->j6,pow_zero->mS,one_mul->rZ,add_mul->sA,sub_self->sT,div_one->sU
open Option.some renaming inj->fV
namespace Go.Proofs.YtfkchihlchlfdaaGreatDoor
open Go.RowKit Go.IntWalk Nums
theorem Hi : Own 57:=λ_ _=>by go_simp
theorem oP (cs : Array Value) (h : cs.size = 8) : (Tryz.prog.info? 73).map (·.size) = some cs.size:=by
 rw [h]
 kernel_rfl
theorem Gq {l : List UInt8} (h : l.length = 64) : (By l).toArray.size = 64:=by rw [a9,cD,h]
def z8v : Array Value:=(Uw [0,0,0,0,0,0,0,0]).toArray
section
variable {ops : Array Oper} {C0 : World -> Prop} {Q : Act -> Prop} {a : Act} {o : Oper} {rest : List Oper}
theorem Sg {l : List UInt8} (g : Nat) (hl : l.length = 64) (x : Operand) (hg : aN o (yielded ops a.tmps) = true) (ho : o.op = .load 38 x) (hx : a.eval x = .pointer (some ⟨g,0,none⟩))
  (hc : ∀ w,C0 w -> Blk w g 38 (By l).toArray) (hk : wpB Tryz.prog ops C0 Q rest (a.put o.dst (.agg (By l).toArray))) : wpB Tryz.prog ops C0 Q (o :: rest) a :=
 zU hg 38 x ho g 0 hx (By l) _ (λw h=>(hc w h).range) Tryz.underlying38 rfl (qH (By l).toArray (Gq hl)) hk
theorem rH {x : Operand} (g k : Nat) (hk8 : k < 8) (hg : aN o (yielded ops a.tmps) = true) (ho : o.op = .indexAddr 73 x (.const (.int .i64 (k : Int)))) (hx : a.eval x = .pointer (some ⟨g,0,none⟩))
  (hk : wpB Tryz.prog ops C0 Q rest (a.put o.dst (.pointer (some ⟨g,k,none⟩)))) : wpB Tryz.prog ops C0 Q (o :: rest) a :=
 k5 hg (λw _=>by
  have h1 : (k : Int) < 8:=by omega
  have h2 : (0 : Int) <= (k : Int):=by omega
  unfold execOp
  simp only [ho,hx]
  go_simp) hk
theorem rJ {x : Operand} (g k v : Nat) (hg : aN o (yielded ops a.tmps) = true) (ho : o.op = .load 72 x) (hx : a.eval x = .pointer (some ⟨g,k,none⟩)) (hc : ∀ w,C0 w -> w.cell? ⟨g,k,none⟩ = some (.int .u32 (v : Int)))
  (hk : wpB Tryz.prog ops C0 Q rest (a.put o.dst (.int .u32 (v : Int)))) : wpB Tryz.prog ops C0 Q (o :: rest) a :=
 k5 hg (λw hw=>by
  have h1:=hc w hw
  unfold execOp
  simp only [ho,hx]
  go_simp) hk
end
structure TS2 (w wr : World) (o : Oct) (gx : Nat) (l : List Nat) : Prop where
  b0 : Blk wr w.heap.size 73 (Uw o.list).toArray
  b2 : Blk wr (w.heap.size + 1 + 1) 73 z8v
  bx : Blk wr gx 102 (Uw l).toArray
  tw : Ts wr
  be : Below w.heap.size w wr
theorem TS2.up {w wr w1 : World} {o : Oct} {gx : Nat} {l : List Nat} (h : TS2 w wr o gx l) (k : Up wr w1) : TS2 w w1 o gx l:=⟨k.blk h.b0,k.blk h.b2,k.blk h.bx,h.tw.below k,bA h.be k⟩
theorem TS2.drew {w wr : World} {o : Oct} {gx : Nat} {l : List Nat} (h : TS2 w wr o gx l) : TS2 w wr.drew o gx l:=⟨h.b0,h.b2,h.bx,h.tw.drew,h.be.drew⟩
theorem Mj {o : Oct} (ho : OB 32 o) {b : List UInt8} (hb : b.length = 64) (w : World) (hT : Ts w) :
  Calls Tryz.prog 36 #[.agg (Uw o.list).toArray,.agg (By b).toArray] w λe w'=>e = .returned (.agg (Uw (iT cH o b).list).toArray) /\ Below w.heap.size w w':=by
 have HL:=λw1=>M7 hb w1;have hxl : ∀ t,t < 64 -> (mxl (sx cH b) oC 64)[t]! = sx cH b t:=λt h=>Fq h (by rw [jG]; exact h);have hxb:=Gu cH b (by decide)
 have hxn : (mxl (sx cH b) oC 64).length = 64:=by rw [eF,jG]
 have hO:=λt=>OB.oI (s:=cH) (b:=b) ho t;have hstep : ∀ t,oI cH b o (t + 1) = rnd cH (cbs[t]! / 4294967296) (sx cH b t) (oI cH b o t):=λt=>rfl;have h0 : oI cH b o 0 = o:=rfl;have hend : iT cH o b = Di 32 o (oI cH b o 64):=rfl;rw [hend];clear hend
 have hzx : (Uw (mxl (sx cH b) oC 64)).toArray.size = 64:=by rw [a9,AN,hxn]
 generalize mxl (sx cH b) oC 64 = l at *;generalize sx cH b = F at *;generalize oI cH b o = R at *
 go_enter Tryz.func36,Tryz.ntmps36
 refine wp_seq_k λK hK=>?_;refine wp_region_lit ?_;refine kI (Uw o.list).toArray rfl rfl rfl ?_;refine kI (By b).toArray rfl rfl rfl ?_;refine dV (zs:=z8v) rfl rfl (by kernel_rfl) ?_;refine dX ?_
 go_simp
 refine hK _ _ ?_;clear hK K;refine p9 (λW=>Blk W w.heap.size 73 (Uw o.list).toArray /\ Blk W (w.heap.size + 1) 38 (By b).toArray /\ Blk W (w.heap.size + 1 + 1) 73 z8v /\ Ts W /\ Below w.heap.size w W) ⟨nK w _ _ _ _,lW w _ _ _ _,mG w _ _ _ _,hT.below ((((Below.refl _ _).alloc (aH _) _).alloc (by simp) _).alloc (by simp; omega) _),(((Below.refl _ _).alloc (aH _) _).alloc (by simp) _).alloc (by simp; omega) _⟩ ?_
 rintro W ⟨k0,k1,k2,hTW,hbe⟩
 refine wp_seq_k λK hK=>?_;refine sE 2 5 102 (.tmp 20) (Uw oC).toArray rfl rfl rfl rfl rfl rfl rfl (dE rfl U2) ?_;simp only [a6,bP];refine Sg (w.heap.size + 1) hb _ rfl rfl rfl (λ_ h=>h.blk k1) ?_;simp only [aG,aA,aB,aC];refine kE rfl Hi (λw1=>HL w1) rfl rfl ?_;simp only [aG,aA,aB,aC];refine cQ ⟨(Uw l).toArray,λ_=>rfl,λ_=>rfl,by rw [hzx,a9,AN,jG],yO _ hzx,AM _,λgx W3 hgx hw1 hbx=>?_⟩;simp only [Exit.then,aG,aA,aB,aC];refine hK _ _ ?_;clear hK K;have hS : TS2 w W3 o gx l:=⟨hw1.blk k0,hw1.blk k2,hbx,hTW.below hw1,bA hbe hw1⟩;clear k0 k1 k2 hTW hbe hw1 hbx HL hT;have hb0:=hS.b0;have HS:=aL (a5 hS h0);clear hS h0;refine wp_seq_k λK hK=>?_;refine yW (by kernel_rfl) (cJ (by kernel_rfl)) (λ_ _ d _ _ h=>by cases d <;> exact h) ?_;refine rH w.heap.size 0 (by decide) rfl rfl rfl ?_;simp only [aG,aA,aB,aC];refine rJ w.heap.size 0 o.a rfl rfl rfl (λ_ h=>(h.blk hb0).cell 0) ?_;simp only [aG,aA,aB,aC];refine rH w.heap.size 1 (by decide) rfl rfl rfl ?_;simp only [aG,aA,aB,aC];refine rJ w.heap.size 1 o.b rfl rfl rfl (λ_ h=>(h.blk hb0).cell 1) ?_;simp only [aG,aA,aB,aC];refine rH w.heap.size 2 (by decide) rfl rfl rfl ?_;simp only [aG,aA,aB,aC];refine rJ w.heap.size 2 o.c rfl rfl rfl (λ_ h=>(h.blk hb0).cell 2) ?_;simp only [aG,aA,aB,aC];refine rH w.heap.size 3 (by decide) rfl rfl rfl ?_;simp only [aG,aA,aB,aC];refine rJ w.heap.size 3 o.d rfl rfl rfl (λ_ h=>(h.blk hb0).cell 3) ?_;simp only [aG,aA,aB,aC];refine rH w.heap.size 4 (by decide) rfl rfl rfl ?_;simp only [aG,aA,aB,aC];refine rJ w.heap.size 4 o.e rfl rfl rfl (λ_ h=>(h.blk hb0).cell 4) ?_;simp only [aG,aA,aB,aC];refine rH w.heap.size 5 (by decide) rfl rfl rfl ?_;simp only [aG,aA,aB,aC];refine rJ w.heap.size 5 o.f rfl rfl rfl (λ_ h=>(h.blk hb0).cell 5) ?_;simp only [aG,aA,aB,aC];refine rH w.heap.size 6 (by decide) rfl rfl rfl ?_
 simp only [aG,aA,aB,aC];refine rJ w.heap.size 6 o.g rfl rfl rfl (λ_ h=>(h.blk hb0).cell 6) ?_;simp only [aG,aA,aB,aC];refine rH w.heap.size 7 (by decide) rfl rfl rfl ?_;simp only [aG,aA,aB,aC];refine rJ w.heap.size 7 o.h rfl rfl rfl (λ_ h=>(h.blk hb0).cell 7) ?_;simp only [aG,aA,aB,aC];refine gM (.int .u32 (o.a : Int)) rfl rfl rfl ?_;simp only [aG,aA,aB,aC];refine gM (.int .u32 (o.b : Int)) rfl rfl rfl ?_;simp only [aG,aA,aB,aC];refine gM (.int .u32 (o.c : Int)) rfl rfl rfl ?_;simp only [aG,aA,aB,aC];refine gM (.int .u32 (o.d : Int)) rfl rfl rfl ?_;simp only [aG,aA,aB,aC];refine gM (.int .u32 (o.e : Int)) rfl rfl rfl ?_;simp only [aG,aA,aB,aC];refine gM (.int .u32 (o.f : Int)) rfl rfl rfl ?_;simp only [aG,aA,aB,aC];refine gM (.int .u32 (o.g : Int)) rfl rfl rfl ?_;simp only [aG,aA,aB,aC];refine gM (.int .u32 (o.h : Int)) rfl rfl rfl ?_;simp only [aG,aA,aB,aC];refine cQ ?_
 intro W4 hw1
 simp only [Exit.then];refine hK _ _ ?_;clear hK K hb0;have HS:=aL (a5 (HS.out.1.up hw1) HS.out.2);clear hw1
 go_wp2
 go_loopw [37,6,7,8,9,10,11,12,13] (λi va vb vc vd ve vf vg vh wr=>∃ t : Nat,t <= 64 /\ i = .int .i64 t /\ va = .int .u32 (R t).a /\ vb = .int .u32 (R t).b /\ vc = .int .u32 (R t).c /\ vd = .int .u32 (R t).d /\ ve = .int .u32 (R t).e /\ vf = .int .u32 (R t).f /\ vg = .int .u32 (R t).g /\ vh = .int .u32 (R t).h /\ TS2 w wr o gx l) (λi _ _ _ _ _ _ _ _ _=>64 - (intOf i).toNat)
 case atStart =>
  obtain ⟨hS,h0⟩:=HS.out;refine ⟨0,by omega,rfl,?_⟩;rw [h0];exact ⟨rfl,rfl,rfl,rfl,rfl,rfl,rfl,rfl,hS⟩
 case round =>
  clear HS;obtain ⟨t,ht,rfl,rfl,rfl,rfl,rfl,rfl,rfl,rfl,rfl,hS⟩:=hrel
  by_cases htl : t < 64
  ·have hs:=hstep t
   obtain ⟨ba,bb,bc,bd,be,bf,bg,bh⟩:=hO t;have hX : F t < 4294967296:=hxb t;have hC:=Rg (show t < 80 by omega)
   have hKt : cbs[t]! / 4294967296 < 4294967296:=by omega
   have qk : ((cbs[t]! : Nat) : Int) / 4294967296 = ((cbs[t]! / 4294967296 : Nat) : Int):=by omega
   have cx:=(hS.drew.bx.cell t).trans (zX (by omega));rw [hxl t htl] at cx;have ck:=hS.drew.tw.cell t (by omega);generalize R t = q at *;obtain ⟨a,b',c,d,e,f,g,h⟩:=q;generalize F t = X at *;generalize cbs[t]! / 4294967296 = Kt at *;generalize cbs[t]! = Ct at *
   have qw : IntKind.u32.wrap (Kt : Int) = (Kt : Int):=by rw [bQ]; omega
   dsimp only at ba bb bc bd be bf bg bh ⊢
   have e1 : pI 32 (6,11,25) e = eD 32 6 e ^^^ eD 32 11 e ^^^ eD 32 25 e:=rfl;have e0 : pI 32 (2,13,22) a = eD 32 2 a ^^^ eD 32 13 a ^^^ eD 32 22 a:=rfl;have r1:=eL (w:=32) (n:=6) (x:=e) (by decide) be;have r2:=eL (w:=32) (n:=11) (x:=e) (by decide) be;have r3:=eL (w:=32) (n:=25) (x:=e) (by decide) be;have r4:=eL (w:=32) (n:=2) (x:=a) (by decide) ba;have r5:=eL (w:=32) (n:=13) (x:=a) (by decide) ba;have r6:=eL (w:=32) (n:=22) (x:=a) (by decide) ba;have R1:=λw1=>aL (oR e 6 be (by decide) (by decide) w1);have R2:=λw1=>aL (oR e 11 be (by decide) (by decide) w1);have R3:=λw1=>aL (oR e 25 be (by decide) (by decide) w1);have R4:=λw1=>aL (oR a 2 ba (by decide) (by decide) w1);have R5:=λw1=>aL (oR a 13 ba (by decide) (by decide) w1);have R6:=λw1=>aL (oR a 22 ba (by decide) (by decide) w1);have hnew : rnd cH Kt X ⟨a,b',c,d,e,f,g,h⟩ = ⟨(h + pI 32 (6,11,25) e + chw 32 e f g + Kt + X + (pI 32 (2,13,22) a + maw a b' c)) % 4294967296,a,b',c,(d + (h + pI 32 (6,11,25) e + chw 32 e f g + Kt + X)) % 4294967296,e,f,g⟩:=rfl;rw [hnew] at hs;clear hnew;have u1:=wV (w:=32) (t:=(6,11,25)) (x:=e) (by decide) be;have u0:=wV (w:=32) (t:=(2,13,22)) (x:=a) (by decide) ba;have uc:=Kf (w:=32) (e:=e) (f:=f) (g:=g) be;have um:=JN (w:=32) (a:=a) (b:=b') (c:=c) ba bb;have x1:=u32_xor_nat _ _ r1 r2;have x2:=u32_xor_nat _ _ (gY r1 r2) r3;have x3:=u32_xor_nat _ _ r4 r5;have x4:=u32_xor_nat _ _ (gY r4 r5) r6;rw [<-e1] at x2;rw [<-e0] at x4;generalize pI 32 (6,11,25) e = s1 at *;generalize pI 32 (2,13,22) a = s0 at *;generalize eD 32 6 e ^^^ eD 32 11 e = y1 at *;generalize eD 32 2 a ^^^ eD 32 13 a = y0 at *;generalize eD 32 6 e = p1 at *;generalize eD 32 11 e = p2 at *;generalize eD 32 25 e = p3 at *;generalize eD 32 2 a = p4 at *;generalize eD 32 13 a = p5 at *;generalize eD 32 22 a = p6 at *;have n1:=u32_and_nat e f be bf;have n2:=u32_and_nat (2 ^ 32 - 1 - e) g (by omega) bg;have n3 : bits .xor .u32 ((e &&& f : Nat) : Int) (((2 ^ 32 - 1 - e) &&& g : Nat) : Int) = ((chw 32 e f g : Nat) : Int):=u32_xor_nat _ _ (iC (w:=32) be) (iC (w:=32) (bX (Nat.sub_le (2 ^ 32 - 1) e) (by decide)));have n4:=u32_and_nat a b' ba bb;have n5:=u32_and_nat a c ba bc;have n6:=u32_and_nat b' c bb bc;have n7:=u32_xor_nat (a &&& b') (a &&& c) (iC ba) (iC ba);have n8 : bits .xor .u32 (((a &&& b') ^^^ (a &&& c) : Nat) : Int) ((b' &&& c : Nat) : Int) = ((maw a b' c : Nat) : Int):=u32_xor_nat _ _ (gY (iC ba) (iC ba)) (iC bb);generalize chw 32 e f g = ch at *;generalize maw a b' c = ma at *;generalize (a &&& b') ^^^ (a &&& c) = m4 at *;generalize a &&& b' = m1 at *;generalize a &&& c = m2 at *;generalize b' &&& c = m3 at *
   generalize e &&& f = m5 at *;generalize (2 ^ 32 - 1 - e) &&& g = m6 at *;have nn:=Xw be;generalize 2 ^ 32 - 1 - e = ne at *;obtain ⟨q1,hq1⟩ : ∃ z,z = (h + s1) % 4294967296:=⟨_,rfl⟩;obtain ⟨q2,hq2⟩ : ∃ z,z = (q1 + ch) % 4294967296:=⟨_,rfl⟩;obtain ⟨q3,hq3⟩ : ∃ z,z = (q2 + Kt) % 4294967296:=⟨_,rfl⟩;obtain ⟨q4,hq4⟩ : ∃ z,z = (q3 + X) % 4294967296:=⟨_,rfl⟩;obtain ⟨q5,hq5⟩ : ∃ z,z = (s0 + ma) % 4294967296:=⟨_,rfl⟩;obtain ⟨q6,hq6⟩ : ∃ z,z = (d + q4) % 4294967296:=⟨_,rfl⟩;obtain ⟨q7,hq7⟩ : ∃ z,z = (q4 + q5) % 4294967296:=⟨_,rfl⟩
   have t1 : IntKind.u32.wrap ((h : Int) + (s1 : Int)) = (q1 : Int):=by rw [bQ]; omega
   have t2 : IntKind.u32.wrap ((q1 : Int) + (ch : Int)) = (q2 : Int):=by rw [bQ]; omega
   have t3 : IntKind.u32.wrap ((q2 : Int) + (Kt : Int)) = (q3 : Int):=by rw [bQ]; omega
   have t4 : IntKind.u32.wrap ((q3 : Int) + (X : Int)) = (q4 : Int):=by rw [bQ]; omega
   have t5 : IntKind.u32.wrap ((s0 : Int) + (ma : Int)) = (q5 : Int):=by rw [bQ]; omega
   have t6 : IntKind.u32.wrap ((d : Int) + (q4 : Int)) = (q6 : Int):=by rw [bQ]; omega
   have t7 : IntKind.u32.wrap ((q4 : Int) + (q5 : Int)) = (q7 : Int):=by rw [bQ]; omega
   have h6 : (d + (h + s1 + ch + Kt + X)) % 4294967296 = q6:=by omega
   have h7 : (h + s1 + ch + Kt + X + (s0 + ma)) % 4294967296 = q7:=by omega
   rw [h6,h7] at hs;clear hq1 hq2 hq3 hq4 hq5 hq6 hq7 h6 h7;have HN:=aL (a5 hs hS.drew);clear hs hS e1 e0 r1 r2 r3 r4 r5 r6
   go_wp2_with (fail)
   refine (R1 _).out.mono ?_
   rintro z w4 ⟨rfl,rfl⟩
   go_wp2_with (fail)
   refine (R2 _).out.mono ?_
   rintro z w4 ⟨rfl,rfl⟩
   go_wp2_with (fail)
   refine (R3 _).out.mono ?_
   rintro z w4 ⟨rfl,rfl⟩
   go_wp2_with (fail)
   refine (R4 _).out.mono ?_
   rintro z w4 ⟨rfl,rfl⟩
   go_wp2_with (fail)
   refine (R5 _).out.mono ?_
   rintro z w4 ⟨rfl,rfl⟩
   go_wp2_with (fail)
   refine (R6 _).out.mono ?_
   rintro z w4 ⟨rfl,rfl⟩
   go_wp2_with (fail)
   go_region
   go_wp2
   go_roundw
   case rel =>
    obtain ⟨hs,hS⟩:=HN.out;refine ⟨t + 1,by omega,by go_num,?_⟩;rw [hs];exact ⟨rfl,rfl,rfl,rfl,rfl,rfl,rfl,rfl,hS⟩
   case measure=>simp [intOf]; omega
  ·obtain rfl : t = 64:=by omega
   obtain ⟨ba,bb,bc,bd,be,bf,bg,bh⟩:=hO 64;obtain ⟨ha,hb',hc,hd,he,hf,hg,hh⟩:=ho;generalize hq : R 64 = q at *;obtain ⟨a,b',c,d,e,f,g,h⟩:=q;have HQ:=aL hq;clear hq
   dsimp only at ba bb bc bd be bf bg bh ⊢
   obtain ⟨k0,k2,kx,kt,kb⟩:=hS;have c0 : wr.cell? ⟨w.heap.size,0,none⟩ = some (.int .u32 (o.a : Int)):=k0.cell 0;have c1 : wr.cell? ⟨w.heap.size,1,none⟩ = some (.int .u32 (o.b : Int)):=k0.cell 1;have c2 : wr.cell? ⟨w.heap.size,2,none⟩ = some (.int .u32 (o.c : Int)):=k0.cell 2;have c3 : wr.cell? ⟨w.heap.size,3,none⟩ = some (.int .u32 (o.d : Int)):=k0.cell 3;have c4 : wr.cell? ⟨w.heap.size,4,none⟩ = some (.int .u32 (o.e : Int)):=k0.cell 4;have c5 : wr.cell? ⟨w.heap.size,5,none⟩ = some (.int .u32 (o.f : Int)):=k0.cell 5;have c6 : wr.cell? ⟨w.heap.size,6,none⟩ = some (.int .u32 (o.g : Int)):=k0.cell 6;have c7 : wr.cell? ⟨w.heap.size,7,none⟩ = some (.int .u32 (o.h : Int)):=k0.cell 7
   have w0 : IntKind.u32.wrap ((o.a : Int) + (a : Int)) = (((o.a + a) % 4294967296 : Nat) : Int):=by rw [bQ]; omega
   have w1 : IntKind.u32.wrap ((o.b : Int) + (b' : Int)) = (((o.b + b') % 4294967296 : Nat) : Int):=by rw [bQ]; omega
   have w2 : IntKind.u32.wrap ((o.c : Int) + (c : Int)) = (((o.c + c) % 4294967296 : Nat) : Int):=by rw [bQ]; omega
   have w3 : IntKind.u32.wrap ((o.d : Int) + (d : Int)) = (((o.d + d) % 4294967296 : Nat) : Int):=by rw [bQ]; omega
   have w4 : IntKind.u32.wrap ((o.e : Int) + (e : Int)) = (((o.e + e) % 4294967296 : Nat) : Int):=by rw [bQ]; omega
   have w5 : IntKind.u32.wrap ((o.f : Int) + (f : Int)) = (((o.f + f) % 4294967296 : Nat) : Int):=by rw [bQ]; omega
   have w6 : IntKind.u32.wrap ((o.g : Int) + (g : Int)) = (((o.g + g) % 4294967296 : Nat) : Int):=by rw [bQ]; omega
   have w7 : IntKind.u32.wrap ((o.h : Int) + (h : Int)) = (((o.h + h) % 4294967296 : Nat) : Int):=by rw [bQ]; omega
   have hres : Di 32 o ⟨a,b',c,d,e,f,g,h⟩ = ⟨(o.a + a) % 4294967296,(o.b + b') % 4294967296,(o.c + c) % 4294967296,(o.d + d) % 4294967296,(o.e + e) % 4294967296,(o.f + f) % 4294967296,(o.g + g) % 4294967296,(o.h + h) % 4294967296⟩:=rfl;generalize (o.a + a) % 4294967296 = z0 at *;generalize (o.b + b') % 4294967296 = z1 at *;generalize (o.c + c) % 4294967296 = z2 at *;generalize (o.d + d) % 4294967296 = z3 at *;generalize (o.e + e) % 4294967296 = z4 at *;generalize (o.f + f) % 4294967296 = z5 at *;generalize (o.g + g) % 4294967296 = z6 at *;generalize (o.h + h) % 4294967296 = z7 at *;have HR:=aL hres;clear hres ba bb bc bd be bf bg bh ha hb' hc hd he hf hg hh k0 kx kt;have HK:=aL (a5 k2 kb);clear k2 kb;have hz : (Uw [z0,z1,z2,z3,z4,z5,z6,z7]).toArray.size = 8:=rfl;have k2:=HK.out.1
   go_wp2_with (refine wpList_store_row rfl 73 _ _ rfl (w.heap.size + 1 + 1) rfl (Uw [z0,z1,z2,z3,z4,z5,z6,z7]).toArray rfl 73 _ k2 (oP _ hz) (by rw [hz]; rfl) (AM _) ?_)
   refine bodyPost_ret (results_cell_row rfl _ _ (w.heap.size + 1 + 1) 73 (Uw [z0,z1,z2,z3,z4,z5,z6,z7]).toArray (0,0) _ rfl (k2.row _) Tryz.underlying73 rfl (oP _ hz)) rfl ⟨by rw [HQ.out,HR.out]; rfl,?_⟩;exact below_setRow HK.out.2 (by omega) _
def Ge : List UInt8:=aE 32 0
theorem U3 : (Tryz.prog.info? 27).bind (λi=>i.zero.map (·.cells)) = some (By Ge).toArray:=by kernel_rfl
structure LY2 (w wr : World) (cs : Array Value) (m : List UInt8) : Prop where
  b0 : Blk wr w.heap.size 73 cs
  b1 : Blk wr (w.heap.size + 1) 27 (By Ge).toArray
  b2 : Blk wr (w.heap.size + 1 + 1) 27 (By m).toArray
  be : Below w.heap.size w wr
theorem LY2.set {w wr : World} {cs : Array Value} {m : List UInt8} (h : LY2 w wr cs m) (k : Nat) (x : UInt8) : LY2 w (wr.setCell ⟨w.heap.size + 1 + 1,k,none⟩ (.int .u8 (x.toNat : Int))) cs (m.set k x) where
 b0:=h.b0.far (by show w.heap.size ≠ w.heap.size + 1 + 1; omega) _
 b1:=h.b1.far (by show w.heap.size + 1 ≠ w.heap.size + 1 + 1; omega) _
 b2:=by
  have h4:=h.b2.set k (.int .u8 (x.toNat : Int));rw [rX] at h4;exact h4
 be:=h.be.setCell (by show w.heap.size <= w.heap.size + 1 + 1; omega) _
theorem P8 {l : List Nat} (hl : l.length = 8) (hw : ∀ x ∈ l,x < 4294967296) (w : World) :
  Calls Tryz.prog 37 #[.agg (Uw l).toArray] w λe w'=>e = .returned (.agg (By (l.map (nR cH)).flatten).toArray) /\ Below w.heap.size w w':=by
 have hD:=sJ (nR cH) (n:=4) (λx=>sH cH x) l;rw [hl] at hD
 have hg : ∀ i j,i < 8 -> j < 4 -> (((l.map (nR cH)).flatten)[4 * i + 3 - j]!).toNat = l[i]! / 256 ^ j % 256:=λi j hi hj=>by
  have h1:=flat_get (nR cH) (n:=4) (λx=>sH cH x) l (i:=i) (j:=3 - j) (by omega) (by omega);rw [show 4 * i + 3 - j = 4 * i + (3 - j) by omega,h1];exact HG (s:=cH) (j:=j) hj
 have hzs : (Uw l).toArray.size = 8:=by rw [a9,AN,hl]
 have hix : ∀ i,i < 8 -> ∀ w1,(Instr.index 73 (.agg (Uw l).toArray) (.int .i64 ((i : Nat) : Int))).run Tryz.prog w1 = .ok (.int .u32 (l[i]! : Nat)) w1:=λi hi w1=>by
  have h0 : (Uw l).toArray[i]? = some (.int .u32 (l[i]! : Nat)):=zX (by omega)
  have h1 : ((i : Nat) : Int) < 8:=by omega
  have h2 : (0 : Int) <= (i : Nat):=by omega
  generalize l[i]! = c at *;generalize (Uw l).toArray = cs at *
  unfold Instr.index Go.part
  go_simp
  obtain ⟨_,h⟩:=Array.getElem?_eq_some_iff.1 h0;exact h
 have hwl : ∀ i,i < 8 -> l[i]! < 4294967296:=λi hi=>by
  rw [getElem!_pos l i (by omega)];exact hw _ (yJ _)
 generalize (l.map (nR cH)).flatten = D at *;generalize (Uw l).toArray = cs at *
 go_enter Tryz.func37,Tryz.ntmps37
 refine wp_seq_k λK hK=>?_;refine wp_region_lit ?_;refine kI cs rfl rfl rfl ?_;refine dV (zs:=(By Ge).toArray) rfl rfl U3 ?_;refine dX ?_
 go_simp
 refine hK _ _ ?_;clear hK K;refine wp_seq_k λK hK=>?_;refine wp_region_lit ?_;refine dV (zs:=(By Ge).toArray) rfl rfl U3 ?_;refine dX ?_
 go_simp
 refine hK _ _ ?_;clear hK K;refine p9 (λW=>LY2 w W cs Ge) ⟨nK w _ _ _ _,lW w _ _ _ _,mG w _ _ _ _,(((Below.refl _ _).alloc (aH _) _).alloc (by simp) _).alloc (by simp; omega) _⟩ ?_
 intro W hW
 have k0:=hW.b0;have HW:=aL hW;clear hW
 go_wp2_with (refine wpList_load_row rfl 73 _ rfl w.heap.size rfl 73 cs (0,0) _ k0 Tryz.underlying73 rfl (oP _ hzs) ?_)
 clear k0
 go_loopw [8] (λi wr=>∃ t : Nat,t <= 8 /\ i = .int .i64 t /\ LY2 w wr cs (pf D λm=>decide (m < 4 * t))) (λi _=>8 - (intOf i).toNat)
 case atStart =>
  refine ⟨0,by omega,rfl,?_⟩;rw [Ld (λm _=>decide_eq_false (by omega)),hD];exact HW.out
 case round =>
  clear HW;obtain ⟨t,ht,rfl,hS⟩:=hrel
  by_cases htl : t < 8
  ·have hi:=hix t htl
   have hx:=hwl t htl;have hby:=λj hj=>hg t j htl hj;generalize l[t]! = x at *
   have g4 : (0 : Int) <= (t : Int):=by omega
   have HS:=aL hS;clear hS hg hix hwl
   go_wp2
   go_loopw [12,5] (λj v wq=>∃ n : Nat,n <= 4 /\ j = .int .i64 n /\ v = .int .u32 ((x / 256 ^ n : Nat) : Int) /\ LY2 w wq cs (pf D λm=>decide (m < 4 * t \/ 4 * t + 4 - n <= m /\ m < 4 * t + 4))) (λj _ _=>4 - (intOf j).toNat)
   case atStart =>
    refine ⟨0,by omega,rfl,by rw [mS,sU],?_⟩;rw [y7 (q:=λm=>decide (m < 4 * t)) (λm _=>decide_eq_decide.2 (by omega))];exact HS.out
   case round =>
    clear HS;obtain ⟨n,hn,rfl,rfl,hS⟩:=hrel
    by_cases hnl : n < 4
    ·have hN:=hS.set (4 * t + 3 - n) D[4 * t + 3 - n]!
     rw [Pj (q:=λm=>decide (m < 4 * t \/ 4 * t + 4 - (n + 1) <= m /\ m < 4 * t + 4)) (λm _=>by rw [<-Bool.decide_or]; exact decide_eq_decide.2 (by omega))] at hN;have hb:=hby n hnl
     have hdiv : x / 256 ^ (n + 1) = x / 256 ^ n / 256:=by rw [dD,iE]
     have hle : x / 256 ^ n < 4294967296:=bX (gD _ _) hx;have c2:=(hS.b2.cell (4 * t + 3 - n)).trans (gJ (by rw [Pk,hD]; omega));have f2:=hS.b2.free (4 * t + 3 - n);generalize x / 256 ^ n = y at *
     have q4 : IntKind.u8.wrap (y : Int) = ((D[4 * t + 3 - n]!).toNat : Int):=by
      rw [jM,hb]
      omega
     have g5 : (0 : Int) <= (n : Int):=by omega
     have q5 : (y : Int) / 256 = ((y / 256 : Nat) : Int):=by omega
     have HN:=aL (a5 hN hdiv);clear hS hN hdiv hb hby hi;generalize (D[4 * t + 3 - n]!).toNat = v at *;generalize ((pf D λm=>decide (m < 4 * t \/ 4 * t + 4 - n <= m /\ m < 4 * t + 4))[4 * t + 3 - n]!).toNat = old at *;generalize y / 256 = y2 at *
     go_wp2
     go_roundw
     case rel =>
      obtain ⟨hN,hdiv⟩:=HN.out;refine ⟨n + 1,by omega,by go_num,by rw [hdiv],hN⟩
     case measure=>simp [intOf]; omega
    ·obtain rfl : n = 4:=by omega
     rw [y7 (q:=λm=>decide (m < 4 * (t + 1))) (λm _=>decide_eq_decide.2 (by omega))] at hS;have HS:=aL hS;clear hS
     go_wp2
     go_roundw
     case rel=>exact ⟨t + 1,by omega,by go_num,HS.out⟩
     case measure=>simp [intOf]; omega
  ·obtain rfl : t = 8:=by omega
   rw [Pl (λm hm=>decide_eq_true (by omega))] at hS;obtain ⟨b0,b1,b2,be⟩:=hS
   have hz : (By D).toArray.size = 32:=by rw [a9,cD,hD]
   clear b0
   go_wp2_with (first
    | (refine wpList_load_row rfl 27 _ rfl (w.heap.size + 1 + 1) rfl 27 (By D).toArray (0,0) _ b2 Tryz.underlying27 rfl (fL _ hz) ?_)
    | (refine wpList_store_row rfl 27 _ _ rfl (w.heap.size + 1) rfl (By D).toArray rfl 27 _ b1 (fL _ hz) (by rw [hz]; rfl) (kU _) ?_))
   refine bodyPost_ret (results_cell_row rfl _ _ (w.heap.size + 1) 27 (By D).toArray (0,0) _ rfl (b1.row _) Tryz.underlying27 rfl (fL _ hz)) rfl ⟨rfl,?_⟩;exact below_setRow be (by omega) _
theorem zv8 : (Tryz.prog.info? 73).bind (λi=>i.zero.map (·.cells)) = some z8v:=by kernel_rfl
structure Tst (w : World) : Prop where
  cell : ∀ i,i < 8 -> w.cell? ⟨0,i,none⟩ = some (.int .u64 (sqs[i]! : Nat))
  lt : 0 < w.heap.size
theorem Tst.below {w w' : World} (h : Tst w) (hb : Below w.heap.size w w') : Tst w' :=
 ⟨λi hi=>(hb.cell (p:=⟨0,i,none⟩) h.lt).trans (h.cell i hi),bM h.lt hb.size⟩
structure FI2 (w wr : World) (l : List Nat) : Prop where
  b0 : Blk wr w.heap.size 73 z8v
  b1 : Blk wr (w.heap.size + 1) 73 (Uw l).toArray
  be : Below w.heap.size w wr
theorem FI2.set {w wr : World} {l : List Nat} (h : FI2 w wr l) (k x : Nat) : FI2 w (wr.setCell ⟨w.heap.size + 1,k,none⟩ (.int .u32 (x : Int))) (l.set k x) where
 b0:=h.b0.far (by show w.heap.size ≠ w.heap.size + 1; omega) _
 b1:=by
  have h4:=h.b1.set k (.int .u32 (x : Int));rw [RA] at h4;exact h4
 be:=h.be.setCell (by show w.heap.size <= w.heap.size + 1; omega) _
theorem Vi {t : Nat} (h : t < 8) : sqs[t]! < 18446744073709551616:=by
 have h1 : ∀ x ∈ sqs,x < 18446744073709551616:=by decide
 have h2 : t < sqs.length:=h;rw [getElem!_pos sqs t h2];exact h1 _ (yJ _)
def sqh (t : Nat) : Nat:=sqs[t]! / 4294967296
def z8n : List Nat:=[0,0,0,0,0,0,0,0]
theorem Nl : mxl sqh z8n 8 = cH.start:=by decide +kernel
theorem JY (w : World) (hT : Tst w) :
  Calls Tryz.prog 33 #[] w λe w'=>e = .returned (.agg (Uw cH.start).toArray) /\ Below w.heap.size w w':=by
 rw [<-Nl]
 have hlen : ∀ t,(mxl sqh z8n t).length = 8:=λt=>by rw [eF]; rfl
 go_enter Tryz.func33,Tryz.ntmps33
 refine wp_seq_k λK hK=>?_;refine wp_region_lit ?_;refine dV (zs:=z8v) rfl rfl zv8 ?_;refine dX ?_
 go_simp
 refine hK _ _ ?_;clear hK K;refine wp_seq_k λK hK=>?_;refine wp_region_lit ?_;refine dV (zs:=z8v) rfl rfl zv8 ?_;refine dX ?_
 go_simp
 refine hK _ _ ?_;clear hK K
 have hb2 : Blk ((w.alloc (.cells z8v 73)).alloc (.cells z8v 73)) (w.heap.size + 1) 73 z8v:=by
  have h:=Blk.new (w.alloc (.cells z8v 73)) 73 z8v
  rwa [aZ] at h
 refine p9 (λW=>FI2 w W z8n) ⟨(Blk.new w _ _).alloc _,hb2,((Below.refl _ _).alloc (aH _) _).alloc (by simp) _⟩ ?_
 intro W hW
 clear hb2;have HW:=aL hW;clear hW
 go_wp2
 go_loopw [3] (λi wr=>∃ t : Nat,t <= 8 /\ i = .int .i64 t /\ FI2 w wr (mxl sqh z8n t)) (λi _=>8 - (intOf i).toNat)
 case atStart =>
  refine ⟨0,by omega,rfl,?_⟩;rw [qO];exact HW.out
 case round =>
  clear HW;obtain ⟨t,ht,rfl,hS⟩:=hrel
  by_cases htl : t < 8
  ·have hN:=hS.set t (sqh t)
   rw [nG] at hN;have hg:=(hT.below hS.be).cell t htl;have hlt:=Vi htl;have c1:=(hS.b1.cell t).trans (zX (by rw [hlen]; omega));have f1:=hS.b1.free t;have e1 : sqh t = sqs[t]! / 4294967296:=rfl
   have hq : sqh t < 4294967296:=by omega
   have q1 : ((sqs[t]! : Nat) : Int) / 4294967296 = ((sqh t : Nat) : Int):=by omega
   have q2 : IntKind.u32.wrap ((sqh t : Nat) : Int) = ((sqh t : Nat) : Int):=by rw [bQ]; omega
   have g4 : (0 : Int) <= (t : Int):=by omega
   have HN:=aL hN;clear hS hN e1 hT hlen;generalize sqh t = y at *;generalize sqs[t]! = x at *;generalize (mxl sqh z8n t)[t]! = old at *
   go_wp2
   go_roundw
   case rel=>exact ⟨t + 1,by omega,by go_num,HN.out⟩
   case measure=>simp [intOf]; omega
  ·obtain rfl : t = 8:=by omega
   obtain ⟨b0,b1,be⟩:=hS
   have hz : (Uw (mxl sqh z8n 8)).toArray.size = 8:=by rw [a9,AN,hlen]
   clear hT
   go_wp2_with (first
    | (refine wpList_load_row rfl 73 _ rfl (w.heap.size + 1) rfl 73 (Uw (mxl sqh z8n 8)).toArray (0,0) _ b1 Tryz.underlying73 rfl (oP _ hz) ?_)
    | (refine wpList_store_row rfl 73 _ _ rfl w.heap.size rfl (Uw (mxl sqh z8n 8)).toArray rfl 73 _ b0 (oP _ hz) (by rw [hz]; rfl) (AM _) ?_))
   refine bodyPost_ret (results_cell_row rfl _ _ w.heap.size 73 (Uw (mxl sqh z8n 8)).toArray (0,0) _ rfl (b0.row _) Tryz.underlying73 rfl (oP _ hz)) rfl ⟨rfl,?_⟩;exact below_setRow be (aH _) _
structure S6 (B gh gb : Nat) (w0 w : World) (o : Oct) (b : List UInt8) : Prop where
  h : Blk w gh 73 (Uw o.list).toArray
  m : Blk w gb 38 (By b).toArray
  ob : OB 32 o
  len : b.length = 64
  ts : Ts w
  be : Below B w0 w
  bh : B <= gh
  bb : B <= gb
  ne : gh ≠ gb
  ht : 1 < B
section
variable {B gh gb : Nat} {w0 w w' : World} {o : Oct} {b : List UInt8}
theorem S6.up (h : S6 B gh gb w0 w o b) (k : Below w.heap.size w w') (hB : B <= w.heap.size) : S6 B gh gb w0 w' o b :=
 ⟨h.h.later k,h.m.later k,h.ob,h.len,h.ts.below k,h.be.trans (k.mono hB),h.bh,h.bb,h.ne,h.ht⟩
theorem S6.Cn (h : S6 B gh gb w0 w o b) : S6 B gh gb w w o b:=⟨h.h,h.m,h.ob,h.len,h.ts,Below.refl _ _,h.bh,h.bb,h.ne,h.ht⟩
theorem S6.since {w1 : World} (h : S6 B gh gb w0 w o b) (k : Below B w1 w0) : S6 B gh gb w1 w o b:=⟨h.h,h.m,h.ob,h.len,h.ts,k.trans h.be,h.bh,h.bb,h.ne,h.ht⟩
theorem S6.size (h : S6 B gh gb w0 w o b) : B <= w.heap.size:=fJ (bX h.bh h.h.lt)
theorem S6.Jh (h : S6 B gh gb w0 w o b) {p : Oct} (hp : OB 32 p) : S6 B gh gb w0 (w.setRow gh (Uw p.list).toArray) p b :=
 ⟨h.h.row _,h.m.aT (Ne.symm h.ne) _,hp,h.len,h.ts.AL (below_setRow (Below.refl B w) h.bh _) h.ht,below_setRow h.be h.bh _,h.bh,h.bb,h.ne,h.ht⟩
theorem S6.EY (h : S6 B gh gb w0 w o b) {c : List UInt8} (hc : c.length = 64) : S6 B gh gb w0 (w.setRow gb (By c).toArray) o c :=
 ⟨h.h.aT h.ne _,h.m.row _,h.ob,hc,h.ts.AL (below_setRow (Below.refl B w) h.bb _) h.ht,below_setRow h.be h.bb _,h.bh,h.bb,h.ne,h.ht⟩
theorem S6.E1 (h : S6 B gh gb w0 w o b) (k : Nat) (x : UInt8) : S6 B gh gb w0 (w.setCell ⟨gb,k,none⟩ (.int .u8 (x.toNat : Int))) o (b.set k x) where
 h:=h.h.far (by show gh ≠ gb; exact h.ne) _
 m:=by
  have h4:=h.m.set k (.int .u8 (x.toNat : Int));rw [rX] at h4;exact h4
 ob:=h.ob
 len:=by rw [eP]; exact h.len
 ts:=h.ts.AL ((Below.refl B w).setCell (p:=⟨gb,k,none⟩) h.bb _) h.ht
 be:=h.be.setCell h.bb _
 bh:=h.bh
 bb:=h.bb
 ne:=h.ne
 ht:=h.ht
end
theorem oF {B gh gb : Nat} {w0 w : World} {o : Oct} {b : List UInt8} (h : S6 B gh gb w0 w o b) :
  Calls Tryz.prog 35 #[.pointer (some ⟨gh,0,none⟩),.pointer (some ⟨gb,0,none⟩)] w λe w'=>e = .returned (.tuple #[]) /\ S6 B gh gb w0 w' (iT cH o b) b:=by
 have HT:=Mj h.ob h.len w h.ts;have kh:=h.h;have km:=h.m;have hz : (Uw o.list).toArray.size = 8:=rfl;have hz2 : (Uw (iT cH o b).list).toArray.size = 8:=rfl;have hb128:=Gq h.len;have hp:=OB.iT cH o b;have HK:=aL h;clear h;generalize iT cH o b = p at *
 go_enter Tryz.func35,Tryz.ntmps35
 go_wp2_with (first
  | (refine wpList_load_row rfl 73 _ rfl gh rfl 73 (Uw o.list).toArray (0,0) _ kh Tryz.underlying73 rfl (oP _ hz) ?_)
  | (refine wpList_load_row rfl 38 _ rfl gb rfl 38 (By b).toArray (0,0) _ km Tryz.underlying38 rfl (qH _ hb128) ?_))
 refine HT.mono ?_
 rintro e w1 ⟨rfl,hw1⟩
 have h1:=HK.out.up hw1 HK.out.size;have kh1:=h1.h;have H2:=aL (h1.Jh hp);clear h1 hw1 HT kh km
 go_wp2_with (refine wpList_store_row rfl 73 _ _ rfl gh rfl (Uw p.list).toArray rfl 73 _ kh1 (oP _ hz2) (by rw [hz,hz2]) (AM _) ?_)
 go_end0
 exact ⟨rfl,H2.out⟩
theorem QX {B gh gb : Nat} {w0 w : World} {o : Oct} {b : List UInt8} (h : S6 B gh gb w0 w o b) (r v : Nat) (hr : r < 64) :
  Calls Tryz.prog 56 #[.slice (some ⟨gb,0,none⟩) 64 64,.int .i64 (r : Int),.int .u64 (v : Int),.func (.func 35) #[] #[.pointer (some ⟨gh,0,none⟩),.pointer (some ⟨gb,0,none⟩)]] w λe w' =>
   e = .returned (.tuple #[]) /\ ∃ b',S6 B gh gb w0 w' (kC cH 64 o (b.take r ++ jY 64 r (8 * v))) b':=by
 have hlen:=h.len;have h1:=LH (s:=cH) (o:=o) (v:=8 * v) (n:=64) (by omega) hlen hr;have h2:=LG (s:=cH) (o:=o) (v:=8 * v) (n:=64) (by omega) hlen hr;have hcl:=LR hlen hr;have hS1 : S6 B gh gb w0 (w.setCell ⟨gb,r,none⟩ (.int .u8 128)) o (b.set r 128):=h.E1 r 128
 have hsl : (b.set r 128).length = 64:=by rw [eP]; exact hlen
 have hm1:=hS1.m;have hS2:=hS1.EY (c:=clr (b.set r 128) (r + 1)) (by rw [wT (by rw [hsl]; omega)]; exact hsl);rw [hcl] at hS2;have hc0:=(h.m.cell r).trans (gJ (by omega));have hf0:=h.m.free r;generalize (b[r]!).toNat = old at *
 have hl1 : (b.take r ++ 128 :: aE (64 - 1 - r) 0).length = 64:=by
  rw [aI,aY,List.length_cons,bH]
  omega
 obtain ⟨c1,hc1⟩ : ∃ c,c = b.take r ++ 128 :: aE (64 - 1 - r) 0:=⟨_,rfl⟩;rw [<-hc1] at hcl hS2 hl1 h1 h2;have HC:=aL hcl;have HK:=aL (a5 h hS2)
 have hr2 : (r : Int) < 64:=by omega
 have hr3 : (0 : Int) <= (r : Int):=by omega
 have hx:=zS (8 * v);have hxe:=zT (8 * v);have hxg:=λi hi=>II (v:=8 * v % 18446744073709551616) (i:=i) hi;rw [hx] at hxg
 have hv8 : IntKind.u64.wrap ((v : Int) * 8) = ((8 * v % 18446744073709551616 : Nat) : Int):=by rw [aP]; omega
 have hvb : 8 * v % 18446744073709551616 < 18446744073709551616:=Nat.mod_lt _ (by decide);generalize tP (8 * v) = E at *;generalize 8 * v % 18446744073709551616 = y at *;clear hS2 hx h hc1 hcl
 rcases (show r = 63 \/ r + 1 <= 56 \/ (56 < r + 1 /\ r < 63) by omega) with rfl | hc | ⟨hc,h63⟩
 ·rw [show ((63 : Nat) : Int) = (63 : Int) from rfl]
  go_enter Tryz.func56,Tryz.ntmps56
  go_wp2_with (refine k8 (.tmp 16) rfl rfl gb 64 0 0 (some ⟨gb,0,none⟩) rfl (λh=>absurd h (by decide)) (b.set 63 128) 38 hm1 (by rw [hsl]) c1 HC ?_)
  have hS:=HK.out.2;clear HK hm1 hc0 hf0 hS1;refine (oF hS).mono ?_
  rintro z w3 ⟨rfl,hS3⟩
  have hm3:=hS3.m;have hS4:=hS3.EY (c:=clr c1 0) (by rw [wT (by omega)]; exact hl1)
  have hz4 : clr c1 0 = aE 64 0:=by rw [BT,hl1]
  have HF:=aL (h2 (by omega));rw [hz4] at hS4;have hl : (aE 64 (0 : UInt8)).length = 64:=bH;generalize aE 64 (0 : UInt8) = c at *;generalize iT cH o c1 = p at *;have HZ:=aL hz4;have HS:=aL hS4;clear hS hS3 h1 h2 hS4 hz4
  go_wp2_with (refine k8 (.tmp 28) rfl rfl gb 0 64 64 (some ⟨gb,0,none⟩) rfl (λ_=>rfl) c1 38 hm3 (by rw [hl1]) c HZ ?_)
  clear hm3
  go_loopw [31,8] (λi u wr=>∃ k : Nat,k <= 8 /\ i = .int .i64 k /\ u = .int .u64 ((y / 256 ^ k : Nat) : Int) /\ S6 B gh gb w0 wr p (eig c E 64 k)) (λi _ _=>8 - (intOf i).toNat)
  case atStart =>
   refine ⟨0,by omega,rfl,by rw [mS,sU],?_⟩;rw [sN hl hxe];exact HS.out
  case round =>
   clear HS;obtain ⟨k,hk,rfl,rfl,hS⟩:=hrel
   by_cases hkl : k < 8
   ·have hN:=hS.E1 (63 - k) E[7 - k]!
    have hset:=wP hl hxe hkl (by omega);rw [show 64 - 1 - k = 63 - k by omega] at hset;rw [hset] at hN;have hb:=hxg k hkl
    have hdiv : y / 256 ^ (k + 1) = y / 256 ^ k / 256:=by rw [dD,iE]
    have hle : y / 256 ^ k < 18446744073709551616:=bX (gD _ _) hvb;have c2:=(hS.m.cell (63 - k)).trans (gJ (by rw [rF hl hxe (by omega) (by omega)]; omega));have f2:=hS.m.free (63 - k);generalize y / 256 ^ k = z at *
    have q4 : IntKind.u8.wrap (z : Int) = ((E[7 - k]!).toNat : Int):=by
     rw [jM,hb]
     omega
    have q5 : (z : Int) / 256 = ((z / 256 : Nat) : Int):=by omega
    have g5 : (0 : Int) <= (k : Int):=by omega
    have HN:=aL (a5 hN hdiv);clear hS hN hdiv hb hset hxg;generalize (E[7 - k]!).toNat = x at *;generalize ((eig c E 64 k)[63 - k]!).toNat = old2 at *;generalize z / 256 = z2 at *
    go_wp2
    go_roundw
    case rel =>
     obtain ⟨hN,hdiv⟩:=HN.out;exact ⟨k + 1,by omega,by go_num,by rw [hdiv],hN⟩
    case measure=>simp [intOf]; omega
   ·obtain rfl : k = 8:=by omega
    have HT:=oF hS;rw [HF.out] at HT;have HT:=aL HT;clear hS hxg
    go_wp2_with (fail)
    refine HT.out.mono ?_
    rintro z w5 ⟨rfl,hS6⟩
    go_wp2_with (fail)
    go_end0
    exact ⟨rfl,_,hS6⟩
 ·go_enter Tryz.func56,Tryz.ntmps56
  go_wp2_with (refine k8 (.tmp 16) rfl rfl gb (r + 1) (63 - r) (63 - r) (some ⟨gb,r + 1,none⟩) rfl (λ_=>rfl) (b.set r 128) 38 hm1 (by rw [hsl]; omega) c1 HC ?_)
  have HF:=aL (h1 (by omega));have HS:=aL HK.out.2;have hl:=hl1;clear HK h1 h2 hl1 hm1 hc0 hf0 hS1;generalize c1 = c at *
  go_loopw [31,8] (λi u wr=>∃ k : Nat,k <= 8 /\ i = .int .i64 k /\ u = .int .u64 ((y / 256 ^ k : Nat) : Int) /\ S6 B gh gb w0 wr o (eig c E 64 k)) (λi _ _=>8 - (intOf i).toNat)
  case atStart =>
   refine ⟨0,by omega,rfl,by rw [mS,sU],?_⟩;rw [sN hl hxe];exact HS.out
  case round =>
   clear HS;obtain ⟨k,hk,rfl,rfl,hS⟩:=hrel
   by_cases hkl : k < 8
   ·have hN:=hS.E1 (63 - k) E[7 - k]!
    have hset:=wP hl hxe hkl (by omega);rw [show 64 - 1 - k = 63 - k by omega] at hset;rw [hset] at hN;have hb:=hxg k hkl
    have hdiv : y / 256 ^ (k + 1) = y / 256 ^ k / 256:=by rw [dD,iE]
    have hle : y / 256 ^ k < 18446744073709551616:=bX (gD _ _) hvb;have c2:=(hS.m.cell (63 - k)).trans (gJ (by rw [rF hl hxe (by omega) (by omega)]; omega));have f2:=hS.m.free (63 - k);generalize y / 256 ^ k = z at *
    have q4 : IntKind.u8.wrap (z : Int) = ((E[7 - k]!).toNat : Int):=by
     rw [jM,hb]
     omega
    have q5 : (z : Int) / 256 = ((z / 256 : Nat) : Int):=by omega
    have g5 : (0 : Int) <= (k : Int):=by omega
    have HN:=aL (a5 hN hdiv);clear hS hN hdiv hb hset hxg;generalize (E[7 - k]!).toNat = x at *;generalize ((eig c E 64 k)[63 - k]!).toNat = old2 at *;generalize z / 256 = z2 at *
    go_wp2
    go_roundw
    case rel =>
     obtain ⟨hN,hdiv⟩:=HN.out;exact ⟨k + 1,by omega,by go_num,by rw [hdiv],hN⟩
    case measure=>simp [intOf]; omega
   ·obtain rfl : k = 8:=by omega
    have HT:=oF hS;rw [HF.out] at HT;have HT:=aL HT;clear hS hxg
    go_wp2_with (fail)
    refine HT.out.mono ?_
    rintro z w5 ⟨rfl,hS6⟩
    go_wp2_with (fail)
    go_end0
    exact ⟨rfl,_,hS6⟩
 ·go_enter Tryz.func56,Tryz.ntmps56
  go_wp2_with (refine k8 (.tmp 16) rfl rfl gb (r + 1) (63 - r) (63 - r) (some ⟨gb,r + 1,none⟩) rfl (λ_=>rfl) (b.set r 128) 38 hm1 (by rw [hsl]; omega) c1 HC ?_)
  have hS:=HK.out.2;clear HK hm1 hc0 hf0 hS1;refine (oF hS).mono ?_
  rintro z w3 ⟨rfl,hS3⟩
  have hm3:=hS3.m;have hS4:=hS3.EY (c:=clr c1 0) (by rw [wT (by omega)]; exact hl1)
  have hz4 : clr c1 0 = aE 64 0:=by rw [BT,hl1]
  have HF:=aL (h2 (by omega));rw [hz4] at hS4;have hl : (aE 64 (0 : UInt8)).length = 64:=bH;generalize aE 64 (0 : UInt8) = c at *;generalize iT cH o c1 = p at *;have HZ:=aL hz4;have HS:=aL hS4;clear hS hS3 h1 h2 hS4 hz4
  go_wp2_with (refine k8 (.tmp 28) rfl rfl gb 0 64 64 (some ⟨gb,0,none⟩) rfl (λ_=>rfl) c1 38 hm3 (by rw [hl1]) c HZ ?_)
  clear hm3
  go_loopw [31,8] (λi u wr=>∃ k : Nat,k <= 8 /\ i = .int .i64 k /\ u = .int .u64 ((y / 256 ^ k : Nat) : Int) /\ S6 B gh gb w0 wr p (eig c E 64 k)) (λi _ _=>8 - (intOf i).toNat)
  case atStart =>
   refine ⟨0,by omega,rfl,by rw [mS,sU],?_⟩;rw [sN hl hxe];exact HS.out
  case round =>
   clear HS;obtain ⟨k,hk,rfl,rfl,hS⟩:=hrel
   by_cases hkl : k < 8
   ·have hN:=hS.E1 (63 - k) E[7 - k]!
    have hset:=wP hl hxe hkl (by omega);rw [show 64 - 1 - k = 63 - k by omega] at hset;rw [hset] at hN;have hb:=hxg k hkl
    have hdiv : y / 256 ^ (k + 1) = y / 256 ^ k / 256:=by rw [dD,iE]
    have hle : y / 256 ^ k < 18446744073709551616:=bX (gD _ _) hvb;have c2:=(hS.m.cell (63 - k)).trans (gJ (by rw [rF hl hxe (by omega) (by omega)]; omega));have f2:=hS.m.free (63 - k);generalize y / 256 ^ k = z at *
    have q4 : IntKind.u8.wrap (z : Int) = ((E[7 - k]!).toNat : Int):=by
     rw [jM,hb]
     omega
    have q5 : (z : Int) / 256 = ((z / 256 : Nat) : Int):=by omega
    have g5 : (0 : Int) <= (k : Int):=by omega
    have HN:=aL (a5 hN hdiv);clear hS hN hdiv hb hset hxg;generalize (E[7 - k]!).toNat = x at *;generalize ((eig c E 64 k)[63 - k]!).toNat = old2 at *;generalize z / 256 = z2 at *
    go_wp2
    go_roundw
    case rel =>
     obtain ⟨hN,hdiv⟩:=HN.out;exact ⟨k + 1,by omega,by go_num,by rw [hdiv],hN⟩
    case measure=>simp [intOf]; omega
   ·obtain rfl : k = 8:=by omega
    have HT:=oF hS;rw [HF.out] at HT;have HT:=aL HT;clear hS hxg
    go_wp2_with (fail)
    refine HT.out.mono ?_
    rintro z w5 ⟨rfl,hS6⟩
    go_wp2_with (fail)
    go_end0
    exact ⟨rfl,_,hS6⟩
structure FS6 (B gh gb : Nat) (w wr : World) (o : Oct) (m : List UInt8) (a t b : List UInt8) (k : Nat) : Prop where
  em : m = a ++ t
  ea : a.length = k * 64
  et : t.length < 64
  es : S6 B gh gb w wr (kC cH 64 o a) b
  eb : b.take t.length = t
theorem Np {B gh gb : Nat} {w : World} {o : Oct} {b : List UInt8} (h : S6 B gh gb w w o b) (A : Option Addr) (ls : List (List UInt8)) (pc : Nat) (hA : o8 w B A ls) (hpc : ls.length <= pc) (hpm : pc <= 9223372036854775807) :
  Calls Tryz.prog 34 #[.slice (some ⟨gb,0,none⟩) 64 64,.slice A ls.length pc,.func (.func 35) #[] #[.pointer (some ⟨gh,0,none⟩),.pointer (some ⟨gb,0,none⟩)]] w λe w' =>
   e = .returned (.tuple #[]) /\ ∃ b',S6 B gh gb w w' (kC cH 64 o (ls.flatten ++ jY 64 (ls.flatten.length % 64) (8 * ls.flatten.length))) b':=by
 have h0 : FS6 B gh gb w w o (ls.take 0).flatten [] [] b 0:=by
  refine ⟨by simp,by simp,by simp,?_,by simp⟩;have e:=jP (s:=cH) (B:=64) (o:=o) (l:=[]) (by simp);rw [e];exact h
 have H0:=aL h0;have HA:=aL hA;clear h h0 hA
 go_enter Tryz.func34,Tryz.ntmps34
 go_wp2
 go_loopw [13,6,7] (λi f z wr=>∃ n : Nat,n <= ls.length /\ i = .int .i64 n /\ ∃ a t b k,f = .int .i64 ((t : List UInt8).length : Nat) /\ z = .int .u64 (((ls.take n).flatten.length % 18446744073709551616 : Nat) : Int) /\ FS6 B gh gb w wr o (ls.take n).flatten a t b k) (λi _ _ _=>ls.length - (intOf i).toNat)
 case atStart=>exact ⟨0,by omega,rfl,[],[],b,0,rfl,rfl,H0.out⟩
 case round =>
  clear H0;obtain ⟨n,hn,rfl,a,t,b,k,rfl,rfl,hF⟩:=hrel
  by_cases hnl : n < ls.length
  ·obtain ⟨ad,rfl,had,hcell⟩:=HA.out.below hF.es.be (aH _) (by omega)
   obtain ⟨P,c,hx,hsl⟩:=hcell n ls[n] (aX hnl);have hfl:=Ey ls n hnl
   have hsz : IntKind.u64.wrap ((((ls.take n).flatten.length % 18446744073709551616 : Nat) : Int) + (ls[n].length : Int)) = (((ls.take (n + 1)).flatten.length % 18446744073709551616 : Nat) : Int):=by
    rw [hfl,aI,aP]
    omega
   have HL:=aL hfl;have hl1:=hsl.1;have hl2:=hsl.2.1;have hwn : IntKind.u64.wrap (ls[n].length : Int) = (ls[n].length : Int):=sC _ (by omega);have HS:=aL (a5 hF hsl);clear hF hsl hcell hfl;obtain ⟨zn,hzn⟩ : ∃ z,(ls.take (n + 1)).flatten.length % 18446744073709551616 = z:=⟨_,rfl⟩;rw [hzn] at hsz;have HZN:=aL hzn;clear hzn;generalize (ls.take n).flatten.length % 18446744073709551616 = z0 at *;generalize ls[n] = l at *
   go_wp2
   go_loopw [9,6] (λp f wq=>∃ d r P c a t b k,l = d ++ r /\ p = .slice P (r : List UInt8).length c /\ f = .int .i64 ((t : List UInt8).length : Nat) /\ SL wq 0 B P r c /\ FS6 B gh gb w wq o ((ls.take n).flatten ++ d) a t b k) (λp _ _=>DD p)
   case atStart =>
    obtain ⟨hF,hsl⟩:=HS.out;refine ⟨[],l,P,c,a,t,b,k,rfl,rfl,rfl,hsl,?_⟩;rw [bV];exact hF
   case round =>
    clear HS hwn hsz hx hl1 hl2;obtain ⟨d,r,P,c,a,t,b,k,hd,rfl,rfl,hsl,hF⟩:=hrel
    by_cases hr : 0 < r.length
    ·skip
     have hm0:=hF.es.m;have hlt:=hF.et;have hz128:=hF.es.len;have hbv:=hsl.2.2.2;have hs1:=hsl.1;have hs2:=hsl.2.1;have hcut:=hsl.cut (k:=min r.length (64 - t.length)) (Nat.min_le_left _ _);have htl:=Iy (r:=r) (n:=64) hF.eb
     have hzl : (cop b t.length (r.take (64 - t.length))).length = 64:=by
      rw [FP (by rw [aY]; omega)];exact hz128
     have hS2:=hF.es.EY hzl;obtain ⟨z',hz'⟩ : ∃ z,cop b t.length (r.take (64 - t.length)) = z:=⟨_,rfl⟩;obtain ⟨m,hm⟩ : ∃ m,min r.length (64 - t.length) = m:=⟨_,rfl⟩;rw [hz'] at hS2 hzl htl;rw [hm] at hcut htl;have HZ:=aL hz';have HM:=aL hm;have hrd : (r.drop m).length = r.length - m:=List.length_drop
     have hmr : m <= r.length:=by omega
     have hmt : t.length + m <= 64:=by omega
     have hm1 : 0 < m:=by omega
     have hq : IntKind.i64.wrap ((t.length : Int) + (m : Int)) = ((t.length + m : Nat) : Int):=by rw [i64_left,wrap64_in _ (by omega)]; omega
     have hsl2 : SL (wr.setRow gb (By z').toArray) 0 B (if c = m then P else P.map (·.add m)) (r.drop m) (c - m):=hcut.below (below_setRow (Below.refl B wr) hF.es.bb _) (aH _)
     have hd2 : l = (d ++ r.take m) ++ r.drop m:=by rw [hd,aU,dR]
     have htm : r.take (64 - t.length) = r.take m:=by
      rw [<-hm]
      by_cases hh : r.length <= 64 - t.length
      ·rw [cW hh,bW hh,bW (aH _)]
      ·rw [Nat.min_eq_right (by omega)]
     rw [htm] at htl;have hem:=hF.em;have hea:=hF.ea;have HS:=aL (a5 hS2 (a5 hsl2 (a5 hd2 (a5 htl (a5 hem hea)))));clear hF hsl hcut hS2 hsl2 hd hd2 htl htm hm hz' hem hea
     by_cases hf : t.length + m < 64
     ·by_cases hck : c = m
      ·have hck2:=hck.symm
       subst hck2
       go_wp2_with (refine oW (.tmp 27) (.tmp 28) rfl rfl gb t.length (64 - t.length) (64 - t.length) rfl P r m rfl b 38 hm0 0 B hbv (by rw [hz128]; omega) z' HZ m HM ?_)
       go_roundw
       case rel =>
        obtain ⟨hS2,hsl2,hd2,htl,hem,hea⟩:=HS.out
        first | rw [if_pos rfl] at hsl2 | rw [if_pos trivial] at hsl2
        refine ⟨d ++ r.take m,r.drop m,P,m - m,a,t ++ r.take m,z',k,hd2,by rw [hrd,show r.length - m = 0 by omega,sT],?_,hsl2,?_,hea,?_,hS2,?_⟩
        ·rw [aI,aY,cW hmr]
         go_num
        ·rw [<-aU,hem,aU]
        ·rw [aI,aY,cW hmr]
         exact hf
        ·rw [aI,aY,cW hmr]
         exact htl
       case measure=>simp [DD]; omega
      ·skip
       go_wp2_with (refine oW (.tmp 27) (.tmp 28) rfl rfl gb t.length (64 - t.length) (64 - t.length) rfl P r c rfl b 38 hm0 0 B hbv (by rw [hz128]; omega) z' HZ m HM ?_)
       go_roundw
       case rel =>
        obtain ⟨hS2,hsl2,hd2,htl,hem,hea⟩:=HS.out;rw [if_neg hck] at hsl2;refine ⟨d ++ r.take m,r.drop m,(P.map (·.add m)),c - m,a,t ++ r.take m,z',k,hd2,by rw [hrd],?_,hsl2,?_,hea,?_,hS2,?_⟩
        ·rw [aI,aY,cW hmr]
         go_num
        ·rw [<-aU,hem,aU]
        ·rw [aI,aY,cW hmr]
         exact hf
        ·rw [aI,aY,cW hmr]
         exact htl
       case measure=>simp [DD]; omega
     ·have hf : t.length + m = 64:=by omega
      by_cases hck : c = m
      ·have hck2:=hck.symm
       subst hck2
       go_wp2_with (refine oW (.tmp 27) (.tmp 28) rfl rfl gb t.length (64 - t.length) (64 - t.length) rfl P r m rfl b 38 hm0 0 B hbv (by rw [hz128]; omega) z' HZ m HM ?_)
       refine (oF HS.out.1.Cn).mono ?_
       rintro e w4 ⟨rfl,hS4⟩
       go_wp2_with (fail)
       go_roundw
       case rel =>
        obtain ⟨hS2,hsl2,hd2,htl,hem,hea⟩:=HS.out
        first | rw [if_pos rfl] at hsl2 | rw [if_pos trivial] at hsl2
        have hzz : z' = t ++ r.take m:=by
         rw [<-htl,hf,bW (by omega)]
        have hfull:=yU (s:=cH) (n:=64) (o:=o) (by decide) hea hzl;rw [hfull] at hS4;refine ⟨d ++ r.take m,r.drop m,P,m - m,a ++ z',[],z',k + 1,hd2,by rw [hrd,show r.length - m = 0 by omega,sT],rfl,?_,?_,?_,by decide,hS4.since hS2.be,rfl⟩
        ·exact hsl2.below hS4.be (aH _)
        ·rw [bV,hzz,<-aU,hem,aU]
        ·rw [aI,hea,hzl,sA,rZ]
       case measure=>simp [DD]; omega
      ·skip
       go_wp2_with (refine oW (.tmp 27) (.tmp 28) rfl rfl gb t.length (64 - t.length) (64 - t.length) rfl P r c rfl b 38 hm0 0 B hbv (by rw [hz128]; omega) z' HZ m HM ?_)
       refine (oF HS.out.1.Cn).mono ?_
       rintro e w4 ⟨rfl,hS4⟩
       go_wp2_with (fail)
       go_roundw
       case rel =>
        obtain ⟨hS2,hsl2,hd2,htl,hem,hea⟩:=HS.out;rw [if_neg hck] at hsl2
        have hzz : z' = t ++ r.take m:=by
         rw [<-htl,hf,bW (by omega)]
        have hfull:=yU (s:=cH) (n:=64) (o:=o) (by decide) hea hzl;rw [hfull] at hS4;refine ⟨d ++ r.take m,r.drop m,(P.map (·.add m)),c - m,a ++ z',[],z',k + 1,hd2,by rw [hrd],rfl,?_,?_,?_,by decide,hS4.since hS2.be,rfl⟩
        ·exact hsl2.below hS4.be (aH _)
        ·rw [bV,hzz,<-aU,hem,aU]
        ·rw [aI,hea,hzl,sA,rZ]
       case measure=>simp [DD]; omega
    ·have hr0 : r = []:=List.eq_nil_of_length_eq_zero (by omega)
     subst hr0;rw [bV] at hd;subst hd;have HF:=aL hF;clear hF hsl
     go_wp2
     go_roundw
     case rel =>
      refine ⟨n + 1,by omega,by go_num,a,t,b,k,rfl,?_,?_⟩
      ·rw [HZN.out]
      ·rw [HL.out]
       exact HF.out
     case measure=>simp [intOf]; omega
  ·obtain rfl : n = ls.length:=by omega
   rw [iD] at hF ⊢;have hE:=QX hF.es t.length (ls.flatten.length % 18446744073709551616) hF.et;rw [DX,hF.eb,KT (by decide) hF.ea,<-hF.em] at hE
   have hmod : t.length = ls.flatten.length % 64:=by
    have h1:=hF.ea;have h2:=hF.et;rw [hF.em,aI]
    omega
   have HE:=aL hE;have HMO:=aL hmod;clear hE hF hmod;generalize ls.flatten.length % 18446744073709551616 = zz at *
   go_wp2_with (fail)
   refine HE.out.mono ?_
   rintro e w4 ⟨rfl,hS4⟩
   go_wp2_with (fail)
   go_end0
   rw [HMO.out] at hS4;exact ⟨rfl,hS4⟩
theorem Fk : Own 33:=λ_ _=>by go_simp
theorem tA : Own 20:=λ_ _=>by go_simp
def uO : Oct:=⟨cH.start[0]!,cH.start[1]!,cH.start[2]!,cH.start[3]!,cH.start[4]!,cH.start[5]!,cH.start[6]!,cH.start[7]!⟩
theorem Gy : OB 32 uO:=by
 constructor <;> decide
theorem Dv : uO.list = cH.start:=by decide
theorem OB.P0 {o : Oct} (h : OB 32 o) : ∀ x ∈ o.list,x < 4294967296:=by
 intro x hx
 simp only [Oct.list,b7,List.not_mem_nil,or_false] at hx
 rcases hx with rfl | rfl | rfl | rfl | rfl | rfl | rfl | rfl
 ·exact h.a
 ·exact h.b
 ·exact h.c
 ·exact h.d
 ·exact h.e
 ·exact h.f
 ·exact h.g
 ·exact h.h
theorem Oj (A : Option Addr) (ls : List (List UInt8)) (pc : Nat) (w : World) (hT : Tsh w) (hA : o8 w w.heap.size A ls) (hpc : ls.length <= pc) (hpm : pc <= 9223372036854775807) :
  Calls Tryz.prog 20 #[.slice A ls.length pc] w λe w'=>e = .returned (.agg (By (eO cH ls.flatten)).toArray) /\ Below w.heap.size w w':=by
 have hD : eO cH ls.flatten = ((kC cH 64 uO (ls.flatten ++ jY 64 (ls.flatten.length % 64) (8 * ls.flatten.length))).list.map (nR cH)).flatten:=rfl;rw [hD];clear hD;have hTs : Tst w:=⟨hT.cell,hT.lt⟩;generalize hR : kC cH 64 uO (ls.flatten ++ jY 64 (ls.flatten.length % 64) (8 * ls.flatten.length)) = R at *;have HR:=aL hR;clear hR
 go_enter Tryz.func20,Tryz.ntmps20
 refine wp_seq_k λK hK=>?_;refine wp_region_lit ?_;refine dV (zs:=(By Ge).toArray) rfl rfl U3 ?_;refine dX ?_
 go_simp
 refine hK _ _ ?_;clear hK K;refine p9 (λW=>Blk W w.heap.size 27 (By Ge).toArray /\ Below w.heap.size w W /\ w.heap.size < W.heap.size) ⟨Blk.new w _ _,(Below.refl _ _).alloc (aH _) _,by rw [aZ]; omega⟩ ?_
 rintro W ⟨ho,hbe,hsz⟩
 refine wp_seq_k λK hK=>?_;refine sE 1 3 73 (.tmp 5) z8v rfl rfl rfl rfl rfl rfl rfl (dE rfl (by kernel_rfl)) ?_;simp only [a6,bP];refine Rq rfl Fk (λw1 h=>JY w1 (hTs.below (Below.mono hbe (aH _)) |>.below h)) rfl rfl ?_;simp only [aG,aA,aB,aC];refine cQ ⟨(Uw cH.start).toArray,λ_=>rfl,λ_=>rfl,rfl,oP _ rfl,AM _,λgh W1 hgh hw1 hbh=>?_⟩;simp only [Exit.then,aG,aA,aB,aC];refine hK _ _ ?_;clear hK K;have ho:=hw1.blk ho;have hbe:=bA hbe hw1;clear hw1;have hng:=hbh.lt;refine wp_seq_k λK hK=>?_;refine wp_region_lit ?_;refine dV (zs:=(By xN).toArray) rfl rfl RT ?_;refine dX ?_
 go_simp
 refine hK _ _ ?_;clear hK K;have ho:=ho.alloc (.cells (By xN).toArray 38);have hbh:=hbh.alloc (.cells (By xN).toArray 38);have hbe:=hbe.alloc hbe.size (.cells (By xN).toArray 38);have hbb:=Blk.new W1 38 (By xN).toArray;generalize W1.alloc (.cells (By xN).toArray 38) = W2 at *;generalize W1.heap.size = gb at *;have hTw:=hT.below hbe;rw [<-Dv] at hbh;have hsgh : w.heap.size < gh:=bM hsz hgh;have hS : S6 gh gh gb W2 W2 uO xN:=⟨hbh,hbb,Gy,rfl,hTw.steps,Below.refl _ _,aH _,fJ hng,Nat.ne_of_lt hng,bM hT.steps.lt (fJ hsgh)⟩
 have hP : o8 W2 gh A ls:=λhl=>by
  obtain ⟨ad,e,h1,h2⟩:=(hA.below hbe (aH _)) hl;refine ⟨ad,e,Nat.lt_trans h1 hsgh,λi l hi=>?_⟩;obtain ⟨A',c',h3,h4⟩:=h2 i l hi;exact ⟨A',c',h3,h4.more (aH _) (fJ hsgh)⟩
 have HF:=aL (Np hS A ls pc hP hpc hpm);have hmf : ∀ (fn : Fn) (first cap : Array Value) (w : World),(Instr.makeFunc fn first cap).run Tryz.prog w = .ok (.func fn first cap) w:=λ_ _ _ _=>rfl;have HK:=aL (a5 ho hbe);clear hS hP hTw hbb hbh ho hbe hA hT
 go_wp2_with (fail)
 refine HF.out.mono ?_
 rintro e W3 ⟨rfl,b',hS3⟩
 rw [HR.out] at hS3;have kh:=hS3.h;have hb3:=hS3.be;have hzr : (Uw R.list).toArray.size = 8:=rfl;have HL:=aL (λw1=>P8 (l:=R.list) rfl (OB.P0 hS3.ob) w1);have hko : Blk W3 w.heap.size 27 (By Ge).toArray:=HK.out.1.below hb3 hsgh;have hbe3 : Below w.heap.size w W3:=HK.out.2.trans (hb3.mono (fJ hsgh));clear HF HK hS3 hb3 hmf
 go_wp2_with (refine wpList_load_row rfl 73 _ rfl gh rfl 73 (Uw R.list).toArray (0,0) _ kh Tryz.underlying73 rfl (oP _ hzr) ?_)
 refine (HL.out _).mono ?_
 rintro e W4 ⟨rfl,hw4⟩
 have hko:=hko.later hw4;have hbe4:=bA hbe3 hw4
 have hz : (By (R.list.map (nR cH)).flatten).toArray.size = 32:=by
  rw [a9,cD,sJ (nR cH) (n:=4) (λx=>sH cH x) R.list]
  rfl
 clear HL hw4 kh hbe3;obtain ⟨D,hDD⟩ : ∃ D,(R.list.map (nR cH)).flatten = D:=⟨_,rfl⟩;rw [hDD] at hz ⊢;have HDD:=aL hDD;clear hDD
 go_wp2_with (refine wpList_store_row rfl 27 _ _ rfl w.heap.size rfl (By D).toArray rfl 27 _ hko (fL _ hz) (by rw [hz]; rfl) (kU _) ?_)
 refine bodyPost_ret (results_cell_row rfl _ _ w.heap.size 27 (By D).toArray (0,0) _ rfl (hko.row _) Tryz.underlying27 rfl (fL _ hz)) rfl ⟨by rw [HDD.out],?_⟩;exact below_setRow hbe4 (aH _) _
theorem Ap : Own 17:=λ_ _=>by go_simp
theorem MX : Own 12:=λ_ _=>by go_simp
theorem Ba : Own 14:=λ_ _=>by go_simp
theorem CA : Own 15:=λ_ _=>by go_simp
theorem Jz : Own 8:=λ_ _=>by go_simp
theorem FD {k : List UInt8} (v : Int) (hk : k.length = 32) : Spec 17 [.int .i64 v,.agg (By k).toArray] [] (λ_=>True) (PY (lK v k)):=by
 refine fD [.c (.v (.int .i64 v)),eY 32 k] 11 Tryz.func17 rfl (by rw [Tryz.ntmps17]; rfl) (qE trivial (nJ hk).1) λb=>?_;refine bS aD rfl λK1 hK1=>?_;refine bJ (Ay 3 rfl (E':=[(0,.v (.int .i64 v)),(4,.v (.slice none 0 0))]) ⟨rfl,rfl,trivial⟩ λg=>hK1 _ ?_);refine BL 0 rfl ?_;refine dJ λK2 hK2=>?_;refine KR 4 [] (by kernel_rfl) (by decide) (λ_ _ _ _ h=>by cases h) ?_;refine tR aD 0 (by kernel_rfl) rfl rfl rfl rfl rfl rfl (λ_ h=>by cases h) ?_;refine tR aD 1 (by kernel_rfl) rfl rfl rfl rfl rfl rfl (λ_ h=>by cases h) ?_;refine zW (.v (.slice (some ⟨g,0,none⟩) 32 32)) trivial 3 (by kernel_rfl) rfl rfl rfl rfl rfl (oH rfl Tryz.underlying27 rfl rfl) ?_;refine Dk 2 (by kernel_rfl) rfl λK3 hK3=>?_;refine tY 6 (rO v : Int) rfl (KF v) ?_;refine eM [.slice none ([] : List UInt8).length 0,.int .u64 (rO v : Int)] rfl rfl rfl y8 rfl rfl (λ_ _=>rfl) (EO [] (rO v) (KE v) (by decide)) (λ_ _ _=>Rd.nil _ _ _) λgc=>?_;rw [kG];refine bJ (hK3 _ (λ_ _ _ _ h=>by cases h) ?_);refine Dj (by kernel_rfl) ?_;refine Bs 8 (.v (.slice (some ⟨g,0,none⟩) k.length 32)) rfl (by rw [hk]) ?_;refine pF aD b.B.heap.size [⟨some ⟨gc,0,none⟩,(be8 (rO v)).length,be8 (rO v)⟩,⟨some ⟨g,0,none⟩,32,k⟩] (fe:=zO) rfl rfl rfl rfl rfl (λ_=>rfl) rfl (by decide) (by decide) (wD _) (aH _) λP=>?_;refine tH 0 rfl ?_
 have e0 : (List.map Seg.l [⟨some ⟨gc,0,none⟩,(be8 (rO v)).length,be8 (rO v)⟩,⟨some ⟨g,0,none⟩,32,k⟩]).flatten = lK v k:=by simp [lK]
 have hj:=Fz (A:=P) (c:=2) [⟨some ⟨gc,0,none⟩,(be8 (rO v)).length,be8 (rO v)⟩,⟨some ⟨g,0,none⟩,32,k⟩] (by rw [e0,wU hk]; decide);rw [e0] at hj
 refine eM [.slice P 2 2] rfl rfl rfl zB rfl rfl (λ_ _=>rfl) hj (λw h hM=>⟨h.1,λs hs=>by
  rcases b7.1 hs with rfl | hs
  ·exact hM.1
  ·rw [bK.1 hs]
   exact PJ (n:=32) h.2.2.1 (Nat.le_of_ble_eq_true rfl)⟩) λgb=>?_
 refine aR aD rfl ?_;refine bJ (hK2 _ ?_);exact eK (eR aD gb rfl (by decide) rfl rfl rfl (λ_ _ _=>trivial) (λw h=>h.1))
theorem TD {seed key : List UInt8} (v : Int) (hs : seed.length = 32) (hk : key.length = 32) : Spec 12 [.agg (By seed).toArray,.int .i64 v,.agg (By key).toArray] [] Ta (one (.q (eU (mkH seed v key)))):=by
 refine fD [eY 32 seed,.c (.v (.int .i64 v)),eY 32 key] 19 Tryz.func12 rfl (by rw [Tryz.ntmps12]; rfl) (Tn (nJ hs).1 (qE trivial (nJ hk).1)) λb=>?_;refine bB aD rfl ?_;refine E4 6 (by decide) (by kernel_rfl) (by kernel_rfl) λK hK G S w0 hst=>?_;refine j5 aD hst rfl ?_;refine zJ (F':=λ_=>True) hst [.int .i64 v,.agg (By key).toArray] rfl rfl rfl rfl Ap rfl rfl (λ_=>rfl) (FD v hk).p1 (λ_ _ _=>trivial) λgb _=>?_;refine zJ (F':=λw=>Ta w /\ Rd 1 eB (some ⟨gb,0,none⟩) (lK v key).length (lK v key) w) hst [.agg (By seed).toArray,.int .u8 1,.slice (some ⟨gb,0,none⟩) (lK v key).length (lK v key).length] rfl rfl rfl rfl Pz rfl rfl (λ_=>rfl) (Vr 1 hs (by rw [wU hk]; decide)) (λw hw hu=>⟨hw.fact,Hv (hu 3 _ rfl (by kernel_rfl))⟩) λ_ _=>?_;refine TH (By (aE 64 0)).toArray rfl rfl rfl rfl rfl (by kernel_rfl) λg=>?_;have h64:=k9 seed (msg 1 (lK v key));refine Wa hst (ps:=[.agg 64 (By (aE 64 0)).toArray]) 7 5 [(12,.q (eY 64 (jZ seed (msg 1 (lK v key))))),(1,.v (.int .i64 v)),(3,.a 3 0),(5,.a 5 0),(6,.a 6 0)] rfl rfl ⟨rfl,rfl,rfl,rfl,rfl,trivial⟩ rfl rfl (nJ bH).1 ?_;generalize hsg : jZ seed (msg 1 (lK v key)) = sg at *;refine aR aD rfl ?_;refine bJ (hK _ ?_);refine E4 6 (by decide) (by kernel_rfl) (by kernel_rfl) λK2 hK2 G S w0 hst=>?_;have hk0:=l6 seed;refine j5 aD hst rfl ?_;refine Lu (F':=Ta) (r:=.q (eY 32 (gV seed))) hst [.agg (By seed).toArray] rfl rfl rfl rfl JC rfl rfl (λ_=>rfl) (nJ hk0).1 (O4 hs) (λ_ _ _ hv=>hv.fact) ?_;generalize hpk : gV seed = pk at *
 have hmk : mkH seed v key = ⟨pk,v,key,sg⟩:=by unfold mkH; rw [hpk,hsg]
 refine j5 aD hst rfl ?_;refine Ew hst ?_;refine aR aD rfl ?_;refine bJ (hK2 _ ?_);exact eK (eR aD () rfl (by decide) rfl (by show RV.q (eU (mkH seed v key)) = _; rw [hmk]; rfl) rfl (λ_ _ _=>trivial) (λ_ _=>trivial))
theorem Ev {u : UV} (hu : u.Ok) : Spec 14 [(eU u).den] [] Ta (one (.q (.c (.b (rA u))))):=by
 refine fD [eU u] 23 Tryz.func14 rfl (by rw [Tryz.ntmps14]; rfl) (jB hu.oY) λb=>?_;refine bB aD rfl ?_;refine E4 20 (by decide) (by kernel_rfl) (by kernel_rfl) λK hK G S w0 hst=>?_;refine j5 aD hst rfl ?_;have hgo : rA u = false -> kS b (bodyPost Tryz.prog Tryz.f14 (TW b (one (.q (.c (.b (rA u)))))) .ret) 23 ⟨[(2,.v (.bool false))],[],[],Ta,λ_=>True⟩:=λh=>Qn aD () rfl (by decide) rfl (congrArg jU h) trivial rfl (λ_ _ _=>trivial) (λ_ _=>trivial)
 by_cases h1 : 1 <= u.ver
 ·refine Qt 6 true rfl (decide_eq_true h1) ?_
  refine j5 aD hst rfl ?_
  by_cases h2 : u.ver <= 64
  ·have hsb : rA u = nE u.id u.sig (msg 1 (lK u.ver u.key)):=by unfold rA; rw [decide_eq_true ⟨h1,h2⟩,Bool.true_and]
   refine Qt 11 true rfl (decide_eq_true h2) ?_;refine j5 aD hst rfl ?_;refine zJ (F':=λ_=>True) hst [.int .i64 u.ver,.agg (By u.key).toArray] rfl rfl rfl rfl Ap rfl rfl (λ_=>rfl) (FD u.ver hu.key).p1 (λ_ _ _=>trivial) λgb _=>?_;refine j5 aD hst rfl ?_;refine zJ (F':=λw=>Ta w /\ Rd 1 eB (some ⟨gb,0,none⟩) (lK u.ver u.key).length (lK u.ver u.key) w) hst [.agg (By u.id).toArray,.int .u8 1,.slice (some ⟨gb,0,none⟩) (lK u.ver u.key).length (lK u.ver u.key).length,.agg (By u.sig).toArray] rfl rfl rfl rfl MV rfl rfl (λ_=>rfl) (S7 1 hu.id hu.sig (by rw [wU hu.key]; decide)) (λw hw hx=>⟨hw.fact,Hv (hx 15 _ rfl (by kernel_rfl))⟩) λ_ _=>?_;refine j5 aD hst rfl ?_;refine Ew hst ?_;refine aR aD rfl ?_;refine bJ (hK _ ?_);exact eK (Qn aD () rfl (by decide) rfl (congrArg jU hsb) trivial rfl (λ_ _ _=>trivial) (λ_ _=>trivial))
  ·have hsb : rA u = false:=by unfold rA; rw [decide_eq_false (λh=>h2 h.2),Bool.false_and]
   refine Qt 11 false rfl (decide_eq_false h2) ?_;refine j5 aD hst rfl ?_;refine Ew hst ?_;refine aR aD rfl ?_;exact bJ (hK _ (eK (tI (e':=⟨[(2,.v (.bool false))],[],[],Ta,λ_=>True⟩) ⟨⟨rfl,trivial⟩,trivial,.refl _,λ_ h _=>h,λ_ h=>h⟩ (hgo hsb))))
 ·have hsb : rA u = false:=by unfold rA; rw [decide_eq_false (λh=>h1 h.1),Bool.false_and]
  refine Qt 6 false rfl (decide_eq_false h1) ?_;refine j5 aD hst rfl ?_;refine Ew hst ?_;refine aR aD rfl ?_;exact bJ (hK _ (eK (tI (e':=⟨[(2,.v (.bool false))],[],[],Ta,λ_=>True⟩) ⟨⟨rfl,trivial⟩,trivial,.refl _,λ_ h _=>h,λ_ h=>h⟩ (hgo hsb))))
theorem Sh {A : Option Addr} {ls : List (List UInt8)} {w : World} (n : Nat) (hn : ls.length = n) (hm : n <= 9223372036854775807) (hT : Ta w) (h : PT w A ls) :
  Calls Tryz.prog 20 #[.slice A n n] w λe w'=>e = .returned (.agg (By (eO cH ls.flatten)).toArray) /\ Below w.heap.size w w':=by
 subst hn;exact Oj A ls _ w hT.2 h (aH _) hm
theorem Yp {A : Option Addr} {ls : List (List UInt8)} {w : World} (n : Nat) (hn : ls.length = n) (hm : n <= 9223372036854775807) (hl : ls.flatten.length <= 70368744177664) (h : PT w A ls) :
  Calls Tryz.prog 8 #[.slice A n n] w λe w'=>e = .returned (.agg (By (eO cH ls.flatten)).toArray) /\ Below w.heap.size w w':=by
 subst hn;exact Vv A ls _ hm hl w h
theorem H6 {A : Option Addr} {c : Nat} (ks : List (List UInt8)) : Spec 15 [.slice A ks.length c] [] (λw=>Ta w /\ Rd 32 (eY 32) A c ks w) (one (.q (eY 32 (B7 ks)))):=by
 refine fD [.c (.v (.slice A ks.length c))] 26 Tryz.func15 rfl (by rw [Tryz.ntmps15]; rfl) (jB trivial) λb=>?_;refine rP ((∀ x ∈ ks,x.length = 32) /\ ks.length <= 9223372036854775807) (λw h _=>⟨λx hx=>Wv (h.2.2.2.2.1 x hx).1,j6 h.2.1 h.2.2.1⟩) λ⟨h32,hm⟩=>?_;refine bB aD rfl ?_;refine bB aD rfl ?_;refine dJ λK hK=>?_;refine bB aD rfl ?_;refine fB ?_
 let F : Nat -> Env:=λi=>⟨[(8,.v (.int .i64 (i : Int))),(7,.v (.int .i64 (ks.length : Int))),(6,.v (.slice A ks.length c)),(0,.v (.slice A ks.length c)),(3,.a 3 0),(2,.a 2 0)],[⟨3,none,27,[.agg 32 (By (dH (ks.take i))).toArray]⟩,⟨2,none,27,[.agg 32 (By zH).toArray]⟩],[],λw=>Ta w /\ Rd 32 (eY 32) A c ks w,λ_=>True⟩
 refine oM (e':=F 0) ⟨⟨rfl,rfl,rfl,rfl,rfl,rfl,trivial⟩,⟨rfl,rfl,rfl,rfl,trivial⟩,.refl _,λ_ h _=>h,λ_ _=>trivial⟩ (oG (λi=>ks.length - i) F (λi=>i <= ks.length) ?_ 0 (bZ _))
 intro i hi
 refine bB aD rfl ?_;refine dJ λK3 hK3=>?_;refine jK ((i : Int) < (ks.length : Int)) rfl (λhlt=>?_) (λhge=>?_)
 ·have hlt : i < ks.length:=by omega
  obtain ⟨x,hx⟩ : ∃ x,ks[i]? = some x:=⟨_,aX hlt⟩;have hx2:=h32 x (gK hx);have hd2:=Q6 (ks.take i);have hn:=T5 hx;refine eW (hK3 _ ?_);refine dJ λK4 hK4=>?_;refine fB ?_;refine bS aD rfl λK5 hK5=>?_;refine qQ aD rfl rfl rfl i rfl hx rfl rfl (fX λ_ h _=>h.2) ?_;refine aR aD rfl ?_;refine bJ (hK5 _ ?_);generalize dH (ks.take i) = d at *;have hkl : (Qm d x).length = 32:=tL _;have hkd : Qm d x = eO cH ([[3],d,x] : List (List UInt8)).flatten:=rfl;obtain ⟨d2,he⟩ : ∃ d2,Qm d x = d2:=⟨_,rfl⟩;rw [he] at hn hkl hkd;refine Vs 5 (by decide) (by kernel_rfl) (by kernel_rfl) λG S w0 hst=>?_;refine UQ aD [(3 : UInt8)] rfl rfl rfl rfl rfl rfl (λ_=>rfl) rfl (by decide) (by decide) λB=>?_;refine TG hst (.s 3 0 32 32) trivial rfl rfl rfl rfl (uQ rfl Tryz.underlying27 rfl rfl) ?_;refine TG hst (.s 5 0 32 32) trivial rfl rfl rfl rfl (uQ rfl Tryz.underlying27 rfl rfl) ?_;refine Lt [.slice (some ⟨B,0,none⟩) 1 1,(SV.s 3 0 32 32).den G,(SV.s 5 0 32 32).den G] [[3],d,x] hst rfl rfl rfl rfl rfl rfl rfl (by decide) (by decide) (λw hw hu=>?_) λA2=>?_
  ·have h2 : Rd 1 eB (some ⟨B,0,none⟩) 1 [3] w:=hu 0 _ rfl (by kernel_rfl)
   exact ⟨h2.sb,E3 (j:=3) rfl hd2 (by decide) G S w hw,E3 (j:=5) rfl hx2 (by decide) G S w hw,trivial⟩
  refine JU (r:=.q (eY 32 d2)) hst [.slice (some ⟨A2,0,none⟩) 3 3] rfl rfl rfl rfl tA rfl rfl (λ_=>rfl) (nJ hkl).1 (λw hw hu=>?_) ?_
  ·have hA : PT w (some ⟨A2,0,none⟩) [[3],d,x]:=hu 3 _ rfl (by kernel_rfl)
   have hr2:=Sh 3 rfl (by decide) hw.fact.1 hA;rw [<-hkd] at hr2;exact hr2
  refine j5 aD hst rfl ?_;refine Ew hst ?_;refine aR aD rfl ?_;refine bJ (hK4 _ ?_);refine l7 aD rfl ?_;exact oK (i + 1) hlt (by show _ - (i + 1) < _ - i; omega) ⟨⟨congrArg some (congrArg SV.v (congrArg (eG .i64) (mD rfl (by omega) (by omega)))),rfl,rfl,rfl,rfl,rfl,trivial⟩,⟨by show Ie _ 3 = some ⟨3,none,27,[.agg 32 (By (dH (ks.take (i + 1)))).toArray]⟩; rw [hn]; rfl,rfl,rfl,rfl,trivial⟩,.refl _,λ_ h _=>h,λ_ h=>h⟩
 ·obtain rfl : ks.length = i:=by omega
  have hd2:=Q6 ks;have hvl : (B7 ks).length = 32:=tL _;have hvd : B7 ks = eO cH ([[2],be8 ks.length,dH ks] : List (List UInt8)).flatten:=rfl;have hb8:=nL ks.length;refine mT (fY (fY (qS ?_)));refine hK _ ?_;rw [iD];generalize dH ks = d at *;obtain ⟨v2,hv2⟩ : ∃ v2,B7 ks = v2:=⟨_,rfl⟩;rw [hv2] at hvl hvd;refine dJ λK5 hK5=>?_;refine KR 6 [] (by kernel_rfl) (by decide) (λ_ _ _ _ h=>by cases h) ?_;refine tR aD 1 (by kernel_rfl) rfl rfl rfl rfl rfl rfl (λ_ h=>by cases h) ?_;refine tR aD 2 (by kernel_rfl) rfl rfl rfl rfl rfl rfl (λ_ h=>by cases h) ?_;refine tR aD 3 (by kernel_rfl) rfl rfl rfl rfl rfl rfl (λ_ h=>by cases h) ?_;refine zW (.s 3 0 32 32) trivial 5 (by kernel_rfl) rfl rfl rfl rfl rfl (uQ rfl Tryz.underlying27 rfl rfl) ?_;refine Uv 0 4 (by kernel_rfl) rfl rfl (λK6 hK6=>?_) (λK6 hK6=>?_)
  ·refine pF aD b.B.heap.size [(2 : UInt8)] rfl rfl rfl rfl rfl (λ_=>rfl) rfl (by decide) (by decide) (uY _) (aH _) λB=>?_
   refine bJ (hK6 _ (λ_ _ _ _ h=>by cases h) ?_);refine Dk 4 (by kernel_rfl) rfl λK7 hK7=>?_;refine tY 21 (ks.length : Int) rfl (Ky rfl (by omega) (by omega)) ?_;refine eM [.slice none ([] : List UInt8).length 0,.int .u64 (ks.length : Int)] rfl rfl rfl y8 rfl rfl (λ_ _=>rfl) (EO (A:=none) (c:=0) [] ks.length (by omega) (by decide)) (λ_ _ _=>Rd.nil _ _ _) λgb=>?_;rw [kG];refine bJ (hK7 _ (λ_ _ _ _ h=>by cases h) ?_);refine Dj (by kernel_rfl) ?_;refine Qh aD [.v (.slice B 1 1),.v (.slice (some ⟨gb,0,none⟩) (be8 ks.length).length (be8 ks.length).length),.s 3 0 32 32] [[2],be8 ks.length,d] v2 rfl rfl rfl rfl rfl rfl rfl rfl rfl tA (λ_=>rfl) rfl (by decide) (by decide) hvl (λA w h hF hM=>?_) (λG S w h=>?_) λB2=>?_
   ·have hr2:=Sh 3 rfl (by decide) hF.2.1 h
    rw [<-hvd] at hr2;exact hr2
   ·have h1 : Rd 1 eB B 1 [2] w:=Jt 0 rfl G S w h
    exact ⟨h1.sb,h.fresh.1.sb,E3 (j:=3) rfl hd2 (by decide) G S w h,trivial⟩
   refine aR aD rfl ?_;refine bJ (hK5 _ ?_);refine xT 0 rfl ?_;exact eK (eR aD () rfl (by decide) rfl (congrArg (λz=>RV.q (eY 32 z)) hv2) rfl (λ_ _ _=>trivial) (λ_ _=>trivial))
  ·refine tY 21 (ks.length : Int) rfl (Ky rfl (by omega) (by omega)) ?_
   refine eM [.slice none ([] : List UInt8).length 0,.int .u64 (ks.length : Int)] rfl rfl rfl y8 rfl rfl (λ_ _=>rfl) (EO (A:=none) (c:=0) [] ks.length (by omega) (by decide)) (λ_ _ _=>Rd.nil _ _ _) λgb=>?_;rw [kG];refine bJ (hK6 _ (λ_ _ _ _ h=>by cases h) ?_);refine Dk 0 (by kernel_rfl) rfl λK7 hK7=>?_;refine pF aD b.B.heap.size [(2 : UInt8)] rfl rfl rfl rfl rfl (λ_=>rfl) rfl (by decide) (by decide) (uY _) (aH _) λB=>?_;refine bJ (hK7 _ (λ_ _ _ _ h=>by cases h) ?_);refine Dj (by kernel_rfl) ?_;refine Qh aD [.v (.slice B 1 1),.v (.slice (some ⟨gb,0,none⟩) (be8 ks.length).length (be8 ks.length).length),.s 3 0 32 32] [[2],be8 ks.length,d] v2 rfl rfl rfl rfl rfl rfl rfl rfl rfl tA (λ_=>rfl) rfl (by decide) (by decide) hvl (λA w h hF hM=>?_) (λG S w h=>?_) λB2=>?_
   ·have hr2:=Sh 3 rfl (by decide) hF.2.1 h
    rw [<-hvd] at hr2;exact hr2
   ·have h1 : Rd 1 eB B 1 [2] w:=Jt 0 rfl G S w h
    exact ⟨h1.sb,h.fresh.1.sb,E3 (j:=3) rfl hd2 (by decide) G S w h,trivial⟩
   refine aR aD rfl ?_;refine bJ (hK5 _ ?_);refine xT 0 rfl ?_;exact eK (eR aD () rfl (by decide) rfl (congrArg (λz=>RV.q (eY 32 z)) hv2) rfl (λ_ _ _=>trivial) (λ_ _=>trivial))
section
variable {α : Type} {fe : α -> SQ} {T : List TyR} {b : iI} {ops : Array Oper} {Q : Exit -> Act -> World -> Prop} {N : Nat} {E : SE} {L : List LV} {R : List Res} {F M : World -> Prop} {o : Oper} {rest : List Oper} {k e sz bs : Nat} {t tn : TypeId} {x y : Operand} {K kn : IntKind}
theorem Tu (hT : OkT Tryz.prog T) (lo n : Nat) (fe : α -> SQ) (hg : o.guard = none) (hd : o.dst = some k) (hk : Nat.blt k N = true) (ho : o.op = .call { callee:=.builtin .append,args:=#[x,y],argTypes:=#[t,tn] }) (hs : slS T t = some (e,sz,bs)) (htn : Tryz.prog.underlying tn = some (.int kn))
  (hx : evS E x = some (.v (.slice none 0 0))) (hy : evS E y = some (.v (.int K (n : Int)))) (h0 : 0 < n) (hsz : 0 < sz) (hb : n * bs <= 281474976710656) (hm : n <= 9223372036854775807) (hlo : lo <= b.B.heap.size)
  (hc : ∀ g c,n <= c -> lS Tryz.prog b ops Q N rest ⟨(k,.v (.slice (some ⟨g,0,none⟩) n c)) :: E,L,gA lo e sz fe (some ⟨g,0,none⟩) c [] :: R,F,M⟩) : lS Tryz.prog b ops Q N (o :: rest) ⟨E,L,R,F,M⟩:=λa w ⟨G,S,h1,h2,h3⟩=>by
 obtain ⟨ht,ie,z,hi,hz,hsz2,hbs,hzs,_⟩:=xS hT hs;have e1:=h1.eval (cU hx);have e2:=h1.eval (cU hy);have hr:=Lib.run_append_nil_zeros (P:=Tryz.prog) w t tn o.type e ie z K kn ht htn hi hz n h0 (by omega) (by omega) (by rw [hbs]; exact hb)
 refine pE (v:=.slice (some ⟨w.heap.size,0,none⟩) n (grownCap w n 0 e)) (DB hg) (by
  unfold execOp
  simp only [ho,resolve,invoke,builtin,aJ,Sem.run_pure,Result.andThen_ok,List.map_toArray,List.map_cons,List.map_nil,e1,e2]
  show ((Builtin.append_ #[t,tn] o.type #[.slice none 0 0,.int K (n : Int)]).run Tryz.prog w).andThen _ = _
  rw [hr]
  rfl) ?_
 rw [hd];have hge:=grownCap_ge w n 0 e;have hle:=grownCap_le_maxLen w n 0 e (by unfold maxLen; omega);generalize grownCap w n 0 e = c at *
 have hcs : (pA z.cells n ++ pA z.cells (c - n)).size = c * sz:=by
  simp only [Array.size_append,size_zeroCells,hzs,<-sA];rw [show n + (c - n) = c by omega]
 generalize pA z.cells n ++ pA z.cells (c - n) = cs at *
 have hown : (gA lo e sz fe (some ⟨w.heap.size,0,none⟩) c []).holds (w.drew.alloc (.cells cs e)) λj=>j = w.heap.size:=by
  have hb : Blk (w.drew.alloc (.cells cs e)) w.heap.size e cs:=Blk.new w.drew _ _;have hlo2 : lo <= w.heap.size:=j6 hlo h3.chg.size
  have h5 : cs.toList.take (0 * sz) = []:=by rw [Nat.zero_mul]; rfl
  have h6 : (gH fe ([] : List α)).length = 0 * sz:=by rw [Nat.zero_mul]; rfl
  exact ⟨λ_ h=>(by cases h),⟨h6,.inr ⟨w.heap.size,c,cs,rfl,hlo2,hb,bZ _,hle,hcs,h5⟩⟩,λj=>⟨λh=>(by rw [h]; rfl),λh=>(fV h).symm⟩⟩
 obtain ⟨S',h4⟩:=h3.Wc (((Below.refl w.heap.size w).drew).alloc (aH _) _) hown (λj hj=>Nat.le_of_eq hj.symm);exact hc _ _ hge _ _ ⟨G,S',h1.put hk _,h2.cons trivial,h4⟩
end
theorem KU {N : Nat} {E : SE} {o : Oper} {x : Operand} {t : TypeId} {A : Option Addr} {n c : Nat} (ho : o.op = .call { callee:=.builtin .cap,args:=#[x],argTypes:=#[t] }) (ht : ∃ e,Tryz.prog.underlying t = some (.slice e)) (hx : evS E x = some (.v (.slice A n c))) :
  ∀ (G : Nat -> Nat) (a : Act) (w : World),Fr N (fS G E) a -> (execOp a.eval o).run Tryz.prog w = .ok (.value ((SV.v (.int .i64 (c : Int))).den G)) w:=λG a w ha=>by
 have h1 : a.eval x = .slice A n c:=ha.eval (cU hx);obtain ⟨e,ht⟩:=ht
 unfold execOp
 simp only [ho];generalize a.eval = ρ at *
 show _ = Result.ok (Next.value (.int .i64 (c : Int))) w
 simp [resolve,invoke,builtin,h1,aJ,run_underlying ht,Builtin.cap_,goInt]
abbrev KX:=Option Addr × Nat
theorem JE : Own 54:=λ_ _=>by go_simp
theorem Fl : Own 30:=λ_ _=>by go_simp
theorem Ef : Own 13:=λ_ _=>by go_simp
theorem Wb (n : Nat) (h0 : 0 < n) (hn : n <= 1000000) : Spec 54 [.slice none 0 0,.int .i64 (n : Int)] [] (λ_=>True) { ret:=λx : KX=>.v (.slice x.1 0 x.2),own:=λx=>[gA 0 27 32 (eY 32) x.1 x.2 []] }:=by
 refine fD [.c (.v (.slice none 0 0)),.c (.v (.int .i64 (n : Int)))] 27 Tryz.func54 rfl (by rw [Tryz.ntmps54]; rfl) (qE trivial trivial) λb=>?_;refine bB aD rfl ?_;refine dJ λK1 hK1=>?_;refine bB aD rfl ?_;refine jK ((n : Int) < 0) rfl (λh=>absurd h (by omega)) (λ_=>?_);refine eW (hK1 _ ?_);refine dJ λK2 hK2=>?_;refine bS aD rfl λK3 hK3=>?_;refine rR (.v (.int .i64 ((0 : Nat) : Int))) trivial rfl rfl rfl (KU rfl ⟨_,Tryz.underlying42⟩ rfl) ?_;refine aR aD rfl ?_;refine tY 1 (n : Int) rfl (mD (by show (n : Int) - IntKind.i64.wrap (0 - 0) = n; rw [mD (r:=0) (by decide) (by decide) (by decide)]; omega) (by omega) (by omega)) ?_;refine bJ (hK3 _ ?_);refine bB aD rfl ?_;refine jK ((n : Int) > 0) rfl (λ_=>?_) (λh=>absurd h (by omega));refine tU ?_;refine aR aD rfl ?_;refine rR (.v (.int .i64 ((0 : Nat) : Int))) trivial rfl rfl rfl (KU rfl ⟨_,Tryz.underlying42⟩ rfl) ?_;refine rR (.v (.slice none 0 0)) trivial rfl rfl rfl (vY (A:=none) (n:=0) (c:=0) (j:=0) (sz:=32) rfl (aH _) (λ_=>rfl) rfl Tryz.underlying42 rfl rfl) ?_;refine aR aD rfl ?_;refine Tu aD 0 n (eY 32) rfl rfl rfl rfl rfl Tryz.underlying3 rfl rfl h0 (by decide) (by show n * 32 <= _; omega) (by omega) (bZ _) λg c hc=>?_;refine aR aD rfl ?_;refine rR (.v (.slice (some ⟨g,0,none⟩) 0 c)) trivial rfl rfl rfl (vY (A:=some ⟨g,0,none⟩) (n:=n) (c:=c) (j:=0) (sz:=32) rfl (bZ _) (λh=>by cases h) rfl Tryz.underlying42 rfl rfl) ?_;refine aR aD rfl ?_;refine bJ (hK2 _ ?_);refine bB aD rfl ?_;exact eK (eR aD (some ⟨g,0,none⟩,c) rfl (by decide) rfl rfl rfl (λ_ _ _=>trivial) (λ_ _=>trivial))
structure Dn where
  A : Option Addr
  c : Nat
  l : List (List UInt8)
def eHs (s : Dn) : SQ:=.c (.v (.slice s.A s.l.length s.c))
def Dn.rd (s : Dn) (w : World) : Prop:=Rd 32 (eY 32) s.A s.c s.l w
instance {s : Dn} : Pst s.rd:=⟨λ_ _ h hb=>h.later hb⟩
theorem Ww (s : Dn) : OkP (eHs s).iN /\ (eHs s).cl.length = 1:=⟨λp hp=>by
 simp only [eHs,SQ.iN,bK] at hp;subst hp
 exact ⟨trivial,rfl,rfl⟩,rfl⟩
abbrev flH (ss : List Dn) : List (List UInt8):=(ss.map Dn.l).flatten
theorem Ib {ss : List Dn} {i : Nat} {s : Dn} (h : ss[i]? = some s) : flH (ss.take (i + 1)) = flH (ss.take i) ++ s.l:=by
 unfold flH
 rw [List.take_add_one,h]
 simp
theorem QG (ss : List Dn) (i : Nat) : (flH (ss.take i)).length <= (flH ss).length:=by
 have e : flH ss = flH (ss.take i) ++ flH (ss.drop i):=by
  unfold flH
  rw [<-List.flatten_append,<-List.map_append,dR]
 rw [e,aI]
 omega
theorem Re {A : Option Addr} {c : Nat} (ss : List Dn) (h0 : 0 < (flH ss).length) (ht : (flH ss).length <= 1000000) : Spec 30 [.slice A ss.length c] [] (λw=>Rd 1 eHs A c ss w /\ ∀ s ∈ ss,s.rd w)
  { ret:=λx : KX=>.v (.slice x.1 (flH ss).length x.2),own:=λx=>[gA 0 27 32 (eY 32) x.1 x.2 (flH ss)] }:=by
 refine fD [.c (.v (.slice A ss.length c))] 36 Tryz.func30 rfl (by rw [Tryz.ntmps30]; rfl) (jB trivial) λb=>?_;refine rP (ss.length <= 9223372036854775807) (λw h _=>j6 h.1.1 h.1.2.1) λhm=>?_;refine bB aD rfl ?_;refine bB aD rfl ?_;refine dJ λK1 hK1=>?_;refine bB aD rfl ?_;refine fB ?_
 let F : Nat -> Env:=λi=>⟨[(11,.v (.int .i64 (i : Int))),(10,.v (.int .i64 (ss.length : Int))),(9,.v (.slice A ss.length c)),(0,.v (.slice A ss.length c)),(3,.v (.int .i64 ((flH (ss.take i)).length : Int)))],[],[],λw=>Rd 1 eHs A c ss w /\ ∀ s ∈ ss,s.rd w,λ_=>True⟩
 refine oM (e':=F 0) ⟨⟨rfl,rfl,rfl,rfl,rfl,trivial⟩,trivial,.refl _,λ_ h _=>h,λ_ _=>trivial⟩ (oG (λi=>ss.length - i) F (λi=>i <= ss.length) ?_ 0 (bZ _))
 ·intro i hi
  refine bB aD rfl ?_;refine dJ λK3 hK3=>?_;refine jK ((i : Int) < (ss.length : Int)) rfl (λhlt=>?_) (λhge=>?_)
  ·have hlt : i < ss.length:=by omega
   obtain ⟨s,hs⟩ : ∃ s,ss[i]? = some s:=⟨_,aX hlt⟩;have hn:=Ib hs;have hle:=QG ss (i + 1);have hnl:=congrArg List.length hn;rw [aI] at hnl;refine eW (hK3 _ ?_);refine dJ λK4 hK4=>?_;refine fB ?_;refine bS aD rfl λK5 hK5=>?_;refine qQ aD rfl rfl rfl i rfl hs rfl rfl (fX λ_ h _=>h.1) ?_;refine aR aD rfl ?_;refine bJ (hK5 _ ?_);refine bS aD rfl λK6 hK6=>?_;refine tY 3 ((flH (ss.take (i + 1))).length : Int) rfl (mD (by omega) (by omega) (by omega)) ?_;refine bJ (hK6 _ ?_);refine bB aD rfl ?_;refine jK (((flH (ss.take (i + 1))).length : Int) < 0) rfl (λh=>absurd h (by omega)) (λ_=>?_);refine eW (hK4 _ ?_);refine l7 aD rfl ?_;exact oK (i + 1) hlt (by show _ - (i + 1) < _ - i; omega) ⟨⟨congrArg some (congrArg SV.v (congrArg (eG .i64) (mD rfl (by omega) (by omega)))),rfl,rfl,rfl,rfl,trivial⟩,trivial,.refl _,λ_ h _=>h,λ_ h=>h⟩
  ·obtain rfl : ss.length = i:=by omega
   refine mT (fY (fY (qS ?_)));refine hK1 _ ?_;rw [iD];refine bS aD rfl λK5 hK5=>?_;refine eM [.slice none 0 0,.int .i64 ((flH ss).length : Int)] rfl rfl rfl JE rfl rfl (λ_ _=>rfl) (Wb (flH ss).length h0 ht) (λ_ _ _=>trivial) λ⟨B,d⟩=>?_;refine l_R [gA 0 27 32 (eY 32) B d []] rfl ?_;refine aR aD rfl ?_;refine bJ (hK5 _ ?_);refine dJ λK7 hK7=>?_;refine bB aD rfl ?_;refine fB ?_
   let F2 : Nat × KX -> Env:=λ⟨i,B,d⟩=>⟨[(27,.v (.int .i64 (i : Int))),(26,.v (.int .i64 (ss.length : Int))),(25,.v (.slice A ss.length c)),(6,.v (.slice B (flH (ss.take i)).length d))],[],[gA 0 27 32 (eY 32) B d (flH (ss.take i))],λw=>Rd 1 eHs A c ss w /\ ∀ s ∈ ss,s.rd w,λ_=>True⟩
   refine oM (e':=F2 (0,B,d)) ⟨⟨rfl,rfl,rfl,rfl,trivial⟩,trivial,.refl _,λ_ h _=>h.2,λ_ _=>trivial⟩ (oG (λx=>ss.length - x.1) F2 (λx=>x.1 <= ss.length) ?_ (0,B,d) (bZ _))
   rintro ⟨i,B,d⟩ hi
   dsimp only at hi
   refine bB aD rfl ?_;refine dJ λK3 hK3=>?_;refine jK ((i : Int) < (ss.length : Int)) rfl (λhlt=>?_) (λhge=>?_)
   ·have hlt : i < ss.length:=by omega
    obtain ⟨s,hs⟩ : ∃ s,ss[i]? = some s:=⟨_,aX hlt⟩;have hn:=Ib hs;have hle:=QG ss (i + 1);have hnl:=congrArg List.length hn;rw [aI] at hnl;refine eW (hK3 _ ?_);refine dJ λK4 hK4=>?_;refine fB ?_;refine bS aD rfl λK5 hK5=>?_;refine qQ aD rfl rfl rfl i rfl hs rfl rfl (fX λ_ h _=>h.1) ?_;refine aR aD rfl ?_;refine bJ (hK5 _ ?_);refine tU ?_;refine aR aD rfl ?_;refine Ax aD 0 s.l (fe:=eY 32) rfl rfl rfl rfl rfl rfl rfl rfl rfl (fX λw h _=>h.2 s (gK hs)) (by decide) (by show (_ + _) * 32 <= _; omega) (by omega) (bZ _) λB' d'=>?_;rw [<-hn];refine aR aD rfl ?_;refine bJ (hK4 _ ?_);refine l7 aD rfl ?_;exact oK (i + 1,B',d') hlt (by show _ - (i + 1) < _ - i; omega) ⟨⟨congrArg some (congrArg SV.v (congrArg (eG .i64) (mD rfl (by omega) (by omega)))),rfl,rfl,rfl,trivial⟩,trivial,.refl _,λ_ h _=>h,λ_ h=>h⟩
   ·obtain rfl : ss.length = i:=by omega
    refine mT (fY (fY (qS ?_)));refine hK7 _ ?_;rw [iD];refine bB aD rfl ?_;exact eK (eR aD (B,d) rfl (by decide) rfl rfl rfl (λ_ _ _=>trivial) (λ_ _=>trivial))
noncomputable def nxE (ks : List (List UInt8)) (u : UV) : Nat:=if rA u = true then (if u.ver = (ks.length : Int) + 1 then 0 else 111) else 110
noncomputable def nxK (ks : List (List UInt8)) (u : UV) : List (List UInt8):=if nxE ks u = 0 then ks ++ [u.key] else []
abbrev nxQ (l : List (List UInt8)) (e : Nat) : wX KX:={ ret:=λx=>.t [.c (.v (.slice x.1 l.length x.2)),.c (.v (.int .i64 (e : Int)))],p:=λx=>Rd 32 (eY 32) x.1 x.2 l }
noncomputable abbrev nxP (ks : List (List UInt8)) (u : UV) : wX KX:=nxQ (nxK ks u) (nxE ks u)
theorem TC {A : Option Addr} {c : Nat} (ks : List (List UInt8)) {u : UV} (hu : u.Ok) (hl : ks.length <= 1000) : Spec 13 [.slice A ks.length c,(eU u).den] [] (λw=>Ta w /\ Rd 32 (eY 32) A c ks w) (nxP ks u):=by
 refine fD [.c (.v (.slice A ks.length c)),eU u] 21 Tryz.func13 rfl (by rw [Tryz.ntmps13]; rfl) (qE trivial hu.oY) λb=>?_;refine bB aD rfl ?_;refine dJ λK1 hK1=>?_;refine bS aD rfl λK2 hK2=>?_;refine eM [(eU u).den] rfl rfl rfl Ba rfl rfl (λ_ _=>rfl) (Ev hu) (λ_ h _=>h.1) λ_=>?_;refine aR aD rfl ?_;refine bJ (hK2 _ ?_);obtain ⟨sb,hsb⟩ : ∃ sb,rA u = sb:=⟨_,rfl⟩;rw [hsb];refine Vt (!sb) rfl (λh=>?_) (λh=>?_)
 ·have h1 : nxE ks u = 110:=by unfold nxE; rw [if_neg (by rw [hsb]; simpa using h)]
  have h2 : nxK ks u = []:=by unfold nxK; rw [h1]; rfl
  refine bB aD rfl ?_;exact eK (eR aD (none,0) rfl (by decide) rfl (by show RV.t [.c (.v (.slice none (nxK ks u).length 0)),.c (.v (.int .i64 (nxE ks u : Int)))] = _; rw [h1,h2]; rfl) rfl (λw _ _=>by show Rd 32 (eY 32) none 0 (nxK ks u) w; rw [h2]; exact Rd.nil _ _ _) (λ_ _=>trivial))
 have hst : sb = true:=by simpa using h
 refine eW (hK1 _ ?_);refine dJ λK3 hK3=>?_;refine bS aD rfl λK4 hK4=>?_;refine bJ (hK4 _ ?_);have hw : IntKind.i64.wrap ((ks.length : Int) + 1) = (ks.length : Int) + 1:=mD rfl (by omega) (by omega);refine jK (u.ver ≠ IntKind.i64.wrap ((ks.length : Int) + 1)) rfl (λh=>?_) (λh=>?_)
 ·have h1 : nxE ks u = 111:=by unfold nxE; rw [if_pos (by rw [hsb]; exact hst),if_neg (by rw [hw] at h; exact h)]
  have h2 : nxK ks u = []:=by unfold nxK; rw [h1]; rfl
  refine bB aD rfl ?_;exact eK (eR aD (none,0) rfl (by decide) rfl (by show RV.t [.c (.v (.slice none (nxK ks u).length 0)),.c (.v (.int .i64 (nxE ks u : Int)))] = _; rw [h1,h2]; rfl) rfl (λw _ _=>by show Rd 32 (eY 32) none 0 (nxK ks u) w; rw [h2]; exact Rd.nil _ _ _) (λ_ _=>trivial))
 have h1 : nxE ks u = 0:=by unfold nxE; rw [if_pos (by rw [hsb]; exact hst),if_pos (by rw [hw] at h; exact Decidable.of_not_not h)]
 have h2 : nxK ks u = ks ++ [u.key]:=by unfold nxK; rw [h1]; rfl
 refine eW (hK3 _ ?_);refine bS aD rfl λK5 hK5=>?_;refine pF aD 0 [u.key] (fe:=eY 32) rfl rfl rfl rfl rfl (λ_=>rfl) rfl (by decide) (by decide) (UH λl hl=>by rw [bK.1 hl]; exact hu.key) (bZ _) λB=>?_;refine tH 0 rfl ?_;refine pF aD 0 [⟨A,c,ks⟩,⟨B,1,[u.key]⟩] (fe:=eHs) rfl rfl rfl rfl rfl (λ_=>rfl) rfl (by decide) (by decide) (λs _=>Ww s) (bZ _) λD=>?_;refine tH 0 rfl ?_
 have e0 : flH [⟨A,c,ks⟩,⟨B,1,[u.key]⟩] = nxK ks u:=by rw [h2]; simp [flH]
 have hcc:=Re (A:=D) (c:=2) [⟨A,c,ks⟩,⟨B,1,[u.key]⟩] (by rw [e0,h2]; simp) (by rw [e0,h2]; simp; omega);rw [e0] at hcc
 refine eM [.slice D 2 2] rfl rfl rfl Fl rfl rfl (λ_ _=>rfl) hcc (λw h _=>⟨h.1,λs hs=>by
  rcases b7.1 hs with rfl | hs
  ·exact h.2.2.2.2
  ·rw [bK.1 hs]
   exact h.2.1⟩) λ⟨X,d⟩=>?_
 refine l_R [gA 0 27 32 (eY 32) X d (nxK ks u)] rfl ?_;refine tH 0 rfl ?_;refine aR aD rfl ?_;refine bJ (hK5 _ ?_);exact eK (eR aD (X,d) rfl (by decide) rfl (by show RV.t [.c (.v (.slice X (nxK ks u).length d)),.c (.v (.int .i64 (nxE ks u : Int)))] = _; rw [h1]; rfl) rfl (λw h _=>h.1) (λ_ _=>trivial))
theorem Lr {A : Option Addr} {c : Nat} {ks l : List (List UInt8)} {u : UV} {e : Nat} (he : nxE ks u = e) (hk : nxK ks u = l) (hu : u.Ok) (hl : ks.length <= 1000) : Spec 13 [.slice A ks.length c,(eU u).den] [] (λw=>Ta w /\ Rd 32 (eY 32) A c ks w) (nxQ l e):=by
 subst he hk;exact TC ks hu hl
def hB (x : UInt8) : List UInt8:=x :: aE 31 0
def hB2 (x y : UInt8) : List UInt8:=x :: y :: aE 30 0
theorem B8 (u : UV) : (eI u.parts).toList = By u.id ++ (.int .i64 u.ver :: (By u.key ++ By u.sig)):=by
 show (eI [Pt.agg 32 (By u.id).toArray,.one (.v (.int .i64 u.ver)),.agg 32 (By u.key).toArray,.agg 64 (By u.sig).toArray]).toList = _
 rw [gL,gL,gL,gL]
 simp [Pt.cells,eI,SC.den]
theorem Hk : Own 4:=λ_ _=>by go_simp
theorem Nm : Spec 4 [] [] Ta (one (.v (.bool true))):=by
 refine fD [] 49 Tryz.func4 rfl (by rw [Tryz.ntmps4]; rfl) (λ_ h=>by cases h) λb=>?_;have hm:=TD (seed:=hB 5) (key:=hB 6) 1 rfl rfl
 have hs : rA (mkH (hB 5) 1 (hB 6)) = true:=by rw [Jd]; decide
 have hv : (mkH (hB 5) 1 (hB 6)).ver = 1:=rfl;have hk : (mkH (hB 5) 1 (hB 6)).key = hB 6:=rfl;have hok : (mkH (hB 5) 1 (hB 6)).Ok:=VQ _ _ rfl;generalize mkH (hB 5) 1 (hB 6) = u at *
 have e1 : nxE [] u = 0:=by unfold nxE; rw [if_pos hs,if_pos (by rw [hv]; rfl)]
 have k1 : nxK [] u = [hB 6]:=by unfold nxK; rw [e1,hk]; rfl
 have e2 : nxE [hB 6] u = 111:=by unfold nxE; rw [if_pos hs,if_neg (by rw [hv]; decide)]
 have k2 : nxK [hB 6] u = []:=by unfold nxK; rw [e2]; rfl
 have hsg:=Ev hok;rw [hs] at hsg;have h9:=λA c=>H6 (A:=A) (c:=c) [];have h10:=λA c=>H6 (A:=A) (c:=c) [zH];have l9 : (B7 []).length = 32:=tL _;have l10 : (B7 [zH]).length = 32:=tL _;have hne:=Sb;generalize B7 [] = va at *;generalize B7 [zH] = vb at *;refine bB aD rfl ?_;refine bS aD rfl λK1 hK1=>?_;refine CL [(0,.v (.int .u8 5))] 32 (hB 5) rfl rfl rfl rfl rfl rfl rfl ?_;refine CL [(0,.v (.int .u8 6))] 32 (hB 6) rfl rfl rfl rfl rfl rfl rfl ?_;refine eM [.agg (By (hB 5)).toArray,.int .i64 1,.agg (By (hB 6)).toArray] rfl rfl rfl MX rfl rfl (λ_ _=>rfl) hm (λ_ h _=>h) λ_=>?_;refine aR aD rfl ?_;refine bJ (hK1 _ ?_);refine bS aD rfl λK2 hK2=>?_;refine eM [.slice none ([] : List (List UInt8)).length 0,(eU u).den] rfl rfl rfl Ef rfl rfl (λ_ _=>rfl) (Lr e1 k1 hok (by decide)) (λ_ h _=>⟨h.2,Rd.nil _ _ _⟩) λ⟨X,d⟩=>?_;refine aR aD rfl ?_;refine bJ (hK2 _ ?_);refine bS aD rfl λK3 hK3=>?_;refine eM [.slice X [hB 6].length d,(eU u).den] rfl rfl rfl Ef rfl rfl (λ_ _=>rfl) (Lr e2 k2 hok (by decide)) (λ_ h _=>⟨h.2.2,h.1⟩) λ⟨X2,d2⟩=>?_;refine aR aD rfl ?_;refine bJ (hK3 _ ?_);refine bS aD rfl λK4 hK4=>?_;refine eM [(eU u).den] rfl rfl rfl Ba rfl rfl (λ_ _=>rfl) hsg (λ_ h _=>h.2.2.2) λ_=>?_;refine tG 21 true rfl rfl ?_;refine aR aD rfl ?_;refine tG 26 true rfl rfl ?_;refine aR aD rfl ?_;refine tG 31 true rfl rfl ?_;refine aR aD rfl ?_;refine qQ aD rfl rfl rfl 0 rfl rfl rfl rfl (fX λ_ h _=>h.2.2.1) ?_;refine aR aD rfl ?_;refine CL [(0,.v (.int .u8 6))] 32 (hB 6) rfl rfl rfl rfl rfl rfl rfl ?_;refine aR aD rfl ?_;refine rR (.b (decide (hB 6 = hB 6))) trivial rfl rfl rfl (Sx rfl rfl rfl Tryz.underlying27 (by kernel_rfl) rfl rfl) ?_;refine aR aD rfl ?_;refine tG 38 true rfl (decide_eq_true rfl) ?_;refine aR aD rfl ?_;refine tG 42 true rfl rfl ?_;refine aR aD rfl ?_;refine eM [.slice none ([] : List (List UInt8)).length 0] rfl rfl rfl CA rfl rfl (λ_ _=>rfl) (h9 none 0) (λ_ h _=>⟨h.2.2.2.2,Rd.nil _ _ _⟩) λ_=>?_;refine aR aD rfl ?_;refine pF aD 0 [zH] (fe:=eY 32) rfl rfl rfl rfl rfl (λ_=>rfl) rfl (by decide) (by decide) (UH λl hl=>by rw [bK.1 hl]; rfl) (bZ _) λB=>?_;refine tH 0 rfl ?_;refine aR aD rfl ?_;refine eM [.slice B [zH].length 1] rfl rfl rfl CA rfl rfl (λ_ _=>rfl) (h10 B 1) (λ_ h _=>⟨h.2.2.2.2.2.2,h.1⟩) λ_=>?_;refine aR aD rfl ?_;refine rR (.b (!decide (va = vb))) trivial rfl rfl rfl (GJ rfl rfl rfl Tryz.underlying27 (by kernel_rfl) l9 l10) ?_;refine aR aD rfl ?_;refine tG 0 true rfl (by simp [hne]) ?_
 refine bJ (hK4 _ ?_);exact eK (eR aD () rfl (by decide) rfl rfl rfl (λ_ _ _=>trivial) (λ_ _=>trivial))
end Go.Proofs.YtfkchihlchlfdaaGreatDoor
