import Derived.Test.YtfkchihlchlfdaaGreatDoorMc
import Derived.Test.YtfkchihlchlfdaaGreatDoorMk
import Derived.Test.YtfkchihlchlfdaaGreatDoorMb
import Derived.Test.YtfkchihlchlfdaaGreatDoorMe
import Derived.StillTailTactics
import Derived.Test.YtfkchihlchlfdaaGreatDoorMa
import Derived.Test.YtfkchihlchlfdaaGreatDoorMg
set_option maxRecDepth 100000
set_option maxHeartbeats 8000000
open And renaming intro->a5
open Go.Act renaming put->aG
open Go.Builtin renaming zeroCells->pA,clear_->EM
open Go.IntKind renaming wrap_u64->aP,wrap_u8'->jM
open Go.Lib renaming hid->aL
open Go.Region renaming wanted->aN
open List renaming setIfInBounds_toArray->aA,set_cons_zero->aB,set_cons_succ->aC,replicate->aE,length_append->aI,append_assoc->aU,length_take->aY,take_succ_cons->a6,size_toArray->a9,length_replicate->bH,take_zero->bP,append_nil->bV,take_of_length_le->bW,map_cons->cA,length_cons->cC,take_append_drop->dR,length_set->eP,ext_getElem->fR,length_drop->fW,length_reverse->j9,flatten_cons->lY,drop_eq_getElem_cons->mK,take_succ_eq_append_getElem->o9,drop_zero->qX,getElem_mem->yJ,length_nil->AR,set_append_right->Bz,getElem_reverse->Dp,getElem_set->Ks,cons_append->Ku,drop_of_length_le->NH,drop_eq_nil_of_le->NI,getElem_set_self->NN
open Nat renaming le_refl->aH,blt->aQ,lt_of_lt_of_le->bM,mod_eq_of_lt->bR,lt_of_le_of_lt->bX,zero_add->cK,min_eq_left->cW,pow_succ->dD,mod_lt->eJ,le_of_lt->fJ,add_zero->fN,div_le_self->gD,div_div_eq_div_mul->iE,mul_comm->iH,pow_zero->mS,one_mul->rZ,add_mul->sA,sub_self->sT,div_one->sU,pow_le_pow_right->xK,mul_mod->xL,lt_trans->Ab,mul_zero->Ga
open UInt8 renaming ofNat->cR
namespace Go.Proofs.YtfkchihlchlfdaaGreatDoor
open Go.RowKit Go.IntWalk Nums
theorem qI (n : Nat) : (Tryz.prog.info? 93).map (·.size) = some (Us (ws n)).toArray.size:=fP _ (lD (fA n))
section
variable {ops : Array Oper} {C0 : World -> Prop} {Q : Act -> Prop} {N : Nat} {E : List (Nat × Value)} {o : Oper} {rest : List Oper} {k : Nat}
theorem FK {x : Operand} (b n : Nat) (hg : o.guard = none) (hd : o.dst = some k) (hk : aQ k N = true) (ho : o.op = .load 93 x) (hx : ev E x = some (.pointer (some ⟨b,0,none⟩)))
  (hc : ∀ w,C0 w -> w.rangeAt b 0 (Us (ws n))) (hn : bF Tryz.prog ops C0 Q rest N ((k,.agg (Us (ws n)).toArray) :: E)) : bF Tryz.prog ops C0 Q (o :: rest) N E :=
 Bj b 0 (Us (ws n)) _ hg hd hk ho hx hc Tryz.underlying93 rfl (by have:=qI n; simpa using this) hn
theorem QT {x : Operand} {l : List UInt8} (b : Nat) (hl : l.length = 64) (hg : o.guard = none) (hd : o.dst = some k) (hk : aQ k N = true) (ho : o.op = .load 38 x) (hx : ev E x = some (.pointer (some ⟨b,0,none⟩)))
  (hc : ∀ w,C0 w -> w.rangeAt b 0 (By l)) (hn : bF Tryz.prog ops C0 Q rest N ((k,.agg (By l).toArray) :: E)) : bF Tryz.prog ops C0 Q (o :: rest) N E :=
 Bj b 0 (By l) _ hg hd hk ho hx hc Tryz.underlying38 rfl (by rw [cD,hl]; kernel_rfl) hn
theorem mZ {x : Operand} (g : Nat) (hg : o.guard = none) (hd : o.dst = some k) (hk : aQ k N = true) (ho : o.op = .slice 27 x none none none) (hx : ev E x = some (.pointer (some ⟨g,0,none⟩)))
  (hn : bF Tryz.prog ops C0 Q rest N ((k,.slice (some ⟨g,0,none⟩) 32 32) :: E)) : bF Tryz.prog ops C0 Q (o :: rest) N E :=
 dP _ hg hd hk (λa ha w _=>by
  have h1:=ha.eval hx
  unfold execOp
  simp only [ho,h1]
  go_simp) hn
end
theorem wR {a : List UInt8} (ha : a.length = 32) : (cop z64 0 a).length = 64:=by rw [FP (by rw [Kv,ha]; decide),Kv]
theorem VU {a : List UInt8} (ha : a.length = 32) : le (cop z64 0 a) = le a:=by
 have e : cop z64 0 a = a ++ aE 32 0:=by
  rw [cop,ha]
  simp [z64]
 have e2 : le (aE 32 0) = 0:=by decide
 rw [e,mA,e2,Ga,fN]
theorem OR (w n x : Nat) (hn : n <= w) (hx : x < 2 ^ w) : x * 2 ^ (w - n) % 2 ^ w = x % 2 ^ n * 2 ^ (w - n) /\ x / 2 ^ n < 2 ^ (w - n):=by
 have e : (2 : Nat) ^ w = 2 ^ n * 2 ^ (w - n):=by rw [<-Nat.pow_add,Nat.add_sub_cancel' hn]
 refine ⟨?_,Nat.div_lt_of_lt_mul (by rw [<-e]; exact hx)⟩;rw [e,Nat.mul_mod_mul_right]
theorem oQ (x n : Nat) (hx : x < 18446744073709551616) (h0 : 0 < n) (hn : n < 64) (w : World) :
  Calls Tryz.prog 103 #[.int .u64 (x : Int),.int .i64 (-(n : Int))] w λe w'=>e = .returned (.int .u64 ((eD 64 n x : Nat) : Int)) /\ w' = w:=by
 have q1 : IntKind.u64.wrap (-(n : Int)) = ((18446744073709551616 - n : Nat) : Int):=by
  rw [aP]
  omega
 have q2 : bits .and .u64 ((18446744073709551616 - n : Nat) : Int) 63 = ((64 - n : Nat) : Int):=by
  have h:=u64_and_nat (18446744073709551616 - n) 63 (by omega) (by omega);have e : (18446744073709551616 - n) &&& 63 = (18446744073709551616 - n) % 64:=Nat.and_two_pow_sub_one_eq_mod _ 6;rw [e] at h
  have e2 : (18446744073709551616 - n) % 64 = 64 - n:=by omega
  rw [e2] at h;exact h
 obtain ⟨e1,e2⟩:=OR 64 n x (by omega) hx
 have q3 : IntKind.u64.wrap ((x : Int) * 2 ^ (64 - n)) = ((x % 2 ^ n * 2 ^ (64 - n) : Nat) : Int):=by
  rw [<-e1,aP]
  simp
 have q4 : IntKind.u64.wrap (64 - ((64 - n : Nat) : Int)) = (n : Int):=by
  rw [aP]
  omega
 have f1 : ((x : Int) / 2 ^ n) = ((x / 2 ^ n : Nat) : Int):=by simp
 have hm : x % 2 ^ n * 2 ^ (64 - n) < 18446744073709551616:=by
  rw [<-e1];exact eJ _ (by decide)
 have hd : x / 2 ^ n < 18446744073709551616:=bX (gD _ _) hx
 have q5 : bits .or .u64 ((x % 2 ^ n * 2 ^ (64 - n) : Nat) : Int) ((x / 2 ^ n : Nat) : Int) = ((eD 64 n x : Nat) : Int):=by
  rw [u64_or_nat _ _ hm hd,nat_join (64 - n) _ _ (Nat.mul_mod_left _ _) e2]
  unfold eD
  rw [Nat.add_comm]
 have g1 : ((64 - n : Nat) : Int) <= 64:=by omega
 have g2 : (n : Int) <= 64:=by omega
 clear e1 e2 hm hd;generalize eD 64 n x = r at *;generalize x % 2 ^ n * 2 ^ (64 - n) = m at *;generalize x / 2 ^ n = d at *;generalize hs : 64 - n = s at *;generalize 18446744073709551616 - n = u at *;clear hs
 go_enter Tryz.func103,Tryz.ntmps103
 go_wp2
 go_ret
 exact ⟨rfl,rfl⟩
theorem yN (cs : Array Value) (h : cs.size = 80) : (Tryz.prog.info? 105).map (·.size) = some cs.size:=by
 rw [h]
 kernel_rfl
def z80 : List Nat:=aE 80 0
theorem kH : z80.length = 80:=by decide
theorem RU (k : Nat) : z80[k]! = 0:=by
 unfold z80
 by_cases h : k < 80
 ·rw [getElem!_pos _ k (by rw [bH]; exact h),List.getElem_replicate]
 ·rw [getElem!_neg _ k (by rw [bH]; exact h)]
  rfl
theorem Fq {f : Nat -> Nat} {l : List Nat} {k j : Nat} (h : j < k) (hj : j < l.length) : (mxl f l k)[j]! = f j:=by
 rw [getElem!_pos _ j (by rw [eF]; exact hj)]
 simp [mxl,h]
theorem U1 : (Tryz.prog.info? 105).bind (λi=>i.zero.map (·.cells)) = some (Us z80).toArray:=by kernel_rfl
theorem OC {F : Nat -> Nat} {k : Nat} : (mxl F z80 k).set k 0 = mxl F z80 k:=by
 apply fR (by simp)
 intro i h1 h2
 rw [Ks]
 by_cases h : k = i
 ·subst h
  have h3 : k < 80:=by simpa [eF,kH] using h2
  rw [if_pos rfl];have:=zE F z80 (k:=k) (by rw [kH]; exact h3);rw [getElem!_pos _ k h2,RU] at this;exact this.symm
 ·rw [if_neg h]
structure LS (w wr : World) (b : List UInt8) (l : List Nat) : Prop where
  b0 : Blk wr w.heap.size 129 (By b).toArray
  b1 : Blk wr (w.heap.size + 1) 105 (Us z80).toArray
  b2 : Blk wr (w.heap.size + 1 + 1) 105 (Us l).toArray
  be : Below w.heap.size w wr
theorem LS.set {w wr : World} {b : List UInt8} {l : List Nat} (h : LS w wr b l) (k x : Nat) : LS w (wr.setCell ⟨w.heap.size + 1 + 1,k,none⟩ (.int .u64 (x : Int))) b (l.set k x) where
 b0:=h.b0.far (by show w.heap.size ≠ w.heap.size + 1 + 1; omega) _
 b1:=h.b1.far (by show w.heap.size + 1 ≠ w.heap.size + 1 + 1; omega) _
 b2:=by
  have h4:=h.b2.set k (.int .u64 (x : Int));rw [vJ] at h4;exact h4
 be:=h.be.setCell (by show w.heap.size <= w.heap.size + 1 + 1; omega) _
theorem LS.drew {w wr : World} {b : List UInt8} {l : List Nat} (h : LS w wr b l) : LS w wr.drew b l:=⟨h.b0,h.b1,h.b2,h.be.drew⟩
theorem M6 {b : List UInt8} (hb : b.length = 128) (w : World) :
  Calls Tryz.prog 102 #[.agg (By b).toArray] w λe w'=>e = .returned (.agg (Us (mxl (sx eT b) z80 80)).toArray) /\ Below w.heap.size w w':=by
 have hlt:=Gu eT b (by decide)
 have h16 : ∀ t,t < 16 -> sx eT b t = ben (λk=>(b[8 * t + k]!).toNat) 8:=λt ht=>by
  rw [sx,dif_pos ht]
  unfold IE
  rw [iH t]
  rfl
 have hrec : ∀ t,16 <= t -> sx eT b t = (pO 64 (19,61,6) (sx eT b (t - 2)) + sx eT b (t - 7) + pO 64 (1,8,7) (sx eT b (t - 15)) + sx eT b (t - 16)) % 18446744073709551616:=λt ht=>by
  rw [sx,dif_neg (by omega)]
  rfl
 have hl0:=qO (sx eT b) z80;generalize sx eT b = F at *
 go_enter Tryz.func102,Tryz.ntmps102
 refine wp_seq_k λK hK=>?_;refine wp_region_lit ?_;refine kI (By b).toArray rfl rfl rfl ?_;refine dV (zs:=(Us z80).toArray) rfl rfl U1 ?_;refine dX ?_
 go_simp
 refine hK _ _ ?_;clear hK K;refine wp_seq_k λK hK=>?_;refine wp_region_lit ?_;refine dV (zs:=(Us z80).toArray) rfl rfl U1 ?_;refine dX ?_
 go_simp
 refine hK _ _ ?_;clear hK K;refine p9 (λW=>LS w W b z80) ⟨nK w _ _ _ _,lW w _ _ _ _,mG w _ _ _ _,(((Below.refl _ _).alloc (aH _) _).alloc (by simp) _).alloc (by simp; omega) _⟩ ?_
 intro W hW
 have HW:=aL hW;clear hW
 go_wp2
 go_loopw [12] (λi wr=>∃ t : Nat,t <= 16 /\ i = .int .i64 t /\ LS w wr b (mxl F z80 t)) (λi _=>16 - (intOf i).toNat)
 case atStart =>
  refine ⟨0,by omega,rfl,?_⟩;rw [hl0];exact HW.out
 case round =>
  clear HW;obtain ⟨t,ht,rfl,hS⟩:=hrel
  by_cases htl : t < 16
  ·have hF:=h16 t htl
   have hset:=nG F z80 (k:=t);have hz:=OC (F:=F) (k:=t)
   have qA : IntKind.i64.wrap (8 * (t : Int)) = ((8 * t : Nat) : Int):=by rw [i64_left,wrap64_in _ (by omega)]; omega
   have qB : IntKind.i64.wrap (((8 * t : Nat) : Int) + 8) = ((8 * t + 8 : Nat) : Int):=by rw [i64_left,wrap64_in _ (by omega)]; omega
   have g1 : ((8 * t + 8 : Nat) : Int) <= 128:=by omega
   have g2 : ((8 * t : Nat) : Int) <= ((8 * t + 8 : Nat) : Int):=by omega
   have g3 : (0 : Int) <= ((8 * t : Nat) : Int):=by omega
   have g4 : (0 : Int) <= (t : Int):=by omega
   have HS:=aL hS;clear hS
   have hd : 8 * t + 8 - 8 * t = 8:=by omega
   have hA56 : 8 * t <= 120:=by omega
   generalize hA8 : 8 * t + 8 = A8 at *;generalize hA : 8 * t = A at *;clear hA8 h16 hrec
   go_wp2
   go_loopw [22] (λj wq=>∃ n : Nat,n <= 8 /\ j = .int .i64 n /\ LS w wq b ((mxl F z80 t).set t (ben (λk=>(b[A + k]!).toNat) n))) (λj _=>8 - (intOf j).toNat)
   case atStart =>
    refine ⟨0,by omega,rfl,?_⟩;have e0 : ben (λk=>(b[A + k]!).toNat) 0 = 0:=rfl;rw [e0,hz];exact HS.out
   case round =>
    clear HS;obtain ⟨n,hn,rfl,hS⟩:=hrel
    by_cases hnl : n < 8
    ·have hN:=hS.set t (ben (λk=>(b[A + k]!).toNat) (n + 1))
     rw [List.set_set] at hN;have hB : ben (λk=>(b[A + k]!).toNat) (n + 1) = ben (λk=>(b[A + k]!).toNat) n * 256 + (b[A + n]!).toNat:=rfl;have hy:=FU (f:=λk=>(b[A + k]!).toNat) (λj=>UInt8.toNat_lt _) n;have hy2 : (256 : Nat) ^ n <= 256 ^ 7:=xK (by decide) (by omega);have hx:=(b[A + n]!).toNat_lt;have c0:=(hS.b0.cell (A + n)).trans (gJ (by omega));have c1:=(hS.b2.cell t).trans (iY (by rw [eP,eF,kH]; omega))
     have e1 : ((mxl F z80 t).set t (ben (λk=>(b[A + k]!).toNat) n))[t]! = ben (λk=>(b[A + k]!).toNat) n:=by
      rw [getElem!_pos _ t (by rw [eP,eF,kH]; omega),NN]
     rw [e1] at c1;have f1:=hS.b2.free t;generalize ben (λk=>(b[A + k]!).toNat) n = y at *;generalize (b[A + n]!).toNat = x at *
     have hyx : y * 256 + x < 18446744073709551616:=by
      have : (256 : Nat) ^ 7 = 72057594037927936:=by decide
      omega
     have qo : bits .or .u64 ((y : Int) * 256) (x : Int) = ((y * 256 + x : Nat) : Int):=by
      have h:=orW 8 (y * 256) x (by omega) (by omega) (by omega) (by omega);rw [<-h]
      rfl
     have g5 : (0 : Int) <= (n : Int):=by omega
     rw [hB] at hN;have HB:=aL hB;generalize y * 256 + x = v at *;have HN:=aL hN
     have hy3 : y < 72057594037927936:=by
      have : (256 : Nat) ^ 7 = 72057594037927936:=by decide
      omega
     clear hS hN hB hy hy2 e1 hset hz hF
     go_wp2
     go_roundw
     case rel =>
      refine ⟨n + 1,by omega,by go_num,?_⟩;rw [HB.out];exact HN.out
     case measure=>simp [intOf]; omega
    ·obtain rfl : n = 8:=by omega
     rw [<-hF,hset] at hS;have HS:=aL hS;clear hS hF hset hz
     go_wp2
     go_roundw
     case rel=>exact ⟨t + 1,by omega,by go_num,HS.out⟩
     case measure=>simp [intOf]; omega
  ·obtain rfl : t = 16:=by omega
   have HS:=aL hS;clear hS;rw [show ((16 : Nat) : Int) = (16 : Int) from rfl]
   go_wp2
   go_loopw [7] (λi wr=>∃ t : Nat,16 <= t /\ t <= 80 /\ i = .int .i64 t /\ LS w wr b (mxl F z80 t)) (λi _=>80 - (intOf i).toNat)
   case atStart=>exact ⟨16,by omega,by omega,rfl,HS.out⟩
   case round =>
    clear HS;obtain ⟨t,h16t,ht,rfl,hS⟩:=hrel
    by_cases htl : t < 80
    ·have hF:=hrec t h16t
     have hN:=hS.drew.set t (F t);rw [nG] at hN;have k2:=(hS.b2.cell (t - 2)).trans (iY (by rw [eF,kH]; omega));have k7:=(hS.drew.drew.b2.cell (t - 7)).trans (iY (by rw [eF,kH]; omega));have k15:=(hS.b2.cell (t - 15)).trans (iY (by rw [eF,kH]; omega));have k16:=(hS.drew.drew.b2.cell (t - 16)).trans (iY (by rw [eF,kH]; omega));rw [Fq (by omega) (by rw [kH]; omega)] at k2 k7 k15 k16;have kf:=hS.drew.drew.b2.free t;have kt:=(hS.drew.drew.b2.cell t).trans (iY (by rw [eF,kH]; omega));have x2 : F (t - 2) < 18446744073709551616:=hlt (t - 2);have x7 : F (t - 7) < 18446744073709551616:=hlt (t - 7);have x15 : F (t - 15) < 18446744073709551616:=hlt (t - 15);have x16 : F (t - 16) < 18446744073709551616:=hlt (t - 16)
     have i2 : IntKind.i64.wrap ((t : Int) - 2) = ((t - 2 : Nat) : Int):=by rw [i64_left,wrap64_in _ (by omega)]; omega
     have i7 : IntKind.i64.wrap ((t : Int) - 7) = ((t - 7 : Nat) : Int):=by rw [i64_left,wrap64_in _ (by omega)]; omega
     have i15 : IntKind.i64.wrap ((t : Int) - 15) = ((t - 15 : Nat) : Int):=by rw [i64_left,wrap64_in _ (by omega)]; omega
     have i16 : IntKind.i64.wrap ((t : Int) - 16) = ((t - 16 : Nat) : Int):=by rw [i64_left,wrap64_in _ (by omega)]; omega
     have j2 : ((t - 2 : Nat) : Int) < 80:=by omega
     have j7 : ((t - 7 : Nat) : Int) < 80:=by omega
     have j15 : ((t - 15 : Nat) : Int) < 80:=by omega
     have j16 : ((t - 16 : Nat) : Int) < 80:=by omega
     generalize (mxl F z80 t)[t]! = old at *;generalize F (t - 2) = x at *;generalize F (t - 7) = p at *;generalize F (t - 15) = y at *;generalize F (t - 16) = q at *;generalize t - 2 = a2 at *;generalize t - 7 = a7 at *;generalize t - 15 = a15 at *;generalize t - 16 = a16 at *;have b1:=eL (w:=64) (n:=19) (x:=x) (by decide) x2;have b2:=eL (w:=64) (n:=61) (x:=x) (by decide) x2;have b3:=eL (w:=64) (n:=1) (x:=y) (by decide) x15;have b4:=eL (w:=64) (n:=8) (x:=y) (by decide) x15;have R1:=λw1=>aL (oQ x 19 x2 (by decide) (by decide) w1);have R2:=λw1=>aL (oQ x 61 x2 (by decide) (by decide) w1);have R3:=λw1=>aL (oQ y 1 x15 (by decide) (by decide) w1);have R4:=λw1=>aL (oQ y 8 x15 (by decide) (by decide) w1);have s1 : pO 64 (19,61,6) x = eD 64 19 x ^^^ eD 64 61 x ^^^ x / 64:=rfl;have s0 : pO 64 (1,8,7) y = eD 64 1 y ^^^ eD 64 8 y ^^^ y / 128:=rfl;rw [s1,s0] at hF;generalize eD 64 19 x = r1 at *;generalize eD 64 61 x = r2 at *;generalize eD 64 1 y = r3 at *;generalize eD 64 8 y = r4 at *
     have d6 : (x : Int) / 64 = ((x / 64 : Nat) : Int):=by omega
     have d7 : (y : Int) / 128 = ((y / 128 : Nat) : Int):=by omega
     have hd6 : x / 64 < 18446744073709551616:=by omega
     have hd7 : y / 128 < 18446744073709551616:=by omega
     generalize x / 64 = u6 at *;generalize y / 128 = u7 at *;have o1:=u64_xor_nat r1 r2 b1 b2;have o2:=u64_xor_nat (r1 ^^^ r2) u6 (gY b1 b2) hd6;have o3:=u64_xor_nat r3 r4 b3 b4;have o4:=u64_xor_nat (r3 ^^^ r4) u7 (gY b3 b4) hd7;have c1:=gY (gY b1 b2) hd6;have c0:=gY (gY b3 b4) hd7;generalize r1 ^^^ r2 ^^^ u6 = v1 at *;generalize r3 ^^^ r4 ^^^ u7 = v0 at *;generalize r1 ^^^ r2 = v2 at *;generalize r3 ^^^ r4 = v3 at *
     have w1 : IntKind.u64.wrap ((v1 : Int) + (p : Int)) = (((v1 + p) % 18446744073709551616 : Nat) : Int):=by rw [aP]; omega
     have w2 : IntKind.u64.wrap ((((v1 + p) % 18446744073709551616 : Nat) : Int) + (v0 : Int)) = ((((v1 + p) % 18446744073709551616 + v0) % 18446744073709551616 : Nat) : Int):=by rw [aP]; omega
     have w3 : IntKind.u64.wrap (((((v1 + p) % 18446744073709551616 + v0) % 18446744073709551616 : Nat) : Int) + (q : Int)) = ((F t : Nat) : Int):=by rw [hF,aP]; omega
     have HN:=aL hN;clear hS hN hF s1 s0 b1 b2 b3 b4 hd6 hd7 c1 c0;generalize ((v1 + p) % 18446744073709551616 + v0) % 18446744073709551616 = v5 at *;generalize (v1 + p) % 18446744073709551616 = v4 at *;generalize F t = z at *
     go_wp2
     go_region
     clear k2 k15;generalize wr.drew = W2 at *
     go_wp2_with (fail)
     refine (R1 _).out.mono ?_
     rintro e w4 ⟨rfl,rfl⟩
     go_wp2_with (fail)
     refine (R2 _).out.mono ?_
     rintro e w4 ⟨rfl,rfl⟩
     go_wp2_with (fail)
     refine (R3 _).out.mono ?_
     rintro e w4 ⟨rfl,rfl⟩
     go_wp2_with (fail)
     refine (R4 _).out.mono ?_
     rintro e w4 ⟨rfl,rfl⟩
     go_wp2_with (fail)
     go_still_tail 15,(by kernel_rfl)
     go_wp2
     go_roundw
     case rel=>exact ⟨t + 1,by omega,by omega,by go_num,HN.out.drew⟩
     case measure=>simp [intOf]; omega
    ·obtain rfl : t = 80:=by omega
     obtain ⟨b0,b1,b2,be⟩:=hS
     have hz : (Us (mxl F z80 80)).toArray.size = 80:=by rw [a9,dB,eF,kH]
     clear b0
     go_wp2_with (first
      | (refine wpList_load_row rfl 105 _ rfl (w.heap.size + 1 + 1) rfl 105 (Us (mxl F z80 80)).toArray (0,0) _ b2 Tryz.underlying105 rfl (yN _ hz) ?_)
      | (refine wpList_store_row rfl 105 _ _ rfl (w.heap.size + 1) rfl (Us (mxl F z80 80)).toArray rfl 105 _ b1 (yN _ hz) (by rw [hz,a9,dB,kH]) (cO _) ?_))
     refine bodyPost_ret (results_cell_row rfl _ _ (w.heap.size + 1) 105 (Us (mxl F z80 80)).toArray (0,0) _ rfl (b1.row _) Tryz.underlying105 rfl (yN _ hz)) rfl ⟨rfl,?_⟩;exact below_setRow be (by omega) _
theorem Hh : Own 102:=λ_ _=>by go_simp
theorem qZ (cs : Array Value) (h : cs.size = 8) : (Tryz.prog.info? 100).map (·.size) = some cs.size:=by
 rw [h]
 kernel_rfl
theorem D0 (cs : Array Value) (h : cs.size = 128) : (Tryz.prog.info? 129).map (·.size) = some cs.size:=by
 rw [h]
 kernel_rfl
theorem Hz {l : List UInt8} (h : l.length = 128) : (By l).toArray.size = 128:=by rw [a9,cD,h]
def z8w : Array Value:=(Us [0,0,0,0,0,0,0,0]).toArray
structure Ts (w : World) : Prop where
  cell : ∀ i,i < 80 -> w.cell? ⟨1,i,none⟩ = some (.int .u64 (cbs[i]! : Nat))
  lt : 1 < w.heap.size
theorem Ts.below {w w' : World} (h : Ts w) (hb : Below w.heap.size w w') : Ts w' :=
 ⟨λi hi=>(hb.cell (p:=⟨1,i,none⟩) h.lt).trans (h.cell i hi),bM h.lt hb.size⟩
theorem Ts.drew {w : World} (h : Ts w) : Ts w.drew:=⟨h.cell,h.lt⟩
theorem Rg {t : Nat} (h : t < 80) : cbs[t]! < 18446744073709551616:=by
 have h1 : ∀ x ∈ cbs,x < 18446744073709551616:=by decide
 have h2 : t < cbs.length:=h;rw [getElem!_pos cbs t h2];exact h1 _ (yJ _)
section
variable {ops : Array Oper} {C0 : World -> Prop} {Q : Act -> Prop} {a : Act} {o : Oper} {rest : List Oper}
theorem Uo {l : List UInt8} (g : Nat) (hl : l.length = 128) (x : Operand) (hg : aN o (yielded ops a.tmps) = true) (ho : o.op = .load 129 x) (hx : a.eval x = .pointer (some ⟨g,0,none⟩))
  (hc : ∀ w,C0 w -> Blk w g 129 (By l).toArray) (hk : wpB Tryz.prog ops C0 Q rest (a.put o.dst (.agg (By l).toArray))) : wpB Tryz.prog ops C0 Q (o :: rest) a :=
 zU hg 129 x ho g 0 hx (By l) _ (λw h=>(hc w h).range) Tryz.underlying129 rfl (D0 (By l).toArray (Hz hl)) hk
theorem vH {x : Operand} (g k : Nat) (hk8 : k < 8) (hg : aN o (yielded ops a.tmps) = true) (ho : o.op = .indexAddr 100 x (.const (.int .i64 (k : Int)))) (hx : a.eval x = .pointer (some ⟨g,0,none⟩))
  (hk : wpB Tryz.prog ops C0 Q rest (a.put o.dst (.pointer (some ⟨g,k,none⟩)))) : wpB Tryz.prog ops C0 Q (o :: rest) a :=
 k5 hg (λw _=>by
  have h1 : (k : Int) < 8:=by omega
  have h2 : (0 : Int) <= (k : Int):=by omega
  unfold execOp
  simp only [ho,hx]
  go_simp) hk
theorem rI {x : Operand} (g k v : Nat) (hg : aN o (yielded ops a.tmps) = true) (ho : o.op = .load 48 x) (hx : a.eval x = .pointer (some ⟨g,k,none⟩)) (hc : ∀ w,C0 w -> w.cell? ⟨g,k,none⟩ = some (.int .u64 (v : Int)))
  (hk : wpB Tryz.prog ops C0 Q rest (a.put o.dst (.int .u64 (v : Int)))) : wpB Tryz.prog ops C0 Q (o :: rest) a :=
 k5 hg (λw hw=>by
  have h1:=hc w hw
  unfold execOp
  simp only [ho,hx]
  go_simp) hk
theorem gM {x : Operand} (v : Value) (hg : aN o (yielded ops a.tmps) = true) (ho : o.op = .assign x) (hx : a.eval x = v) (hk : wpB Tryz.prog ops C0 Q rest (a.put o.dst v)) : wpB Tryz.prog ops C0 Q (o :: rest) a:=by
 subst hx;exact IK hg ho hk
end
theorem Xv {e : Nat} (he : e < 18446744073709551616) : bits .xor .u64 (if IntKind.u64.signed = true then -1 else IntKind.u64.max) (e : Int) = ((2 ^ 64 - 1 - e : Nat) : Int):=by
 have h:=u64_xor_nat 18446744073709551615 e (by omega) he
 have h2 : 18446744073709551615 ^^^ e = 2 ^ 64 - 1 - e:=by
  apply Nat.eq_of_testBit_eq
  intro i
  rw [show 2 ^ 64 - 1 - e = 2 ^ 64 - (e + 1) by omega,Nat.testBit_two_pow_sub_succ he,Nat.testBit_xor,show 18446744073709551615 = 2 ^ 64 - 1 from rfl,Nat.testBit_two_pow_sub_one]
  by_cases hi : i < 64
  ·simp [hi]
  ·have h3 : e.testBit i = false:=Nat.testBit_lt_two_pow (bM he (xK (n:=2) (by decide) (show 64 <= i by omega)))
   simp [hi,h3]
 rw [h2] at h;exact h
structure TS5 (w wr : World) (o : Oct) (gx : Nat) (l : List Nat) : Prop where
  b0 : Blk wr w.heap.size 100 (Us o.list).toArray
  b2 : Blk wr (w.heap.size + 1 + 1) 100 z8w
  bx : Blk wr gx 105 (Us l).toArray
  tw : Ts wr
  be : Below w.heap.size w wr
theorem TS5.up {w wr w1 : World} {o : Oct} {gx : Nat} {l : List Nat} (h : TS5 w wr o gx l) (k : Up wr w1) : TS5 w w1 o gx l:=⟨k.blk h.b0,k.blk h.b2,k.blk h.bx,h.tw.below k,bA h.be k⟩
theorem TS5.drew {w wr : World} {o : Oct} {gx : Nat} {l : List Nat} (h : TS5 w wr o gx l) : TS5 w wr.drew o gx l:=⟨h.b0,h.b2,h.bx,h.tw.drew,h.be.drew⟩
theorem Mi {o : Oct} (ho : OB 64 o) {b : List UInt8} (hb : b.length = 128) (w : World) (hT : Ts w) :
  Calls Tryz.prog 82 #[.agg (Us o.list).toArray,.agg (By b).toArray] w λe w'=>e = .returned (.agg (Us (iT eT o b).list).toArray) /\ Below w.heap.size w w':=by
 have HL:=λw1=>M6 hb w1;have hxl : ∀ t,t < 80 -> (mxl (sx eT b) z80 80)[t]! = sx eT b t:=λt h=>Fq h (by rw [kH]; exact h);have hxb:=Gu eT b (by decide)
 have hxn : (mxl (sx eT b) z80 80).length = 80:=by rw [eF,kH]
 have hO:=λt=>OB.oI (s:=eT) (b:=b) ho t;have hstep : ∀ t,oI eT b o (t + 1) = rnd eT (cbs[t]!) (sx eT b t) (oI eT b o t):=λt=>rfl;have h0 : oI eT b o 0 = o:=rfl;have hend : iT eT o b = Di 64 o (oI eT b o 80):=rfl;rw [hend];clear hend
 have hzx : (Us (mxl (sx eT b) z80 80)).toArray.size = 80:=by rw [a9,dB,hxn]
 generalize mxl (sx eT b) z80 80 = l at *;generalize sx eT b = F at *;generalize oI eT b o = R at *
 go_enter Tryz.func82,Tryz.ntmps82
 refine wp_seq_k λK hK=>?_;refine wp_region_lit ?_;refine kI (Us o.list).toArray rfl rfl rfl ?_;refine kI (By b).toArray rfl rfl rfl ?_;refine dV (zs:=z8w) rfl rfl (by kernel_rfl) ?_;refine dX ?_
 go_simp
 refine hK _ _ ?_;clear hK K;refine p9 (λW=>Blk W w.heap.size 100 (Us o.list).toArray /\ Blk W (w.heap.size + 1) 129 (By b).toArray /\ Blk W (w.heap.size + 1 + 1) 100 z8w /\ Ts W /\ Below w.heap.size w W) ⟨nK w _ _ _ _,lW w _ _ _ _,mG w _ _ _ _,hT.below ((((Below.refl _ _).alloc (aH _) _).alloc (by simp) _).alloc (by simp; omega) _),(((Below.refl _ _).alloc (aH _) _).alloc (by simp) _).alloc (by simp; omega) _⟩ ?_
 rintro W ⟨k0,k1,k2,hTW,hbe⟩
 refine wp_seq_k λK hK=>?_;refine sE 2 5 105 (.tmp 20) (Us z80).toArray rfl rfl rfl rfl rfl rfl rfl (dE rfl U1) ?_;simp only [a6,bP];refine Uo (w.heap.size + 1) hb _ rfl rfl rfl (λ_ h=>h.blk k1) ?_;simp only [aG,aA,aB,aC];refine kE rfl Hh (λw1=>HL w1) rfl rfl ?_;simp only [aG,aA,aB,aC];refine cQ ⟨(Us l).toArray,λ_=>rfl,λ_=>rfl,by rw [hzx,a9,dB,kH],yN _ hzx,cO _,λgx W3 hgx hw1 hbx=>?_⟩;simp only [Exit.then,aG,aA,aB,aC];refine hK _ _ ?_;clear hK K;have hS : TS5 w W3 o gx l:=⟨hw1.blk k0,hw1.blk k2,hbx,hTW.below hw1,bA hbe hw1⟩;clear k0 k1 k2 hTW hbe hw1 hbx HL hT;have hb0:=hS.b0;have HS:=aL (a5 hS h0);clear hS h0;refine wp_seq_k λK hK=>?_;refine yW (by kernel_rfl) (cJ (by kernel_rfl)) (λ_ _ d _ _ h=>by cases d <;> exact h) ?_;refine vH w.heap.size 0 (by decide) rfl rfl rfl ?_;simp only [aG,aA,aB,aC];refine rI w.heap.size 0 o.a rfl rfl rfl (λ_ h=>(h.blk hb0).cell 0) ?_;simp only [aG,aA,aB,aC];refine vH w.heap.size 1 (by decide) rfl rfl rfl ?_;simp only [aG,aA,aB,aC];refine rI w.heap.size 1 o.b rfl rfl rfl (λ_ h=>(h.blk hb0).cell 1) ?_;simp only [aG,aA,aB,aC];refine vH w.heap.size 2 (by decide) rfl rfl rfl ?_;simp only [aG,aA,aB,aC];refine rI w.heap.size 2 o.c rfl rfl rfl (λ_ h=>(h.blk hb0).cell 2) ?_;simp only [aG,aA,aB,aC];refine vH w.heap.size 3 (by decide) rfl rfl rfl ?_;simp only [aG,aA,aB,aC];refine rI w.heap.size 3 o.d rfl rfl rfl (λ_ h=>(h.blk hb0).cell 3) ?_;simp only [aG,aA,aB,aC];refine vH w.heap.size 4 (by decide) rfl rfl rfl ?_;simp only [aG,aA,aB,aC];refine rI w.heap.size 4 o.e rfl rfl rfl (λ_ h=>(h.blk hb0).cell 4) ?_;simp only [aG,aA,aB,aC];refine vH w.heap.size 5 (by decide) rfl rfl rfl ?_;simp only [aG,aA,aB,aC];refine rI w.heap.size 5 o.f rfl rfl rfl (λ_ h=>(h.blk hb0).cell 5) ?_;simp only [aG,aA,aB,aC];refine vH w.heap.size 6 (by decide) rfl rfl rfl ?_
 simp only [aG,aA,aB,aC];refine rI w.heap.size 6 o.g rfl rfl rfl (λ_ h=>(h.blk hb0).cell 6) ?_;simp only [aG,aA,aB,aC];refine vH w.heap.size 7 (by decide) rfl rfl rfl ?_;simp only [aG,aA,aB,aC];refine rI w.heap.size 7 o.h rfl rfl rfl (λ_ h=>(h.blk hb0).cell 7) ?_;simp only [aG,aA,aB,aC];refine gM (.int .u64 (o.a : Int)) rfl rfl rfl ?_;simp only [aG,aA,aB,aC];refine gM (.int .u64 (o.b : Int)) rfl rfl rfl ?_;simp only [aG,aA,aB,aC];refine gM (.int .u64 (o.c : Int)) rfl rfl rfl ?_;simp only [aG,aA,aB,aC];refine gM (.int .u64 (o.d : Int)) rfl rfl rfl ?_;simp only [aG,aA,aB,aC];refine gM (.int .u64 (o.e : Int)) rfl rfl rfl ?_;simp only [aG,aA,aB,aC];refine gM (.int .u64 (o.f : Int)) rfl rfl rfl ?_;simp only [aG,aA,aB,aC];refine gM (.int .u64 (o.g : Int)) rfl rfl rfl ?_;simp only [aG,aA,aB,aC];refine gM (.int .u64 (o.h : Int)) rfl rfl rfl ?_;simp only [aG,aA,aB,aC];refine cQ ?_
 intro W4 hw1
 simp only [Exit.then];refine hK _ _ ?_;clear hK K hb0;have HS:=aL (a5 (HS.out.1.up hw1) HS.out.2);clear hw1
 go_wp2
 go_loopw [37,6,7,8,9,10,11,12,13] (λi va vb vc vd ve vf vg vh wr=>∃ t : Nat,t <= 80 /\ i = .int .i64 t /\ va = .int .u64 (R t).a /\ vb = .int .u64 (R t).b /\ vc = .int .u64 (R t).c /\ vd = .int .u64 (R t).d /\ ve = .int .u64 (R t).e /\ vf = .int .u64 (R t).f /\ vg = .int .u64 (R t).g /\ vh = .int .u64 (R t).h /\ TS5 w wr o gx l) (λi _ _ _ _ _ _ _ _ _=>80 - (intOf i).toNat)
 case atStart =>
  obtain ⟨hS,h0⟩:=HS.out;refine ⟨0,by omega,rfl,?_⟩;rw [h0];exact ⟨rfl,rfl,rfl,rfl,rfl,rfl,rfl,rfl,hS⟩
 case round =>
  clear HS;obtain ⟨t,ht,rfl,rfl,rfl,rfl,rfl,rfl,rfl,rfl,rfl,hS⟩:=hrel
  by_cases htl : t < 80
  ·have hs:=hstep t
   obtain ⟨ba,bb,bc,bd,be,bf,bg,bh⟩:=hO t;have hX : F t < 18446744073709551616:=hxb t;have hKt:=Rg htl;have cx:=(hS.drew.bx.cell t).trans (iY (by omega));rw [hxl t htl] at cx;have ck:=hS.drew.tw.cell t htl;generalize R t = q at *;obtain ⟨a,b',c,d,e,f,g,h⟩:=q;generalize F t = X at *;generalize cbs[t]! = Kt at *
   dsimp only at ba bb bc bd be bf bg bh ⊢
   have e1 : pI 64 (14,18,41) e = eD 64 14 e ^^^ eD 64 18 e ^^^ eD 64 41 e:=rfl;have e0 : pI 64 (28,34,39) a = eD 64 28 a ^^^ eD 64 34 a ^^^ eD 64 39 a:=rfl;have r1:=eL (w:=64) (n:=14) (x:=e) (by decide) be;have r2:=eL (w:=64) (n:=18) (x:=e) (by decide) be;have r3:=eL (w:=64) (n:=41) (x:=e) (by decide) be;have r4:=eL (w:=64) (n:=28) (x:=a) (by decide) ba;have r5:=eL (w:=64) (n:=34) (x:=a) (by decide) ba;have r6:=eL (w:=64) (n:=39) (x:=a) (by decide) ba;have R1:=λw1=>aL (oQ e 14 be (by decide) (by decide) w1);have R2:=λw1=>aL (oQ e 18 be (by decide) (by decide) w1);have R3:=λw1=>aL (oQ e 41 be (by decide) (by decide) w1);have R4:=λw1=>aL (oQ a 28 ba (by decide) (by decide) w1);have R5:=λw1=>aL (oQ a 34 ba (by decide) (by decide) w1);have R6:=λw1=>aL (oQ a 39 ba (by decide) (by decide) w1);have hnew : rnd eT Kt X ⟨a,b',c,d,e,f,g,h⟩ = ⟨(h + pI 64 (14,18,41) e + chw 64 e f g + Kt + X + (pI 64 (28,34,39) a + maw a b' c)) % 18446744073709551616,a,b',c,(d + (h + pI 64 (14,18,41) e + chw 64 e f g + Kt + X)) % 18446744073709551616,e,f,g⟩:=rfl;rw [hnew] at hs;clear hnew;have u1:=wV (w:=64) (t:=(14,18,41)) (x:=e) (by decide) be;have u0:=wV (w:=64) (t:=(28,34,39)) (x:=a) (by decide) ba;have uc:=Kf (w:=64) (e:=e) (f:=f) (g:=g) be;have um:=JN (w:=64) (a:=a) (b:=b') (c:=c) ba bb;have x1:=u64_xor_nat _ _ r1 r2;have x2:=u64_xor_nat _ _ (gY r1 r2) r3;have x3:=u64_xor_nat _ _ r4 r5;have x4:=u64_xor_nat _ _ (gY r4 r5) r6;rw [<-e1] at x2;rw [<-e0] at x4;generalize pI 64 (14,18,41) e = s1 at *;generalize pI 64 (28,34,39) a = s0 at *;generalize eD 64 14 e ^^^ eD 64 18 e = y1 at *;generalize eD 64 28 a ^^^ eD 64 34 a = y0 at *;generalize eD 64 14 e = p1 at *;generalize eD 64 18 e = p2 at *;generalize eD 64 41 e = p3 at *;generalize eD 64 28 a = p4 at *;generalize eD 64 34 a = p5 at *;generalize eD 64 39 a = p6 at *;have n1:=u64_and_nat e f be bf;have n2:=u64_and_nat (2 ^ 64 - 1 - e) g (by omega) bg;have n3 : bits .xor .u64 ((e &&& f : Nat) : Int) (((2 ^ 64 - 1 - e) &&& g : Nat) : Int) = ((chw 64 e f g : Nat) : Int):=u64_xor_nat _ _ (iC (w:=64) be) (iC (w:=64) (bX (Nat.sub_le (2 ^ 64 - 1) e) (by decide)));have n4:=u64_and_nat a b' ba bb;have n5:=u64_and_nat a c ba bc;have n6:=u64_and_nat b' c bb bc;have n7:=u64_xor_nat (a &&& b') (a &&& c) (iC ba) (iC ba);have n8 : bits .xor .u64 (((a &&& b') ^^^ (a &&& c) : Nat) : Int) ((b' &&& c : Nat) : Int) = ((maw a b' c : Nat) : Int):=u64_xor_nat _ _ (gY (iC ba) (iC ba)) (iC bb);generalize chw 64 e f g = ch at *;generalize maw a b' c = ma at *;generalize (a &&& b') ^^^ (a &&& c) = m4 at *;generalize a &&& b' = m1 at *;generalize a &&& c = m2 at *
   generalize b' &&& c = m3 at *;generalize e &&& f = m5 at *;generalize (2 ^ 64 - 1 - e) &&& g = m6 at *;have nn:=Xv be;generalize 2 ^ 64 - 1 - e = ne at *;obtain ⟨q1,hq1⟩ : ∃ z,z = (h + s1) % 18446744073709551616:=⟨_,rfl⟩;obtain ⟨q2,hq2⟩ : ∃ z,z = (q1 + ch) % 18446744073709551616:=⟨_,rfl⟩;obtain ⟨q3,hq3⟩ : ∃ z,z = (q2 + Kt) % 18446744073709551616:=⟨_,rfl⟩;obtain ⟨q4,hq4⟩ : ∃ z,z = (q3 + X) % 18446744073709551616:=⟨_,rfl⟩;obtain ⟨q5,hq5⟩ : ∃ z,z = (s0 + ma) % 18446744073709551616:=⟨_,rfl⟩;obtain ⟨q6,hq6⟩ : ∃ z,z = (d + q4) % 18446744073709551616:=⟨_,rfl⟩;obtain ⟨q7,hq7⟩ : ∃ z,z = (q4 + q5) % 18446744073709551616:=⟨_,rfl⟩
   have t1 : IntKind.u64.wrap ((h : Int) + (s1 : Int)) = (q1 : Int):=by rw [aP]; omega
   have t2 : IntKind.u64.wrap ((q1 : Int) + (ch : Int)) = (q2 : Int):=by rw [aP]; omega
   have t3 : IntKind.u64.wrap ((q2 : Int) + (Kt : Int)) = (q3 : Int):=by rw [aP]; omega
   have t4 : IntKind.u64.wrap ((q3 : Int) + (X : Int)) = (q4 : Int):=by rw [aP]; omega
   have t5 : IntKind.u64.wrap ((s0 : Int) + (ma : Int)) = (q5 : Int):=by rw [aP]; omega
   have t6 : IntKind.u64.wrap ((d : Int) + (q4 : Int)) = (q6 : Int):=by rw [aP]; omega
   have t7 : IntKind.u64.wrap ((q4 : Int) + (q5 : Int)) = (q7 : Int):=by rw [aP]; omega
   have h6 : (d + (h + s1 + ch + Kt + X)) % 18446744073709551616 = q6:=by omega
   have h7 : (h + s1 + ch + Kt + X + (s0 + ma)) % 18446744073709551616 = q7:=by omega
   rw [h6,h7] at hs;clear hq1 hq2 hq3 hq4 hq5 hq6 hq7 h6 h7;have HN:=aL (a5 hs hS.drew);clear hs hS e1 e0 r1 r2 r3 r4 r5 r6
   go_wp2_with (fail)
   refine (R1 _).out.mono ?_
   rintro z w4 ⟨rfl,rfl⟩
   go_wp2_with (fail)
   refine (R2 _).out.mono ?_
   rintro z w4 ⟨rfl,rfl⟩
   go_wp2_with (fail)
   refine (R3 _).out.mono ?_
   rintro z w4 ⟨rfl,rfl⟩
   go_wp2_with (fail)
   refine (R4 _).out.mono ?_
   rintro z w4 ⟨rfl,rfl⟩
   go_wp2_with (fail)
   refine (R5 _).out.mono ?_
   rintro z w4 ⟨rfl,rfl⟩
   go_wp2_with (fail)
   refine (R6 _).out.mono ?_
   rintro z w4 ⟨rfl,rfl⟩
   go_wp2_with (fail)
   go_region
   go_wp2
   go_roundw
   case rel =>
    obtain ⟨hs,hS⟩:=HN.out;refine ⟨t + 1,by omega,by go_num,?_⟩;rw [hs];exact ⟨rfl,rfl,rfl,rfl,rfl,rfl,rfl,rfl,hS⟩
   case measure=>simp [intOf]; omega
  ·obtain rfl : t = 80:=by omega
   obtain ⟨ba,bb,bc,bd,be,bf,bg,bh⟩:=hO 80;obtain ⟨ha,hb',hc,hd,he,hf,hg,hh⟩:=ho;generalize hq : R 80 = q at *;obtain ⟨a,b',c,d,e,f,g,h⟩:=q;have HQ:=aL hq;clear hq
   dsimp only at ba bb bc bd be bf bg bh ⊢
   obtain ⟨k0,k2,kx,kt,kb⟩:=hS;have c0 : wr.cell? ⟨w.heap.size,0,none⟩ = some (.int .u64 (o.a : Int)):=k0.cell 0;have c1 : wr.cell? ⟨w.heap.size,1,none⟩ = some (.int .u64 (o.b : Int)):=k0.cell 1;have c2 : wr.cell? ⟨w.heap.size,2,none⟩ = some (.int .u64 (o.c : Int)):=k0.cell 2;have c3 : wr.cell? ⟨w.heap.size,3,none⟩ = some (.int .u64 (o.d : Int)):=k0.cell 3;have c4 : wr.cell? ⟨w.heap.size,4,none⟩ = some (.int .u64 (o.e : Int)):=k0.cell 4;have c5 : wr.cell? ⟨w.heap.size,5,none⟩ = some (.int .u64 (o.f : Int)):=k0.cell 5;have c6 : wr.cell? ⟨w.heap.size,6,none⟩ = some (.int .u64 (o.g : Int)):=k0.cell 6;have c7 : wr.cell? ⟨w.heap.size,7,none⟩ = some (.int .u64 (o.h : Int)):=k0.cell 7
   have w0 : IntKind.u64.wrap ((o.a : Int) + (a : Int)) = (((o.a + a) % 18446744073709551616 : Nat) : Int):=by rw [aP]; omega
   have w1 : IntKind.u64.wrap ((o.b : Int) + (b' : Int)) = (((o.b + b') % 18446744073709551616 : Nat) : Int):=by rw [aP]; omega
   have w2 : IntKind.u64.wrap ((o.c : Int) + (c : Int)) = (((o.c + c) % 18446744073709551616 : Nat) : Int):=by rw [aP]; omega
   have w3 : IntKind.u64.wrap ((o.d : Int) + (d : Int)) = (((o.d + d) % 18446744073709551616 : Nat) : Int):=by rw [aP]; omega
   have w4 : IntKind.u64.wrap ((o.e : Int) + (e : Int)) = (((o.e + e) % 18446744073709551616 : Nat) : Int):=by rw [aP]; omega
   have w5 : IntKind.u64.wrap ((o.f : Int) + (f : Int)) = (((o.f + f) % 18446744073709551616 : Nat) : Int):=by rw [aP]; omega
   have w6 : IntKind.u64.wrap ((o.g : Int) + (g : Int)) = (((o.g + g) % 18446744073709551616 : Nat) : Int):=by rw [aP]; omega
   have w7 : IntKind.u64.wrap ((o.h : Int) + (h : Int)) = (((o.h + h) % 18446744073709551616 : Nat) : Int):=by rw [aP]; omega
   have hres : Di 64 o ⟨a,b',c,d,e,f,g,h⟩ = ⟨(o.a + a) % 18446744073709551616,(o.b + b') % 18446744073709551616,(o.c + c) % 18446744073709551616,(o.d + d) % 18446744073709551616,(o.e + e) % 18446744073709551616,(o.f + f) % 18446744073709551616,(o.g + g) % 18446744073709551616,(o.h + h) % 18446744073709551616⟩:=rfl;generalize (o.a + a) % 18446744073709551616 = z0 at *;generalize (o.b + b') % 18446744073709551616 = z1 at *;generalize (o.c + c) % 18446744073709551616 = z2 at *;generalize (o.d + d) % 18446744073709551616 = z3 at *;generalize (o.e + e) % 18446744073709551616 = z4 at *;generalize (o.f + f) % 18446744073709551616 = z5 at *;generalize (o.g + g) % 18446744073709551616 = z6 at *;generalize (o.h + h) % 18446744073709551616 = z7 at *;have HR:=aL hres;clear hres ba bb bc bd be bf bg bh ha hb' hc hd he hf hg hh k0 kx kt;have HK:=aL (a5 k2 kb);clear k2 kb;have hz : (Us [z0,z1,z2,z3,z4,z5,z6,z7]).toArray.size = 8:=rfl;have k2:=HK.out.1
   go_wp2_with (refine wpList_store_row rfl 100 _ _ rfl (w.heap.size + 1 + 1) rfl (Us [z0,z1,z2,z3,z4,z5,z6,z7]).toArray rfl 100 _ k2 (qZ _ hz) (by rw [hz]; rfl) (cO _) ?_)
   refine bodyPost_ret (results_cell_row rfl _ _ (w.heap.size + 1 + 1) 100 (Us [z0,z1,z2,z3,z4,z5,z6,z7]).toArray (0,0) _ rfl (k2.row _) Tryz.underlying100 rfl (qZ _ hz)) rfl ⟨by rw [HQ.out,HR.out]; rfl,?_⟩;exact below_setRow HK.out.2 (by omega) _
end Go.Proofs.YtfkchihlchlfdaaGreatDoor
namespace Nums
def pf (D : List UInt8) (p : Nat -> Bool) : List UInt8:=(List.range D.length).map λm=>if p m then D[m]! else 0
theorem Pk (D : List UInt8) (p : Nat -> Bool) : (pf D p).length = D.length:=by simp [pf]
theorem y7 {D : List UInt8} {p q : Nat -> Bool} (h : ∀ m,m < D.length -> p m = q m) : pf D p = pf D q:=by
 apply fR (by simp [pf])
 intro i h1 h2
 have hi : i < D.length:=by simpa [pf] using h1
 simp [pf,h i hi]
theorem Pj {D : List UInt8} {p q : Nat -> Bool} {k : Nat} (h : ∀ m,m < D.length -> q m = (p m || decide (m = k))) : (pf D p).set k D[k]! = pf D q:=by
 apply fR (by simp [pf])
 intro i h1 h2
 have hi : i < D.length:=by simpa [pf] using h2
 rw [Ks]
 by_cases e : k = i
 ·subst e
  simp [pf,h k hi]
 ·rw [if_neg e]
  have e2 : decide (i = k) = false:=decide_eq_false (λh=>e h.symm)
  simp [pf,h i hi,e2]
theorem Pl {D : List UInt8} {p : Nat -> Bool} (h : ∀ m,m < D.length -> p m = true) : pf D p = D:=by
 apply fR (by simp [pf])
 intro i h1 h2
 simp [pf,h i h2,h2]
theorem Ld {D : List UInt8} {p : Nat -> Bool} (h : ∀ m,m < D.length -> p m = false) : pf D p = aE D.length 0:=by
 apply fR (by simp [pf])
 intro i h1 h2
 have hi : i < D.length:=by simpa [pf] using h1
 simp [pf,h i hi]
theorem flat_get {n : Nat} (f : Nat -> List UInt8) (hf : ∀ x,(f x).length = n) : ∀ (l : List Nat) {i j : Nat},i < l.length -> j < n -> ((l.map f).flatten)[n * i + j]! = (f l[i]!)[j]!
 | [],i,_,h,_=>absurd h (by simp)
 | x :: l,0,j,_,hj=>by
  rw [cA,lY,Ga,cK]
  have h1 : j < (f x).length:=by rw [hf]; exact hj
  rw [getElem!_pos (f x ++ (l.map f).flatten) j (by rw [aI]; omega),List.getElem_append_left h1];exact (getElem!_pos (f x) j h1).symm
 | x :: l,i + 1,j,h,hj=>by
  have ih:=flat_get f hf l (i:=i) (j:=j) (by simpa using h) hj
  have e : ((x :: l).map f).flatten = f x ++ (l.map f).flatten:=by rw [cA,lY]
  have e2 : (x :: l)[i + 1]! = l[i]!:=rfl;rw [e2,<-ih,e];have hx:=hf x
  have hi : n * (i + 1) + j = (f x).length + (n * i + j):=by rw [hx,Nat.mul_add]; omega
  rw [hi]
  by_cases hb : n * i + j < (l.map f).flatten.length
  ·rw [getElem!_pos (l.map f).flatten _ hb,getElem!_pos (f x ++ (l.map f).flatten) _ (by rw [aI]; omega),List.getElem_append_right (by omega)]
   congr 1
   omega
  ·rw [getElem!_neg (l.map f).flatten _ hb,getElem!_neg (f x ++ (l.map f).flatten) _ (by rw [aI]; omega)]
theorem sJ {n : Nat} (f : Nat -> List UInt8) (hf : ∀ x,(f x).length = n) : ∀ (l : List Nat),((l.map f).flatten).length = n * l.length
 | []=>rfl
 | x :: l=>by rw [cA,lY,aI,hf,sJ f hf l,cC,Nat.mul_add]; omega
theorem sH (s : Sha) (x : Nat) : (nR s x).length = s.w / 8:=by
 unfold nR
 rw [j9,cP]
end Nums
namespace Go.Proofs.YtfkchihlchlfdaaGreatDoor
open Go.RowKit Go.IntWalk Nums
theorem HG {s : Sha} {x j : Nat} (h : j < s.w / 8) : ((nR s x)[s.w / 8 - 1 - j]!).toNat = x / 256 ^ j % 256:=by
 have hl : (Nums.bytes (s.w / 8) x).length = s.w / 8:=cP _ _
 have e : (nR s x)[s.w / 8 - 1 - j]! = (Nums.bytes (s.w / 8) x)[j]!:=by
  unfold nR
  rw [getElem!_pos _ _ (by rw [j9,hl]; omega),Dp,getElem!_pos _ j (by rw [hl]; exact h)]
  congr 1
  rw [hl]
  omega
 rw [e,oN _ _ h]
theorem qH (cs : Array Value) (h : cs.size = 64) : (Tryz.prog.info? 38).map (·.size) = some cs.size:=by
 rw [h]
 kernel_rfl
def xN : List UInt8:=aE 64 0
theorem RT : (Tryz.prog.info? 38).bind (λi=>i.zero.map (·.cells)) = some (By xN).toArray:=by kernel_rfl
structure LY (w wr : World) (cs : Array Value) (m : List UInt8) : Prop where
  b0 : Blk wr w.heap.size 100 cs
  b1 : Blk wr (w.heap.size + 1) 38 (By xN).toArray
  b2 : Blk wr (w.heap.size + 1 + 1) 38 (By m).toArray
  be : Below w.heap.size w wr
theorem LY.set {w wr : World} {cs : Array Value} {m : List UInt8} (h : LY w wr cs m) (k : Nat) (x : UInt8) : LY w (wr.setCell ⟨w.heap.size + 1 + 1,k,none⟩ (.int .u8 (x.toNat : Int))) cs (m.set k x) where
 b0:=h.b0.far (by show w.heap.size ≠ w.heap.size + 1 + 1; omega) _
 b1:=h.b1.far (by show w.heap.size + 1 ≠ w.heap.size + 1 + 1; omega) _
 b2:=by
  have h4:=h.b2.set k (.int .u8 (x.toNat : Int));rw [rX] at h4;exact h4
 be:=h.be.setCell (by show w.heap.size <= w.heap.size + 1 + 1; omega) _
theorem P7 {l : List Nat} (hl : l.length = 8) (hw : ∀ x ∈ l,x < 18446744073709551616) (w : World) :
  Calls Tryz.prog 83 #[.agg (Us l).toArray] w λe w'=>e = .returned (.agg (By (l.map (nR eT)).flatten).toArray) /\ Below w.heap.size w w':=by
 have hD:=sJ (nR eT) (n:=8) (λx=>sH eT x) l;rw [hl] at hD
 have hg : ∀ i j,i < 8 -> j < 8 -> (((l.map (nR eT)).flatten)[8 * i + 7 - j]!).toNat = l[i]! / 256 ^ j % 256:=λi j hi hj=>by
  have h1:=flat_get (nR eT) (n:=8) (λx=>sH eT x) l (i:=i) (j:=7 - j) (by omega) (by omega);rw [show 8 * i + 7 - j = 8 * i + (7 - j) by omega,h1];exact HG (s:=eT) (j:=j) hj
 have hzs : (Us l).toArray.size = 8:=by rw [a9,dB,hl]
 have hix : ∀ i,i < 8 -> ∀ w1,(Instr.index 100 (.agg (Us l).toArray) (.int .i64 ((i : Nat) : Int))).run Tryz.prog w1 = .ok (.int .u64 (l[i]! : Nat)) w1:=λi hi w1=>by
  have h0 : (Us l).toArray[i]? = some (.int .u64 (l[i]! : Nat)):=iY (by omega)
  have h1 : ((i : Nat) : Int) < 8:=by omega
  have h2 : (0 : Int) <= (i : Nat):=by omega
  generalize l[i]! = c at *;generalize (Us l).toArray = cs at *
  unfold Instr.index Go.part
  go_simp
  obtain ⟨_,h⟩:=Array.getElem?_eq_some_iff.1 h0;exact h
 have hwl : ∀ i,i < 8 -> l[i]! < 18446744073709551616:=λi hi=>by
  rw [getElem!_pos l i (by omega)];exact hw _ (yJ _)
 generalize (l.map (nR eT)).flatten = D at *;generalize (Us l).toArray = cs at *
 go_enter Tryz.func83,Tryz.ntmps83
 refine wp_seq_k λK hK=>?_;refine wp_region_lit ?_;refine kI cs rfl rfl rfl ?_;refine dV (zs:=(By xN).toArray) rfl rfl RT ?_;refine dX ?_
 go_simp
 refine hK _ _ ?_;clear hK K;refine wp_seq_k λK hK=>?_;refine wp_region_lit ?_;refine dV (zs:=(By xN).toArray) rfl rfl RT ?_;refine dX ?_
 go_simp
 refine hK _ _ ?_;clear hK K;refine p9 (λW=>LY w W cs xN) ⟨nK w _ _ _ _,lW w _ _ _ _,mG w _ _ _ _,(((Below.refl _ _).alloc (aH _) _).alloc (by simp) _).alloc (by simp; omega) _⟩ ?_
 intro W hW
 have k0:=hW.b0;have HW:=aL hW;clear hW
 go_wp2_with (refine wpList_load_row rfl 100 _ rfl w.heap.size rfl 100 cs (0,0) _ k0 Tryz.underlying100 rfl (qZ _ hzs) ?_)
 clear k0
 go_loopw [8] (λi wr=>∃ t : Nat,t <= 8 /\ i = .int .i64 t /\ LY w wr cs (pf D λm=>decide (m < 8 * t))) (λi _=>8 - (intOf i).toNat)
 case atStart =>
  refine ⟨0,by omega,rfl,?_⟩;rw [Ld (λm _=>decide_eq_false (by omega)),hD];exact HW.out
 case round =>
  clear HW;obtain ⟨t,ht,rfl,hS⟩:=hrel
  by_cases htl : t < 8
  ·have hi:=hix t htl
   have hx:=hwl t htl;have hby:=λj hj=>hg t j htl hj;generalize l[t]! = x at *
   have g4 : (0 : Int) <= (t : Int):=by omega
   have HS:=aL hS;clear hS hg hix hwl
   go_wp2
   go_loopw [12,5] (λj v wq=>∃ n : Nat,n <= 8 /\ j = .int .i64 n /\ v = .int .u64 ((x / 256 ^ n : Nat) : Int) /\ LY w wq cs (pf D λm=>decide (m < 8 * t \/ 8 * t + 8 - n <= m /\ m < 8 * t + 8))) (λj _ _=>8 - (intOf j).toNat)
   case atStart =>
    refine ⟨0,by omega,rfl,by rw [mS,sU],?_⟩;rw [y7 (q:=λm=>decide (m < 8 * t)) (λm _=>decide_eq_decide.2 (by omega))];exact HS.out
   case round =>
    clear HS;obtain ⟨n,hn,rfl,rfl,hS⟩:=hrel
    by_cases hnl : n < 8
    ·have hN:=hS.set (8 * t + 7 - n) D[8 * t + 7 - n]!
     rw [Pj (q:=λm=>decide (m < 8 * t \/ 8 * t + 8 - (n + 1) <= m /\ m < 8 * t + 8)) (λm _=>by rw [<-Bool.decide_or]; exact decide_eq_decide.2 (by omega))] at hN;have hb:=hby n hnl
     have hdiv : x / 256 ^ (n + 1) = x / 256 ^ n / 256:=by rw [dD,iE]
     have hle : x / 256 ^ n < 18446744073709551616:=bX (gD _ _) hx;have c2:=(hS.b2.cell (8 * t + 7 - n)).trans (gJ (by rw [Pk,hD]; omega));have f2:=hS.b2.free (8 * t + 7 - n);generalize x / 256 ^ n = y at *
     have q4 : IntKind.u8.wrap (y : Int) = ((D[8 * t + 7 - n]!).toNat : Int):=by
      rw [jM,hb]
      omega
     have g5 : (0 : Int) <= (n : Int):=by omega
     have q5 : (y : Int) / 256 = ((y / 256 : Nat) : Int):=by omega
     have HN:=aL (a5 hN hdiv);clear hS hN hdiv hb hby hi;generalize (D[8 * t + 7 - n]!).toNat = v at *;generalize ((pf D λm=>decide (m < 8 * t \/ 8 * t + 8 - n <= m /\ m < 8 * t + 8))[8 * t + 7 - n]!).toNat = old at *;generalize y / 256 = y2 at *
     go_wp2
     go_roundw
     case rel =>
      obtain ⟨hN,hdiv⟩:=HN.out;refine ⟨n + 1,by omega,by go_num,by rw [hdiv],hN⟩
     case measure=>simp [intOf]; omega
    ·obtain rfl : n = 8:=by omega
     rw [y7 (q:=λm=>decide (m < 8 * (t + 1))) (λm _=>decide_eq_decide.2 (by omega))] at hS;have HS:=aL hS;clear hS
     go_wp2
     go_roundw
     case rel=>exact ⟨t + 1,by omega,by go_num,HS.out⟩
     case measure=>simp [intOf]; omega
  ·obtain rfl : t = 8:=by omega
   rw [Pl (λm hm=>decide_eq_true (by omega))] at hS;obtain ⟨b0,b1,b2,be⟩:=hS
   have hz : (By D).toArray.size = 64:=by rw [a9,cD,hD]
   clear b0
   go_wp2_with (first
    | (refine wpList_load_row rfl 38 _ rfl (w.heap.size + 1 + 1) rfl 38 (By D).toArray (0,0) _ b2 Tryz.underlying38 rfl (qH _ hz) ?_)
    | (refine wpList_store_row rfl 38 _ _ rfl (w.heap.size + 1) rfl (By D).toArray rfl 38 _ b1 (qH _ hz) (by rw [hz]; rfl) (kU _) ?_))
   refine bodyPost_ret (results_cell_row rfl _ _ (w.heap.size + 1) 38 (By D).toArray (0,0) _ rfl (b1.row _) Tryz.underlying38 rfl (qH _ hz)) rfl ⟨rfl,?_⟩;exact below_setRow be (by omega) _
end Go.Proofs.YtfkchihlchlfdaaGreatDoor
namespace Go.Proofs.YtfkchihlchlfdaaGreatDoor
open Go.RowKit Go.IntWalk
theorem GB {w : World} {g t : Nat} {cs : Array Value} (h : Blk w g t cs) : w.setRow g cs = w:=setRow_self w g cs t (0,0) h
def clr (z : List UInt8) (o : Nat) : List UInt8:=z.take o ++ aE (z.length - o) 0
theorem wT {z : List UInt8} {o : Nat} (h : o <= z.length) : (clr z o).length = z.length:=by
 simp [clr]
 omega
theorem k8 {ops : Array Oper} {rest : List Oper} {op : Oper} {a : Act} {w : World} {Q : Exit -> Act -> World -> Prop} (x : Operand) (hgd : op.guard = none) (ho : op.op = .call { callee:=.builtin .clear,args:=#[x],argTypes:=#[23] })
  (g o n c : Nat) (A : Option Addr) (hx : a.eval x = .slice A n c) (hA : 0 < n -> A = some ⟨g,o,none⟩) (z : List UInt8) (t : Nat) (hz : Blk w g t (By z).toArray) (hn : o + n = z.length)
  (z' : List UInt8) (hz' : Hid (clr z o = z')) (h : wpList Tryz.prog ops Q rest (a.put op.dst (.tuple #[])) (w.setRow g (By z').toArray)) : wpList Tryz.prog ops Q (op :: rest) a w:=by
 rw [<-hz'.out] at h;refine wpList_plain hgd λK hK=>?_
 have hrun : (EM #[23] op.type #[.slice A n c]).run Tryz.prog w = .ok (.tuple #[]) (w.setRow g (By (clr z o)).toArray):=by
  by_cases h0 : n = 0
  ·subst h0
   have e : clr z o = z:=by
    unfold clr
    rw [<-hn,fN,sT,List.replicate_zero,bV,bW (by omega)]
   rw [e,GB hz];have hu:=Tryz.underlying23
   cases A <;> simp [EM,run_underlying hu]
  ·obtain rfl:=hA (by omega)
   have hst:=run_storeCells_at (P:=Tryz.prog) g o t (aE n (.int .u8 0)) 0 (By z).toArray w hz (by rw [bH,a9,cD]; omega) (by intro v hv; rw [List.eq_of_mem_replicate hv]; rfl)
   have e : ((By z).toArray.toList.take (o + 0) ++ aE n (.int .u8 0) ++ (By z).toArray.toList.drop (o + 0 + (aE n (Value.int .u8 0)).length)) = By (clr z o):=by
    have hd : (By z).drop (o + n) = []:=NI (by rw [cD]; omega);simp only [bH,fN,hd,bV]
    unfold clr
    rw [vN,<-hn,Nat.add_sub_cancel_left]
    simp [By]
   rw [e] at hst
   have hzc : (pA #[.int .u8 0] n).toList = aE n (.int .u8 0):=by
    simp [pA]
    apply fR
    ·simp
    ·intro i h1 h2
     simp [Nat.mod_one]
   obtain ⟨m,rfl⟩ : ∃ m,n = m + 1:=⟨n - 1,by omega⟩;have hu:=Tryz.underlying23
   simp [EM,run_underlying hu,Value.cells,hzc,hst]
 unfold Oper.wp
 simp [execOp,ho,resolve,invoke,builtin,hx,hrun,Result.andThen]
 exact hK _ _ h
end Go.Proofs.YtfkchihlchlfdaaGreatDoor
namespace Go.Proofs.YtfkchihlchlfdaaGreatDoor
open Go.RowKit Go.IntWalk Nums
structure S5 (B gh gb : Nat) (w0 w : World) (o : Oct) (b : List UInt8) : Prop where
  h : Blk w gh 100 (Us o.list).toArray
  m : Blk w gb 129 (By b).toArray
  ob : OB 64 o
  len : b.length = 128
  ts : Ts w
  be : Below B w0 w
  bh : B <= gh
  bb : B <= gb
  ne : gh ≠ gb
  ht : 1 < B
theorem Ts.AL {B : Nat} {w w' : World} (h : Ts w) (hb : Below B w w') (hB : 1 < B) : Ts w' :=
 ⟨λi hi=>(hb.cell (p:=⟨1,i,none⟩) hB).trans (h.cell i hi),bM h.lt hb.size⟩
section
variable {B gh gb : Nat} {w0 w w' : World} {o : Oct} {b : List UInt8}
theorem S5.up (h : S5 B gh gb w0 w o b) (k : Below w.heap.size w w') (hB : B <= w.heap.size) : S5 B gh gb w0 w' o b :=
 ⟨h.h.later k,h.m.later k,h.ob,h.len,h.ts.below k,h.be.trans (k.mono hB),h.bh,h.bb,h.ne,h.ht⟩
theorem S5.Cn (h : S5 B gh gb w0 w o b) : S5 B gh gb w w o b:=⟨h.h,h.m,h.ob,h.len,h.ts,Below.refl _ _,h.bh,h.bb,h.ne,h.ht⟩
theorem S5.since {w1 : World} (h : S5 B gh gb w0 w o b) (k : Below B w1 w0) : S5 B gh gb w1 w o b:=⟨h.h,h.m,h.ob,h.len,h.ts,k.trans h.be,h.bh,h.bb,h.ne,h.ht⟩
theorem S5.size (h : S5 B gh gb w0 w o b) : B <= w.heap.size:=fJ (bX h.bh h.h.lt)
theorem S5.Jh (h : S5 B gh gb w0 w o b) {p : Oct} (hp : OB 64 p) : S5 B gh gb w0 (w.setRow gh (Us p.list).toArray) p b :=
 ⟨h.h.row _,h.m.aT (Ne.symm h.ne) _,hp,h.len,h.ts.AL (below_setRow (Below.refl B w) h.bh _) h.ht,below_setRow h.be h.bh _,h.bh,h.bb,h.ne,h.ht⟩
theorem S5.EY (h : S5 B gh gb w0 w o b) {c : List UInt8} (hc : c.length = 128) : S5 B gh gb w0 (w.setRow gb (By c).toArray) o c :=
 ⟨h.h.aT h.ne _,h.m.row _,h.ob,hc,h.ts.AL (below_setRow (Below.refl B w) h.bb _) h.ht,below_setRow h.be h.bb _,h.bh,h.bb,h.ne,h.ht⟩
theorem S5.E1 (h : S5 B gh gb w0 w o b) (k : Nat) (x : UInt8) : S5 B gh gb w0 (w.setCell ⟨gb,k,none⟩ (.int .u8 (x.toNat : Int))) o (b.set k x) where
 h:=h.h.far (by show gh ≠ gb; exact h.ne) _
 m:=by
  have h4:=h.m.set k (.int .u8 (x.toNat : Int));rw [rX] at h4;exact h4
 ob:=h.ob
 len:=by rw [eP]; exact h.len
 ts:=h.ts.AL ((Below.refl B w).setCell (p:=⟨gb,k,none⟩) h.bb _) h.ht
 be:=h.be.setCell h.bb _
 bh:=h.bh
 bb:=h.bb
 ne:=h.ne
 ht:=h.ht
end
theorem oE {B gh gb : Nat} {w0 w : World} {o : Oct} {b : List UInt8} (h : S5 B gh gb w0 w o b) :
  Calls Tryz.prog 81 #[.pointer (some ⟨gh,0,none⟩),.pointer (some ⟨gb,0,none⟩)] w λe w'=>e = .returned (.tuple #[]) /\ S5 B gh gb w0 w' (iT eT o b) b:=by
 have HT:=Mi h.ob h.len w h.ts;have kh:=h.h;have km:=h.m;have hz : (Us o.list).toArray.size = 8:=rfl;have hz2 : (Us (iT eT o b).list).toArray.size = 8:=rfl;have hb128:=Hz h.len;have hp:=OB.iT eT o b;have HK:=aL h;clear h;generalize iT eT o b = p at *
 go_enter Tryz.func81,Tryz.ntmps81
 go_wp2_with (first
  | (refine wpList_load_row rfl 100 _ rfl gh rfl 100 (Us o.list).toArray (0,0) _ kh Tryz.underlying100 rfl (qZ _ hz) ?_)
  | (refine wpList_load_row rfl 129 _ rfl gb rfl 129 (By b).toArray (0,0) _ km Tryz.underlying129 rfl (D0 _ hb128) ?_))
 refine HT.mono ?_
 rintro e w1 ⟨rfl,hw1⟩
 have h1:=HK.out.up hw1 HK.out.size;have kh1:=h1.h;have H2:=aL (h1.Jh hp);clear h1 hw1 HT kh km
 go_wp2_with (refine wpList_store_row rfl 100 _ _ rfl gh rfl (Us p.list).toArray rfl 100 _ kh1 (qZ _ hz2) (by rw [hz,hz2]) (cO _) ?_)
 go_end0
 exact ⟨rfl,H2.out⟩
theorem zT (v : Nat) : (tP v).length = 8:=by
 unfold tP
 rw [j9,cP]
theorem zS (v : Nat) : tP (v % 18446744073709551616) = tP v:=by
 unfold tP
 congr 1
 refine x9 (by rw [cP,cP]) ?_;rw [o5,o5];exact Nat.mod_mod _ _
theorem II {v i : Nat} (h : i < 8) : ((tP v)[7 - i]!).toNat = v / 256 ^ i % 256:=by
 have hl : (Nums.bytes 8 v).length = 8:=cP _ _
 have e : (tP v)[7 - i]! = (Nums.bytes 8 v)[i]!:=by
  unfold tP
  rw [getElem!_pos _ _ (by rw [j9,hl]; omega),Dp,getElem!_pos _ i (by rw [hl]; exact h)]
  congr 1
  rw [hl]
  omega
 rw [e,oN _ _ h]
def eig (c e : List UInt8) (n i : Nat) : List UInt8:=c.take (n - i) ++ e.drop (8 - i)
theorem rF {c e : List UInt8} {n i : Nat} (hc : c.length = n) (he : e.length = 8) (hi : i <= 8) (hn : 8 <= n) : (eig c e n i).length = n:=by
 unfold eig
 rw [aI,aY,fW]
 omega
theorem sN {c e : List UInt8} {n : Nat} (hc : c.length = n) (he : e.length = 8) : eig c e n 0 = c:=by
 unfold eig
 rw [bW (by omega),NH (by omega),bV]
theorem wP {c e : List UInt8} {n i : Nat} (hc : c.length = n) (he : e.length = 8) (hi : i < 8) (hn : 8 <= n) : (eig c e n i).set (n - 1 - i) e[7 - i]! = eig c e n (i + 1):=by
 unfold eig
 have h1 : c.take (n - i) = c.take (n - (i + 1)) ++ [c[n - (i + 1)]!]:=by
  rw [show n - i = n - (i + 1) + 1 by omega,o9 (by omega),getElem!_pos c _ (by omega)]
 have h2 : e.drop (8 - (i + 1)) = e[7 - i]! :: e.drop (8 - i):=by
  rw [mK (by omega),getElem!_pos e _ (by omega)]
  congr 1
  ·congr 1
   omega
  ·congr 1
   omega
 have hl : (c.take (n - (i + 1))).length = n - (i + 1):=by rw [aY]; omega
 rw [h1,h2,aU,Bz _ _ (by omega),hl,show n - 1 - i - (n - (i + 1)) = 0 by omega]
 rfl
theorem LR {b : List UInt8} {n r : Nat} (hb : b.length = n) (hr : r < n) : clr (b.set r 128) (r + 1) = b.take r ++ 128 :: aE (n - 1 - r) 0:=by
 unfold clr
 rw [eP,hb]
 have h1 : (b.set r 128).take (r + 1) = b.take r ++ [128]:=by
  rw [o9 (by rw [eP]; omega),NN,List.take_set_of_le (aH r)]
 rw [h1,aU,show n - (r + 1) = n - 1 - r by omega]
 rfl
theorem BT (c : List UInt8) : clr c 0 = aE c.length 0:=by
 unfold clr
 simp
theorem LH {s : Sha} {b : List UInt8} {n r v : Nat} {o : Oct} (hn : 64 <= n) (hb : b.length = n) (hr : r < n) (h : r + 1 <= n - n / 8) :
  iT s o (eig (b.take r ++ 128 :: aE (n - 1 - r) 0) (tP v) n 8) = kC s n o (b.take r ++ jY n r v):=by
 have h8 : n / 8 * 8 <= n:=Nat.div_mul_le_self n 8
 have h9 : 2 <= n / 8:=by omega
 have e : eig (b.take r ++ 128 :: aE (n - 1 - r) 0) (tP v) n 8 = b.take r ++ jY n r v:=by
  unfold eig jY
  have hl : (b.take r).length = r:=by rw [aY]; omega
  rw [if_pos h,List.take_append,hl,bW (by omega),aU,sT,qX]
  congr 1
  rw [show n - 8 - r = (n - 9 - r) + 1 by omega,a6,List.take_replicate,cW (by omega),Ku]
 rw [e]
 have hl : (b.take r ++ jY n r v).length = n:=by
  rw [<-e,rF (by rw [aI,aY,cC,bH]; omega) (zT _) (aH _) (by omega)]
 have h0:=lR (s:=s) (B:=n) (o:=o) (b:=b.take r ++ jY n r v) (l:=[]) (by omega) hl;rw [bV] at h0;rw [h0,jP (by simp only [AR]; omega)]
theorem LG {s : Sha} {b : List UInt8} {n r v : Nat} {o : Oct} (hn : 64 <= n) (hb : b.length = n) (hr : r < n) (h : ¬ r + 1 <= n - n / 8) :
  iT s (iT s o (b.take r ++ 128 :: aE (n - 1 - r) 0)) (eig (aE n 0) (tP v) n 8) = kC s n o (b.take r ++ jY n r v):=by
 have hl1 : (b.take r ++ 128 :: aE (n - 1 - r) 0).length = n:=by
  rw [aI,aY,cC,bH]
  omega
 have hl2 : (eig (aE n 0) (tP v) n 8).length = n:=rF (bH) (zT _) (aH _) (by omega)
 have e : b.take r ++ jY n r v = (b.take r ++ 128 :: aE (n - 1 - r) 0) ++ eig (aE n 0) (tP v) n 8:=by
  unfold jY eig
  rw [if_neg h,aU,Ku,sT,qX,List.take_replicate,cW (by omega),<-aU (aE _ 0),List.replicate_append_replicate]
  congr 4
  omega
 have h0:=lR (s:=s) (B:=n) (o:=iT s o (b.take r ++ 128 :: aE (n - 1 - r) 0)) (b:=eig (aE n 0) (tP v) n 8) (l:=[]) (by omega) hl2;rw [bV] at h0;rw [e,lR (by omega) hl1,h0,jP (by simp only [AR]; omega)]
theorem QW {B gh gb : Nat} {w0 w : World} {o : Oct} {b : List UInt8} (h : S5 B gh gb w0 w o b) (r v : Nat) (hr : r < 128) :
  Calls Tryz.prog 56 #[.slice (some ⟨gb,0,none⟩) 128 128,.int .i64 (r : Int),.int .u64 (v : Int),.func (.func 81) #[] #[.pointer (some ⟨gh,0,none⟩),.pointer (some ⟨gb,0,none⟩)]] w λe w' =>
   e = .returned (.tuple #[]) /\ ∃ b',S5 B gh gb w0 w' (kC eT 128 o (b.take r ++ jY 128 r (8 * v))) b':=by
 have hlen:=h.len;have h1:=LH (s:=eT) (o:=o) (v:=8 * v) (n:=128) (by omega) hlen hr;have h2:=LG (s:=eT) (o:=o) (v:=8 * v) (n:=128) (by omega) hlen hr;have hcl:=LR hlen hr;have hS1 : S5 B gh gb w0 (w.setCell ⟨gb,r,none⟩ (.int .u8 128)) o (b.set r 128):=h.E1 r 128
 have hsl : (b.set r 128).length = 128:=by rw [eP]; exact hlen
 have hm1:=hS1.m;have hS2:=hS1.EY (c:=clr (b.set r 128) (r + 1)) (by rw [wT (by rw [hsl]; omega)]; exact hsl);rw [hcl] at hS2;have hc0:=(h.m.cell r).trans (gJ (by omega));have hf0:=h.m.free r;generalize (b[r]!).toNat = old at *
 have hl1 : (b.take r ++ 128 :: aE (128 - 1 - r) 0).length = 128:=by
  rw [aI,aY,cC,bH]
  omega
 obtain ⟨c1,hc1⟩ : ∃ c,c = b.take r ++ 128 :: aE (128 - 1 - r) 0:=⟨_,rfl⟩;rw [<-hc1] at hcl hS2 hl1 h1 h2;have HC:=aL hcl;have HK:=aL (a5 h hS2)
 have hr2 : (r : Int) < 128:=by omega
 have hr3 : (0 : Int) <= (r : Int):=by omega
 have hx:=zS (8 * v);have hxe:=zT (8 * v);have hxg:=λi hi=>II (v:=8 * v % 18446744073709551616) (i:=i) hi;rw [hx] at hxg
 have hv8 : IntKind.u64.wrap ((v : Int) * 8) = ((8 * v % 18446744073709551616 : Nat) : Int):=by rw [aP]; omega
 have hvb : 8 * v % 18446744073709551616 < 18446744073709551616:=eJ _ (by decide);generalize tP (8 * v) = E at *;generalize 8 * v % 18446744073709551616 = y at *;clear hS2 hx h hc1 hcl
 rcases (show r = 127 \/ r + 1 <= 112 \/ (112 < r + 1 /\ r < 127) by omega) with rfl | hc | ⟨hc,h127⟩
 ·rw [show ((127 : Nat) : Int) = (127 : Int) from rfl]
  go_enter Tryz.func56,Tryz.ntmps56
  go_wp2_with (refine k8 (.tmp 16) rfl rfl gb 128 0 0 (some ⟨gb,0,none⟩) rfl (λh=>absurd h (by decide)) (b.set 127 128) 129 hm1 (by rw [hsl]) c1 HC ?_)
  have hS:=HK.out.2;clear HK hm1 hc0 hf0 hS1;refine (oE hS).mono ?_
  rintro z w3 ⟨rfl,hS3⟩
  have hm3:=hS3.m;have hS4:=hS3.EY (c:=clr c1 0) (by rw [wT (by omega)]; exact hl1)
  have hz4 : clr c1 0 = aE 128 0:=by rw [BT,hl1]
  have HF:=aL (h2 (by omega));rw [hz4] at hS4;have hl : (aE 128 (0 : UInt8)).length = 128:=bH;generalize aE 128 (0 : UInt8) = c at *;generalize iT eT o c1 = p at *;have HZ:=aL hz4;have HS:=aL hS4;clear hS hS3 h1 h2 hS4 hz4
  go_wp2_with (refine k8 (.tmp 28) rfl rfl gb 0 128 128 (some ⟨gb,0,none⟩) rfl (λ_=>rfl) c1 129 hm3 (by rw [hl1]) c HZ ?_)
  clear hm3
  go_loopw [31,8] (λi u wr=>∃ k : Nat,k <= 8 /\ i = .int .i64 k /\ u = .int .u64 ((y / 256 ^ k : Nat) : Int) /\ S5 B gh gb w0 wr p (eig c E 128 k)) (λi _ _=>8 - (intOf i).toNat)
  case atStart =>
   refine ⟨0,by omega,rfl,by rw [mS,sU],?_⟩;rw [sN hl hxe];exact HS.out
  case round =>
   clear HS;obtain ⟨k,hk,rfl,rfl,hS⟩:=hrel
   by_cases hkl : k < 8
   ·have hN:=hS.E1 (127 - k) E[7 - k]!
    have hset:=wP hl hxe hkl (by omega);rw [show 128 - 1 - k = 127 - k by omega] at hset;rw [hset] at hN;have hb:=hxg k hkl
    have hdiv : y / 256 ^ (k + 1) = y / 256 ^ k / 256:=by rw [dD,iE]
    have hle : y / 256 ^ k < 18446744073709551616:=bX (gD _ _) hvb;have c2:=(hS.m.cell (127 - k)).trans (gJ (by rw [rF hl hxe (by omega) (by omega)]; omega));have f2:=hS.m.free (127 - k);generalize y / 256 ^ k = z at *
    have q4 : IntKind.u8.wrap (z : Int) = ((E[7 - k]!).toNat : Int):=by
     rw [jM,hb]
     omega
    have q5 : (z : Int) / 256 = ((z / 256 : Nat) : Int):=by omega
    have g5 : (0 : Int) <= (k : Int):=by omega
    have HN:=aL (a5 hN hdiv);clear hS hN hdiv hb hset hxg;generalize (E[7 - k]!).toNat = x at *;generalize ((eig c E 128 k)[127 - k]!).toNat = old2 at *;generalize z / 256 = z2 at *
    go_wp2
    go_roundw
    case rel =>
     obtain ⟨hN,hdiv⟩:=HN.out;exact ⟨k + 1,by omega,by go_num,by rw [hdiv],hN⟩
    case measure=>simp [intOf]; omega
   ·obtain rfl : k = 8:=by omega
    have HT:=oE hS;rw [HF.out] at HT;have HT:=aL HT;clear hS hxg
    go_wp2_with (fail)
    refine HT.out.mono ?_
    rintro z w5 ⟨rfl,hS5⟩
    go_wp2_with (fail)
    go_end0
    exact ⟨rfl,_,hS5⟩
 ·go_enter Tryz.func56,Tryz.ntmps56
  go_wp2_with (refine k8 (.tmp 16) rfl rfl gb (r + 1) (127 - r) (127 - r) (some ⟨gb,r + 1,none⟩) rfl (λ_=>rfl) (b.set r 128) 129 hm1 (by rw [hsl]; omega) c1 HC ?_)
  have HF:=aL (h1 (by omega));have HS:=aL HK.out.2;have hl:=hl1;clear HK h1 h2 hl1 hm1 hc0 hf0 hS1;generalize c1 = c at *
  go_loopw [31,8] (λi u wr=>∃ k : Nat,k <= 8 /\ i = .int .i64 k /\ u = .int .u64 ((y / 256 ^ k : Nat) : Int) /\ S5 B gh gb w0 wr o (eig c E 128 k)) (λi _ _=>8 - (intOf i).toNat)
  case atStart =>
   refine ⟨0,by omega,rfl,by rw [mS,sU],?_⟩;rw [sN hl hxe];exact HS.out
  case round =>
   clear HS;obtain ⟨k,hk,rfl,rfl,hS⟩:=hrel
   by_cases hkl : k < 8
   ·have hN:=hS.E1 (127 - k) E[7 - k]!
    have hset:=wP hl hxe hkl (by omega);rw [show 128 - 1 - k = 127 - k by omega] at hset;rw [hset] at hN;have hb:=hxg k hkl
    have hdiv : y / 256 ^ (k + 1) = y / 256 ^ k / 256:=by rw [dD,iE]
    have hle : y / 256 ^ k < 18446744073709551616:=bX (gD _ _) hvb;have c2:=(hS.m.cell (127 - k)).trans (gJ (by rw [rF hl hxe (by omega) (by omega)]; omega));have f2:=hS.m.free (127 - k);generalize y / 256 ^ k = z at *
    have q4 : IntKind.u8.wrap (z : Int) = ((E[7 - k]!).toNat : Int):=by
     rw [jM,hb]
     omega
    have q5 : (z : Int) / 256 = ((z / 256 : Nat) : Int):=by omega
    have g5 : (0 : Int) <= (k : Int):=by omega
    have HN:=aL (a5 hN hdiv);clear hS hN hdiv hb hset hxg;generalize (E[7 - k]!).toNat = x at *;generalize ((eig c E 128 k)[127 - k]!).toNat = old2 at *;generalize z / 256 = z2 at *
    go_wp2
    go_roundw
    case rel =>
     obtain ⟨hN,hdiv⟩:=HN.out;exact ⟨k + 1,by omega,by go_num,by rw [hdiv],hN⟩
    case measure=>simp [intOf]; omega
   ·obtain rfl : k = 8:=by omega
    have HT:=oE hS;rw [HF.out] at HT;have HT:=aL HT;clear hS hxg
    go_wp2_with (fail)
    refine HT.out.mono ?_
    rintro z w5 ⟨rfl,hS5⟩
    go_wp2_with (fail)
    go_end0
    exact ⟨rfl,_,hS5⟩
 ·go_enter Tryz.func56,Tryz.ntmps56
  go_wp2_with (refine k8 (.tmp 16) rfl rfl gb (r + 1) (127 - r) (127 - r) (some ⟨gb,r + 1,none⟩) rfl (λ_=>rfl) (b.set r 128) 129 hm1 (by rw [hsl]; omega) c1 HC ?_)
  have hS:=HK.out.2;clear HK hm1 hc0 hf0 hS1;refine (oE hS).mono ?_
  rintro z w3 ⟨rfl,hS3⟩
  have hm3:=hS3.m;have hS4:=hS3.EY (c:=clr c1 0) (by rw [wT (by omega)]; exact hl1)
  have hz4 : clr c1 0 = aE 128 0:=by rw [BT,hl1]
  have HF:=aL (h2 (by omega));rw [hz4] at hS4;have hl : (aE 128 (0 : UInt8)).length = 128:=bH;generalize aE 128 (0 : UInt8) = c at *;generalize iT eT o c1 = p at *;have HZ:=aL hz4;have HS:=aL hS4;clear hS hS3 h1 h2 hS4 hz4
  go_wp2_with (refine k8 (.tmp 28) rfl rfl gb 0 128 128 (some ⟨gb,0,none⟩) rfl (λ_=>rfl) c1 129 hm3 (by rw [hl1]) c HZ ?_)
  clear hm3
  go_loopw [31,8] (λi u wr=>∃ k : Nat,k <= 8 /\ i = .int .i64 k /\ u = .int .u64 ((y / 256 ^ k : Nat) : Int) /\ S5 B gh gb w0 wr p (eig c E 128 k)) (λi _ _=>8 - (intOf i).toNat)
  case atStart =>
   refine ⟨0,by omega,rfl,by rw [mS,sU],?_⟩;rw [sN hl hxe];exact HS.out
  case round =>
   clear HS;obtain ⟨k,hk,rfl,rfl,hS⟩:=hrel
   by_cases hkl : k < 8
   ·have hN:=hS.E1 (127 - k) E[7 - k]!
    have hset:=wP hl hxe hkl (by omega);rw [show 128 - 1 - k = 127 - k by omega] at hset;rw [hset] at hN;have hb:=hxg k hkl
    have hdiv : y / 256 ^ (k + 1) = y / 256 ^ k / 256:=by rw [dD,iE]
    have hle : y / 256 ^ k < 18446744073709551616:=bX (gD _ _) hvb;have c2:=(hS.m.cell (127 - k)).trans (gJ (by rw [rF hl hxe (by omega) (by omega)]; omega));have f2:=hS.m.free (127 - k);generalize y / 256 ^ k = z at *
    have q4 : IntKind.u8.wrap (z : Int) = ((E[7 - k]!).toNat : Int):=by
     rw [jM,hb]
     omega
    have q5 : (z : Int) / 256 = ((z / 256 : Nat) : Int):=by omega
    have g5 : (0 : Int) <= (k : Int):=by omega
    have HN:=aL (a5 hN hdiv);clear hS hN hdiv hb hset hxg;generalize (E[7 - k]!).toNat = x at *;generalize ((eig c E 128 k)[127 - k]!).toNat = old2 at *;generalize z / 256 = z2 at *
    go_wp2
    go_roundw
    case rel =>
     obtain ⟨hN,hdiv⟩:=HN.out;exact ⟨k + 1,by omega,by go_num,by rw [hdiv],hN⟩
    case measure=>simp [intOf]; omega
   ·obtain rfl : k = 8:=by omega
    have HT:=oE hS;rw [HF.out] at HT;have HT:=aL HT;clear hS hxg
    go_wp2_with (fail)
    refine HT.out.mono ?_
    rintro z w5 ⟨rfl,hS5⟩
    go_wp2_with (fail)
    go_end0
    exact ⟨rfl,_,hS5⟩
end Go.Proofs.YtfkchihlchlfdaaGreatDoor
namespace Nums
theorem Iy {t r b : List UInt8} {n : Nat} (ht : b.take t.length = t) : (Go.Proofs.YtfkchihlchlfdaaGreatDoor.cop b t.length (r.take (n - t.length))).take (t.length + min r.length (n - t.length)) = t ++ r.take (n - t.length):=by
 unfold Go.Proofs.YtfkchihlchlfdaaGreatDoor.cop
 rw [ht,<-aU]
 have hl : (t ++ r.take (n - t.length)).length = t.length + min r.length (n - t.length):=by
  rw [aI,aY,Nat.min_comm]
 rw [<-hl,List.take_left]
theorem yU {s : Sha} {n k : Nat} {o : Oct} {a z : List UInt8} (hn : 0 < n) (ha : a.length = k * n) (hz : z.length = n) : iT s (kC s n o a) z = kC s n o (a ++ z):=by
 rw [rB hn k ha];have h:=lR (s:=s) (B:=n) (o:=kC s n o a) (b:=z) (l:=[]) hn hz;rw [bV] at h;have h2:=jP (s:=s) (B:=n) (o:=iT s (kC s n o a) z) (l:=[]) (by simpa using hn);rw [h,h2]
theorem KT {s : Sha} {n k : Nat} {o : Oct} {a t x : List UInt8} (hn : 0 < n) (ha : a.length = k * n) : kC s n (kC s n o a) (t ++ x) = kC s n o ((a ++ t) ++ x):=by
 rw [aU,rB hn k ha]
theorem DX (n r v : Nat) : jY n r (8 * (v % 18446744073709551616)) = jY n r (8 * v):=by
 unfold jY
 have e : tP (8 * (v % 18446744073709551616)) = tP (8 * v):=by
  have h1:=Go.Proofs.YtfkchihlchlfdaaGreatDoor.zS (8 * (v % 18446744073709551616));have h2:=Go.Proofs.YtfkchihlchlfdaaGreatDoor.zS (8 * v);rw [<-h1,<-h2]
  congr 1
  omega
 rw [e]
end Nums
namespace Go.Proofs.YtfkchihlchlfdaaGreatDoor
open Go.RowKit Go.IntWalk Nums
def DD : Value -> Nat
  | .slice _ n _=>n
  | _=>0
structure FS5 (B gh gb : Nat) (w wr : World) (o : Oct) (m : List UInt8) (a t b : List UInt8) (k : Nat) : Prop where
  em : m = a ++ t
  ea : a.length = k * 128
  et : t.length < 128
  es : S5 B gh gb w wr (kC eT 128 o a) b
  eb : b.take t.length = t
theorem Ey (ls : List (List UInt8)) (k : Nat) (h : k < ls.length) : (ls.take (k + 1)).flatten = (ls.take k).flatten ++ ls[k]:=by
 rw [o9 h,List.flatten_append,lY,List.flatten_nil,bV]
theorem Nn {B gh gb : Nat} {w : World} {o : Oct} {b : List UInt8} (h : S5 B gh gb w w o b) (A : Option Addr) (ls : List (List UInt8)) (pc : Nat) (hA : o8 w B A ls) (hpc : ls.length <= pc) (hpm : pc <= 9223372036854775807) :
  Calls Tryz.prog 34 #[.slice (some ⟨gb,0,none⟩) 128 128,.slice A ls.length pc,.func (.func 81) #[] #[.pointer (some ⟨gh,0,none⟩),.pointer (some ⟨gb,0,none⟩)]] w λe w' =>
   e = .returned (.tuple #[]) /\ ∃ b',S5 B gh gb w w' (kC eT 128 o (ls.flatten ++ jY 128 (ls.flatten.length % 128) (8 * ls.flatten.length))) b':=by
 have h0 : FS5 B gh gb w w o (ls.take 0).flatten [] [] b 0:=by
  refine ⟨by simp,by simp,by simp,?_,by simp⟩;have e:=jP (s:=eT) (B:=128) (o:=o) (l:=[]) (by simp);rw [e];exact h
 have H0:=aL h0;have HA:=aL hA;clear h h0 hA
 go_enter Tryz.func34,Tryz.ntmps34
 go_wp2
 go_loopw [13,6,7] (λi f z wr=>∃ n : Nat,n <= ls.length /\ i = .int .i64 n /\ ∃ a t b k,f = .int .i64 ((t : List UInt8).length : Nat) /\ z = .int .u64 (((ls.take n).flatten.length % 18446744073709551616 : Nat) : Int) /\ FS5 B gh gb w wr o (ls.take n).flatten a t b k) (λi _ _ _=>ls.length - (intOf i).toNat)
 case atStart=>exact ⟨0,by omega,rfl,[],[],b,0,rfl,rfl,H0.out⟩
 case round =>
  clear H0;obtain ⟨n,hn,rfl,a,t,b,k,rfl,rfl,hF⟩:=hrel
  by_cases hnl : n < ls.length
  ·obtain ⟨ad,rfl,had,hcell⟩:=HA.out.below hF.es.be (aH _) (by omega)
   obtain ⟨P,c,hx,hsl⟩:=hcell n ls[n] (List.getElem?_eq_getElem hnl);have hfl:=Ey ls n hnl
   have hsz : IntKind.u64.wrap ((((ls.take n).flatten.length % 18446744073709551616 : Nat) : Int) + (ls[n].length : Int)) = (((ls.take (n + 1)).flatten.length % 18446744073709551616 : Nat) : Int):=by
    rw [hfl,aI,aP]
    omega
   have HL:=aL hfl;have hl1:=hsl.1;have hl2:=hsl.2.1;have hwn : IntKind.u64.wrap (ls[n].length : Int) = (ls[n].length : Int):=sC _ (by omega);have HS:=aL (a5 hF hsl);clear hF hsl hcell hfl;obtain ⟨zn,hzn⟩ : ∃ z,(ls.take (n + 1)).flatten.length % 18446744073709551616 = z:=⟨_,rfl⟩;rw [hzn] at hsz;have HZN:=aL hzn;clear hzn;generalize (ls.take n).flatten.length % 18446744073709551616 = z0 at *;generalize ls[n] = l at *
   go_wp2
   go_loopw [9,6] (λp f wq=>∃ d r P c a t b k,l = d ++ r /\ p = .slice P (r : List UInt8).length c /\ f = .int .i64 ((t : List UInt8).length : Nat) /\ SL wq 0 B P r c /\ FS5 B gh gb w wq o ((ls.take n).flatten ++ d) a t b k) (λp _ _=>DD p)
   case atStart =>
    obtain ⟨hF,hsl⟩:=HS.out;refine ⟨[],l,P,c,a,t,b,k,rfl,rfl,rfl,hsl,?_⟩;rw [bV];exact hF
   case round =>
    clear HS hwn hsz hx hl1 hl2;obtain ⟨d,r,P,c,a,t,b,k,hd,rfl,rfl,hsl,hF⟩:=hrel
    by_cases hr : 0 < r.length
    ·skip
     have hm0:=hF.es.m;have hlt:=hF.et;have hz128:=hF.es.len;have hbv:=hsl.2.2.2;have hs1:=hsl.1;have hs2:=hsl.2.1;have hcut:=hsl.cut (k:=min r.length (128 - t.length)) (Nat.min_le_left _ _);have htl:=Iy (r:=r) (n:=128) hF.eb
     have hzl : (cop b t.length (r.take (128 - t.length))).length = 128:=by
      rw [FP (by rw [aY]; omega)];exact hz128
     have hS2:=hF.es.EY hzl;obtain ⟨z',hz'⟩ : ∃ z,cop b t.length (r.take (128 - t.length)) = z:=⟨_,rfl⟩;obtain ⟨m,hm⟩ : ∃ m,min r.length (128 - t.length) = m:=⟨_,rfl⟩;rw [hz'] at hS2 hzl htl;rw [hm] at hcut htl;have HZ:=aL hz';have HM:=aL hm;have hrd : (r.drop m).length = r.length - m:=fW
     have hmr : m <= r.length:=by omega
     have hmt : t.length + m <= 128:=by omega
     have hm1 : 0 < m:=by omega
     have hq : IntKind.i64.wrap ((t.length : Int) + (m : Int)) = ((t.length + m : Nat) : Int):=by rw [i64_left,wrap64_in _ (by omega)]; omega
     have hsl2 : SL (wr.setRow gb (By z').toArray) 0 B (if c = m then P else P.map (·.add m)) (r.drop m) (c - m):=hcut.below (below_setRow (Below.refl B wr) hF.es.bb _) (aH _)
     have hd2 : l = (d ++ r.take m) ++ r.drop m:=by rw [hd,aU,dR]
     have htm : r.take (128 - t.length) = r.take m:=by
      rw [<-hm]
      by_cases hh : r.length <= 128 - t.length
      ·rw [cW hh,bW hh,bW (aH _)]
      ·rw [Nat.min_eq_right (by omega)]
     rw [htm] at htl;have hem:=hF.em;have hea:=hF.ea;have HS:=aL (a5 hS2 (a5 hsl2 (a5 hd2 (a5 htl (a5 hem hea)))));clear hF hsl hcut hS2 hsl2 hd hd2 htl htm hm hz' hem hea
     by_cases hf : t.length + m < 128
     ·by_cases hck : c = m
      ·have hck2:=hck.symm
       subst hck2
       go_wp2_with (refine oW (.tmp 27) (.tmp 28) rfl rfl gb t.length (128 - t.length) (128 - t.length) rfl P r m rfl b 129 hm0 0 B hbv (by rw [hz128]; omega) z' HZ m HM ?_)
       go_roundw
       case rel =>
        obtain ⟨hS2,hsl2,hd2,htl,hem,hea⟩:=HS.out
        first | rw [if_pos rfl] at hsl2 | rw [if_pos trivial] at hsl2
        refine ⟨d ++ r.take m,r.drop m,P,m - m,a,t ++ r.take m,z',k,hd2,by rw [hrd,show r.length - m = 0 by omega,sT],?_,hsl2,?_,hea,?_,hS2,?_⟩
        ·rw [aI,aY,cW hmr]
         go_num
        ·rw [<-aU,hem,aU]
        ·rw [aI,aY,cW hmr]
         exact hf
        ·rw [aI,aY,cW hmr]
         exact htl
       case measure=>simp [DD]; omega
      ·skip
       go_wp2_with (refine oW (.tmp 27) (.tmp 28) rfl rfl gb t.length (128 - t.length) (128 - t.length) rfl P r c rfl b 129 hm0 0 B hbv (by rw [hz128]; omega) z' HZ m HM ?_)
       go_roundw
       case rel =>
        obtain ⟨hS2,hsl2,hd2,htl,hem,hea⟩:=HS.out;rw [if_neg hck] at hsl2;refine ⟨d ++ r.take m,r.drop m,(P.map (·.add m)),c - m,a,t ++ r.take m,z',k,hd2,by rw [hrd],?_,hsl2,?_,hea,?_,hS2,?_⟩
        ·rw [aI,aY,cW hmr]
         go_num
        ·rw [<-aU,hem,aU]
        ·rw [aI,aY,cW hmr]
         exact hf
        ·rw [aI,aY,cW hmr]
         exact htl
       case measure=>simp [DD]; omega
     ·have hf : t.length + m = 128:=by omega
      by_cases hck : c = m
      ·have hck2:=hck.symm
       subst hck2
       go_wp2_with (refine oW (.tmp 27) (.tmp 28) rfl rfl gb t.length (128 - t.length) (128 - t.length) rfl P r m rfl b 129 hm0 0 B hbv (by rw [hz128]; omega) z' HZ m HM ?_)
       refine (oE HS.out.1.Cn).mono ?_
       rintro e w4 ⟨rfl,hS4⟩
       go_wp2_with (fail)
       go_roundw
       case rel =>
        obtain ⟨hS2,hsl2,hd2,htl,hem,hea⟩:=HS.out
        first | rw [if_pos rfl] at hsl2 | rw [if_pos trivial] at hsl2
        have hzz : z' = t ++ r.take m:=by
         rw [<-htl,hf,bW (by omega)]
        have hfull:=yU (s:=eT) (n:=128) (o:=o) (by decide) hea hzl;rw [hfull] at hS4;refine ⟨d ++ r.take m,r.drop m,P,m - m,a ++ z',[],z',k + 1,hd2,by rw [hrd,show r.length - m = 0 by omega,sT],rfl,?_,?_,?_,by decide,hS4.since hS2.be,rfl⟩
        ·exact hsl2.below hS4.be (aH _)
        ·rw [bV,hzz,<-aU,hem,aU]
        ·rw [aI,hea,hzl,sA,rZ]
       case measure=>simp [DD]; omega
      ·skip
       go_wp2_with (refine oW (.tmp 27) (.tmp 28) rfl rfl gb t.length (128 - t.length) (128 - t.length) rfl P r c rfl b 129 hm0 0 B hbv (by rw [hz128]; omega) z' HZ m HM ?_)
       refine (oE HS.out.1.Cn).mono ?_
       rintro e w4 ⟨rfl,hS4⟩
       go_wp2_with (fail)
       go_roundw
       case rel =>
        obtain ⟨hS2,hsl2,hd2,htl,hem,hea⟩:=HS.out;rw [if_neg hck] at hsl2
        have hzz : z' = t ++ r.take m:=by
         rw [<-htl,hf,bW (by omega)]
        have hfull:=yU (s:=eT) (n:=128) (o:=o) (by decide) hea hzl;rw [hfull] at hS4;refine ⟨d ++ r.take m,r.drop m,(P.map (·.add m)),c - m,a ++ z',[],z',k + 1,hd2,by rw [hrd],rfl,?_,?_,?_,by decide,hS4.since hS2.be,rfl⟩
        ·exact hsl2.below hS4.be (aH _)
        ·rw [bV,hzz,<-aU,hem,aU]
        ·rw [aI,hea,hzl,sA,rZ]
       case measure=>simp [DD]; omega
    ·have hr0 : r = []:=List.eq_nil_of_length_eq_zero (by omega)
     subst hr0;rw [bV] at hd;subst hd;have HF:=aL hF;clear hF hsl
     go_wp2
     go_roundw
     case rel =>
      refine ⟨n + 1,by omega,by go_num,a,t,b,k,rfl,?_,?_⟩
      ·rw [HZN.out]
      ·rw [HL.out]
       exact HF.out
     case measure=>simp [intOf]; omega
  ·obtain rfl : n = ls.length:=by omega
   rw [List.take_length] at hF ⊢;have hE:=QW hF.es t.length (ls.flatten.length % 18446744073709551616) hF.et;rw [DX,hF.eb,KT (by decide) hF.ea,<-hF.em] at hE
   have hmod : t.length = ls.flatten.length % 128:=by
    have h1:=hF.ea;have h2:=hF.et;rw [hF.em,aI]
    omega
   have HE:=aL hE;have HMO:=aL hmod;clear hE hF hmod;generalize ls.flatten.length % 18446744073709551616 = zz at *
   go_wp2_with (fail)
   refine HE.out.mono ?_
   rintro e w4 ⟨rfl,hS4⟩
   go_wp2_with (fail)
   go_end0
   rw [HMO.out] at hS4;exact ⟨rfl,hS4⟩
theorem Cx : Own 68:=λ_ _=>by go_simp
structure Tsh (w : World) : Prop where
  steps : Ts w
  cell : ∀ i,i < 8 -> w.cell? ⟨0,i,none⟩ = some (.int .u64 (sqs[i]! : Nat))
  lt : 0 < w.heap.size
theorem Tsh.below {w w' : World} (h : Tsh w) (hb : Below w.heap.size w w') : Tsh w' :=
 ⟨h.steps.below hb,λi hi=>(hb.cell (p:=⟨0,i,none⟩) h.lt).trans (h.cell i hi),bM h.lt hb.size⟩
def uN : Oct:=⟨sqs[0]!,sqs[1]!,sqs[2]!,sqs[3]!,sqs[4]!,sqs[5]!,sqs[6]!,sqs[7]!⟩
theorem Gx : OB 64 uN:=by
 constructor <;> decide
theorem Du : uN.list = sqs:=by decide
theorem Tsh.range {w : World} (h : Tsh w) : w.rangeAt 0 0 (Us sqs):=λj v hv=>by
 rw [cK]
 have hj : j < 8:=by
  have:=(List.getElem?_eq_some_iff.1 hv).1;rw [dB] at this;exact this
 rw [h.cell j hj];have h1 : (Us sqs).toArray[j]? = some (.int .u64 (sqs[j]! : Nat)):=iY (show j < sqs.length from hj);rw [<-h1]
 simpa using hv
def Gf : List UInt8:=aE 128 0
theorem WU : (Tryz.prog.info? 129).bind (λi=>i.zero.map (·.cells)) = some (By Gf).toArray:=by kernel_rfl
theorem OB.Tq {o : Oct} (h : OB 64 o) : ∀ x ∈ o.list,x < 18446744073709551616:=by
 intro x hx
 simp only [Oct.list,List.mem_cons,List.not_mem_nil,or_false] at hx
 rcases hx with rfl | rfl | rfl | rfl | rfl | rfl | rfl | rfl
 ·exact h.a
 ·exact h.b
 ·exact h.c
 ·exact h.d
 ·exact h.e
 ·exact h.f
 ·exact h.g
 ·exact h.h
theorem Gv (A : Option Addr) (ls : List (List UInt8)) (pc : Nat) (w : World) (hT : Tsh w) (hA : o8 w w.heap.size A ls) (hpc : ls.length <= pc) (hpm : pc <= 9223372036854775807) :
  Calls Tryz.prog 68 #[.slice A ls.length pc] w λe w'=>e = .returned (.agg (By (eO eT ls.flatten)).toArray) /\ Below w.heap.size w w':=by
 have hD : eO eT ls.flatten = ((kC eT 128 uN (ls.flatten ++ jY 128 (ls.flatten.length % 128) (8 * ls.flatten.length))).list.map (nR eT)).flatten:=rfl;rw [hD];clear hD;generalize hR : kC eT 128 uN (ls.flatten ++ jY 128 (ls.flatten.length % 128) (8 * ls.flatten.length)) = R at *;have HR:=aL hR;clear hR
 go_enter Tryz.func68,Tryz.ntmps68
 refine wp_seq_k λK hK=>?_;refine wp_region_lit ?_;refine dV (zs:=(By xN).toArray) rfl rfl RT ?_;refine dX ?_
 go_simp
 refine hK _ _ ?_;clear hK K;refine p9 (λW=>Blk W w.heap.size 38 (By xN).toArray /\ Below w.heap.size w W /\ w.heap.size < W.heap.size) ⟨Blk.new w _ _,(Below.refl _ _).alloc (aH _) _,by rw [World.size_alloc]; omega⟩ ?_
 rintro W ⟨ho,hbe,hsz⟩
 refine wp_seq_k λK hK=>?_;refine sE 1 3 100 (.tmp 5) z8w rfl rfl rfl rfl rfl rfl rfl (dE rfl (by kernel_rfl)) ?_;simp only [a6,bP];refine zU rfl 100 _ rfl 0 0 rfl (Us sqs) _ (λw1 h=>((hT.below hbe).below h).range) Tryz.underlying100 rfl (qZ (Us sqs).toArray rfl) ?_;simp only [aG,aA,aB,aC];refine cQ ⟨(Us sqs).toArray,λ_=>rfl,λ_=>rfl,rfl,qZ _ rfl,cO _,λgh W1 hgh hw1 hbh=>?_⟩;simp only [Exit.then,aG,aA,aB,aC];refine hK _ _ ?_;clear hK K;have ho:=hw1.blk ho;have hbe:=bA hbe hw1;clear hw1;have hng:=hbh.lt;refine wp_seq_k λK hK=>?_;refine wp_region_lit ?_;refine dV (zs:=(By Gf).toArray) rfl rfl WU ?_;refine dX ?_
 go_simp
 refine hK _ _ ?_;clear hK K;have ho:=ho.alloc (.cells (By Gf).toArray 129);have hbh:=hbh.alloc (.cells (By Gf).toArray 129);have hbe:=hbe.alloc hbe.size (.cells (By Gf).toArray 129);have hbb:=Blk.new W1 129 (By Gf).toArray;generalize W1.alloc (.cells (By Gf).toArray 129) = W2 at *;generalize W1.heap.size = gb at *;have hTw:=hT.below hbe;rw [<-Du] at hbh;have hsgh : w.heap.size < gh:=bM hsz hgh;have hS : S5 gh gh gb W2 W2 uN Gf:=⟨hbh,hbb,Gx,rfl,hTw.steps,Below.refl _ _,aH _,fJ hng,Nat.ne_of_lt hng,bM hT.steps.lt (fJ hsgh)⟩
 have hP : o8 W2 gh A ls:=λhl=>by
  obtain ⟨ad,e,h1,h2⟩:=(hA.below hbe (aH _)) hl;refine ⟨ad,e,Ab h1 hsgh,λi l hi=>?_⟩;obtain ⟨A',c',h3,h4⟩:=h2 i l hi;exact ⟨A',c',h3,h4.more (aH _) (fJ hsgh)⟩
 have HF:=aL (Nn hS A ls pc hP hpc hpm);have hmf : ∀ (fn : Fn) (first cap : Array Value) (w : World),(Instr.makeFunc fn first cap).run Tryz.prog w = .ok (.func fn first cap) w:=λ_ _ _ _=>rfl;have HK:=aL (a5 ho hbe);clear hS hP hTw hbb hbh ho hbe hA hT
 go_wp2_with (fail)
 refine HF.out.mono ?_
 rintro e W3 ⟨rfl,b',hS3⟩
 rw [HR.out] at hS3;have kh:=hS3.h;have hb3:=hS3.be;have hzr : (Us R.list).toArray.size = 8:=rfl;have HL:=aL (λw1=>P7 (l:=R.list) rfl (OB.Tq hS3.ob) w1);have hko : Blk W3 w.heap.size 38 (By xN).toArray:=HK.out.1.below hb3 hsgh;have hbe3 : Below w.heap.size w W3:=HK.out.2.trans (hb3.mono (fJ hsgh));clear HF HK hS3 hb3 hmf
 go_wp2_with (refine wpList_load_row rfl 100 _ rfl gh rfl 100 (Us R.list).toArray (0,0) _ kh Tryz.underlying100 rfl (qZ _ hzr) ?_)
 refine (HL.out _).mono ?_
 rintro e W4 ⟨rfl,hw4⟩
 have hko:=hko.later hw4;have hbe4:=bA hbe3 hw4
 have hz : (By (R.list.map (nR eT)).flatten).toArray.size = 64:=by
  rw [a9,cD,sJ (nR eT) (n:=8) (λx=>sH eT x) R.list]
  rfl
 clear HL hw4 kh hbe3;obtain ⟨D,hDD⟩ : ∃ D,(R.list.map (nR eT)).flatten = D:=⟨_,rfl⟩;rw [hDD] at hz ⊢;have HDD:=aL hDD;clear hDD
 go_wp2_with (refine wpList_store_row rfl 38 _ _ rfl w.heap.size rfl (By D).toArray rfl 38 _ hko (qH _ hz) (by rw [hz]; rfl) (kU _) ?_)
 refine bodyPost_ret (results_cell_row rfl _ _ w.heap.size 38 (By D).toArray (0,0) _ rfl (hko.row _) Tryz.underlying38 rfl (qH _ hz)) rfl ⟨by rw [HDD.out],?_⟩;exact below_setRow hbe4 (aH _) _
end Go.Proofs.YtfkchihlchlfdaaGreatDoor
namespace Nums
theorem DA : dQ 1224481:=gQ (k:=1107) (by decide) (by decide +kernel) (by decide +kernel)
theorem Fe : dQ 531581:=gQ (k:=730) (by decide) (by decide +kernel) (by decide +kernel)
theorem Pb : dQ 41:=gQ (k:=7) (by decide) (by decide) (by decide +kernel)
theorem Jw : dQ 2851:=gQ (k:=54) (by decide) (by decide) (by decide +kernel)
theorem MG : dQ 269:=gQ (k:=17) (by decide) (by decide) (by decide +kernel)
theorem SU : dQ 7:=gQ (k:=3) (by decide) (by decide) (by decide +kernel)
theorem Pc : dQ 11:=gQ (k:=4) (by decide) (by decide) (by decide +kernel)
theorem Pa : dQ 1257559732178653:=mL (q1:=1224481) (q2:=531581) (a:=2) (k:=51) DA Fe (by decide +kernel)
theorem O9 : dQ 4434155615661930479:=mL (q1:=1257559732178653) (q2:=41) (a:=3) (k:=62) Pa Pb (by decide +kernel)
theorem O8 : dQ 172054593956031949258510691:=mL (q1:=4434155615661930479) (q2:=2851) (a:=2) (k:=88) O9 Jw (by decide +kernel)
theorem O7 : dQ 19757330305831588566944191468367130476339:=mL (q1:=172054593956031949258510691) (q2:=269) (a:=2) (k:=134) O8 MG (by decide +kernel)
theorem O6 : dQ 276602624281642239937218680557139826668747:=mL (q1:=19757330305831588566944191468367130476339) (q2:=7) (a:=2) (k:=138) O7 SU (by decide +kernel)
theorem Lc : dQ LL:=mL (q1:=276602624281642239937218680557139826668747) (q2:=11) (a:=2) (k:=253) O6 Pc (by decide +kernel)
theorem Ul : base ≠ Ed.zero:=λh=>by
 have h1:=congrArg Ed.Pt.y h;have h2 : (fof bY : F).val = (1 : F).val:=congrArg Fin.val h1;rw [val_one iF,wL] at h2
 revert h2
 decide
theorem S9 (n : Nat) : Ed.mul dd n base = Ed.zero ↔ LL ∣ n:=by
 constructor
 ·intro h
  by_cases hd : LL ∣ n
  ·exact hd
  ·exfalso
   have hf:=J0 Lc hd;obtain ⟨e,he⟩ : ∃ e,LL - 1 = e + 1:=⟨LL - 2,by decide⟩;rw [he,dD] at hf;generalize n ^ e = c at hf
   have h1 : n * c = LL * (c * n / LL) + 1:=by
    have:=Nat.div_add_mod (c * n) LL;rw [hf] at this;rw [iH n c];exact this.symm
   exact Ul (Ed.RR jC mO h order h1)
 ·rintro ⟨c,rfl⟩
  rw [Ed.wF jC mO,order,Ed.mul_zero jC]
def yE (x : Nat) : Nat:=x % 28948022309329048855892746252171976963317496166410141009864396001978282409984 / 8 * 8 + 28948022309329048855892746252171976963317496166410141009864396001978282409984
theorem Rf (x : Nat) : ¬ LL ∣ yE x:=by
 rintro ⟨c,hc⟩
 obtain ⟨y,hy⟩ : ∃ y,y = x % 28948022309329048855892746252171976963317496166410141009864396001978282409984:=⟨_,rfl⟩
 have hy2 : y < 28948022309329048855892746252171976963317496166410141009864396001978282409984:=by rw [hy]; exact eJ _ (by decide)
 have h0 : yE x = y / 8 * 8 + 28948022309329048855892746252171976963317496166410141009864396001978282409984:=by rw [hy]; rfl
 rw [h0] at hc
 have h8 : LL * c % 8 = 0:=by rw [<-hc]; omega
 have h1 : LL * c < LL * 8:=by
  rw [<-hc];refine bM (m:=57896044618658097711785492504343953926634992332820282019728792003956564819968) ?_ (by decide)
  omega
 have h2 : 0 < LL * c:=by rw [<-hc]; omega
 have hc8 : c < 8:=Nat.lt_of_mul_lt_mul_left h1;clear hc h0 hy hy2 h1
 have h5 : LL * c % 8 = 5 * c % 8:=by rw [xL,show LL % 8 = 5 from by decide,xL 5 c,show 5 % 8 = 5 from rfl]
 rw [h5] at h8
 have hcz : c = 0:=by omega
 rw [hcz,Ga] at h2;exact absurd h2 (by decide)
theorem Iz (x : Nat) : Ed.mul dd 8 (Ed.mul dd (yE x) base) ≠ Ed.zero:=by
 intro h
 rw [Ed.Em jC mO,S9] at h
 rcases Lc.dvd_mul h with h1 | h1
 ·exact absurd (Nat.le_of_dvd (by decide) h1) (by decide)
 ·exact Rf x h1
theorem Jc (r k a : Nat) : Ed.add dd (Ed.mul dd ((r + k * a) % LL) base) (Ed.neg (Ed.mul dd k (Ed.mul dd a base))) = Ed.mul dd r base:=by
 have hr:=Ed.kN jC mO r;have hk:=Ed.kN jC mO (k * a);rw [<-Ed.mul_mod jC mO order,Ed.mul_add jC mO,Ed.Em jC mO,Ed.add_assoc jC hr hk (Ed.uX hk),Ed.add_neg jC hk,Ed.add_zero jC]
end Nums
namespace Nums
def qP (l : List UInt8) : List UInt8:=l.set 0 (cR ((l[0]!).toNat / 8 * 8))
def Mk (l : List UInt8) : List UInt8:=l.set 31 (cR ((l[31]!).toNat % 64 + 64))
def Da (l : List UInt8) : List UInt8:=Mk (qP l)
theorem CI (l : List UInt8) : (qP l).length = l.length:=eP
theorem Ob (l : List UInt8) : (Mk l).length = l.length:=eP
theorem Ke (l : List UInt8) : (Da l).length = l.length:=by rw [Da,Ob,CI]
theorem ofNat_toNat {n : Nat} (h : n < 256) : (cR n).toNat = n:=by
 rw [UInt8.toNat_ofNat']
 omega
theorem Nw (x b t : Nat) (h : x = b + 28948022309329048855892746252171976963317496166410141009864396001978282409984 * t) (hb : b < 28948022309329048855892746252171976963317496166410141009864396001978282409984) : yE x = b / 8 * 8 + 28948022309329048855892746252171976963317496166410141009864396001978282409984:=by
 unfold yE
 rw [h,Nat.add_mul_mod_self_left,bR hb]
theorem Tt : ∀ {l : List UInt8},0 < l.length -> le (qP l) = le l / 8 * 8
 | [],h=>absurd h (by simp)
 | x :: l,_=>by
  have hx:=x.toNat_lt;have e : qP (x :: l) = cR (x.toNat / 8 * 8) :: l:=rfl;rw [e]
  show (cR (x.toNat / 8 * 8)).toNat + 256 * le l = (x.toNat + 256 * le l) / 8 * 8
  rw [ofNat_toNat (by omega)]
  omega
theorem Tr {l : List UInt8} (h : l.length = 32) : ∃ b t,b < 28948022309329048855892746252171976963317496166410141009864396001978282409984 /\ le l = b + 28948022309329048855892746252171976963317496166410141009864396001978282409984 * t /\ le (Mk l) = b + 28948022309329048855892746252171976963317496166410141009864396001978282409984 /\ b % 8 = le l % 8:=by
 have hs : l = l.take 31 ++ [l[31]!]:=by
  have h1 : l.drop 31 = [l[31]!]:=by
   rw [mK (by omega),NI (by omega),getElem!_pos l 31 (by omega)]
  rw [<-h1,dR]
 have hlen : (l.take 31).length = 31:=by rw [aY]; omega
 have ht : Mk l = l.take 31 ++ [cR ((l[31]!).toNat % 64 + 64)]:=by
  unfold Mk
  conv=>lhs; arg 1; rw [hs]
  rw [Bz _ _ (by rw [hlen]; exact aH _),hlen]
  rfl
 have hx:=(l[31]!).toNat_lt;have hlo:=Be (l.take 31);rw [hlen] at hlo
 have e1 : le l = le (l.take 31) + 256 ^ 31 * (l[31]!).toNat:=by
  conv=>lhs; rw [hs]
  rw [mA,hlen]
  rfl
 have e2 : le (Mk l) = le (l.take 31) + 256 ^ 31 * ((l[31]!).toNat % 64 + 64):=by
  rw [ht,mA,hlen]
  show _ + 256 ^ 31 * ((cR ((l[31]!).toNat % 64 + 64)).toNat + 256 * 0) = _
  rw [ofNat_toNat (by omega)]
 generalize le (l.take 31) = u at *;generalize (l[31]!).toNat = y at *;refine ⟨u + 256 ^ 31 * (y % 64),y / 64,?_,?_,?_,?_⟩
 ·omega
 ·rw [e1]
  omega
 ·rw [e2]
  omega
 ·rw [e1]
  omega
theorem M9 {l : List UInt8} (h : l.length = 32) : le (Da l) = yE (le l):=by
 have h1:=Tt (l:=l) (by omega);obtain ⟨b,t,hb,e1,e2,e3⟩:=Tr (l:=qP l) (by rw [CI,h]);rw [h1] at e1 e3
 have h8 : b % 8 = 0:=by rw [e3]; omega
 obtain ⟨r,hr,hr8⟩ : ∃ r,le l = le l / 8 * 8 + r /\ r < 8:=⟨le l % 8,by omega,by omega⟩;rw [Da,e2,Nw (le l) (b + r) t (by omega) (by omega)]
 omega
def sgD (seed : List UInt8) : List UInt8:=eO eT seed
def iR (seed : List UInt8) : List UInt8:=Da ((sgD seed).take 32)
def jJ (seed : List UInt8) : List UInt8:=(sgD seed).drop 32
def gV (seed : List UInt8) : List UInt8:=eV (Ed.mul dd (le (iR seed)) base)
def sgR (seed m : List UInt8) : Nat:=le (eO eT (jJ seed ++ m)) % LL
def iB (seed m : List UInt8) : List UInt8:=eV (Ed.mul dd (sgR seed m) base)
def sgK (R key m : List UInt8) : Nat:=le (eO eT (R ++ (key ++ m))) % LL
def sgS (seed m : List UInt8) : Nat:=(sgR seed m + sgK (iB seed m) (gV seed) m * le (iR seed)) % LL
def jZ (seed m : List UInt8) : List UInt8:=iB seed m ++ bytes 32 (sgS seed m)
def U0 (key sig m : List UInt8) : Prop:=∃ A,Ed.On dd A /\ eV A = key /\ Ed.mul dd 8 A ≠ Ed.zero /\ le (sig.drop 32) < LL /\
  eV (Ed.add dd (Ed.mul dd (le (sig.drop 32)) base) (Ed.neg (Ed.mul dd (sgK (sig.take 32) key m) A))) = sig.take 32
theorem xE (m : List UInt8) : (eO eT m).length = 64:=by
 unfold eO
 have h : ∀ l : List Nat,((l.map (nR eT)).flatten).length = 8 * l.length:=by
  intro l
  induction l with
  | nil=>rfl
  | cons x l ih =>
   rw [cA,lY,aI,ih,cC]
   have : (nR eT x).length = 8:=by
    unfold nR
    rw [j9,cP]
    rfl
   omega
 rw [h]
 rfl
theorem BJ (seed : List UInt8) : (sgD seed).length = 64:=xE _
theorem OA (seed : List UInt8) : (iR seed).length = 32:=by rw [iR,Ke,aY,BJ]; rfl
theorem pU (seed : List UInt8) : (jJ seed).length = 32:=by rw [jJ,fW,BJ]
theorem l6 (seed : List UInt8) : (gV seed).length = 32:=gW _
theorem jI (seed m : List UInt8) : (iB seed m).length = 32:=gW _
theorem k9 (seed m : List UInt8) : (jZ seed m).length = 64:=by rw [jZ,aI,jI,cP]
theorem Je (seed m : List UInt8) : (jZ seed m).take 32 = iB seed m:=by rw [jZ,List.take_append_of_le_length (by rw [jI]; exact aH _),bW (by rw [jI]; exact aH _)]
theorem Jf (seed m : List UInt8) : (jZ seed m).drop 32 = bytes 32 (sgS seed m):=by
 rw [jZ,List.drop_append,jI,NH (by rw [jI]; exact aH _)]
 rfl
theorem At (n : Nat) : n % LL < LL:=eJ _ (by decide)
theorem Ow (seed m : List UInt8) : sgS seed m < LL:=At _
theorem wJ {n : Nat} (h : n < LL) : le (bytes 32 n) = n:=by
 rw [o5,bR (Ab h (by decide))]
theorem P4 (seed m : List UInt8) : le ((jZ seed m).drop 32) = sgS seed m:=by rw [Jf,wJ (Ow _ _)]
theorem Nc (seed : List UInt8) : Ed.mul dd 8 (Ed.mul dd (le (iR seed)) base) ≠ Ed.zero:=by
 have h : le (iR seed) = yE (le ((sgD seed).take 32)):=M9 (by rw [aY,BJ]; rfl);rw [h];exact Iz _
theorem MC (seed m : List UInt8) : U0 (gV seed) (jZ seed m) m:=by
 refine ⟨_,Ed.kN jC mO _,rfl,Nc seed,?_,?_⟩
 ·rw [P4]
  exact Ow _ _
 ·rw [P4,Je,sgS,Jc]
  rfl
end Nums
namespace Go.Proofs.YtfkchihlchlfdaaGreatDoor
open Go.RowKit Go.IntWalk Nums
theorem SO {w : World} {P : Option Addr} {ls : List (List UInt8)} (h : PT w P ls) (hP : P = none) : ls = []:=by
 cases ls with
 | nil=>rfl
 | cons l ls =>
  obtain ⟨ad,e,_⟩:=h (by simp);rw [hP] at e
  cases e
theorem CE {v1 v2 : Value} {l1 l2 : List UInt8} {P : Option Addr} {ls : List (List UInt8)} {pc : Nat} (w : World) (hT : Tsh w) (h1 : SB w v1 l1) (h2 : SB w v2 l2) (hP : PT w P ls) (h0 : P = none -> pc = 0) (hls : ls.length <= 1000000) :
  Calls Tryz.prog 63 #[v1,v2,.slice P ls.length pc] w λe w'=>e = .returned (.agg (Us (ws (le (eO eT (l1 ++ (l2 ++ ls.flatten))) % LL))).toArray) /\ Below w.heap.size w w':=by
 refine fI (vs:=[v1,v2,.slice P ls.length pc]) 16 Tryz.func63 rfl (by rw [Tryz.ntmps63]; rfl) ?_;refine aO λK hK=>?_;refine eX ?_;refine cY z4 rfl rfl rfl rfl (by kernel_rfl) λW1 g1 hw1 hg1 b1=>?_;refine bI ?_;refine hK _ _ ?_;clear hK K;replace h1:=h1.later hw1;replace h2:=h2.later hw1;replace hP:=hP.later hw1;replace hT:=hT.below hw1;have hU : Up w W1:=hw1
 have q1 : w.heap.size <= g1:=by rw [hg1]; exact aH _
 clear hw1;refine aO λK hK=>?_;refine yF 4 ?_;refine cZ rfl ?_;refine aM v1 rfl rfl rfl rfl rfl ?_;refine c9 ?_;refine cZ rfl ?_;refine aM v2 rfl rfl rfl rfl rfl ?_;refine c9 ?_;refine vA [v1,v2] [l1,l2] W1.heap.size rfl rfl rfl rfl rfl rfl rfl (by decide) (by decide) (λ_ h=>h.size) (λ_ h _=>⟨h1.later h,h2.later h,trivial⟩) λg2 _ _ _=>?_;refine cZ rfl ?_;refine aM (.slice P ls.length pc) rfl rfl rfl rfl rfl ?_;refine c9 ?_;refine jT λW2 hw2 hF=>?_;have n2:=hF 2 _ rfl;clear hF;refine V3 (vs:=[v1,v2]) (ls:=ls) (base:=W1.heap.size) rfl rfl rfl rfl rfl rfl (n2.gs (n:=2) rfl (by decide)) hw2 hP (λe=>⟨h0 e,SO hP e⟩) (by simp; omega) hw2.size λA' c' W3 us hus hgs hgr=>?_;have hU3 : Up W1 W3:=GS.JW (n2.gs (n:=2) rfl (by decide)) hw2 hgr hw2.size;have hall : mI W3 ([v1,v2] ++ us) ([l1,l2] ++ ls):=mI.app ⟨h1.later hU3,h2.later hU3,trivial⟩ (mI.later hU3 hus);obtain ⟨hPT,hc1,hc2⟩:=hgs.pt hall;rw [hall.len];refine cV (.slice A' ([l1,l2] ++ ls).length c') rfl rfl rfl rfl rfl ?_;refine bI ?_;refine hK _ _ ?_;clear hK K;replace b1:=b1.later hU3;replace hT:=hT.below hU3;replace hU:=hU.step hU3;refine aO λK hK=>?_;refine lL 3 ?_;refine aM (.slice A' ([l1,l2] ++ ls).length c') rfl rfl rfl rfl rfl ?_;refine dN #[.slice A' ([l1,l2] ++ ls).length c'] (.agg (By (eO eT ([l1,l2] ++ ls).flatten)).toArray) rfl rfl rfl Cx (λw1 h=>Gv A' ([l1,l2] ++ ls) c' w1 (hT.below h) (hPT.later h) hc1 hc2) rfl rfl ?_;refine dN #[.agg (By (eO eT ([l1,l2] ++ ls).flatten)).toArray] (.agg (Us (ws (le (eO eT ([l1,l2] ++ ls).flatten) % LL))).toArray) rfl rfl rfl Cu (λw1 _=>I3 (xE _) w1) rfl rfl ?_;refine iW g1 _ (Us (ws (le (eO eT ([l1,l2] ++ ls).flatten) % LL))).toArray rfl rfl rfl rfl rfl b1 (qI _) (by rw [aV (fA _)]; rfl) (bU _) λw4 hw4 c4=>?_;refine bI ?_;refine hK _ _ ?_;clear hK K;refine gX (eH g1 _ rfl rfl c4 Tryz.underlying93 rfl (qI _) ⟨?_,cT (hU.step hw4) q1 _⟩)
 rfl
end Go.Proofs.YtfkchihlchlfdaaGreatDoor
