/-
  SEVERAL TEXTS IN ONE: LawC, LawM, Sub64, WSum, Red, Next, Wide, ScHash, ScOps, ScOwn, LawS, RegJ, RgS, RegK, RgIx.
-/
import Derived.Test.YtminmeljonbogaaDoorMg
import Derived.Test.YtminmeljonbogaaDoorMd
import Derived.Test.YtminmeljonbogaaDoorMb
import Derived.StillTailTactics
import Derived.Test.YtminmeljonbogaaDoorMc
import Derived.Deep.QuietTactic
import Derived.Test.YtminmeljonbogaaDoorMa
import Derived.Laws.IdiomStrings
import Derived.Laws.BytesArg
import Derived.Lib.SlBytesConst
/-
  STEPS OF THE CURVE's LAWS over frames by what is known of them: guarded operations, choices, '==' of what is equal; points of both makes; first.
-/
namespace Go.Proofs.YtminmeljonbogaaDoor
open Go.RowKit Go.IntWalk Nums

section
variable {P : Program} {ops : Array Oper} {C0 : World → Prop} {Q : Act → Prop} {N : Nat} {E : List (Nat × Value)} {o : Oper} {rest : List Oper} {k : Nat}
theorem f_pick {c x y : Operand} (v : Value) (hg : o.guard = none) (hd : o.dst = some k) (hk : Nat.blt k N = true) (ho : o.op = .pick c x y) (hc : ev E c = some (.bool true)) (hx : ev E x = some v) (hn : bF P ops C0 Q rest N ((k,v) :: E)) : bF P ops C0 Q (o :: rest) N E :=
 f_val _ hg hd hk (fun a ha w _=>by
  have h1:=ha.eval hc;have h2:=ha.eval hx
  unfold execOp
  simp only [ho,h1,h2]
  go_simp) hn
end
section
variable {ops : Array Oper} {C0 : World → Prop} {Q : Act → Prop} {N : Nat} {E : List (Nat × Value)} {o : Oper} {rest : List Oper} {k : Nat}
theorem f_eqs {t t' : TypeId} {x y : Operand} (l m : List UInt8) (hg : o.guard = none) (hd : o.dst = some k) (hk : Nat.blt k N = true) (ho : o.op = .binOp .eql t x y t') (ht : t = 22) (hx : ev E x = some (.agg (By l).toArray)) (hy : ev E y = some (.agg (By m).toArray))
  (hl : l.length = 32) (hlm : l = m) (hn : bF Tryd.prog ops C0 Q rest N ((k,.bool true) :: E)) : bF Tryd.prog ops C0 Q (o :: rest) N E:=by
 subst ht hlm;exact f_eq (By l).toArray (By l).toArray hg hd hk ho hx hy (by kernel_rfl) (fun w=>by rw [equal32 l l hl hl w]; simp) hn
theorem f_eqd {t t' : TypeId} {x y : Operand} (l m : List UInt8) (hg : o.guard = none) (hd : o.dst = some k) (hk : Nat.blt k N = true) (ho : o.op = .binOp .eql t x y t') (ht : t = 22) (hx : ev E x = some (.agg (By l).toArray)) (hy : ev E y = some (.agg (By m).toArray))
  (hl : l.length = 32) (hm : m.length = 32) (hn : bF Tryd.prog ops C0 Q rest N ((k,.bool (decide (l = m))) :: E)) : bF Tryd.prog ops C0 Q (o :: rest) N E:=by
 subst ht;exact f_eq (By l).toArray (By m).toArray hg hd hk ho hx hy (by kernel_rfl) (fun w=>equal32 l m hl hm w) hn
theorem f_eqb {x y : Operand} {t : TypeId} (m n q : Bool) (hg : o.guard = none) (hd : o.dst = some k) (hk : Nat.blt k N = true) (ho : o.op = .binOp .eql 4 x y t) (hx : ev E x = some (.bool m)) (hy : ev E y = some (.bool n))
  (hr : (m == n) = q) (hn : bF Tryd.prog ops C0 Q rest N ((k,.bool q) :: E)) : bF Tryd.prog ops C0 Q (o :: rest) N E :=
 f_val _ hg hd hk (fun a ha w _=>by
  have h1:=ha.eval hx;have h2:=ha.eval hy;subst hr
  unfold execOp
  simp only [ho,h1,h2]
  cases m <;> cases n <;> go_simp) hn
end
theorem own_chash : Own 46:=fun _ _=>by go_simp
theorem own_csmall : Own 42:=fun _ _=>by go_simp
theorem own_cmul : Own 66:=fun _ _=>by go_simp
theorem own_cdecode : Own 41:=fun _ _=>by go_simp

/-! ### Known bytes -/
def oneB : List UInt8:=[1,0,0,0,0,0,0,0,0,0,0,0,0,0,0,0,0,0,0,0,0,0,0,0,0,0,0,0,0,0,0,0]
def twoB : List UInt8:=[2,0,0,0,0,0,0,0,0,0,0,0,0,0,0,0,0,0,0,0,0,0,0,0,0,0,0,0,0,0,0,0]
theorem builtOne : Tryd.prog.built 22 [(0,.int .u8 1)] = some (By oneB).toArray:=by kernel_rfl
theorem builtTwo : Tryd.prog.built 22 [(0,.int .u8 2)] = some (By twoB).toArray:=by kernel_rfl
/-! ### Decode, where the bytes are known -/
theorem cdec_pt {A : Ed.Pt p} (hA : Ed.On dd A) (w : World) (hT : Tw w) : Calls Tryd.prog 41 #[.agg (By (encP A)).toArray] w fun e w'=>∃ v,e = .returned v ∧ (∃ l,QB l A ∧ v = .tuple #[.agg (Us l).toArray,.int .i64 0]) ∧ Below w.heap.size w w' :=
 (cdecode_f (encP_len A) w hT).mono fun e w' ⟨h,hw⟩=>by
  rcases h with ⟨l,B,hl,hB,he⟩ | ⟨h,_⟩
  ·have : B = A:=encP_inj hl.on hA hB
   subst this;exact ⟨_,he,⟨l,hl,rfl⟩,hw⟩
  ·exact absurd ⟨A,hA,rfl⟩ h
theorem cdec_no {b : List UInt8} (hb : b.length = 32) (hn : ¬ ∃ A,Ed.On dd A ∧ encP A = b) (w : World) (hT : Tw w) : Calls Tryd.prog 41 #[.agg (By b).toArray] w fun e w'=>e = .returned (.tuple #[.agg (Us pz).toArray,.int .i64 50]) ∧ Below w.heap.size w w' :=
 (cdecode_f hb w hT).mono fun e w' ⟨h,hw⟩=>by
  rcases h with ⟨l,B,hl,hB,he⟩ | ⟨_,he⟩
  ·exact absurd ⟨B,hl.on,hB⟩ hn
  ·exact ⟨he,hw⟩
end Go.Proofs.YtminmeljonbogaaDoor
/-
  PLAIN NUMBERS of the curve's laws.
-/
namespace Go.Proofs.YtminmeljonbogaaDoor
open Go.RowKit Nums

theorem mul_ll (n : Nat) : Ed.mul dd (n % LL) base = Ed.mul dd n base:=(Ed.mul_mod good on_base order n).symm
theorem ll_mod (n : Nat) : n % LL < LL:=Nat.mod_lt _ (by decide)
/-! ### Points of small order -/
def m1 : Ed.Pt p:=⟨0, -1⟩
end Go.Proofs.YtminmeljonbogaaDoor
/-
  WORDS OF 64 BITS: the library's Sub64; calls of the library inside regions.
-/
namespace Go.Proofs.YtminmeljonbogaaDoor
open Go.RowKit Go.IntWalk

theorem sub64_run (x y b : Nat) (hb : b ≤ 1) (w : World) : (callFunc 106 #[.int .u64 x,.int .u64 y,.int .u64 b]).run Tryd.prog w =
  .ok (.value (.tuple #[.int .u64 (((x + 18446744073709551616 - y - b) % 18446744073709551616 : Nat) : Int),.int .u64 ((if x < y + b then 1 else 0 : Nat) : Int)])) w:=by
 rw [run_callFunc_extern Tryd.func106 (by kernel_rfl) (by kernel_rfl) (by kernel_rfl) (e:=subEntry) (by kernel_rfl),run_sub x y b hb]
 rfl

end Go.Proofs.YtminmeljonbogaaDoor
/-
  THE PROGRAM'S SCALARS: sum: four words and four words, modulo 2^256.
-/
namespace Go.Proofs.YtminmeljonbogaaDoor
open Go.RowKit Go.IntWalk Nums

theorem size_w4 (cs : Array Value) (h : cs.size = 4) : (Tryd.prog.info? 57).map (·.size) = some cs.size:=by
 rw [h]
 kernel_rfl
theorem size_sc (cs : Array Value) (h : cs.size = 4) : (Tryd.prog.info? 59).map (·.size) = some cs.size:=by
 rw [h]
 kernel_rfl
def z4 : Array Value:=(Us [0,0,0,0]).toArray
theorem len_u4 {l : List Nat} (h : l.length = 4) : (Us l).toArray.size = 4:=by rw [List.size_toArray,Us_len,h]

set_option maxRecDepth 100000 in
set_option maxHeartbeats 1000000 in
theorem wsum_f {A B : Nat} (hA : A < 115792089237316195423570985008687907853269984665640564039457584007913129639936) (hB : B < 115792089237316195423570985008687907853269984665640564039457584007913129639936) (w : World) :
  Calls Tryd.prog 67 #[.agg (Us (ws A)).toArray,.agg (Us (ws B)).toArray] w fun e w'=>e = .returned (.agg (Us (ws ((A + B) % 115792089237316195423570985008687907853269984665640564039457584007913129639936))).toArray) ∧ Below w.heap.size w w':=by
 rw [← sum_ws hA hB];have ha:=fun k=>ws_get_lt A (k:=k);have hb:=fun k=>ws_get_lt B (k:=k);have la:=ws_len A;have lb:=ws_len B;have hc:=sup_le ha hb;clear hA hB;generalize ws A = a at *;generalize ws B = b at *
 go_enter Tryd.func67,Tryd.ntmps67
 go_wp2
 go_loopw [7,5] (fun i u wr=>∃ k : Nat,k ≤ 4 ∧ i = .int .i64 k ∧ u = .int .u64 (sup a b k : Nat) ∧ Blk wr w.heap.size 57 (Us (mxl (swd a b) a k)).toArray ∧ Blk wr (w.heap.size + 1) 57 (Us b).toArray ∧ Blk wr (w.heap.size + 1 + 1) 57 z4 ∧ Below w.heap.size w wr) (fun i _ _=>4 - (intOf i).toNat)
 case atStart =>
  refine ⟨0,by omega,rfl,rfl,?_,blk3_1 w _ _ _ _,blk3_2 w _ _ _ _,(((Below.refl _ _).alloc (Nat.le_refl _) _).alloc (by simp) _).alloc (by simp; omega) _⟩;rw [mxl_zero];exact blk3_0 w _ _ _ _
 case round =>
  obtain ⟨k,hk,rfl,rfl,h0,h1,h2,hbel⟩:=hrel
  by_cases hlt : k < 4
  ·have hN:=mxl_set (swd a b) a (k:=k)
   have hU : sup a b (k + 1) = (a[k]! + b[k]! + sup a b k) / 18446744073709551616:=rfl;have hS : swd a b k = (a[k]! + b[k]! + sup a b k) % 18446744073709551616:=rfl;have hg:=mxl_get (swd a b) a (k:=k) (by omega);have c0:=(h0.drew.cell k).trans (Us_at (by rw [mxl_len]; omega));rw [hg] at c0;have c1:=(h1.drew.cell k).trans (Us_at (by omega));have b0:=ha k hlt;have b1:=hb k hlt;have b2:=hc k (by omega);have hf:=h0.drew.free k;rw [hS] at hN;generalize a[k]! = u at *;generalize b[k]! = v at *;generalize sup a b k = c at *;have hA:=add64_run u v c b2
   have q2 : (0 : Int) ≤ (k : Int):=by omega
   have HK:=Lib.hid (And.intro h0 (And.intro h1 (And.intro h2 (And.intro hbel (And.intro hN hU)))));clear h0 h1 h2 hbel hN hg hU hS ha hb hc;generalize (u + v + c) % 18446744073709551616 = s at *;generalize (u + v + c) / 18446744073709551616 = t at *
   go_wp2
   go_region_with (simp only [hA])
   all_goals (
    go_wp2
    go_roundw
    case rel =>
     obtain ⟨h0,h1,h2,hbel,hN,hU⟩:=HK.out;have h4:=h0.set k (.int .u64 ((s : Nat) : Int));rw [Us_set,hN] at h4;exact ⟨k + 1,by omega,by go_num,by rw [hU],h4,h1.far (by simp) _,h2.far (by simp; omega) _,(hbel.setCell (by simp) _).drew⟩
    case measure=>simp [intOf]; omega)
  ·obtain rfl : k = 4:=by omega
   have hz : (Us (mxl (swd a b) a 4)).toArray.size = 4:=len_u4 (by rw [mxl_len,la])
   go_wp2_with (first
    | (refine wpList_load_row rfl 57 _ rfl w.heap.size rfl 57 (Us (mxl (swd a b) a 4)).toArray (0,0) _ h0 Tryd.underlying57 rfl (size_w4 _ hz) ?_)
    | (refine wpList_store_row rfl 57 _ _ rfl (w.heap.size + 1 + 1) rfl (Us (mxl (swd a b) a 4)).toArray rfl 57 _ h2 (size_w4 _ hz) (by rw [hz]; rfl) (Us_one _) ?_))
   refine bodyPost_ret (results_cell_row rfl _ _ (w.heap.size + 1 + 1) 57 (Us (mxl (swd a b) a 4)).toArray (0,0) _ rfl (h2.row _) Tryd.underlying57 rfl (size_w4 _ hz)) rfl ⟨rfl,?_⟩;exact below_setRow hbel (by omega) _
end Go.Proofs.YtminmeljonbogaaDoor
/-
  THE PROGRAM'S SCALARS: reduced: five words modulo L.
-/
namespace Go.Proofs.YtminmeljonbogaaDoor
open Go.RowKit Go.IntWalk Nums

theorem ws_LL : ws LL = [6346243789798364141,1503914060200516822,0,1152921504606846976]:=by decide
theorem cell4 (a b c d : Nat) : (Us [a,b,c,d]).toArray = #[.int .u64 (a : Int),.int .u64 (b : Int),.int .u64 (c : Int),.int .u64 (d : Int)]:=rfl

theorem mask60 (a : Nat) (ha : a < 18446744073709551616) : bits .and .u64 (a : Int) 1152921504606846975 = ((a % 1152921504606846976 : Nat) : Int):=by
 have h:=u64_and_nat a 1152921504606846975 ha (by omega);have e : a &&& 1152921504606846975 = a % 1152921504606846976:=Nat.and_two_pow_sub_one_eq_mod a 60;rw [e] at h;exact h

set_option maxRecDepth 100000 in
set_option maxHeartbeats 2000000 in
theorem red_f {v0 v1 v2 v3 u : Nat} (h0 : v0 < 18446744073709551616) (h1 : v1 < 18446744073709551616) (h2 : v2 < 18446744073709551616) (h3 : v3 < 18446744073709551616) (hu : u < 1073741824) (w : World) :
  Calls Tryd.prog 68 #[.agg (Us [v0,v1,v2,v3,u]).toArray] w fun e w'=>e = .returned (.agg (Us (ws ((v4 v0 v1 v2 v3 + 115792089237316195423570985008687907853269984665640564039457584007913129639936 * u) % LL))).toArray) ∧ Below w.heap.size w w':=by
 obtain ⟨t,ht⟩ : ∃ t,t = u * 16 + v3 / 1152921504606846976:=⟨_,rfl⟩
 have htb : t < 34359738368:=by omega
 have qt : bits .or .u64 ((u : Int) * 16) ((v3 : Int) / 1152921504606846976) = (t : Int):=by
  have e:=orW 4 (u * 16) (v3 / 1152921504606846976) (by omega) (by omega) (by omega) (by omega);rw [ht,← e]
  rfl
 have HM0:=fun w1=>Lib.hid (mul64_any t 6346243789798364141 (by omega) (by omega) w1);have HM1:=fun w1=>Lib.hid (mul64_any t 1503914060200516822 (by omega) (by omega) w1);obtain ⟨V,hV⟩ : ∃ V,V = v4 v0 v1 v2 v3 + 115792089237316195423570985008687907853269984665640564039457584007913129639936 * u:=⟨_,rfl⟩;rw [← hV]
 have hV2 : V = v4 v0 v1 v2 (v3 % 1152921504606846976) + 7237005577332262213973186563042994240829374041602535252466099000494570602496 * t:=by
  rw [hV,ht]
  unfold v4
  omega
 have q3:=mask60 v3 h3
 have hv3 : v3 % 1152921504606846976 < 1152921504606846976:=by omega
 obtain ⟨m0,hm0⟩ : ∃ m,m = t * 6346243789798364141:=⟨_,rfl⟩;obtain ⟨m1,hm1⟩ : ∃ m,m = t * 1503914060200516822:=⟨_,rfl⟩;rw [← hm0] at HM0;rw [← hm1] at HM1;obtain ⟨p1,hp1⟩ : ∃ p,p = m1 % 18446744073709551616 + m0 / 18446744073709551616:=⟨_,rfl⟩
 have hA : ∀ w1,(callFunc 104 #[.int .u64 ((m1 % 18446744073709551616 : Nat) : Int),.int .u64 ((m0 / 18446744073709551616 : Nat) : Int),.int .u64 0]).run Tryd.prog w1 = .ok (.value (.tuple #[.int .u64 ((p1 % 18446744073709551616 : Nat) : Int),.int .u64 ((p1 / 18446744073709551616 : Nat) : Int)])) w1:=by
  rw [hp1];exact fun w1=>add64_run (m1 % 18446744073709551616) (m0 / 18446744073709551616) 0 (by omega) w1
 have qd : IntKind.u64.wrap (((m1 / 18446744073709551616 : Nat) : Int) + ((p1 / 18446744073709551616 : Nat) : Int)) = ((m1 / 18446744073709551616 + p1 / 18446744073709551616 : Nat) : Int):=by
  rw [IntKind.wrap_u64]
  omega
 obtain ⟨r0,l0,hr0,hl0,H0⟩ : ∃ r0 l0 : Nat,r0 = (v0 + 18446744073709551616 - m0 % 18446744073709551616 - 0) % 18446744073709551616 ∧ l0 = (if v0 < m0 % 18446744073709551616 + 0 then 1 else 0) ∧
   ∀ w1,(callFunc 106 #[.int .u64 (v0 : Int),.int .u64 ((m0 % 18446744073709551616 : Nat) : Int),.int .u64 0]).run Tryd.prog w1 = .ok (.value (.tuple #[.int .u64 (r0 : Int),.int .u64 (l0 : Int)])) w1 :=
  ⟨_,_,rfl,rfl,fun w1=>sub64_run v0 (m0 % 18446744073709551616) 0 (by omega) w1⟩
 have b0 : l0 ≤ 1:=by rw [hl0]; split <;> omega
 obtain ⟨r1,l1,hr1,hl1,H1⟩ : ∃ r1 l1 : Nat,r1 = (v1 + 18446744073709551616 - p1 % 18446744073709551616 - l0) % 18446744073709551616 ∧ l1 = (if v1 < p1 % 18446744073709551616 + l0 then 1 else 0) ∧
   ∀ w1,(callFunc 106 #[.int .u64 (v1 : Int),.int .u64 ((p1 % 18446744073709551616 : Nat) : Int),.int .u64 (l0 : Int)]).run Tryd.prog w1 = .ok (.value (.tuple #[.int .u64 (r1 : Int),.int .u64 (l1 : Int)])) w1 :=
  ⟨_,_,rfl,rfl,fun w1=>sub64_run v1 (p1 % 18446744073709551616) l0 b0 w1⟩
 have b1 : l1 ≤ 1:=by rw [hl1]; split <;> omega
 obtain ⟨r2,l2,hr2,hl2,H2⟩ : ∃ r2 l2 : Nat,r2 = (v2 + 18446744073709551616 - (m1 / 18446744073709551616 + p1 / 18446744073709551616) - l1) % 18446744073709551616 ∧ l2 = (if v2 < m1 / 18446744073709551616 + p1 / 18446744073709551616 + l1 then 1 else 0) ∧
   ∀ w1,(callFunc 106 #[.int .u64 (v2 : Int),.int .u64 ((m1 / 18446744073709551616 + p1 / 18446744073709551616 : Nat) : Int),.int .u64 (l1 : Int)]).run Tryd.prog w1 = .ok (.value (.tuple #[.int .u64 (r2 : Int),.int .u64 (l2 : Int)])) w1 :=
  ⟨_,_,rfl,rfl,fun w1=>sub64_run v2 (m1 / 18446744073709551616 + p1 / 18446744073709551616) l1 b1 w1⟩
 have b2 : l2 ≤ 1:=by rw [hl2]; split <;> omega
 obtain ⟨r3,l3,hr3,hl3,H3⟩ : ∃ r3 l3 : Nat,r3 = (v3 % 1152921504606846976 + 18446744073709551616 - 0 - l2) % 18446744073709551616 ∧ l3 = (if v3 % 1152921504606846976 < 0 + l2 then 1 else 0) ∧
   ∀ w1,(callFunc 106 #[.int .u64 ((v3 % 1152921504606846976 : Nat) : Int),.int .u64 0,.int .u64 (l2 : Int)]).run Tryd.prog w1 = .ok (.value (.tuple #[.int .u64 (r3 : Int),.int .u64 (l3 : Int)])) w1 :=
  ⟨_,_,rfl,rfl,fun w1=>sub64_run (v3 % 1152921504606846976) 0 l2 b2 w1⟩
 obtain ⟨e0,e1,b3,_,_,_,c0,c1,c2,c3⟩:=rest_L (V:=V) h0 h1 h2 hv3 htb hm0 hm1 hp1 hl0 hr0 hl1 hr1 hl2 hr2 hl3 hr3 hV2
 have hR : v4 r0 r1 r2 r3 < 115792089237316195423570985008687907853269984665640564039457584007913129639936:=by unfold v4; omega
 have HW:=fun w1=>wsum_f hR (B:=LL) (by rw [LL_eq]; omega) w1;rw [ws_v4 c0 c1 c2 c3,ws_LL,cell4,cell4] at HW;have hwR:=ws_v4 c0 c1 c2 c3;clear hm0 hm1 hp1 hl0 hr0 hl1 hr1 hl2 hr2 hl3 hr3 hV2 hV ht htb;generalize hmh0 : m0 / 18446744073709551616 = mh0 at *;generalize hml0 : m0 % 18446744073709551616 = ml0 at *;generalize hmh1 : m1 / 18446744073709551616 = mh1 at *;generalize hml1 : m1 % 18446744073709551616 = ml1 at *;generalize hph1 : p1 / 18446744073709551616 = ph1 at *;generalize hpl1 : p1 % 18446744073709551616 = pl1 at *;generalize mh1 + ph1 = d at *;generalize v3 % 1152921504606846976 = v3' at *;clear hmh0 hml0 hmh1 hml1 hph1 hpl1;have e0' : (Us [v0,v1,v2,v3,u]).toArray = #[.int .u64 (v0 : Int),.int .u64 (v1 : Int),.int .u64 (v2 : Int),.int .u64 (v3 : Int),.int .u64 (u : Int)]:=rfl;rw [e0'];clear e0'
 rcases (show l3 = 0 ∨ l3 = 1 by omega) with rfl | rfl
 ·have hF:=e0 rfl
  rw [← hF,hwR,cell4];have HK:=Lib.hid (And.intro hF hR);clear e0 e1 HW hF hR hwR
  go_enter Tryd.func68,Tryd.ntmps68
  go_wp2_with (fail)
  refine (HM0 _).out.mono ?_
  rintro e w1 ⟨rfl,rfl⟩
  go_wp2_with (fail)
  refine (HM1 _).out.mono ?_
  rintro e w1 ⟨rfl,rfl⟩
  go_wp2_with (fail)
  refine bodyPost_ret (results_cell_row rfl _ _ (w.heap.size + 1) 59 _ (0,0) _ rfl (blk3_1 w _ _ _ _) Tryd.underlying59 rfl (size_sc _ rfl)) rfl ⟨rfl,?_⟩;exact (((Below.refl _ _).alloc (Nat.le_refl _) _).alloc (by simp) _).alloc (by simp; omega) _
 ·have hF:=e1 rfl
  rw [hF] at HW;rw [← hF];have hn : V % LL < 115792089237316195423570985008687907853269984665640564039457584007913129639936:=Nat.lt_trans (Nat.mod_lt _ (by decide)) (by decide);rw [hF];obtain ⟨x0,x1,x2,x3,_,hx,_⟩:=ws_cut hn;rw [hx,cell4] at HW ⊢;have HW:=fun w1=>Lib.hid (HW w1);clear e0 e1 hF hR hwR hx hn
  go_enter Tryd.func68,Tryd.ntmps68
  go_wp2_with (fail)
  refine (HM0 _).out.mono ?_
  rintro e w1 ⟨rfl,rfl⟩
  go_wp2_with (fail)
  refine (HM1 _).out.mono ?_
  rintro e w1 ⟨rfl,rfl⟩
  go_wp2_with (fail)
  refine (HW _).out.mono ?_
  rintro e w1 ⟨rfl,hw1⟩
  have k1:=(blk3_1 w 59 (Us [0,0,0,0]).toArray (.cells (Us [v0,v1,v2,v3,u]).toArray 75) (.cells (Us [r0,r1,r2,r3]).toArray 57)).later hw1;have k2:=(blk3_2 w 57 (Us [r0,r1,r2,r3]).toArray (.cells (Us [v0,v1,v2,v3,u]).toArray 75) (.cells (Us [0,0,0,0]).toArray 59)).later hw1;have hbe:=below_up ((((Below.refl w.heap.size w).alloc (Nat.le_refl _) _).alloc (by simp) _).alloc (by simp; omega) _) hw1;have k1':=k1.rowFar (g':=w.heap.size + 1 + 1) (by omega) (Us [x0,x1,x2,x3]).toArray;have k2':=k2.row (Us [x0,x1,x2,x3]).toArray;have hbe':=below_setRow hbe (g:=w.heap.size + 1 + 1) (cs:=(Us [x0,x1,x2,x3]).toArray) (by omega);clear hw1
  go_wp2_with (first
   | (refine wpList_store_row rfl 57 _ _ rfl (w.heap.size + 1 + 1) rfl (Us [x0,x1,x2,x3]).toArray rfl 57 _ k2 (size_w4 _ rfl) rfl (Us_one _) ?_)
   | (refine wpList_load_row rfl 57 _ rfl (w.heap.size + 1 + 1) rfl 57 #[.int .u64 (x0 : Int),.int .u64 (x1 : Int),.int .u64 (x2 : Int),.int .u64 (x3 : Int)] (0,0) _ k2' Tryd.underlying57 rfl (size_w4 _ rfl) ?_)
   | (refine wpList_store_row rfl 59 _ _ rfl (w.heap.size + 1) rfl (Us [x0,x1,x2,x3]).toArray rfl 59 _ k1' (size_sc _ rfl) rfl (Us_one _) ?_))
  refine bodyPost_ret (results_cell_row rfl _ _ (w.heap.size + 1) 59 (Us [x0,x1,x2,x3]).toArray (0,0) _ rfl (k1'.row _) Tryd.underlying59 rfl (size_sc _ rfl)) rfl ⟨rfl,?_⟩;exact below_setRow hbe' (by omega) _
end Go.Proofs.YtminmeljonbogaaDoor
/-
  THE PROGRAM'S SCALARS: next: 2^32 times a number, and half times another.
-/
namespace Nums
def upw (a : List Nat) : Nat → Nat
  | 0=>0
  | k + 1=>a[k]! / 4294967296
def ful (a b : List Nat) (h : Nat) : Nat → Nat
  | 0=>0
  | k + 1=>(b[k]! * h + ful a b h k + (a[k]! % 4294967296 * 4294967296 + upw a k)) / 18446744073709551616
def nxw (a b : List Nat) (h k : Nat) : Nat:=(b[k]! * h + ful a b h k + (a[k]! % 4294967296 * 4294967296 + upw a k)) % 18446744073709551616
theorem upw_lt {a : List Nat} (ha : ∀ k,k < 4 → a[k]! < 18446744073709551616) : ∀ k,k ≤ 4 → upw a k < 4294967296
 | 0,_=>by
  show 0 < 4294967296
  decide
 | k + 1,hk=>by
  have:=ha k (by omega)
  show a[k]! / 4294967296 < 4294967296
  omega
theorem prodh {b h : Nat} (hb : b < 18446744073709551616) (hh : h < 4294967296) : b * h ≤ 18446744073709551615 * 4294967295:=Nat.mul_le_mul (by omega) (by omega)
theorem ful_lt {a b : List Nat} {h : Nat} (ha : ∀ k,k < 4 → a[k]! < 18446744073709551616) (hb : ∀ k,k < 4 → b[k]! < 18446744073709551616) (hh : h < 4294967296) : ∀ k,k ≤ 4 → ful a b h k < 8589934592
 | 0,_=>by
  show 0 < 8589934592
  decide
 | k + 1,hk=>by
  have h0:=ful_lt ha hb hh k (by omega);have h1:=upw_lt ha k (by omega);have h2:=ha k (by omega);have h3:=prodh (hb k (by omega)) hh
  show (b[k]! * h + ful a b h k + (a[k]! % 4294967296 * 4294967296 + upw a k)) / 18446744073709551616 < 8589934592
  omega
theorem mxl5 (f : Nat → Nat) (a0 a1 a2 a3 a4 : Nat) : mxl f [a0,a1,a2,a3,a4] 4 = [f 0,f 1,f 2,f 3,a4]:=rfl
theorem next_v4 {A B h : Nat} (hA : A < 115792089237316195423570985008687907853269984665640564039457584007913129639936) (hB : B < 115792089237316195423570985008687907853269984665640564039457584007913129639936) :
  v4 (nxw (ws A) (ws B) h 0) (nxw (ws A) (ws B) h 1) (nxw (ws A) (ws B) h 2) (nxw (ws A) (ws B) h 3) + 115792089237316195423570985008687907853269984665640564039457584007913129639936 * (ful (ws A) (ws B) h 4 + upw (ws A) 4) = 4294967296 * A + B * h:=by
 obtain ⟨a0,a1,a2,a3,eA,wA,p0,p1,p2,p3⟩:=ws_cut hA;obtain ⟨b0,b1,b2,b3,eB,wB,q0,q1,q2,q3⟩:=ws_cut hB;rw [wA,wB];have u0 : upw [a0,a1,a2,a3] 0 = 0:=rfl;have u1 : upw [a0,a1,a2,a3] 1 = a0 / 4294967296:=rfl;have u2 : upw [a0,a1,a2,a3] 2 = a1 / 4294967296:=rfl;have u3 : upw [a0,a1,a2,a3] 3 = a2 / 4294967296:=rfl;have u4 : upw [a0,a1,a2,a3] 4 = a3 / 4294967296:=rfl;have f0 : ful [a0,a1,a2,a3] [b0,b1,b2,b3] h 0 = 0:=rfl;have f1 : ful [a0,a1,a2,a3] [b0,b1,b2,b3] h 1 = (b0 * h + ful [a0,a1,a2,a3] [b0,b1,b2,b3] h 0 + (a0 % 4294967296 * 4294967296 + upw [a0,a1,a2,a3] 0)) / 18446744073709551616:=rfl;have f2 : ful [a0,a1,a2,a3] [b0,b1,b2,b3] h 2 = (b1 * h + ful [a0,a1,a2,a3] [b0,b1,b2,b3] h 1 + (a1 % 4294967296 * 4294967296 + upw [a0,a1,a2,a3] 1)) / 18446744073709551616:=rfl;have f3 : ful [a0,a1,a2,a3] [b0,b1,b2,b3] h 3 = (b2 * h + ful [a0,a1,a2,a3] [b0,b1,b2,b3] h 2 + (a2 % 4294967296 * 4294967296 + upw [a0,a1,a2,a3] 2)) / 18446744073709551616:=rfl;have f4 : ful [a0,a1,a2,a3] [b0,b1,b2,b3] h 4 = (b3 * h + ful [a0,a1,a2,a3] [b0,b1,b2,b3] h 3 + (a3 % 4294967296 * 4294967296 + upw [a0,a1,a2,a3] 3)) / 18446744073709551616:=rfl;have n0 : nxw [a0,a1,a2,a3] [b0,b1,b2,b3] h 0 = (b0 * h + ful [a0,a1,a2,a3] [b0,b1,b2,b3] h 0 + (a0 % 4294967296 * 4294967296 + upw [a0,a1,a2,a3] 0)) % 18446744073709551616:=rfl;have n1 : nxw [a0,a1,a2,a3] [b0,b1,b2,b3] h 1 = (b1 * h + ful [a0,a1,a2,a3] [b0,b1,b2,b3] h 1 + (a1 % 4294967296 * 4294967296 + upw [a0,a1,a2,a3] 1)) % 18446744073709551616:=rfl;have n2 : nxw [a0,a1,a2,a3] [b0,b1,b2,b3] h 2 = (b2 * h + ful [a0,a1,a2,a3] [b0,b1,b2,b3] h 2 + (a2 % 4294967296 * 4294967296 + upw [a0,a1,a2,a3] 2)) % 18446744073709551616:=rfl;have n3 : nxw [a0,a1,a2,a3] [b0,b1,b2,b3] h 3 = (b3 * h + ful [a0,a1,a2,a3] [b0,b1,b2,b3] h 3 + (a3 % 4294967296 * 4294967296 + upw [a0,a1,a2,a3] 3)) % 18446744073709551616:=rfl
 have eBh : B * h = b0 * h + 18446744073709551616 * (b1 * h) + 340282366920938463463374607431768211456 * (b2 * h) + 6277101735386680763835789423207666416102355444464034512896 * (b3 * h):=by
  rw [eB]
  unfold v4
  grind only
 rw [eBh,eA];generalize nxw [a0,a1,a2,a3] [b0,b1,b2,b3] h 0 = x0 at *;generalize nxw [a0,a1,a2,a3] [b0,b1,b2,b3] h 1 = x1 at *;generalize nxw [a0,a1,a2,a3] [b0,b1,b2,b3] h 2 = x2 at *;generalize nxw [a0,a1,a2,a3] [b0,b1,b2,b3] h 3 = x3 at *;generalize ful [a0,a1,a2,a3] [b0,b1,b2,b3] h 0 = c0 at *;generalize ful [a0,a1,a2,a3] [b0,b1,b2,b3] h 1 = c1 at *;generalize ful [a0,a1,a2,a3] [b0,b1,b2,b3] h 2 = c2 at *;generalize ful [a0,a1,a2,a3] [b0,b1,b2,b3] h 3 = c3 at *;generalize ful [a0,a1,a2,a3] [b0,b1,b2,b3] h 4 = c4 at *;generalize upw [a0,a1,a2,a3] 0 = y0 at *;generalize upw [a0,a1,a2,a3] 1 = y1 at *;generalize upw [a0,a1,a2,a3] 2 = y2 at *;generalize upw [a0,a1,a2,a3] 3 = y3 at *;generalize upw [a0,a1,a2,a3] 4 = y4 at *;generalize b0 * h = z0 at *;generalize b1 * h = z1 at *;generalize b2 * h = z2 at *;generalize b3 * h = z3 at *;clear eBh eA eB wA wB hA hB q0 q1 q2 q3
 unfold v4
 omega
end Nums
namespace Go.Proofs.YtminmeljonbogaaDoor
open Go.RowKit Go.IntWalk Nums

theorem size_w5 (cs : Array Value) (h : cs.size = 5) : (Tryd.prog.info? 75).map (·.size) = some cs.size:=by
 rw [h]
 kernel_rfl
structure NS (w wr : World) (a b l : List Nat) : Prop where
  ba : Blk wr w.heap.size 59 (Us a).toArray
  bb : Blk wr (w.heap.size + 1) 59 (Us b).toArray
  bo : Blk wr (w.heap.size + 1 + 1) 59 z4
  bv : Blk wr (w.heap.size + 1 + 1 + 1) 75 (Us l).toArray
  be : Below w.heap.size w wr
theorem NS.set {w wr : World} {a b l : List Nat} (h : NS w wr a b l) (k x : Nat) : NS w (wr.setCell ⟨w.heap.size + 1 + 1 + 1,k,none⟩ (.int .u64 (x : Int))) a b (l.set k x) where
 ba:=h.ba.far (by show w.heap.size ≠ w.heap.size + 1 + 1 + 1; omega) _
 bb:=h.bb.far (by show w.heap.size + 1 ≠ w.heap.size + 1 + 1 + 1; omega) _
 bo:=h.bo.far (by show w.heap.size + 1 + 1 ≠ w.heap.size + 1 + 1 + 1; omega) _
 bv:=by
  have h4:=h.bv.set k (.int .u64 (x : Int))
  rwa [Us_set] at h4
 be:=h.be.setCell (by show w.heap.size ≤ w.heap.size + 1 + 1 + 1; omega) _

set_option maxRecDepth 100000 in
set_option maxHeartbeats 2000000 in
theorem next_f {A B h : Nat} (hA : A < LL) (hB : B < LL) (hh : h < 4294967296) (w : World) :
  Calls Tryd.prog 69 #[.agg (Us (ws A)).toArray,.agg (Us (ws B)).toArray,.int .u64 (h : Int)] w fun e w'=>e = .returned (.agg (Us (ws ((4294967296 * A + B * h) % LL))).toArray) ∧ Below w.heap.size w w':=by
 have hA2 : A < 115792089237316195423570985008687907853269984665640564039457584007913129639936:=Nat.lt_trans hA (by decide);have hB2 : B < 115792089237316195423570985008687907853269984665640564039457584007913129639936:=Nat.lt_trans hB (by decide);have hE:=next_v4 (h:=h) hA2 hB2;have ha:=fun k=>ws_get_lt A (k:=k);have hb:=fun k=>ws_get_lt B (k:=k);have la:=ws_len A;have lb:=ws_len B;have hf:=ful_lt ha hb hh;have hu:=upw_lt ha;have hn : ∀ k,nxw (ws A) (ws B) h k < 18446744073709551616:=fun k=>Nat.mod_lt _ (by decide);have hBh : B * h ≤ LL * 4294967296:=Nat.mul_le_mul (Nat.le_of_lt hB) (Nat.le_of_lt hh)
 have hR:=fun w1=>red_f (hn 0) (hn 1) (hn 2) (hn 3) (u:=ful (ws A) (ws B) h 4 + upw (ws A) 4) (by
  unfold v4 at hE
  rw [LL_eq] at hA hB hBh;generalize B * h = z at *
  omega) w1
 rw [hE] at hR;generalize (4294967296 * A + B * h) % LL = res at *;clear hE hBh hA2 hB2 hn hA hB;generalize ws A = a at *;generalize ws B = b at *;have hR:=Lib.hid hR
 go_enter Tryd.func69,Tryd.ntmps69
 go_wp2
 go_loopw [14,8,9] (fun i u8 u9 wr=>∃ k : Nat,k ≤ 4 ∧ i = .int .i64 k ∧ u8 = .int .u64 (upw a k : Nat) ∧ u9 = .int .u64 (ful a b h k : Nat) ∧ NS w wr a b (mxl (nxw a b h) [0,0,0,0,0] k)) (fun i _ _ _=>4 - (intOf i).toNat)
 case atStart =>
  refine ⟨0,by omega,rfl,rfl,rfl,?_,?_,?_,?_,?_⟩
  ·exact blk4_0 w _ _ _ _ _
  ·exact blk4_1 w _ _ _ _ _
  ·exact blk4_2 w _ _ _ _ _
  ·exact blk4_3 w _ _ _ _ _
  ·exact below4 w _ _ _ _
 case round =>
  obtain ⟨k,hk,rfl,rfl,rfl,hS⟩:=hrel
  by_cases hlt : k < 4
  ·have hN:=hS.set k (nxw a b h k)
   rw [mxl_set] at hN;have hU : upw a (k + 1) = a[k]! / 4294967296:=rfl;have hF : ful a b h (k + 1) = (b[k]! * h + ful a b h k + (a[k]! % 4294967296 * 4294967296 + upw a k)) / 18446744073709551616:=rfl;have hX : nxw a b h k = (b[k]! * h + ful a b h k + (a[k]! % 4294967296 * 4294967296 + upw a k)) % 18446744073709551616:=rfl;have c0:=(hS.ba.cell k).trans (Us_at (by omega));have c1:=(hS.bb.cell k).trans (Us_at (by omega));have c2:=(hS.bv.cell k).trans (Us_at (by rw [mxl_len]; simp; omega));have c3:=hS.bv.free k;have b0:=ha k hlt;have b1:=hb k hlt;have b2:=hf k (by omega);have b3:=hu k (by omega);have b4:=prodh b1 hh;have b5:=hf (k + 1) (by omega);rw [hF] at b5;generalize (mxl (nxw a b h) [0,0,0,0,0] k)[k]! = old at *;generalize a[k]! = u at *;generalize b[k]! = v at *;generalize upw a k = y at *;generalize ful a b h k = c at *;generalize nxw a b h k = x at *;have HM:=fun w1=>Lib.hid (mul64_any v h b1 (by omega) w1);generalize v * h = z at *;have hA1:=fun w1=>add64_run (z % 18446744073709551616) c 0 (by omega) w1
   have q1 : IntKind.u64.wrap (((z / 18446744073709551616 : Nat) : Int) + (((z % 18446744073709551616 + c + 0) / 18446744073709551616 : Nat) : Int)) = ((z / 18446744073709551616 + (z % 18446744073709551616 + c + 0) / 18446744073709551616 : Nat) : Int):=by
    rw [IntKind.wrap_u64]
    omega
   have q2 : bits .or .u64 (IntKind.u64.wrap ((u : Int) * 4294967296)) (y : Int) = ((u % 4294967296 * 4294967296 + y : Nat) : Int):=by
    have e1 : IntKind.u64.wrap ((u : Int) * 4294967296) = ((u % 4294967296 * 4294967296 : Nat) : Int):=by
     rw [IntKind.wrap_u64]
     omega
    rw [e1];exact orW 32 _ _ (by omega) (by omega) (by omega) (by omega)
   have hA2:=fun w1=>add64_run ((z % 18446744073709551616 + c + 0) % 18446744073709551616) (u % 4294967296 * 4294967296 + y) 0 (by omega) w1
   have q3 : IntKind.u64.wrap (((z / 18446744073709551616 + (z % 18446744073709551616 + c + 0) / 18446744073709551616 : Nat) : Int) + ((((z % 18446744073709551616 + c + 0) % 18446744073709551616 + (u % 4294967296 * 4294967296 + y) + 0) / 18446744073709551616 : Nat) : Int)) = (((z + c + (u % 4294967296 * 4294967296 + y)) / 18446744073709551616 : Nat) : Int):=by
    rw [IntKind.wrap_u64]
    omega
   have e4 : ((z % 18446744073709551616 + c + 0) % 18446744073709551616 + (u % 4294967296 * 4294967296 + y) + 0) % 18446744073709551616 = x:=by omega
   have q5 : (0 : Int) ≤ (k : Int):=by omega
   have q6 : (u : Int) / 4294967296 = ((u / 4294967296 : Nat) : Int):=div32 u;rw [e4] at hA2;have HK:=Lib.hid (And.intro hN (And.intro hU hF));clear hN hU hF hX hS b4 b5 b2 b3 e4 b0 b1 hf hu ha hb;generalize (z + c + (u % 4294967296 * 4294967296 + y)) / 18446744073709551616 = n9 at *;generalize ((z % 18446744073709551616 + c + 0) % 18446744073709551616 + (u % 4294967296 * 4294967296 + y) + 0) / 18446744073709551616 = m1 at *;generalize u % 4294967296 * 4294967296 + y = m2 at *;generalize z / 18446744073709551616 + (z % 18446744073709551616 + c + 0) / 18446744073709551616 = m3 at *;generalize (z % 18446744073709551616 + c + 0) % 18446744073709551616 = m4 at *;generalize (z % 18446744073709551616 + c + 0) / 18446744073709551616 = m5 at *;generalize z % 18446744073709551616 = m6 at *;generalize z / 18446744073709551616 = m7 at *;generalize u / 4294967296 = m8 at *;replace hA1 : ∀ w1,(callFunc 104 #[.int .u64 (m6 : Int),.int .u64 (c : Int),.int .u64 0]).run Tryd.prog w1 = .ok (.value (.tuple #[.int .u64 (m4 : Int),.int .u64 (m5 : Int)])) w1:=hA1;replace hA2 : ∀ w1,(callFunc 104 #[.int .u64 (m4 : Int),.int .u64 (m2 : Int),.int .u64 0]).run Tryd.prog w1 = .ok (.value (.tuple #[.int .u64 (x : Int),.int .u64 (m1 : Int)])) w1:=hA2
   go_wp2_with (fail)
   refine (HM _).out.mono ?_
   rintro e w1 ⟨rfl,rfl⟩
   go_wp2
   go_roundw
   case rel =>
    obtain ⟨hN,hU,hF⟩:=HK.out;exact ⟨k + 1,by omega,by go_num,by rw [hU],by rw [hF],hN⟩
   case measure=>simp [intOf]; omega
  ·obtain rfl : k = 4:=by omega
   have b2:=hf 4 (by omega);have b3:=hu 4 (by omega);have e5 : mxl (nxw a b h) [0,0,0,0,0] 4 = [nxw a b h 0,nxw a b h 1,nxw a b h 2,nxw a b h 3,0]:=mxl5 _ _ _ _ _ _;rw [e5] at hS;have hN:=hS.set 4 (ful a b h 4 + upw a 4);have c2:=(hS.bv.cell 4).trans (Us_at (by simp));have c3:=hS.bv.free 4
   have q1 : IntKind.u64.wrap (((ful a b h 4 : Nat) : Int) + ((upw a 4 : Nat) : Int)) = ((ful a b h 4 + upw a 4 : Nat) : Int):=by
    rw [IntKind.wrap_u64]
    omega
   have e6 : [nxw a b h 0,nxw a b h 1,nxw a b h 2,nxw a b h 3,0].set 4 (ful a b h 4 + upw a 4) = [nxw a b h 0,nxw a b h 1,nxw a b h 2,nxw a b h 3,ful a b h 4 + upw a 4]:=rfl;rw [e6] at hN;clear e5 e6 hf hu ha hb b2 b3 hS;generalize ful a b h 4 + upw a 4 = s at *;generalize ful a b h 4 = f4 at *;generalize upw a 4 = u4 at *;have hbv:=hN.bv;generalize hl : (Us [nxw a b h 0,nxw a b h 1,nxw a b h 2,nxw a b h 3,s]).toArray = cs at *
   have hcs : cs.size = 5:=by rw [← hl]; rfl
   have HN:=Lib.hid hN;clear hN hl
   go_wp2_with (refine wpList_load_row rfl 75 _ rfl (w.heap.size + 1 + 1 + 1) rfl 75 cs (0,0) _ hbv Tryd.underlying75 rfl (size_w5 _ hcs) ?_)
   refine (hR.out _).mono ?_
   rintro e w1 ⟨rfl,hw1⟩
   have hN:=HN.out;have ho:=hN.bo.later hw1;have hbe:=below_up hN.be hw1;have hz:=len_u4 (ws_len res);clear hN HN hw1 hR
   go_wp2_with (refine wpList_store_row rfl 59 _ _ rfl (w.heap.size + 1 + 1) rfl (Us (ws res)).toArray rfl 59 _ ho (size_sc _ hz) (by rw [hz]; rfl) (Us_one _) ?_)
   refine bodyPost_ret (results_cell_row rfl _ _ (w.heap.size + 1 + 1) 59 (Us (ws res)).toArray (0,0) _ rfl (ho.row _) Tryd.underlying59 rfl (size_sc _ hz)) rfl ⟨rfl,?_⟩;exact below_setRow hbe (by omega) _
end Go.Proofs.YtminmeljonbogaaDoor
/-
  THE PROGRAM'S SCALARS: Wide: 64 bytes modulo L.
-/
namespace Go.Proofs.YtminmeljonbogaaDoor
open Go.RowKit Go.IntWalk Nums

theorem own_next : Own 69:=fun _ _=>by go_simp

theorem size_w64 (cs : Array Value) (h : cs.size = 64) : (Tryd.prog.info? 32).map (·.size) = some cs.size:=by
 rw [h]
 kernel_rfl
theorem len_b64 {l : List UInt8} (h : l.length = 64) : (By l).toArray.size = 64:=by rw [List.size_toArray,By_len,h]

theorem le_cons4 {l : List UInt8} {i : Nat} (h : i + 4 ≤ l.length) : le (l.drop i) = (l[i]!).toNat + 256 * (l[i + 1]!).toNat + 65536 * (l[i + 2]!).toNat + 16777216 * (l[i + 3]!).toNat + 4294967296 * le (l.drop (i + 4)):=by
 have e : ∀ k k',k < l.length → k' = k + 1 → le (l.drop k) = (l[k]!).toNat + 256 * le (l.drop k'):=fun k k' hk h=>by
  rw [h,List.drop_eq_getElem_cons hk,getElem!_pos l k hk]
  rfl
 have e0:=e i (i + 1) (by omega) rfl;have e1:=e (i + 1) (i + 2) (by omega) rfl;have e2:=e (i + 2) (i + 3) (by omega) rfl;have e3:=e (i + 3) (i + 4) (by omega) rfl;rw [e0,e1,e2,e3]
 omega
theorem orL (i x y : Nat) (hx : x < 2 ^ i) (hy : y % 2 ^ i = 0) (h1 : x < 18446744073709551616) (h2 : y < 18446744073709551616) : bits .or .u64 (x : Int) (y : Int) = ((x + y : Nat) : Int):=by
 rw [u64_or_nat x y h1 h2,Nat.or_comm,nat_join i y x hy hx,Nat.add_comm]
theorem wide_step (X h L : Nat) : (4294967296 * (X % L) + 1 * h) % L = (h + 4294967296 * X) % L:=by
 rw [Nat.one_mul,Nat.add_comm h,Nat.add_mod,Nat.mul_mod_mod,← Nat.add_mod]

structure WS (w wr : World) (l : List UInt8) (n : Nat) : Prop where
  b0 : Blk wr w.heap.size 32 (By l).toArray
  b1 : Blk wr (w.heap.size + 1) 59 z4
  b2 : Blk wr (w.heap.size + 1 + 1) 59 (Us (ws n)).toArray
  be : Below w.heap.size w wr
theorem WS.drew {w wr : World} {l : List UInt8} {n : Nat} (h : WS w wr l n) : WS w wr.drew l n:=⟨h.b0,h.b1,h.b2,h.be.drew⟩
theorem WS.up {w wr w1 : World} {l : List UInt8} {n : Nat} (h : WS w wr l n) (k : Up wr w1) : WS w w1 l n:=⟨k.blk h.b0,k.blk h.b1,k.blk h.b2,below_up h.be k⟩
theorem WS.set {w wr : World} {l : List UInt8} {n : Nat} (h : WS w wr l n) (m : Nat) : WS w (wr.setRow (w.heap.size + 1 + 1) (Us (ws m)).toArray) l m :=
 ⟨h.b0.rowFar (by omega) _,h.b1.rowFar (by omega) _,h.b2.row _,below_setRow h.be (by omega) _⟩

theorem ws_1 : ws 1 = [1,0,0,0]:=by decide

set_option maxRecDepth 100000 in
set_option maxHeartbeats 2000000 in
theorem wide_f {l : List UInt8} (hl : l.length = 64) (w : World) :
  Calls Tryd.prog 64 #[.agg (By l).toArray] w fun e w'=>e = .returned (.agg (Us (ws (le l % LL))).toArray) ∧ Below w.heap.size w w':=by
 have hz:=len_b64 hl
 go_enter Tryd.func64,Tryd.ntmps64
 refine wp_seq_k fun K hK=>?_;refine wp_region_lit ?_;refine wpl_box (By l).toArray rfl rfl rfl ?_;refine wpl_alloc (zs:=z4) rfl rfl (by kernel_rfl) ?_;refine wpl_nil ?_
 go_simp
 refine hK _ _ ?_;clear hK K;refine wp_seq_k fun K hK=>?_;refine wp_region_lit ?_;refine wpl_alloc (zs:=z4) rfl rfl (by kernel_rfl) ?_;refine wpl_nil ?_
 go_simp
 refine hK _ _ ?_;clear hK K;refine wp_at (fun W=>WS w W l 0) ⟨blk3_0 w _ _ _ _,blk3_1 w _ _ _ _,blk3_2 w _ _ _ _,(((Below.refl _ _).alloc (Nat.le_refl _) _).alloc (by simp) _).alloc (by simp; omega) _⟩ ?_
 intro W hW
 have HW:=Lib.hid hW;clear hW
 go_wp2
 go_loopw [4] (fun i wr=>∃ k : Nat,k ≤ 16 ∧ i = .int .i64 (4 * (k : Int) - 4) ∧ WS w wr l (le (l.drop (4 * k)) % LL)) (fun i _=>(intOf i + 4).toNat)
 case atStart =>
  refine ⟨16,by omega,rfl,?_⟩;rw [List.drop_of_length_le (by omega)];exact HW.out
 case round =>
  clear HW;obtain ⟨k,hk,rfl,hS⟩:=hrel
  by_cases hlt : 0 < k
  ·obtain ⟨i,rfl⟩ : ∃ i,k = i + 1:=⟨k - 1,by omega⟩
   have e0 : 4 * ((i + 1 : Nat) : Int) - 4 = ((4 * i : Nat) : Int):=by omega
   rw [e0];have hle:=le_cons4 (l:=l) (i:=4 * i) (by omega)
   have e4 : 4 * (i + 1) = 4 * i + 4:=by omega
   rw [e4] at hS;have hn:=fun w1 h hh=>next_f (A:=le (l.drop (4 * i + 4)) % LL) (B:=1) (h:=h) (Nat.mod_lt _ (by decide)) (by decide) hh w1;rw [ws_1,cell4] at hn;have c0:=(hS.b0.cell (4 * i)).trans (By_get (by omega));have c1:=(hS.b0.cell (4 * i + 1)).trans (By_get (by omega));have c2:=(hS.b0.cell (4 * i + 2)).trans (By_get (by omega));have c3:=(hS.b0.cell (4 * i + 3)).trans (By_get (by omega));have x0:=(l[4 * i]!).toNat_lt;have x1:=(l[4 * i + 1]!).toNat_lt;have x2:=(l[4 * i + 2]!).toNat_lt;have x3:=(l[4 * i + 3]!).toNat_lt;generalize (l[4 * i]!).toNat = y0 at *;generalize (l[4 * i + 1]!).toNat = y1 at *;generalize (l[4 * i + 2]!).toNat = y2 at *;generalize (l[4 * i + 3]!).toNat = y3 at *;obtain ⟨s1,hs1⟩ : ∃ s,s = y0 + y1 * 256:=⟨_,rfl⟩;obtain ⟨s2,hs2⟩ : ∃ s,s = s1 + y2 * 65536:=⟨_,rfl⟩;obtain ⟨s3,hs3⟩ : ∃ s,s = s2 + y3 * 16777216:=⟨_,rfl⟩
   have q1 : bits .or .u64 (y0 : Int) ((y1 : Int) * 256) = (s1 : Int):=by
    rw [hs1,← orL 8 y0 (y1 * 256) (by omega) (by omega) (by omega) (by omega)]
    rfl
   have q2 : bits .or .u64 (s1 : Int) ((y2 : Int) * 65536) = (s2 : Int):=by
    rw [hs2,← orL 16 s1 (y2 * 65536) (by omega) (by omega) (by omega) (by omega)]
    rfl
   have q3 : bits .or .u64 (s2 : Int) ((y3 : Int) * 16777216) = (s3 : Int):=by
    rw [hs3,← orL 24 s2 (y3 * 16777216) (by omega) (by omega) (by omega) (by omega)]
    rfl
   have hn3:=fun w1=>Lib.hid (hn w1 s3 (by omega))
   have hres : (4294967296 * (le (l.drop (4 * i + 4)) % LL) + 1 * s3) % LL = le (l.drop (4 * i)) % LL:=by
    rw [wide_step,hle]
    congr 1
    omega
   rw [hres] at hn3
   have k1 : IntKind.i64.wrap (((4 * i : Nat) : Int) + 1) = ((4 * i + 1 : Nat) : Int):=by rw [i64_left,wrap64_in _ (by omega)]; omega
   have k2 : IntKind.i64.wrap (((4 * i : Nat) : Int) + 2) = ((4 * i + 2 : Nat) : Int):=by rw [i64_left,wrap64_in _ (by omega)]; omega
   have k3 : IntKind.i64.wrap (((4 * i : Nat) : Int) + 3) = ((4 * i + 3 : Nat) : Int):=by rw [i64_left,wrap64_in _ (by omega)]; omega
   have g0 : ((4 * i : Nat) : Int) < 64:=by omega
   have g1 : ((4 * i + 1 : Nat) : Int) < 64:=by omega
   have g2 : ((4 * i + 2 : Nat) : Int) < 64:=by omega
   have g3 : ((4 * i + 3 : Nat) : Int) < 64:=by omega
   have HS:=Lib.hid hS
   have hA : 4 * i ≤ 60:=by omega
   have HE:=Lib.hid (show ((4 * i : Nat) : Int) = 4 * (i : Int) ∧ i ≤ 15 from ⟨by omega,by omega⟩);clear hS hle hn hs1 hs2 hs3 hres e0 e4 hk hlt;generalize le (l.drop (4 * i + 4)) % LL = X at *;generalize hY : le (l.drop (4 * i)) % LL = Y at *;generalize 4 * i + 1 = A1 at *;generalize 4 * i + 2 = A2 at *;generalize 4 * i + 3 = A3 at *;generalize hA0 : 4 * i = A at *
   go_wp2
   go_region
   have h2:=HS.out.drew.b2
   go_wp2_with (refine wpList_load_row rfl 59 _ rfl (w.heap.size + 1 + 1) rfl 59 (Us (ws X)).toArray (0,0) _ h2 Tryd.underlying59 rfl (size_sc _ (len_u4 (ws_len X))) ?_)
   clear h2;refine (hn3 _).out.mono ?_
   rintro e w1 ⟨rfl,hw1⟩
   have h3:=HS.out.drew.up hw1;have h2:=h3.b2;have H3:=Lib.hid (h3.set Y);clear h3 hw1 HS hn3
   go_wp2_with (refine wpList_store_row rfl 59 _ _ rfl (w.heap.size + 1 + 1) rfl (Us (ws Y)).toArray rfl 59 _ h2 (size_sc _ (len_u4 (ws_len Y))) (by rw [len_u4 (ws_len X),len_u4 (ws_len Y)]) (Us_one _) ?_)
   go_roundw
   case rel =>
    refine ⟨i,by have:=HE.out; omega,by have:=HE.out; go_num,?_⟩;rw [hA0,hY];exact H3.out
   case measure=>have:=HE.out; simp [intOf]; omega
  ·obtain rfl : k = 0:=by omega
   have e0 : l.drop (4 * 0) = l:=rfl;rw [e0] at hS;obtain ⟨b0,b1,b2,be⟩:=hS;have hzs:=len_u4 (ws_len (le l % LL));clear b0
   go_wp2_with (first
    | (refine wpList_load_row rfl 59 _ rfl (w.heap.size + 1 + 1) rfl 59 (Us (ws (le l % LL))).toArray (0,0) _ b2 Tryd.underlying59 rfl (size_sc _ hzs) ?_)
    | (refine wpList_store_row rfl 59 _ _ rfl (w.heap.size + 1) rfl (Us (ws (le l % LL))).toArray rfl 59 _ b1 (size_sc _ hzs) (by rw [hzs]; rfl) (Us_one _) ?_))
   refine bodyPost_ret (results_cell_row rfl _ _ (w.heap.size + 1) 59 (Us (ws (le l % LL))).toArray (0,0) _ rfl (b1.row _) Tryd.underlying59 rfl (size_sc _ hzs)) rfl ⟨rfl,?_⟩;exact below_setRow be (by omega) _
end Go.Proofs.YtminmeljonbogaaDoor
/-
  THE PROGRAM'S SCALARS: Hash: the bytes of four words.
-/
namespace Go.Proofs.YtminmeljonbogaaDoor
open Go.RowKit Go.IntWalk Nums

theorem ws_wd (n : Nat) {k : Nat} (hk : k < 4) : (ws n)[k]! = wd n k:=by
 have h4 : k = 0 ∨ k = 1 ∨ k = 2 ∨ k = 3:=by omega
 rcases h4 with rfl | rfl | rfl | rfl
 ·show n % 18446744073709551616 = n / 1 % 18446744073709551616
  rw [Nat.div_one]
 ·rfl
 ·rfl
 ·rfl

structure HS4 (w wr : World) (a : List Nat) (b : List UInt8) (n : Nat) : Prop where
  b0 : Blk wr w.heap.size 59 (Us a).toArray
  b1 : Blk wr (w.heap.size + 1) 22 z32
  b2 : Blk wr (w.heap.size + 1 + 1) 22 (By (fb b n)).toArray
  be : Below w.heap.size w wr
theorem HS4.set {w wr : World} {a : List Nat} {b : List UInt8} {n : Nat} (h : HS4 w wr a b n) : HS4 w (wr.setCell ⟨w.heap.size + 1 + 1,n,none⟩ (.int .u8 ((b[n]!).toNat : Int))) a b (n + 1) where
 b0:=h.b0.far (by show w.heap.size ≠ w.heap.size + 1 + 1; omega) _
 b1:=h.b1.far (by show w.heap.size + 1 ≠ w.heap.size + 1 + 1; omega) _
 b2:=by
  have h4:=h.b2.set n (.int .u8 ((b[n]!).toNat : Int));rw [By_set,fb_set] at h4;exact h4
 be:=h.be.setCell (by show w.heap.size ≤ w.heap.size + 1 + 1; omega) _

set_option maxRecDepth 100000 in
set_option maxHeartbeats 1000000 in
theorem schash_f (n : Nat) (w : World) :
  Calls Tryd.prog 32 #[.agg (Us (ws n)).toArray] w fun e w'=>e = .returned (.agg (By (Nums.bytes 32 n)).toArray) ∧ Below w.heap.size w w':=by
 have hbyte : ∀ m,m < 32 → ((Nums.bytes 32 n)[m]!).toNat = (ws n)[m / 8]! / 2 ^ (m % 8 * 8) % 256:=fun m hm=>by
  rw [bytes_get 32 n hm,ws_wd n (by omega),Nat.mul_comm (m % 8),wd_byte _ _ _ (by omega)]
  congr 3
  omega
 have hbl : (Nums.bytes 32 n).length = 32:=bytes_len _ _;have ha:=fun k=>ws_get_lt n (k:=k);have la:=ws_len n;generalize Nums.bytes 32 n = b at *;generalize ws n = a at *
 go_enter Tryd.func32,Tryd.ntmps32
 go_wp2
 go_loopw [5] (fun i wr=>∃ k : Nat,k ≤ 32 ∧ i = .int .i64 k ∧ HS4 w wr a b k) (fun i _=>32 - (intOf i).toNat)
 case atStart =>
  refine ⟨0,by omega,rfl,blk3_0 w _ _ _ _,blk3_1 w _ _ _ _,?_,(((Below.refl _ _).alloc (Nat.le_refl _) _).alloc (by simp) _).alloc (by simp; omega) _⟩;rw [fb_zero];exact blk3_2 w _ _ _ _
 case round =>
  obtain ⟨m,hm,rfl,hS⟩:=hrel
  by_cases hlt : m < 32
  ·have hN:=hS.set
   have c0:=(hS.b0.cell (m / 8)).trans (Us_at (by omega));have hc:=(hS.b2.cell m).trans (By_get (by rw [fb_len]; omega));have hf:=hS.b2.free m;have hb:=hbyte m hlt;have qd : (m : Int).tdiv 8 = ((m / 8 : Nat) : Int):=rfl;have qm : (m : Int).tmod 8 = ((m % 8 : Nat) : Int):=rfl
   have qt : IntKind.i64.wrap (((m % 8 : Nat) : Int) * 8) = ((m % 8 * 8 : Nat) : Int):=by rw [i64_left,wrap64_in _ (by omega)]; omega
   have g1 : ((m / 8 : Nat) : Int) < 4:=by omega
   have g2 : ((m % 8 * 8 : Nat) : Int) ≤ 64:=by omega
   have g5 : (0 : Int) ≤ (m : Int):=by omega
   generalize a[m / 8]! = W at *;generalize m / 8 = q at *;generalize hs : m % 8 * 8 = s at *
   have q4 : IntKind.u8.wrap ((W : Int) / 2 ^ s) = ((b[m]!).toNat : Int):=by
    have f1 : ((W : Int) / 2 ^ s) = ((W / 2 ^ s : Nat) : Int):=by simp
    rw [f1,IntKind.wrap_u8',hb]
    omega
   have HN:=Lib.hid hN;clear hS hbyte hb hN hs ha;generalize (fb b m)[m]! = old at *;generalize (b[m]!).toNat = y at *;generalize m % 8 = r at *
   go_wp2
   go_roundw
   case rel=>exact ⟨m + 1,by omega,by go_num,HN.out⟩
   case measure=>simp [intOf]; omega
  ·obtain rfl : m = 32:=by omega
   obtain ⟨_,b1,b2,be⟩:=hS;rw [fb_all hbl] at b2;have hz:=len_by hbl
   go_wp2_with (first
    | (refine wpList_load_row rfl 22 _ rfl (w.heap.size + 1 + 1) rfl 22 (By b).toArray (0,0) _ b2 Tryd.underlying22 rfl (size_hash _ hz) ?_)
    | (refine wpList_store_row rfl 22 _ _ rfl (w.heap.size + 1) rfl (By b).toArray rfl 22 _ b1 (size_hash _ hz) (by rw [hz]; rfl) (By_one _) ?_))
   refine bodyPost_ret (results_cell_row rfl _ _ (w.heap.size + 1) 22 (By b).toArray (0,0) _ rfl (b1.row _) Tryd.underlying22 rfl (size_hash _ hz)) rfl ⟨rfl,?_⟩;exact below_setRow be (by omega) _
end Go.Proofs.YtminmeljonbogaaDoor
/-
  THE PROGRAM'S SCALARS: Add and Mul.
-/
namespace Go.Proofs.YtminmeljonbogaaDoor
open Go.RowKit Go.IntWalk Nums

set_option maxRecDepth 100000 in
set_option maxHeartbeats 1000000 in
theorem scadd_f {x y : Nat} (hx : x < LL) (hy : y < LL) (w : World) :
  Calls Tryd.prog 30 #[.agg (Us (ws x)).toArray,.agg (Us (ws y)).toArray] w fun e w'=>e = .returned (.agg (Us (ws ((x + y) % LL))).toArray) ∧ Below w.heap.size w w':=by
 rw [LL_eq] at hx hy
 have hx2 : x < 115792089237316195423570985008687907853269984665640564039457584007913129639936:=by omega
 have hy2 : y < 115792089237316195423570985008687907853269984665640564039457584007913129639936:=by omega
 have hs2 : x + y < 115792089237316195423570985008687907853269984665640564039457584007913129639936:=by omega
 have HS:=fun w1=>wsum_f hx2 hy2 w1;rw [Nat.mod_eq_of_lt hs2] at HS;obtain ⟨a0,a1,a2,a3,_,wA,_⟩:=ws_cut hx2;obtain ⟨b0,b1,b2,b3,_,wB,_⟩:=ws_cut hy2;obtain ⟨s0,s1,s2,s3,eS,wS,q0,q1,q2,q3⟩:=ws_cut hs2;have HR:=fun w1=>red_f q0 q1 q2 q3 (u:=0) (by omega) w1;rw [← eS,Nat.mul_zero,Nat.add_zero] at HR;rw [wA,wB,wS,cell4,cell4,cell4] at HS;rw [wA,wB,cell4,cell4];have HS:=fun w1=>Lib.hid (HS w1);have HR:=fun w1=>Lib.hid (HR w1);have hz:=len_u4 (ws_len ((x + y) % LL));clear hx hy hx2 hy2 hs2 wA wB wS eS q0 q1 q2 q3;generalize ws ((x + y) % LL) = r at *;have k2:=blk3_2 w 59 z4 (.cells #[.int .u64 (a0 : Int),.int .u64 (a1 : Int),.int .u64 (a2 : Int),.int .u64 (a3 : Int)] 59) (.cells #[.int .u64 (b0 : Int),.int .u64 (b1 : Int),.int .u64 (b2 : Int),.int .u64 (b3 : Int)] 59)
 have hbe : Below w.heap.size w (((w.alloc (.cells #[.int .u64 (a0 : Int),.int .u64 (a1 : Int),.int .u64 (a2 : Int),.int .u64 (a3 : Int)] 59)).alloc (.cells #[.int .u64 (b0 : Int),.int .u64 (b1 : Int),.int .u64 (b2 : Int),.int .u64 (b3 : Int)] 59)).alloc (.cells z4 59)) :=
  (((Below.refl _ _).alloc (Nat.le_refl _) _).alloc (by simp) _).alloc (by simp; omega) _
 have HK:=Lib.hid (And.intro k2 hbe);clear k2 hbe
 go_enter Tryd.func30,Tryd.ntmps30
 go_wp2_with (fail)
 refine (HS _).out.mono ?_
 rintro e w1 ⟨rfl,hw1⟩
 go_wp2_with (fail)
 refine (HR _).out.mono ?_
 rintro e w2 ⟨rfl,hw2⟩
 obtain ⟨k2,hbe⟩:=HK.out;have k3:=((k2.later hw1).alloc _).later hw2;have hbe3:=below_up (((below_up hbe hw1)).alloc (below_up hbe hw1).size _) hw2;clear HK HS HR k2 hbe hw1 hw2
 go_wp2_with (refine wpList_store_row rfl 59 _ _ rfl (w.heap.size + 1 + 1) rfl (Us r).toArray rfl 59 _ k3 (size_sc _ hz) (by rw [hz]; rfl) (Us_one _) ?_)
 refine bodyPost_ret (results_cell_row rfl _ _ (w.heap.size + 1 + 1) 59 (Us r).toArray (0,0) _ rfl (k3.row _) Tryd.underlying59 rfl (size_sc _ hz)) rfl ⟨rfl,?_⟩;exact below_setRow hbe3 (by omega) _

/-! ### Mul -/
structure MS4 (w wr : World) (a b : List Nat) (n : Nat) : Prop where
  b0 : Blk wr w.heap.size 59 (Us a).toArray
  b1 : Blk wr (w.heap.size + 1) 59 (Us b).toArray
  b2 : Blk wr (w.heap.size + 1 + 1) 59 z4
  b3 : Blk wr (w.heap.size + 1 + 1 + 1) 59 (Us (ws n)).toArray
  be : Below w.heap.size w wr
theorem MS4.up {w wr w1 : World} {a b : List Nat} {n : Nat} (h : MS4 w wr a b n) (k : Up wr w1) : MS4 w w1 a b n:=⟨k.blk h.b0,k.blk h.b1,k.blk h.b2,k.blk h.b3,below_up h.be k⟩
theorem MS4.set {w wr : World} {a b : List Nat} {n : Nat} (h : MS4 w wr a b n) (m : Nat) : MS4 w (wr.setRow (w.heap.size + 1 + 1 + 1) (Us (ws m)).toArray) a b m :=
 ⟨h.b0.rowFar (by omega) _,h.b1.rowFar (by omega) _,h.b2.rowFar (by omega) _,h.b3.row _,below_setRow h.be (by omega) _⟩

theorem mul_split (x Y u v L : Nat) : (4294967296 * ((4294967296 * (x * Y % L) + x * u) % L) + x * v) % L = x * (18446744073709551616 * Y + (4294967296 * u + v)) % L:=by
 have e : x * (18446744073709551616 * Y + (4294967296 * u + v)) = 4294967296 * (4294967296 * (x * Y) + x * u) + x * v:=by grind only
 rw [e,Nat.add_mod,Nat.mul_mod_mod,← Nat.add_mod]
 have e2 : (4294967296 * (x * Y % L) + x * u) % L = (4294967296 * (x * Y) + x * u) % L:=by
  rw [Nat.add_mod,Nat.mul_mod_mod,← Nat.add_mod]
 rw [Nat.add_mod (4294967296 * (4294967296 * (x * Y % L) + x * u)),Nat.mul_mod,e2,← Nat.mul_mod,← Nat.add_mod]

section
variable {ops : Array Oper} {C0 : World → Prop} {Q : Act → Prop} {a : Act} {o : Oper} {rest : List Oper}
theorem b_sc {l : List Nat} (g : Nat) (hl : l.length = 4) (x : Operand) (hg : Region.wanted o (yielded ops a.tmps) = true) (ho : o.op = .load 59 x) (hx : a.eval x = .pointer (some ⟨g,0,none⟩))
  (hc : ∀ w,C0 w → Blk w g 59 (Us l).toArray) (hk : wpB Tryd.prog ops C0 Q rest (a.put o.dst (.agg (Us l).toArray))) : wpB Tryd.prog ops C0 Q (o :: rest) a :=
 b_mid hg 59 x ho g 0 hx (Us l) _ (fun w h=>(hc w h).range) Tryd.underlying59 rfl (size_sc (Us l).toArray (len_u4 hl)) hk
theorem b_word {x i : Operand} (g k : Nat) (hk4 : k < 4) (hg : Region.wanted o (yielded ops a.tmps) = true) (ho : o.op = .indexAddr 57 x i) (hx : a.eval x = .pointer (some ⟨g,0,none⟩)) (hi : a.eval i = .int .i64 (k : Int))
  (hk : wpB Tryd.prog ops C0 Q rest (a.put o.dst (.pointer (some ⟨g,k,none⟩)))) : wpB Tryd.prog ops C0 Q (o :: rest) a :=
 b_val hg (fun w _=>by
  have h1 : (k : Int) < 4:=by omega
  have h2 : (0 : Int) ≤ (k : Int):=by omega
  unfold execOp
  simp only [ho,hx,hi]
  go_simp) hk
theorem b_cell {x : Operand} (g k v : Nat) (hg : Region.wanted o (yielded ops a.tmps) = true) (ho : o.op = .load 56 x) (hx : a.eval x = .pointer (some ⟨g,k,none⟩)) (hc : ∀ w,C0 w → w.cell? ⟨g,k,none⟩ = some (.int .u64 (v : Int)))
  (hk : wpB Tryd.prog ops C0 Q rest (a.put o.dst (.int .u64 (v : Int)))) : wpB Tryd.prog ops C0 Q (o :: rest) a :=
 b_val hg (fun w hw=>by
  have h1:=hc w hw
  unfold execOp
  simp only [ho,hx]
  go_simp) hk
theorem b_shr32 {x : Operand} {t : TypeId} (v : Nat) (hg : Region.wanted o (yielded ops a.tmps) = true) (ho : o.op = .binOp .shr 56 x (.const (.int .u64 32)) t) (hx : a.eval x = .int .u64 (v : Int))
  (hk : wpB Tryd.prog ops C0 Q rest (a.put o.dst (.int .u64 ((v / 4294967296 : Nat) : Int)))) : wpB Tryd.prog ops C0 Q (o :: rest) a :=
 b_val hg (fun w _=>by
  have e:=div32 v;generalize v / 4294967296 = z at *
  unfold execOp
  simp only [ho,hx]
  go_simp) hk
theorem b_and32 {x : Operand} {t : TypeId} (v : Nat) (hv : v < 18446744073709551616) (hg : Region.wanted o (yielded ops a.tmps) = true) (ho : o.op = .binOp .and 56 x (.const (.int .u64 4294967295)) t) (hx : a.eval x = .int .u64 (v : Int))
  (hk : wpB Tryd.prog ops C0 Q rest (a.put o.dst (.int .u64 ((v % 4294967296 : Nat) : Int)))) : wpB Tryd.prog ops C0 Q (o :: rest) a :=
 b_val hg (fun w _=>by
  have e:=mask32 v hv;generalize v % 4294967296 = z at *
  unfold execOp
  simp only [ho,hx]
  go_simp) hk
end
theorem fld_sc (g : Nat) (w : World) : (Instr.fieldAt 59 (.pointer (some ⟨g,0,none⟩)) 0).run Tryd.prog w = .ok (.pointer (some ⟨g,0,none⟩)) w:=by go_simp

set_option maxRecDepth 100000 in
set_option maxHeartbeats 2000000 in
theorem scmul_f {x y : Nat} (hx : x < LL) (hy : y < LL) (w : World) :
  Calls Tryd.prog 31 #[.agg (Us (ws x)).toArray,.agg (Us (ws y)).toArray] w fun e w'=>e = .returned (.agg (Us (ws (x * y % LL))).toArray) ∧ Below w.heap.size w w':=by
 have hN:=fun A h w1 (hA : A < LL) (hh : h < 4294967296)=>next_f hA hx hh w1
 have hwy : ∀ k,k < 4 → y / 18446744073709551616 ^ k = 18446744073709551616 * (y / 18446744073709551616 ^ (k + 1)) + (4294967296 * ((ws y)[k]! / 4294967296) + (ws y)[k]! % 4294967296):=by
  intro k hk
  rw [ws_wd y hk,Nat.pow_succ,← Nat.div_div_eq_div_mul]
  unfold wd
  omega
 have hy0 : y / 18446744073709551616 ^ 4 = 0:=Nat.div_eq_of_lt (Nat.lt_trans hy (by decide));have ha:=ws_len x;have hb:=ws_len y;have hbl:=fun k=>ws_get_lt y (k:=k);clear hy;generalize ws y = b at *;generalize hwx : ws x = a at *
 go_enter Tryd.func31,Tryd.ntmps31
 go_wp2
 go_loopw [6] (fun i wr=>∃ k : Nat,k ≤ 4 ∧ i = .int .i64 ((k : Int) - 1) ∧ MS4 w wr a b (x * (y / 18446744073709551616 ^ k) % LL)) (fun i _=>(intOf i + 1).toNat)
 case atStart =>
  refine ⟨4,by omega,rfl,?_⟩;rw [hy0,Nat.mul_zero,Nat.zero_mod];exact ⟨blk4_0 w _ _ _ _ _,blk4_1 w _ _ _ _ _,blk4_2 w _ _ _ _ _,blk4_3 w _ _ _ _ _,below4 w _ _ _ _⟩
 case round =>
  obtain ⟨k,hk,rfl,hS⟩:=hrel
  by_cases hlt : 0 < k
  ·obtain ⟨i,rfl⟩ : ∃ i,k = i + 1:=⟨k - 1,by omega⟩
   have e0 : ((i + 1 : Nat) : Int) - 1 = (i : Int):=by omega
   rw [e0];have hW:=hwy i (by omega);have hv:=hbl i (by omega);have hcell : ∀ w1,MS4 w w1 a b (x * (y / 18446744073709551616 ^ (i + 1)) % LL) → w1.cell? ⟨w.heap.size + 1,i,none⟩ = some (.int .u64 (b[i]! : Nat)):=fun w1 h=>(h.b1.cell i).trans (Us_at (by omega));have hcell2 : ∀ w1 n,MS4 w w1 a b n → w1.cell? ⟨w.heap.size + 1,i,none⟩ = some (.int .u64 (b[i]! : Nat)):=fun w1 n h=>(h.b1.cell i).trans (Us_at (by omega));generalize b[i]! = v at *;have hD:=Lib.hid (show x * (y / 18446744073709551616 ^ i) % LL = (4294967296 * ((4294967296 * (x * (y / 18446744073709551616 ^ (i + 1)) % LL) + x * (v / 4294967296)) % LL) + x * (v % 4294967296)) % LL by rw [mul_split,← hW]);have hX : x * (y / 18446744073709551616 ^ (i + 1)) % LL < LL:=Nat.mod_lt _ (by decide);generalize x * (y / 18446744073709551616 ^ (i + 1)) % LL = X at *;have hY : (4294967296 * X + x * (v / 4294967296)) % LL < LL:=Nat.mod_lt _ (by decide);have hN1:=fun w1=>hN X (v / 4294967296) w1 hX (by omega);have hN2:=fun w1=>hN ((4294967296 * X + x * (v / 4294967296)) % LL) (v % 4294967296) w1 hY (by omega);generalize (4294967296 * X + x * (v / 4294967296)) % LL = Y at *;generalize (4294967296 * Y + x * (v % 4294967296)) % LL = Z at *;clear hN hW hcell hX hY e0 hy0 hwy hbl hwx hx
   have hi3 : i < 4:=by omega
   go_wp2
   refine reg_set 8 (.tmp 5) 59 (.tmp 18) rfl rfl rfl rfl (by kernel_rfl) (tail_ok (by kernel_rfl)) (fun _ _ d _ _ h=>by cases d <;> exact h) ?_;simp only [List.take_succ_cons,List.take_zero];refine b_sc (w.heap.size + 1 + 1 + 1) (ws_len X) _ rfl rfl rfl (fun _ h=>h.blk hS.b3) ?_; simp only [Act.put,List.setIfInBounds_toArray,List.set_cons_zero,List.set_cons_succ];refine b_sc w.heap.size ha _ rfl rfl rfl (fun _ h=>h.blk hS.b0) ?_; simp only [Act.put,List.setIfInBounds_toArray,List.set_cons_zero,List.set_cons_succ];refine b_move rfl rfl ?_; simp only [Act.put,List.setIfInBounds_toArray,List.set_cons_zero,List.set_cons_succ];refine b_field (w.heap.size + 1) 0 0 rfl rfl rfl (fld_sc _) ?_; simp only [Act.put,List.setIfInBounds_toArray,List.set_cons_zero,List.set_cons_succ];refine b_word (w.heap.size + 1) i hi3 rfl rfl rfl rfl ?_; simp only [Act.put,List.setIfInBounds_toArray,List.set_cons_zero,List.set_cons_succ];refine b_cell (w.heap.size + 1) i v rfl rfl rfl (fun w1 h=>hcell2 w1 _ (hS.up h)) ?_; simp only [Act.put,List.setIfInBounds_toArray,List.set_cons_zero,List.set_cons_succ];refine b_shr32 v rfl rfl rfl ?_; simp only [Act.put,List.setIfInBounds_toArray,List.set_cons_zero,List.set_cons_succ];refine b_one rfl own_next (fun w1=>hN1 w1) rfl rfl ?_; simp only [Act.put,List.setIfInBounds_toArray,List.set_cons_zero,List.set_cons_succ];refine wpB_nil ⟨_,_,(Us (ws Y)).toArray,rfl,rfl,hS.b3,by rw [len_u4 (ws_len X),len_u4 (ws_len Y)],size_sc _ (len_u4 (ws_len Y)),Us_one _,fun w1 hw1=>?_⟩;have hS2:=(hS.up hw1).set Y;clear hS hw1 hN1;generalize w1.setRow (w.heap.size + 1 + 1 + 1) (Us (ws Y)).toArray = w2 at *;have HS:=Lib.hid hS2;clear hS2
   go_wp2
   have hS:=HS.out;clear HS;refine reg_set 8 (.tmp 5) 59 (.tmp 26) rfl rfl rfl rfl (by kernel_rfl) (tail_ok (by kernel_rfl)) (fun _ _ d _ _ h=>by cases d <;> exact h) ?_;simp only [List.take_succ_cons,List.take_zero];refine b_sc (w.heap.size + 1 + 1 + 1) (ws_len Y) _ rfl rfl rfl (fun _ h=>h.blk hS.b3) ?_; simp only [Act.put,List.setIfInBounds_toArray,List.set_cons_zero,List.set_cons_succ];refine b_sc w.heap.size ha _ rfl rfl rfl (fun _ h=>h.blk hS.b0) ?_; simp only [Act.put,List.setIfInBounds_toArray,List.set_cons_zero,List.set_cons_succ];refine b_move rfl rfl ?_; simp only [Act.put,List.setIfInBounds_toArray,List.set_cons_zero,List.set_cons_succ];refine b_field (w.heap.size + 1) 0 0 rfl rfl rfl (fld_sc _) ?_; simp only [Act.put,List.setIfInBounds_toArray,List.set_cons_zero,List.set_cons_succ];refine b_word (w.heap.size + 1) i hi3 rfl rfl rfl rfl ?_; simp only [Act.put,List.setIfInBounds_toArray,List.set_cons_zero,List.set_cons_succ];refine b_cell (w.heap.size + 1) i v rfl rfl rfl (fun w1 h=>hcell2 w1 _ (hS.up h)) ?_; simp only [Act.put,List.setIfInBounds_toArray,List.set_cons_zero,List.set_cons_succ];refine b_and32 v hv rfl rfl rfl ?_; simp only [Act.put,List.setIfInBounds_toArray,List.set_cons_zero,List.set_cons_succ];refine b_one rfl own_next (fun w1=>hN2 w1) rfl rfl ?_; simp only [Act.put,List.setIfInBounds_toArray,List.set_cons_zero,List.set_cons_succ];refine wpB_nil ⟨_,_,(Us (ws Z)).toArray,rfl,rfl,hS.b3,by rw [len_u4 (ws_len Y),len_u4 (ws_len Z)],size_sc _ (len_u4 (ws_len Z)),Us_one _,fun w1 hw1=>?_⟩;have hS2:=(hS.up hw1).set Z;clear hS hw1 hN2;generalize w1.setRow (w.heap.size + 1 + 1 + 1) (Us (ws Z)).toArray = w3 at *;have HS:=Lib.hid hS2;clear hS2 hcell2 hv
   go_wp2
   go_roundw
   case rel =>
    refine ⟨i,by omega,by go_num,?_⟩;rw [hD.out];exact HS.out
   case measure=>simp [intOf]
  ·obtain rfl : k = 0:=by omega
   rw [Nat.pow_zero,Nat.div_one] at hS;obtain ⟨b0,b1,b2,b3,be⟩:=hS;have hzs:=len_u4 (ws_len (x * y % LL));clear b0 b1
   go_wp2_with (first
    | (refine wpList_load_row rfl 59 _ rfl (w.heap.size + 1 + 1 + 1) rfl 59 (Us (ws (x * y % LL))).toArray (0,0) _ b3 Tryd.underlying59 rfl (size_sc _ hzs) ?_)
    | (refine wpList_store_row rfl 59 _ _ rfl (w.heap.size + 1 + 1) rfl (Us (ws (x * y % LL))).toArray rfl 59 _ b2 (size_sc _ hzs) (by rw [hzs]; rfl) (Us_one _) ?_))
   refine bodyPost_ret (results_cell_row rfl _ _ (w.heap.size + 1 + 1) 59 (Us (ws (x * y % LL))).toArray (0,0) _ rfl (b2.row _) Tryd.underlying59 rfl (size_sc _ hzs)) rfl ⟨rfl,?_⟩;exact below_setRow be (by omega) _
end Go.Proofs.YtminmeljonbogaaDoor
/-
  The scalars' calls are the program's own.
-/
namespace Go.Proofs.YtminmeljonbogaaDoor
open Go.RowKit Go.IntWalk

theorem own_wide : Own 64:=fun _ _=>by go_simp
theorem own_schash : Own 32:=fun _ _=>by go_simp
theorem own_scadd : Own 30:=fun _ _=>by go_simp
theorem own_scmul : Own 31:=fun _ _=>by go_simp
end Go.Proofs.YtminmeljonbogaaDoor
/-
  STEPS AT SCALARS AND COPIES, over frames by what is known of them.
-/
namespace Go.Proofs.YtminmeljonbogaaDoor
open Go.RowKit Go.IntWalk Nums

def z64 : List UInt8:=List.replicate 64 0
theorem z64_len : z64.length = 64:=List.length_replicate
theorem size_S (n : Nat) : (Tryd.prog.info? 59).map (·.size) = some (Us (ws n)).toArray.size:=size_sc _ (len_u4 (ws_len n))
section
variable {ops : Array Oper} {C0 : World → Prop} {Q : Act → Prop} {N : Nat} {E : List (Nat × Value)} {o : Oper} {rest : List Oper} {k : Nat}
theorem f_sc {x : Operand} (b n : Nat) (hg : o.guard = none) (hd : o.dst = some k) (hk : Nat.blt k N = true) (ho : o.op = .load 59 x) (hx : ev E x = some (.pointer (some ⟨b,0,none⟩)))
  (hc : ∀ w,C0 w → w.rangeAt b 0 (Us (ws n))) (hn : bF Tryd.prog ops C0 Q rest N ((k,.agg (Us (ws n)).toArray) :: E)) : bF Tryd.prog ops C0 Q (o :: rest) N E :=
 f_row b 0 (Us (ws n)) _ hg hd hk ho hx hc Tryd.underlying59 rfl (by have:=size_S n; simpa using this) hn
theorem f_b64 {x : Operand} {l : List UInt8} (b : Nat) (hl : l.length = 64) (hg : o.guard = none) (hd : o.dst = some k) (hk : Nat.blt k N = true) (ho : o.op = .load 32 x) (hx : ev E x = some (.pointer (some ⟨b,0,none⟩)))
  (hc : ∀ w,C0 w → w.rangeAt b 0 (By l)) (hn : bF Tryd.prog ops C0 Q rest N ((k,.agg (By l).toArray) :: E)) : bF Tryd.prog ops C0 Q (o :: rest) N E :=
 f_row b 0 (By l) _ hg hd hk ho hx hc Tryd.underlying32 rfl (by rw [By_len,hl]; kernel_rfl) hn
theorem f_slice32 {x : Operand} (g : Nat) (hg : o.guard = none) (hd : o.dst = some k) (hk : Nat.blt k N = true) (ho : o.op = .slice 22 x none none none) (hx : ev E x = some (.pointer (some ⟨g,0,none⟩)))
  (hn : bF Tryd.prog ops C0 Q rest N ((k,.slice (some ⟨g,0,none⟩) 32 32) :: E)) : bF Tryd.prog ops C0 Q (o :: rest) N E :=
 f_val _ hg hd hk (fun a ha w _=>by
  have h1:=ha.eval hx
  unfold execOp
  simp only [ho,h1]
  go_simp) hn
end
theorem cop_len64 {a : List UInt8} (ha : a.length = 32) : (cop z64 0 a).length = 64:=by rw [cop_len (by rw [z64_len,ha]; decide),z64_len]
theorem le_cop {a : List UInt8} (ha : a.length = 32) : le (cop z64 0 a) = le a:=by
 have e : cop z64 0 a = a ++ List.replicate 32 0:=by
  rw [cop,ha]
  simp [z64]
 have e2 : le (List.replicate 32 0) = 0:=by decide
 rw [e,le_append,e2,Nat.mul_zero,Nat.add_zero]
end Go.Proofs.YtminmeljonbogaaDoor
/-
  REGIONS WITH A STORE AHEAD OF READS: a variable may go over to a value that is known; slices of arrays, arrays of slices; results in two variables.
-/
namespace Go.Proofs.YtminmeljonbogaaDoor
open Go.RowKit Go.IntWalk

structure KeepG (g : Nat) (t : TypeId) (c : Array Value) (w w' : World) : Prop where
  os : w'.os = w.os
  tape : w'.tape = w.tape
  output : w'.output = w.output
  size : w.heap.size ≤ w'.heap.size
  block : ∀ k,k < w.heap.size → k ≠ g → w'.heap[k]? = w.heap[k]?
  here : g < w.heap.size → w'.heap[g]? = w.heap[g]? ∨ Blk w' g t c
section
variable {g : Nat} {t : TypeId} {c : Array Value} {w w' w'' : World}
theorem KeepG.of (h : Below w.heap.size w w') : KeepG g t c w w':=⟨h.os,h.tape,h.output,h.size,fun k hk _=>h.block k hk,fun hk=>.inl (h.block g hk)⟩
instance : RelOk (KeepG g t c):=⟨fun _ _=>KeepG.of⟩
theorem KeepG.trans (h : KeepG g t c w w') (k : KeepG g t c w' w'') : KeepG g t c w w'':=by
 refine ⟨k.os.trans h.os,k.tape.trans h.tape,k.output.trans h.output,Nat.le_trans h.size k.size,fun i hi hn=>(k.block i (Nat.lt_of_lt_of_le hi h.size) hn).trans (h.block i hi hn),fun hg=>?_⟩
 rcases k.here (Nat.lt_of_lt_of_le hg h.size) with h1 | h1
 ·rcases h.here hg with h2 | h2
  ·exact .inl (h1.trans h2)
  ·exact .inr (h1.trans h2)
 ·exact .inr h1
theorem KeepG.far (h : KeepG g t c w w') {g' t' : Nat} {cs : Array Value} (hb : Blk w g' t' cs) (hn : g' ≠ g) : Blk w' g' t' cs:=(h.block g' hb.lt hn).trans hb
theorem KeepG.self (h : KeepG g t c w w') (hb : Blk w g t c) : Blk w' g t c:=by
 rcases h.here hb.lt with h1 | h1
 ·exact h1.trans hb
 ·exact h1
theorem KeepG.up {w0 : World} (h : KeepG g t c w w') (hU : Up w0 w) (hg : w0.heap.size ≤ g) : Up w0 w' :=
 hU.trans ⟨h.os,h.tape,h.output,h.size,fun k hk=>h.block k (Nat.lt_of_lt_of_le hk hU.size) (by omega)⟩
theorem KeepG.set {old : Array Value} (hb : Blk w g t old) : KeepG g t c w (w.setRow g c):=by
 have hs : (w.setRow g c).heap.size = w.heap.size:=by simp [World.setRow]
 exact ⟨rfl,rfl,rfl,by rw [hs]; exact Nat.le_refl _,fun k _ hn=>setRow_other w g k c hn,fun _=>.inr (hb.row c)⟩
end
section
variable {P : Program} {ops : Array Oper} {Rel : World → World → Prop} {C0 : World → Prop} {Q : Facts → Act → Prop} {N : Nat} {E : List (Nat × Value)} {Fa : Told} {o : Oper} {rest : List (Nat × Oper)} {i : Nat}
theorem g_store {ty t : TypeId} {p x : Operand} (g : Nat) (cells : Array Value) (hg : o.guard = none) (hd : o.dst = none) (hf : farP i Fa = true) (ho : o.op = .store ty p x) (hp : ev E p = some (.pointer (some ⟨g,0,none⟩))) (hx : ev E x = some (.agg cells))
  (hi : (P.info? ty).map (·.size) = some cells.size) (h1 : ∀ v ∈ cells.toList,v.oneCell' = true) (hb : ∀ w,C0 w → ∃ old,Blk w g t old ∧ old.size = cells.size ∧ Rel w (w.setRow g cells)) (hP : Pers Rel fun w=>Blk w g t cells)
  (hn : gF P Rel ops C0 Q rest N E ((i,fun w=>Blk w g t cells) :: Fa)) : gF P Rel ops C0 Q ((i,o) :: rest) N E Fa:=fun a F ha hF=>by
 unfold wpG
 rw [if_pos (by simp [Region.wanted,hg])];refine ⟨fun v w=>v = undef ∧ Blk w g t cells,fun v w w' h hr=>⟨h.1,hP w w' h.2 hr⟩,.inl ⟨undef,fun u w h=>h.1⟩,fun w hw _=>?_,fun v w hw _ hV=>hn _ _ (by dsimp only; rw [hd]; exact ha) ?_⟩
 ·obtain ⟨old,h2,h3,h4⟩:=hb w hw
  have hst:=run_store_row (P:=P) w ty g cells old t h2 hi h3 h1
  dsimp only
  unfold execOp
  simp only [ho,ha.eval hp,ha.eval hx,Sem.run_bind,hst,Result.andThen_ok,Sem.run_pure];exact ⟨h4,rfl,h2.row _⟩
 ·intro x hx w hw
  rcases List.mem_cons.1 hx with rfl | hx
  ·have h5 : (v = undef ∧ Blk w g t cells):=by
    dsimp only at hw
    rwa [upF_same] at hw
   exact h5.2
  ·exact (hF.up hf) x hx w hw
end

/-! ### Slices of arrays, arrays of slices -/
section
variable {ops : Array Oper} {C0 : World → Prop} {Q : Act → Prop} {N : Nat} {E : List (Nat × Value)} {o : Oper} {rest : List Oper} {k : Nat}
theorem f_slice64l {x : Operand} (g : Nat) (hg : o.guard = none) (hd : o.dst = some k) (hk : Nat.blt k N = true) (ho : o.op = .slice 32 x none (some (.const (.int .i64 32))) none) (hx : ev E x = some (.pointer (some ⟨g,0,none⟩)))
  (hn : bF Tryd.prog ops C0 Q rest N ((k,.slice (some ⟨g,0,none⟩) 32 64) :: E)) : bF Tryd.prog ops C0 Q (o :: rest) N E :=
 f_val _ hg hd hk (fun a ha w _=>by
  have h1:=ha.eval hx
  unfold execOp
  simp only [ho,h1]
  go_simp) hn
theorem f_slice64h {x : Operand} (g : Nat) (hg : o.guard = none) (hd : o.dst = some k) (hk : Nat.blt k N = true) (ho : o.op = .slice 32 x (some (.const (.int .i64 32))) none none) (hx : ev E x = some (.pointer (some ⟨g,0,none⟩)))
  (hn : bF Tryd.prog ops C0 Q rest N ((k,.slice (some ⟨g,32,none⟩) 32 32) :: E)) : bF Tryd.prog ops C0 Q (o :: rest) N E :=
 f_val _ hg hd hk (fun a ha w _=>by
  have h1:=ha.eval hx
  unfold execOp
  simp only [ho,h1]
  go_simp) hn
theorem f_arrp {x : Operand} (p : Option Addr) (c : Nat) (hg : o.guard = none) (hd : o.dst = some k) (hk : Nat.blt k N = true) (ho : o.op = .sliceToArrayPointer 22 x) (hx : ev E x = some (.slice p 32 c))
  (hn : bF Tryd.prog ops C0 Q rest N ((k,.pointer p) :: E)) : bF Tryd.prog ops C0 Q (o :: rest) N E :=
 f_val _ hg hd hk (fun a ha w _=>by
  have h1:=ha.eval hx
  unfold execOp
  simp only [ho,h1];have hu:=run_underlying (P:=Tryd.prog) Tryd.underlying22 (w:=w);simp only [Instr.arrayAt,Sem.run_bind,hu,Result.andThen_ok]
  rfl) hn
end
theorem ix64 (b i : Nat) (h : i < 64) (w : World) : (Instr.indexAt 32 (.pointer (some ⟨b,0,none⟩)) (.int .i64 (i : Int))).run Tryd.prog w = .ok (.pointer (some ⟨b,i,none⟩)) w:=by
 have h3 : (i : Int) < 64:=by omega
 have h4 : (0 : Int) ≤ i:=by omega
 go_simp
theorem size_64 {l : List UInt8} (h : l.length = 64) : (Tryd.prog.info? 32).map (·.size) = some (By l).toArray.size:=by
 rw [List.size_toArray,By_len,h]
 kernel_rfl
theorem zero64 : (Tryd.prog.info? 32).bind (fun i=>i.zero.map (·.cells)) = some (By z64).toArray:=by kernel_rfl
theorem results_cells {P : Program} {fn : Func} {p q : Tmp} {ty ty2 : TypeId} (h : fn.results = #[.cell p ty,.cell q ty2]) (tmps : Array Value) (w : World) (g g2 : Nat) (t t2 : TypeId) (cs cs2 : Array Value) (fr fr2 : Nat × Nat) (d d2 : TypeDesc)
  (hp : tmps.getD p undef = .pointer (some ⟨g,0,none⟩)) (hq : tmps.getD q undef = .pointer (some ⟨g2,0,none⟩)) (hg : w.heap[g]? = some (.cells cs t fr)) (hg2 : w.heap[g2]? = some (.cells cs2 t2 fr2))
  (hu : P.underlying ty = some d) (hd : (match d with | .struct _ | .array _ _=>true | _=>false) = true) (hi : (P.info? ty).map (·.size) = some cs.size)
  (hu2 : P.underlying ty2 = some d2) (hd2 : (match d2 with | .struct _ | .array _ _=>true | _=>false) = true) (hi2 : (P.info? ty2).map (·.size) = some cs2.size) :
  (results fn tmps).run P w = .ok (.tuple #[.agg cs,.agg cs2]) w:=by
 have hp' : tmps[p]?.getD undef = .pointer (some ⟨g,0,none⟩):=by simpa using hp
 have hq' : tmps[q]?.getD undef = .pointer (some ⟨g2,0,none⟩):=by simpa using hq
 simp [results,h,hp',hq',asAddr,run_loadVar_row w g t ty cs fr d hg hu hd hi,run_loadVar_row w g2 t2 ty2 cs2 fr2 d2 hg2 hu2 hd2 hi2]

theorem take32 {l : List UInt8} (h : l.length = 64) : (l.take 32).length = 32:=by rw [List.length_take,h]; rfl
theorem drop32 {l : List UInt8} (h : l.length = 64) : (l.drop 32).length = 32:=by rw [List.length_drop,h]
theorem take_drop32 {l : List UInt8} (h : l.length = 64) : (l.drop 32).take 32 = l.drop 32:=List.take_of_length_le (by rw [drop32 h]; exact Nat.le_refl _)
theorem rng_drop {w : World} {g t : Nat} {l : List UInt8} (h : Blk w g t (By l).toArray) (hl : l.length = 64) : w.rangeAt g 32 (By (l.drop 32)):=by
 have h1:=h.part 32 32
 have e : ((By l).drop 32).take 32 = By (l.drop 32):=by
  rw [By,By,← List.map_drop,← List.map_take,take_drop32 hl]
 rwa [e] at h1
theorem rng_take {w : World} {g t : Nat} {l : List UInt8} (h : Blk w g t (By l).toArray) (_ : l.length = 64) : w.rangeAt g 0 (By (l.take 32)):=by
 have h1:=h.part 0 32
 have e : ((By l).drop 0).take 32 = By (l.take 32):=by
  rw [By,By,List.drop_zero,← List.map_take]
 rwa [e] at h1
section
variable {P : Program} {ops : Array Oper} {Rel : World → World → Prop} {C0 : World → Prop} {Q : Facts → Act → Prop} {N : Nat} {E : List (Nat × Value)} {Fa : Told} {o : Oper} {rest : List (Nat × Oper)} {i k : Nat}
theorem g_guard {j t : Nat} {b : Bool} (hgd : o.guard = some (j,b)) (hj : (ops[j]?).bind (·.dst) = some t) (hN : Nat.blt t N = true) (ht : look E t = some (.bool b)) (h : gF P Rel ops C0 Q ((i,{ o with guard:=none }) :: rest) N E Fa) : gF P Rel ops C0 Q ((i,o) :: rest) N E Fa:=fun a F ha hF=>by
 have h1:=h a F ha hF
 have htN : t < a.tmps.size:=by rw [ha.size]; simpa using hN
 have h2:=ha.get t _ ht
 have h3 : a.tmps[t]? = some (.bool b):=by
  simp only [Act.eval,Array.getD_eq_getD_getElem?] at h2;rw [Array.getElem?_eq_getElem htN] at h2 ⊢
  simpa using h2
 have hw : Region.wanted o (yielded ops a.tmps) = true:=by
  unfold Region.wanted
  rw [hgd]
  simp [yielded,hj,h3]
 obtain ⟨dst,op,ty,pos,af,gd⟩:=o
 unfold wpG at h1 ⊢
 rw [if_pos hw];rw [if_pos (by rfl)] at h1;exact h1
theorem g_skip {j t : Nat} {b : Bool} (hgd : o.guard = some (j,b)) (hj : (ops[j]?).bind (·.dst) = some t) (hN : Nat.blt t N = true) (ht : look E t = some (.bool (!b))) (hd : o.dst = some k) (hk : Nat.blt k N = true) (hf : farP i Fa = true) (h : gF P Rel ops C0 Q rest N ((k,undef) :: E) Fa) : gF P Rel ops C0 Q ((i,o) :: rest) N E Fa:=fun a F ha hF=>by
 have htN : t < a.tmps.size:=by rw [ha.size]; simpa using hN
 have h2:=ha.get t _ ht
 have h3 : a.tmps[t]? = some (.bool (!b)):=by
  simp only [Act.eval,Array.getD_eq_getD_getElem?] at h2;rw [Array.getElem?_eq_getElem htN] at h2 ⊢
  simpa using h2
 have hw : ¬ Region.wanted o (yielded ops a.tmps) = true:=by
  unfold Region.wanted
  rw [hgd]
  simp [yielded,hj,h3]
 unfold wpG
 rw [if_neg hw]
 dsimp only
 rw [hd];exact h _ _ (ha.put hk _) (hF.up hf)
end
section
variable {P : Program} {ops : Array Oper} {C0 : World → Prop} {Q : Act → Prop} {N : Nat} {E : List (Nat × Value)} {o : Oper} {rest : List Oper} {k : Nat}
theorem f_pickF {c x y : Operand} (v : Value) (hg : o.guard = none) (hd : o.dst = some k) (hk : Nat.blt k N = true) (ho : o.op = .pick c x y) (hc : ev E c = some (.bool false)) (hy : ev E y = some v) (hn : bF P ops C0 Q rest N ((k,v) :: E)) : bF P ops C0 Q (o :: rest) N E :=
 f_val _ hg hd hk (fun a ha w _=>by
  have h1:=ha.eval hc;have h2:=ha.eval hy
  unfold execOp
  simp only [ho,h1,h2]
  go_simp) hn
end
end Go.Proofs.YtminmeljonbogaaDoor
/-
  STEPS OF THE RING: slices of hashes, fields behind a pointer, nil pointers.
-/
namespace Go.Proofs.YtminmeljonbogaaDoor
open Go.RowKit Go.IntWalk

def HV (w : World) (A : Option Addr) (ks : List (List UInt8)) : Prop :=
  0 < ks.length → ∃ b o,A = some ⟨b,o,none⟩ ∧ b < w.heap.size ∧ ∀ (i : Nat) l,ks[i]? = some l → l.length = 32 ∧ w.rangeAt b (o + 32 * i) (By l)
theorem rangeAt_later {w w' : World} {b o : Nat} {cs : List Value} (h : w.rangeAt b o cs) (hb : w'.heap[b]? = w.heap[b]?) : w'.rangeAt b o cs:=fun j v hj=>(World.cell?_of_block (w:=w) (w':=w') (a:=⟨b,o + j,none⟩) hb).trans (h j v hj)
theorem HV.keep {w w' : World} {A : Option Addr} {ks : List (List UInt8)} (h : HV w A ks) (hs : w.heap.size ≤ w'.heap.size) (hk : ∀ b o,A = some ⟨b,o,none⟩ → b < w.heap.size → w'.heap[b]? = w.heap[b]?) : HV w' A ks:=fun hl=>by
 obtain ⟨b,o,e,hb,hc⟩:=h hl;exact ⟨b,o,e,Nat.lt_of_lt_of_le hb hs,fun i l hi=>⟨(hc i l hi).1,rangeAt_later (hc i l hi).2 (hk b o e hb)⟩⟩
theorem HV.later {w w' : World} {A : Option Addr} {ks : List (List UInt8)} (h : HV w A ks) (hb : Below w.heap.size w w') : HV w' A ks:=h.keep hb.size fun b _ _ hlt=>hb.block b hlt
def HS (w : World) (v : Value) (ks : List (List UInt8)) : Prop:=∃ A c,v = .slice A ks.length c ∧ ks.length ≤ c ∧ c ≤ 9223372036854775807 ∧ HV w A ks
theorem HV.len {w : World} {A : Option Addr} {ks : List (List UInt8)} (h : HV w A ks) : ∀ l ∈ ks,l.length = 32:=fun l hl=>by
 obtain ⟨i,hi,rfl⟩:=List.getElem_of_mem hl;obtain ⟨b,o,_,_,hc⟩:=h (by omega);exact (hc i _ (List.getElem?_eq_getElem hi)).1
theorem HV.take {w : World} {A : Option Addr} {ks : List (List UInt8)} (h : HV w A ks) (n : Nat) : HV w A (ks.take n):=fun hl=>by
 obtain ⟨b,o,e,hb,hc⟩:=h (by simp at hl; omega);refine ⟨b,o,e,hb,fun i l hi=>hc i l ?_⟩;rw [List.getElem?_take] at hi
 split at hi
 ·exact hi
 ·cases hi
theorem ixHs (b o n c i : Nat) (h : i < n) (w : World) : (Instr.indexAt 40 (.slice (some ⟨b,o,none⟩) n c) (.int .i64 (i : Int))).run Tryd.prog w = .ok (.pointer (some ⟨b,o + 32 * i,none⟩)) w:=by
 have h3 : (i : Int) < (n : Int):=by omega
 have h4 : (0 : Int) ≤ i:=by omega
 go_simp
theorem rfld0 (g : Nat) (w : World) : (Instr.fieldAt 97 (.pointer (some ⟨g,0,none⟩)) 0).run Tryd.prog w = .ok (.pointer (some ⟨g,0,none⟩)) w:=by go_simp
theorem rfld1 (g : Nat) (w : World) : (Instr.fieldAt 97 (.pointer (some ⟨g,0,none⟩)) 1).run Tryd.prog w = .ok (.pointer (some ⟨g,1,none⟩)) w:=by go_simp
section
variable {ops : Array Oper} {C0 : World → Prop} {Q : Act → Prop} {N : Nat} {E : List (Nat × Value)} {o : Oper} {rest : List Oper} {k : Nat}
theorem f_lenH {x : Operand} (p : Option Addr) (n c : Nat) (hg : o.guard = none) (hd : o.dst = some k) (hk : Nat.blt k N = true) (ho : o.op = .call { callee:=.builtin .len,args:=#[x],argTypes:=#[40] }) (hx : ev E x = some (.slice p n c))
  (hn : bF Tryd.prog ops C0 Q rest N ((k,.int .i64 (n : Int)) :: E)) : bF Tryd.prog ops C0 Q (o :: rest) N E :=
 f_val _ hg hd hk (fun a ha w _=>by
  have h1:=ha.eval hx
  unfold execOp
  simp only [ho,resolve,invoke,builtin,Sem.run_bind,Sem.run_pure,Result.andThen_ok,List.map_toArray,List.map_cons,List.map_nil,h1]
  go_simp) hn
theorem f_loadV {x : Operand} {t : TypeId} (p : Addr) (v : Value) (ht : t = 40 ∨ t = 95) (hg : o.guard = none) (hd : o.dst = some k) (hk : Nat.blt k N = true) (ho : o.op = .load t x) (hx : ev E x = some (.pointer (some p)))
  (hc : ∀ w,C0 w → w.cell? p = some v) (hn : bF Tryd.prog ops C0 Q rest N ((k,v) :: E)) : bF Tryd.prog ops C0 Q (o :: rest) N E :=
 f_val _ hg hd hk (fun a ha w hw=>by
  have h1:=ha.eval hx;have h2:=hc w hw
  unfold execOp
  simp only [ho,h1]
  rcases ht with rfl | rfl <;> go_simp) hn
theorem f_nilc {x : Operand} (p : Addr) (hg : o.guard = none) (hd : o.dst = some k) (hk : Nat.blt k N = true) (ho : o.op = .nilCheck x) (hx : ev E x = some (.pointer (some p)))
  (hn : bF Tryd.prog ops C0 Q rest N ((k,.pointer (some p)) :: E)) : bF Tryd.prog ops C0 Q (o :: rest) N E :=
 f_val _ hg hd hk (fun a ha w _=>by
  have h1:=ha.eval hx
  unfold execOp
  simp only [ho,h1]
  go_simp) hn
theorem f_eqP {x y : Operand} {t : TypeId} (p : Option Addr) (q : Bool) (hg : o.guard = none) (hd : o.dst = some k) (hk : Nat.blt k N = true) (ho : o.op = .binOp .eql 41 x y t) (hx : ev E x = some (.pointer p)) (hy : ev E y = some (.pointer none))
  (hr : p.isNone = q) (hn : bF Tryd.prog ops C0 Q rest N ((k,.bool q) :: E)) : bF Tryd.prog ops C0 Q (o :: rest) N E :=
 f_val _ hg hd hk (fun a ha w _=>by
  have h1:=ha.eval hx;have h2:=ha.eval hy;subst hr
  unfold execOp
  simp only [ho,h1,h2]
  cases p <;> go_simp) hn
theorem f_leqI {x y : Operand} {t : TypeId} (m n : Int) (q : Bool) (hg : o.guard = none) (hd : o.dst = some k) (hk : Nat.blt k N = true) (ho : o.op = .binOp .leq 3 x y t) (hx : ev E x = some (.int .i64 m)) (hy : ev E y = some (.int .i64 n))
  (hr : decide (m ≤ n) = q) (hn : bF Tryd.prog ops C0 Q rest N ((k,.bool q) :: E)) : bF Tryd.prog ops C0 Q (o :: rest) N E :=
 f_val _ hg hd hk (fun a ha w _=>by
  have h1:=ha.eval hx;have h2:=ha.eval hy;subst hr
  unfold execOp
  simp only [ho,h1,h2]
  by_cases e : m ≤ n <;> go_simp) hn
theorem f_cutH {x y : Operand} (b' o' n c j : Nat) (hj : j ≤ n) (hc : n ≤ c) (hg : o.guard = none) (hd : o.dst = some k) (hk : Nat.blt k N = true) (ho : o.op = .slice 40 x none (some y) none) (hx : ev E x = some (.slice (some ⟨b',o',none⟩) n c)) (hy : ev E y = some (.int .i64 (j : Int)))
  (hn : bF Tryd.prog ops C0 Q rest N ((k,.slice (some ⟨b',o',none⟩) j c) :: E)) : bF Tryd.prog ops C0 Q (o :: rest) N E :=
 f_val _ hg hd hk (fun a ha w _=>by
  have h1:=ha.eval hx;have h2:=ha.eval hy
  have h3 : (j : Int) ≤ (c : Int):=by omega
  have h4 : (0 : Int) ≤ (j : Int):=by omega
  unfold execOp
  simp only [ho];generalize a.eval = ρ at *;simp only [Option.map,h1,h2]
  go_simp) hn
theorem f_strB {x : Operand} (v : Value) (l : List UInt8) (hg : o.guard = none) (hd : o.dst = some k) (hk : Nat.blt k N = true) (ho : o.op = .convert 23 9 x) (hx : ev E x = some v) (hs : ∀ w,C0 w → SB w v l)
  (hn : bF Tryd.prog ops C0 Q rest N ((k,.string ⟨l.toArray⟩) :: E)) : bF Tryd.prog ops C0 Q (o :: rest) N E :=
 f_val _ hg hd hk (fun a ha w hw=>by
  have h1:=ha.eval hx;obtain ⟨A,c,rfl,hS⟩:=hs w hw
  unfold execOp
  simp only [ho,h1]
  cases A with
  | none =>
   obtain ⟨h3,h4⟩:=hS.none_ rfl;obtain rfl:=List.eq_nil_of_length_eq_zero h3;have hr:=run_convert_bytes_nil (P:=Tryd.prog) w 23 5 Tryd.underlying23 Tryd.underlying5 0 c 9 Tryd.underlying9;simp only [Sem.run_bind,List.length_nil,hr,Result.andThen_ok,Sem.run_pure]
   rfl
  | some ad =>
   have hr:=run_convert_bytes_back (P:=Tryd.prog) w 23 9 5 ad c l Tryd.underlying23 Tryd.underlying5 Tryd.underlying9 (fun j hj=>hS.cells ad rfl j _ (by rw [By_at? hj,getElem!_pos l j hj]))
   simp only [Sem.run_bind,hr,Result.andThen_ok,Sem.run_pure]) hn
end
end Go.Proofs.YtminmeljonbogaaDoor
/-
  REGIONS WHOSE ORDER IS FORCED, operation by operation; steps: slices of bytes, new ones and parts; lengths; '==' of signatures.
-/
namespace Go.Proofs.YtminmeljonbogaaDoor
open Go.RowKit Go.IntWalk Nums

section
variable {ops : Array Oper} {C0 : World → Prop} {Q : Act → Prop} {N : Nat} {E : List (Nat × Value)} {o : Oper} {rest : List Oper} {k : Nat}
theorem f_xorB {x y : Operand} {t : TypeId} (m n r : Int) (hg : o.guard = none) (hd : o.dst = some k) (hk : Nat.blt k N = true) (ho : o.op = .binOp .xor 5 x y t) (hx : ev E x = some (.int .u8 m)) (hy : ev E y = some (.int .u8 n))
  (hr : bits .xor .u8 m n = r) (hn : bF Tryd.prog ops C0 Q rest N ((k,.int .u8 r) :: E)) : bF Tryd.prog ops C0 Q (o :: rest) N E :=
 f_val _ hg hd hk (fun a ha w _=>by
  have h1:=ha.eval hx;have h2:=ha.eval hy
  unfold execOp
  simp only [ho,h1,h2]
  go_simp) hn
end

/-! ### Regions whose order is forced -/
section
variable {P : Program} {ops : Array Oper} {Q : Exit → Act → World → Prop} {N : Nat} {E : List (Nat × Value)} {w : World} {o : Oper} {rest l : List Oper} {k : Nat}
theorem l_ops (m : Nat) (h : bF P ops (Up w) (fun a'=>∀ w',Up w w' → wpList P ops Q (l.drop m) a' w') (l.take m) N E) : lF P ops Q l N E w:=fun a ha=>by
 have h1:=wpList_of_B (Q:=Q) (T:=l.drop m) (l.take m) a w w (Up.refl w) (h a ha)
 rwa [List.take_append_drop] at h1
def WG (ops : Array Oper) (N : Nat) (E : List (Nat × Value)) (o : Oper) : Prop:=o.guard = none ∨ ∃ j b t,o.guard = some (j,b) ∧ (ops[j]?).bind (·.dst) = some t ∧ Nat.blt t N = true ∧ look E t = some (.bool b)
theorem WG.wanted {a : Act} (h : WG ops N E o) (ha : Fr N E a) : Region.wanted o (yielded ops a.tmps) = true:=by
 rcases h with h | ⟨j,b,t,hgd,hj,hN,ht⟩
 ·simp [Region.wanted,h]
 ·have htN : t < a.tmps.size:=by rw [ha.size]; simpa using hN
  have h2:=ha.get t _ ht
  have h3 : a.tmps[t]? = some (.bool b):=by
   simp only [Act.eval,Array.getD_eq_getD_getElem?] at h2;rw [Array.getElem?_eq_getElem htN] at h2 ⊢
   simpa using h2
  unfold Region.wanted
  rw [hgd]
  simp [yielded,hj,h3]
theorem l_guard (hw : WG ops N E o) (h : lF P ops Q ({ o with guard:=none } :: rest) N E w) : lF P ops Q (o :: rest) N E w:=fun a ha=>by
 have h1:=h a ha;obtain ⟨dst,op,ty,pos,af,gd⟩:=o
 unfold wpList at h1 ⊢
 rw [if_pos (hw.wanted ha)];rw [if_pos (by rfl)] at h1;exact h1
theorem l_valW (v : Value) (w' : World) (hw : WG ops N E o) (hd : o.dst = some k) (hk : Nat.blt k N = true) (h : ∀ a,Fr N E a → (execOp a.eval o).run P w = .ok (.value v) w') (hn : lF P ops Q rest N ((k,v) :: E) w') : lF P ops Q (o :: rest) N E w:=fun a ha=>by
 have h1:=h a ha;have h2:=hn _ (ha.put hk v)
 unfold wpList
 rw [if_pos (hw.wanted ha)];refine .inl ?_
 unfold Oper.wp
 rw [h1];simp only [Oper.upon,hd];exact h2
end
section
variable {ops : Array Oper} {Q : Exit → Act → World → Prop} {N : Nat} {E : List (Nat × Value)} {w : World} {o o2 : Oper} {rest : List Oper} {k k2 : Nat}
theorem l_lit1 {x : Operand} (y : UInt8) (hw : WG ops N E o) (hd : o.dst = some k) (hk : Nat.blt k N = true) (ho : o.op = .buildSlice 23 1 #[(0,x)]) (hx : ev E x = some (.int .u8 (y.toNat : Int)))
  (hw2 : ∀ v,WG ops N ((k,v) :: E) o2) (hd2 : o2.dst = some k2) (hk2 : Nat.blt k2 N = true) (ho2 : o2.op = .convert 23 23 (.tmp k))
  (hn : ∀ W g,Up w W → SB W (.slice (some ⟨g,0,none⟩) 1 1) [y] → lF Tryd.prog ops Q rest N ((k2,.slice (some ⟨g,0,none⟩) 1 1) :: (k,.slice (some ⟨g,0,none⟩) 1 1) :: E) W) : lF Tryd.prog ops Q (o :: o2 :: rest) N E w:=by
 refine l_valW (.slice (some ⟨w.heap.size,0,none⟩) 1 1) (w.alloc (.cells (By [y]).toArray 5)) hw hd hk (fun a ha=>?_) ?_
 ·have h1:=ha.eval hx
  have hr:=run_slice1B (y.toNat : Int) w
  unfold execOp
  simp only [ho,List.map_toArray,List.map_cons,List.map_nil,h1,Sem.run_bind,hr,Result.andThen_ok,Sem.run_pure]
  rfl
 ·refine l_valW (.slice (some ⟨w.heap.size,0,none⟩) 1 1) (w.alloc (.cells (By [y]).toArray 5 (1,2))) (hw2 _) hd2 hk2 (fun a ha=>?_) (hn _ w.heap.size ((Up.refl w).alloc _) ?_)
  ·have h1 : a.eval (.tmp k) = .slice (some ⟨w.heap.size,0,none⟩) 1 1:=ha.get k _ (by rw [look_cons,if_pos rfl])
   have hr:=Lib.run_convert_bytes_const (P:=Tryd.prog) w 23 5 (By [y]).toArray 1 1 Tryd.underlying23 Tryd.underlying5
   unfold execOp
   simp only [ho2,h1,Sem.run_bind,hr,Result.andThen_ok,Sem.run_pure]
   rfl
  ·have hc : (w.alloc (.cells (By [y]).toArray 5 (1,2))).heap[w.heap.size]? = some (.cells (By [y]).toArray 5 (1,2)):=heap_alloc_new w _
   have hsz : (w.alloc (.cells (By [y]).toArray 5 (1,2))).heap.size = w.heap.size + 1:=World.size_alloc _ _;refine ⟨some ⟨w.heap.size,0,none⟩,1,rfl,Nat.le_refl _,by decide,fun h=>(by cases h),fun _=>⟨_,rfl,Nat.zero_le _,by rw [hsz]; exact Nat.lt_succ_self _,fun j u hu=>?_⟩⟩
   cases j with
   | zero =>
    simp only [List.getElem?_cons_zero,Option.some.injEq] at hu;subst hu;rw [Addr.add_mid,cell_of_row _ _ _ _ _ _ hc]
    rfl
   | succ j=>simp at hu
end
theorem xor1 (m : Nat) (h : m < 256) : bits .xor .u8 (m : Int) 1 = ((if m % 2 = 0 then m + 1 else m - 1 : Nat) : Int):=by
 have key : ∀ m : Nat,m < 256 → bits .xor .u8 (m : Int) 1 = ((if m % 2 = 0 then m + 1 else m - 1 : Nat) : Int):=by decide +kernel
 exact key m h
end Go.Proofs.YtminmeljonbogaaDoor
/-
  SLICES OF HASHES: Index and Contains.
-/
namespace Go.Proofs.YtminmeljonbogaaDoor
open Go.RowKit Go.IntWalk Nums

theorem own_hindex : Own 125:=fun _ _=>by go_simp
theorem own_hcontains : Own 95:=fun _ _=>by go_simp
noncomputable def ixl (k : Nat) : Code:=((Tryd.f125.body.map loopsOf).getD [])[k]?.getD .skip
def FIx (A : Option Addr) (n c g i : Nat) : List (Nat × Value):=[(8,.int .i64 (i : Int)),(7,.int .i64 (n : Int)),(3,.pointer (some ⟨g,0,none⟩)),(0,.slice A n c)]
set_option maxRecDepth 100000 in
set_option maxHeartbeats 1000000 in
theorem index_l {Q : Exit → Act → World → Prop} {w0 w : World} {A : Option Addr} {ks : List (List UInt8)} {l : List UInt8} {c g : Nat} (hA : HV w0 A ks) (hl : l.length = 32) (hn : ks.length ≤ 9223372036854775807) (hU : Up w0 w) (hb : Blk w g 22 (By l).toArray)
  (hret : ∀ (w' : World) (i : Nat),Up w0 w' → l ∈ ks → kF (Q .ret) 19 [(4,.int .i64 (i : Int))] w') (hend : ∀ w',Up w0 w' → l ∉ ks → kF (Q .normal) 19 [] w') :
  cF Tryd.prog (.loop (ixl 0)) (Exit.inBlock 0 Q) 19 (FIx A ks.length c g 0) w:=by
 refine c_loop (m:=fun i : Nat=>ks.length - i) (F:=FIx A ks.length c g) (R:=fun i w=>i ≤ ks.length ∧ Up w0 w ∧ Blk w g 22 (By l).toArray ∧ l ∉ ks.take i) ?_ 0 ⟨by omega,hU,hb,by simp⟩
 rintro i w ⟨hi,hU,hb,hno⟩
 conv=>arg 2; whnf
 refine c_seq fun K1 hK1=>?_;refine c_qF ?_
 by_cases hil : i < ks.length
 ·refine f_lssI (i : Int) (ks.length : Int) true rfl rfl rfl rfl rfl rfl (decide_eq_true (by omega)) ?_
  refine f_end fun w1 hw1=>hK1 _ _ ?_;refine c_seq fun K2 hK2=>?_;refine c_cond true rfl ?_;refine c_skip ?_;refine hK2 _ _ ?_;refine c_seq fun K3 hK3=>?_;refine c_block ?_;refine c_seq fun K4 hK4=>?_;refine c_qF ?_;refine f_move (.int .i64 (i : Int)) rfl rfl rfl rfl rfl ?_;refine f_assign (.int .i64 (i : Int)) rfl rfl rfl rfl rfl ?_;refine f_end fun w2 hw2=>hK4 _ _ ?_;replace hb:=(hb.later hw1).later hw2;replace hU:=(hU.step hw1).step hw2;clear hw1 hw2;obtain ⟨b,o,rfl,hlt,hc⟩:=(hA.later hU) (by omega);obtain ⟨hx1,hx2⟩:=hc i ks[i] (List.getElem?_eq_getElem hil);refine c_seq fun K6 hK6=>?_;refine c_g 6 (by decide) (by kernel_rfl) (by kernel_rfl) ?_;refine g_op rfl ?_;refine f_by g 0 hl rfl rfl rfl rfl rfl (fun _ h1=>(h1.1.blk hb).range) ?_;refine g_go ?_;refine g_op rfl ?_;refine f_move (.slice (some ⟨b,o,none⟩) ks.length c) rfl rfl rfl rfl rfl ?_;refine g_go ?_;refine g_op rfl ?_;refine f_move (.int .i64 (i : Int)) rfl rfl rfl rfl rfl ?_;refine g_go ?_;refine g_op rfl ?_;refine f_ix _ (i : Int) ⟨b,o + 32 * i,none⟩ rfl rfl rfl rfl rfl rfl (ixHs b o ks.length c i hil) ?_;refine g_go ?_;refine g_op rfl ?_;refine f_by b (o + 32 * i) hx1 rfl rfl rfl rfl rfl (fun _ h1=>rangeAt_later hx2 (h1.1.block b hlt)) ?_;refine g_go ?_;refine g_op rfl ?_;refine f_eqd l ks[i] rfl rfl rfl rfl rfl rfl rfl hl hx1 ?_;refine g_go ?_;refine g_end fun w3 hw3 _=>?_;refine l_nil ?_;refine hK6 _ _ ?_;replace hb:=hb.later hw3;replace hU:=hU.step hw3
  by_cases he : l = ks[i]
  ·refine c_cond (decide (l = ks[i])) rfl ?_
   rw [decide_eq_true he,if_pos rfl];refine c_seq fun K7 hK7=>?_;refine c_qF ?_;refine f_move (.int .i64 (i : Int)) rfl rfl rfl rfl rfl ?_;refine f_assign (.int .i64 (i : Int)) rfl rfl rfl rfl rfl ?_;refine f_end fun w4 hw4=>hK7 _ _ ?_;refine c_ret ?_;exact k_sub (E':=[(4,.int .i64 (i : Int))]) ⟨rfl,trivial⟩ (hret w4 i (hU.step hw4) (by rw [he]; exact List.getElem_mem hil))
  ·refine c_cond (decide (l = ks[i])) rfl ?_
   rw [decide_eq_false he,if_neg (by decide)];refine c_skip ?_;refine hK3 _ _ ?_;refine c_qF ?_;refine f_addI (i : Int) 1 ((i + 1 : Nat) : Int) rfl rfl rfl rfl rfl rfl (by rw [i64_left,wrap64_in _ (by omega)]; omega) ?_;refine f_move (.int .i64 ((i + 1 : Nat) : Int)) rfl rfl rfl rfl rfl ?_;refine f_end fun w5 hw5=>?_;refine k_round (F:=FIx (some ⟨b,o,none⟩) ks.length c g) (m:=fun i : Nat=>ks.length - i) (R:=fun i w=>i ≤ ks.length ∧ Up w0 w ∧ Blk w g 22 (By l).toArray ∧ l ∉ ks.take i) (s:=i) (i + 1) ⟨rfl,rfl,rfl,rfl,trivial⟩ ⟨hil,hU.step hw5,hb.later hw5,?_⟩ (Nat.sub_lt_sub_left hil (Nat.lt_succ_self i));rw [List.take_succ_eq_append_getElem hil]
   intro h
   rcases List.mem_append.1 h with h | h
   ·exact hno h
   ·exact he (by simpa using h)
 ·refine f_lssI (i : Int) (ks.length : Int) false rfl rfl rfl rfl rfl rfl (decide_eq_false (by omega)) ?_
  refine f_end fun w1 hw1=>hK1 _ _ ?_;refine c_seq fun K2 hK2=>?_;refine c_cond false rfl ?_;refine c_exit ?_;refine k_exit (id:=0) (Q:=Q) ?_
  obtain rfl : i = ks.length:=by omega
  rw [List.take_length] at hno;exact k_sub (E':=[]) trivial (hend w1 (hU.step hw1) hno)
set_option maxRecDepth 100000 in
set_option maxHeartbeats 1000000 in
theorem index_f {A : Option Addr} {ks : List (List UInt8)} {l : List UInt8} {c : Nat} (hl : l.length = 32) (hn : ks.length ≤ 9223372036854775807) (w : World) (hA : HV w A ks) :
  Calls Tryd.prog 125 #[.slice A ks.length c,.agg (By l).toArray] w fun e w'=>(∃ r : Int,e = .returned (.int .i64 r) ∧ (0 ≤ r ↔ l ∈ ks)) ∧ Below w.heap.size w w':=by
 refine calls_F (vs:=[.slice A ks.length c,.agg (By l).toArray]) 19 Tryd.func125 rfl (by rw [Tryd.ntmps125]; rfl) ?_;have hU:=Up.refl w;refine c_seq fun K hK=>?_;refine c_lit ?_;refine l_boxA ((By l).toArray) rfl rfl rfl rfl rfl fun W1 g1 hw1 hg1 b1=>?_;replace hU:=hU.step hw1;clear hw1 hg1;refine l_assign (.int .i64 0) rfl rfl rfl rfl rfl ?_;refine l_nil ?_;refine hK _ _ ?_;clear hK K;refine c_seq fun K2 hK2=>?_;refine c_seq fun K3 hK3=>?_;refine c_qF ?_;refine f_move (.slice A ks.length c) rfl rfl rfl rfl rfl ?_;refine f_lenH A ks.length c rfl rfl rfl rfl rfl ?_;refine f_move (.int .i64 0) rfl rfl rfl rfl rfl ?_;refine f_end fun w2 hw2=>?_;refine k_sub (E':=FIx A ks.length c g1 0) ⟨rfl,rfl,rfl,rfl,trivial⟩ ?_;refine hK3 _ _ ?_;refine c_block ?_;refine index_l (w0:=w) hA hl hn (hU.step hw2) (b1.later hw2) (fun w' i hU hm=>?_) (fun w' hU hm=>?_)
 ·exact k_then_ret fun a ha=>bodyPost_ret (results_tmp rfl _ _ _) ha.defers ⟨⟨(i : Int),congrArg Ending.returned (ha.get 4 _ rfl),⟨fun _=>hm,fun _=>by omega⟩⟩,hU⟩
 ·refine hK2 _ _ ?_
  refine c_seq fun K4 hK4=>?_;refine c_qF ?_;refine f_assign (.int .i64 (-1)) rfl rfl rfl rfl rfl ?_;refine f_end fun w3 hw3=>hK4 _ _ ?_;exact c_ret fun a ha=>bodyPost_ret (results_tmp rfl _ _ _) ha.defers ⟨⟨-1,congrArg Ending.returned (ha.get 4 _ rfl),⟨fun h=>absurd h (by decide),fun h=>absurd h hm⟩⟩,hU.step hw3⟩
set_option maxRecDepth 100000 in
set_option maxHeartbeats 1000000 in
theorem contains_f {A : Option Addr} {ks : List (List UInt8)} {l : List UInt8} {c : Nat} (hl : l.length = 32) (hn : ks.length ≤ 9223372036854775807) (w : World) (hA : HV w A ks) :
  Calls Tryd.prog 95 #[.slice A ks.length c,.agg (By l).toArray] w fun e w'=>e = .returned (.bool (decide (l ∈ ks))) ∧ Below w.heap.size w w':=by
 refine calls_F (vs:=[.slice A ks.length c,.agg (By l).toArray]) 9 Tryd.func95 rfl (by rw [Tryd.ntmps95]; rfl) ?_;have hU:=Up.refl w;refine c_seq fun K hK=>?_;refine c_lit ?_;refine l_boxA ((By l).toArray) rfl rfl rfl rfl rfl fun W1 g1 hw1 hg1 b1=>?_;replace hU:=hU.step hw1;clear hw1 hg1;refine l_assign (.bool false) rfl rfl rfl rfl rfl ?_;refine l_nil ?_;refine hK _ _ ?_;clear hK K;refine c_seq fun K hK=>?_;refine c_lit ?_;refine l_ops 2 ?_;refine f_move (.slice A ks.length c) rfl rfl rfl rfl rfl ?_;refine f_by g1 0 hl rfl rfl rfl rfl rfl (fun _ h1=>(h1.blk b1).range) ?_;refine f_tail fun w2 hw2=>?_;refine l_call #[.slice A ks.length c,.agg (By l).toArray] rfl rfl rfl own_hindex (index_f hl hn w2 (hA.later (hU.step hw2))) rfl rfl ?_
 rintro e w3 ⟨⟨r,rfl,hr⟩,hb3⟩
 refine ⟨_,rfl,?_⟩;refine l_ops 2 ?_;refine f_geqI r 0 (decide (l ∈ ks)) rfl rfl rfl rfl rfl rfl (by rw [decide_eq_decide]; exact hr) ?_;refine f_assign (.bool (decide (l ∈ ks))) rfl rfl rfl rfl rfl ?_;refine f_tail fun w4 hw4=>?_;refine l_nil ?_;refine hK _ _ ?_;exact c_ret fun a ha=>bodyPost_ret (results_tmp rfl _ _ _) ha.defers ⟨congrArg Ending.returned (ha.get 4 _ rfl),((hU.step hw2).step hb3).step hw4⟩
end Go.Proofs.YtminmeljonbogaaDoor
