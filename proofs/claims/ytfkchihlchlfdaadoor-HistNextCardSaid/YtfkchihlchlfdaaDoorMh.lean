import Derived.Test.YtfkchihlchlfdaaDoorMg
import Derived.StillTailTactics
import Derived.Test.YtfkchihlchlfdaaDoorMa
set_option maxRecDepth 100000
set_option maxHeartbeats 2000000
open And renaming intro->aY
open Go.Act renaming put->aE
open Go.Instr renaming field->Hu
open Go.IntKind renaming wrap_u64->aP
open Go.Lib renaming hid->aH
open Go.Obj renaming cells->gM
open Go.Op renaming equalIn->fI
open Go.Region renaming wanted->aL
open Go.Result renaming andThen_ok->aG
open Go.Sem renaming run_pure->aI,run_bind->aJ
open Go.World renaming size_alloc->aW
open List renaming setIfInBounds_toArray->aA,set_cons_zero->aB,set_cons_succ->aC,take_succ_cons->a9,size_toArray->bA,mem_cons_of_mem->bE,take_zero->bN,take_of_length_le->bT,mem_cons_self->bZ,ext_getElem->eE,mem_range'_1->nI,range->sH,forIn_cons->Mf
open Nat renaming le_refl->aF,mod_eq_of_lt->bS,pow_succ->dE,le_of_lt->fA,pow_zero->qG
open Std.Legacy.Range renaming size->jB
namespace Nums
def lv : List Nat -> Nat
  | []=>0
  | d :: ds=>d + 2251799813685248 * lv ds
theorem lv5 (a0 a1 a2 a3 a4 : Nat) : lv [a0,a1,a2,a3,a4] = a0 + 2251799813685248 * (a1 + 2251799813685248 * (a2 + 2251799813685248 * (a3 + 2251799813685248 * a4))):=by
 simp only [lv,Nat.mul_zero,Nat.add_zero]
structure EB (l : List Nat) (x : F) : Prop where
  len : l.length = 5
  bnd : ∀ y ∈ l,y < 2251799813947392
  val : fof (lv l) = x
theorem AZ {l : List Nat} (h : l.length = 5) : ∃ a0 a1 a2 a3 a4,l = [a0,a1,a2,a3,a4]:=by
 match l,h with
 | [a0,a1,a2,a3,a4],_=>exact ⟨a0,a1,a2,a3,a4,rfl⟩
theorem EB.AZ {l : List Nat} {x : F} (h : EB l x) : ∃ a0 a1 a2 a3 a4,l = [a0,a1,a2,a3,a4] /\ a0 < 2251799813947392 /\ a1 < 2251799813947392 /\ a2 < 2251799813947392 /\ a3 < 2251799813947392 /\ a4 < 2251799813947392 /\ fof (lv [a0,a1,a2,a3,a4]) = x:=by
 obtain ⟨a0,a1,a2,a3,a4,rfl⟩:=Nums.AZ h.len;have hb:=h.bnd;exact ⟨a0,a1,a2,a3,a4,rfl,hb _ (by simp),hb _ (by simp),hb _ (by simp),hb _ (by simp),hb _ (by simp),h.val⟩
theorem EB.mk5 {a0 a1 a2 a3 a4 : Nat} {x : F} (h0 : a0 < 2251799813947392) (h1 : a1 < 2251799813947392) (h2 : a2 < 2251799813947392) (h3 : a3 < 2251799813947392) (h4 : a4 < 2251799813947392) (h : fof (lv [a0,a1,a2,a3,a4]) = x) :
  EB [a0,a1,a2,a3,a4] x:=by
 refine ⟨rfl,?_,h⟩
 intro y hy
 simp only [List.mem_cons,List.not_mem_nil,or_false] at hy
 rcases hy with rfl | rfl | rfl | rfl | rfl <;> assumption
theorem Qo : p = 57896044618658097711785492504343953926634992332820282019728792003956564819949:=by decide
def crd (a0 a1 a2 a3 a4 : Nat) : List Nat :=
  [a0 % 2251799813685248 + 19 * (a4 / 2251799813685248),a1 % 2251799813685248 + a0 / 2251799813685248,a2 % 2251799813685248 + a1 / 2251799813685248,a3 % 2251799813685248 + a2 / 2251799813685248,a4 % 2251799813685248 + a3 / 2251799813685248]
theorem Ou (a k : Nat) : fof (a + p * k) = fof a:=qE (by rw [Nat.add_mul_mod_self_left])
theorem OX (a0 a1 a2 a3 a4 : Nat) : fof (lv (crd a0 a1 a2 a3 a4)) = fof (lv [a0,a1,a2,a3,a4]):=by
 have h : lv (crd a0 a1 a2 a3 a4) + p * (a4 / 2251799813685248) = lv [a0,a1,a2,a3,a4]:=by
  unfold crd
  rw [lv5,lv5,Qo]
  omega
 rw [<-h,Ou]
theorem I8 {a0 a1 a2 a3 a4 : Nat} (h0 : a0 < 18446744073709551616) (h1 : a1 < 18446744073709551616) (h2 : a2 < 18446744073709551616) (h3 : a3 < 18446744073709551616) (h4 : a4 < 18446744073709551616) :
  EB (crd a0 a1 a2 a3 a4) (fof (lv [a0,a1,a2,a3,a4])) :=
 EB.mk5 (by omega) (by omega) (by omega) (by omega) (by omega) (OX a0 a1 a2 a3 a4)
theorem T7 (a0 a1 a2 a3 a4 b0 b1 b2 b3 b4 : Nat) : lv [a0 + b0,a1 + b1,a2 + b2,a3 + b3,a4 + b4] = lv [a0,a1,a2,a3,a4] + lv [b0,b1,b2,b3,b4]:=by
 rw [lv5,lv5,lv5]
 omega
theorem Sv {a0 a1 a2 a3 a4 b0 b1 b2 b3 b4 : Nat} (h0 : b0 < 2251799813947392) (h1 : b1 < 2251799813947392) (h2 : b2 < 2251799813947392) (h3 : b3 < 2251799813947392) (h4 : b4 < 2251799813947392) :
  fof (lv [a0 + (4503599627370458 - b0),a1 + (4503599627370494 - b1),a2 + (4503599627370494 - b2),a3 + (4503599627370494 - b3),a4 + (4503599627370494 - b4)]) = fof (lv [a0,a1,a2,a3,a4]) - fof (lv [b0,b1,b2,b3,b4]):=by
 have h : lv [a0 + (4503599627370458 - b0),a1 + (4503599627370494 - b1),a2 + (4503599627370494 - b2),a3 + (4503599627370494 - b3),a4 + (4503599627370494 - b4)] + lv [b0,b1,b2,b3,b4] = lv [a0,a1,a2,a3,a4] + p * 2:=by
  rw [lv5,lv5,lv5,Qo]
  omega
 have h2 : fof (lv [a0,a1,a2,a3,a4]) = fof (lv [a0 + (4503599627370458 - b0),a1 + (4503599627370494 - b1),a2 + (4503599627370494 - b2),a3 + (4503599627370494 - b3),a4 + (4503599627370494 - b4)]) + fof (lv [b0,b1,b2,b3,b4]):=by
  rw [<-pB,h,Ou]
 rw [h2];generalize fof (lv [a0 + (4503599627370458 - b0),a1 + (4503599627370494 - b1),a2 + (4503599627370494 - b2),a3 + (4503599627370494 - b3),a4 + (4503599627370494 - b4)]) = u;generalize fof (lv [b0,b1,b2,b3,b4]) = v
 grind only
theorem PQ (c0 c1 c2 c3 c4 : Nat) : fof (lv [19 * c4,c0,c1,c2,c3]) = fof 2251799813685248 * fof (lv [c0,c1,c2,c3,c4]):=by
 have h : lv [19 * c4,c0,c1,c2,c3] + p * c4 = 2251799813685248 * lv [c0,c1,c2,c3,c4]:=by
  rw [lv5,lv5,Qo]
  omega
 rw [<-jE,<-h,Ou]
theorem QD (s0 s1 s2 s3 s4 v c0 c1 c2 c3 c4 : Nat) : lv [s0 + v * c0,s1 + v * c1,s2 + v * c2,s3 + v * c3,s4 + v * c4] = lv [s0,s1,s2,s3,s4] + v * lv [c0,c1,c2,c3,c4]:=by
 rw [lv5,lv5,lv5]
 grind only
def up1 (l : List Nat) (u : Nat) : Nat -> Nat
  | 0=>u
  | k + 1=>(l[k]! + up1 l u k) / 2251799813685248
def up2 (l : List Nat) (u : Nat) : Nat -> Nat
  | 0=>u
  | k + 1=>(up2 l u k + l[k]!) / 2251799813685248
def whs (l : List Nat) (u k : Nat) : List Nat:=(sH 5).map λj=>if j < k then (up2 l u j + l[j]!) % 2251799813685248 else l[j]!
def whole (l : List Nat) : List Nat:=whs l (up1 l 19 5 * 19) 5
theorem nL {l : List Nat} {x : F} (h : EB l x) : (whole l).length = 5 /\ (∀ y ∈ whole l,y < 2251799813685248) /\ lv (whole l) = x.val:=by
 refine ⟨by simp [whole,whs],?_,?_⟩
 ·intro y hy
  obtain ⟨j,hj,rfl⟩:=List.mem_map.1 hy;rw [if_pos (by simpa using hj)];exact Nat.mod_lt _ (by decide)
 ·obtain ⟨a0,a1,a2,a3,a4,rfl,h0,h1,h2,h3,h4,hv⟩:=h.AZ
  have hw : whole [a0,a1,a2,a3,a4] = [(up2 [a0,a1,a2,a3,a4] (up1 [a0,a1,a2,a3,a4] 19 5 * 19) 0 + a0) % 2251799813685248,(up2 [a0,a1,a2,a3,a4] (up1 [a0,a1,a2,a3,a4] 19 5 * 19) 1 + a1) % 2251799813685248,(up2 [a0,a1,a2,a3,a4] (up1 [a0,a1,a2,a3,a4] 19 5 * 19) 2 + a2) % 2251799813685248,(up2 [a0,a1,a2,a3,a4] (up1 [a0,a1,a2,a3,a4] 19 5 * 19) 3 + a3) % 2251799813685248,(up2 [a0,a1,a2,a3,a4] (up1 [a0,a1,a2,a3,a4] 19 5 * 19) 4 + a4) % 2251799813685248]:=rfl;have hu : up1 [a0,a1,a2,a3,a4] 19 5 = (a4 + (a3 + (a2 + (a1 + (a0 + 19) / 2251799813685248) / 2251799813685248) / 2251799813685248) / 2251799813685248) / 2251799813685248:=rfl;rw [<-hv,vO,hw];generalize hq : up1 [a0,a1,a2,a3,a4] 19 5 = q at *;have g0 : up2 [a0,a1,a2,a3,a4] (q * 19) 0 = q * 19:=rfl;have g1 : up2 [a0,a1,a2,a3,a4] (q * 19) 1 = (up2 [a0,a1,a2,a3,a4] (q * 19) 0 + a0) / 2251799813685248:=rfl;have g2 : up2 [a0,a1,a2,a3,a4] (q * 19) 2 = (up2 [a0,a1,a2,a3,a4] (q * 19) 1 + a1) / 2251799813685248:=rfl;have g3 : up2 [a0,a1,a2,a3,a4] (q * 19) 3 = (up2 [a0,a1,a2,a3,a4] (q * 19) 2 + a2) / 2251799813685248:=rfl;have g4 : up2 [a0,a1,a2,a3,a4] (q * 19) 4 = (up2 [a0,a1,a2,a3,a4] (q * 19) 3 + a3) / 2251799813685248:=rfl;generalize up2 [a0,a1,a2,a3,a4] (q * 19) 0 = e0 at *;generalize up2 [a0,a1,a2,a3,a4] (q * 19) 1 = e1 at *;generalize up2 [a0,a1,a2,a3,a4] (q * 19) 2 = e2 at *;generalize up2 [a0,a1,a2,a3,a4] (q * 19) 3 = e3 at *;generalize up2 [a0,a1,a2,a3,a4] (q * 19) 4 = e4 at *;have hL:=lv5 a0 a1 a2 a3 a4;generalize lv [a0,a1,a2,a3,a4] = L at *;rw [lv5];have hp:=Qo;generalize p = P at *
  have ha : q < 2:=by omega
  have hb : q = 0 -> L < P:=by omega
  have hc : q = 1 -> P <= L:=by omega
  have hd : L < 2 * P:=by omega
  rcases (show q = 0 \/ q = 1 by omega) with rfl | rfl
  ·rw [bS (hb rfl)]
   clear hu hc hd hv;have:=hb rfl
   omega
  ·have hge:=hc rfl
   have hm : L % P = L - P:=by rw [Nat.mod_eq_sub_mod hge,bS (by omega)]
   rw [hm];clear hu hb hv hm
   omega
end Nums
namespace Go.Proofs.YtfkchihlchlfdaaDoor
open Go.RowKit Go.IntWalk Nums
theorem bO (cs : Array Value) (h : cs.size = 5) : (Tryd.prog.info? 75).map (·.size) = some cs.size:=by
 rw [h]
 kernel_rfl
def z5 : Array Value:=(Us [0,0,0,0,0]).toArray
theorem bV {l : List Nat} (h : l.length = 5) : (Us l).toArray.size = 5:=by rw [bA,cY,h]
theorem L4 (a c : Nat) (ha : a < 18446744073709551616) (hc : c < 18446744073709551616) :
  IntKind.u64.wrap (bits .and .u64 (a : Int) 2251799813685247 + 19 * ((c : Int) / 2251799813685248)) = ((a % 2251799813685248 + 19 * (c / 2251799813685248) : Nat) : Int):=by
 rw [Dx a ha,aP]
 omega
theorem yZ (a c : Nat) (ha : a < 18446744073709551616) (hc : c < 18446744073709551616) :
  IntKind.u64.wrap (bits .and .u64 (a : Int) 2251799813685247 + (c : Int) / 2251799813685248) = ((a % 2251799813685248 + c / 2251799813685248 : Nat) : Int):=by
 rw [Dx a ha,aP]
 omega
theorem Ai (a0 a1 a2 a3 a4 : Nat) (h0 : a0 < 18446744073709551616) (h1 : a1 < 18446744073709551616) (h2 : a2 < 18446744073709551616) (h3 : a3 < 18446744073709551616) (h4 : a4 < 18446744073709551616) (w : World) :
  Calls Tryd.prog 83 #[.agg (Us [a0,a1,a2,a3,a4]).toArray] w λe w'=>e = .returned (.agg (Us (crd a0 a1 a2 a3 a4)).toArray) /\ Below w.heap.size w w':=by
 have e0 : (Us [a0,a1,a2,a3,a4]).toArray = #[.int .u64 (a0 : Int),.int .u64 (a1 : Int),.int .u64 (a2 : Int),.int .u64 (a3 : Int),.int .u64 (a4 : Int)]:=rfl;rw [e0]
 go_enter Tryd.func83,Tryd.ntmps83
 go_wp2
 rw [L4 a0 a4 h0 h4,yZ a1 a0 h1 h0,yZ a2 a1 h2 h1,yZ a3 a2 h3 h2,yZ a4 a3 h4 h3];refine bodyPost_ret (results_cell_row rfl _ _ (w.heap.size + 1) 75 _ (0,0) _ rfl (lI w _ _ _ _) Tryd.underlying75 rfl (bO _ rfl)) rfl ⟨rfl,?_⟩;exact (((Below.refl _ _).alloc (aF _) _).alloc (by simp) _).alloc (by simp; omega) _
def mx (f : Nat -> Nat) (l : List Nat) (k : Nat) : List Nat:=(sH 5).map λj=>if j < k then f j else l[j]!
theorem zV (f : Nat -> Nat) (l : List Nat) (k : Nat) : (mx f l k).length = 5:=by simp [mx]
theorem Ez (f : Nat -> Nat) {l : List Nat} (h : l.length = 5) : mx f l 0 = l:=by
 obtain ⟨a0,a1,a2,a3,a4,rfl⟩:=AZ h
 rfl
theorem Iz (f : Nat -> Nat) (l : List Nat) {k : Nat} (h : k < 5) : (mx f l k)[k]! = l[k]!:=by
 rw [getElem!_pos _ k (by rw [zV]; exact h)]
 simp [mx]
theorem EA (f : Nat -> Nat) (l : List Nat) {k : Nat} : (mx f l k).set k (f k) = mx f l (k + 1):=by
 apply eE (by simp [mx])
 intro j h1 h2
 rw [List.getElem_set];simp only [mx,List.getElem_map,List.getElem_range]
 by_cases hjk : k = j
 ·subst hjk
  simp
 ·rw [if_neg hjk]
  by_cases hlt : j < k
  ·rw [if_pos hlt,if_pos (by omega)]
  ·rw [if_neg hlt,if_neg (by omega)]
theorem rF {l : List Nat} {x : F} (h : EB l x) {k : Nat} (hk : k < 5) : l[k]! < 2251799813947392 :=
 h.bnd _ (by rw [getElem!_pos l k (by rw [h.len]; exact hk)]; exact List.getElem_mem _)
theorem oB {a b : List Nat} {x y : F} (ha : EB a x) (hb : EB b y) (w : World) :
  Calls Tryd.prog 64 #[.agg (Us a).toArray,.agg (Us b).toArray] w λe w'=>∃ r,EB r (x + y) /\ e = .returned (.agg (Us r).toArray) /\ Below w.heap.size w w':=by
 go_enter Tryd.func64,Tryd.ntmps64
 go_wp2
 go_loopw [6] (λi wr=>∃ k : Nat,k <= 5 /\ i = .int .i64 k /\ Blk wr w.heap.size 75 (Us (mx (λj=>a[j]! + b[j]!) a k)).toArray /\ Blk wr (w.heap.size + 1) 75 (Us b).toArray /\ Blk wr (w.heap.size + 1 + 1) 75 z5 /\ Below w.heap.size w wr) (λi _=>5 - (intOf i).toNat)
 case atStart =>
  refine ⟨0,by omega,rfl,?_,lI w _ _ _ _,lV w _ _ _ _,(((Below.refl _ _).alloc (aF _) _).alloc (by simp) _).alloc (by simp; omega) _⟩;rw [Ez _ ha.len];exact mV w _ _ _ _
 case round =>
  obtain ⟨k,hk,rfl,h0,h1,h2,hbel⟩:=hrel
  by_cases hlt : k < 5
  ·have hN:=EA (λj=>a[j]! + b[j]!) a (k:=k)
   have hg:=Iz (λj=>a[j]! + b[j]!) a hlt;have c0:=(h0.drew.cell k).trans (iE (by rw [zV]; exact hlt));rw [hg] at c0;have c1:=(h1.drew.cell k).trans (iE (by rw [hb.len]; exact hlt));have b0:=rF ha hlt;have b1:=rF hb hlt;have hf:=h0.drew.free k;generalize a[k]! = u at *;generalize b[k]! = v at *
   have q1 : IntKind.u64.wrap ((u : Int) + (v : Int)) = ((u + v : Nat) : Int):=by rw [aP]; omega
   have q2 : (0 : Int) <= (k : Int):=by omega
   have HK:=aH (aY h0 (aY h1 (aY h2 (aY hbel hN))));clear h0 h1 h2 hbel hN hg
   go_wp2
   go_still_tail 11,(by kernel_rfl)
   go_wp2
   go_roundw
   case rel =>
    obtain ⟨h0,h1,h2,hbel,hN⟩:=HK.out;have h4:=h0.set k (.int .u64 ((u + v : Nat) : Int));rw [uP,hN] at h4;exact ⟨k + 1,by omega,by go_num,h4,h1.far (by simp) _,h2.far (by simp; omega) _,(hbel.setCell (by simp) _).drew⟩
   case measure=>simp [intOf]; omega
  ·obtain rfl : k = 5:=by omega
   obtain ⟨a0,a1,a2,a3,a4,rfl,p0,p1,p2,p3,p4,pv⟩:=ha.AZ;obtain ⟨b0,b1,b2,b3,b4,rfl,r0,r1,r2,r3,r4,rv⟩:=hb.AZ;have e5 : mx (λj=>[a0,a1,a2,a3,a4][j]! + [b0,b1,b2,b3,b4][j]!) [a0,a1,a2,a3,a4] 5 = [a0 + b0,a1 + b1,a2 + b2,a3 + b3,a4 + b4]:=rfl;rw [e5] at h0;have HC:=λw1=>aH (Ai (a0 + b0) (a1 + b1) (a2 + b2) (a3 + b3) (a4 + b4) (by omega) (by omega) (by omega) (by omega) (by omega) w1);have hE:=I8 (a0:=a0 + b0) (a1:=a1 + b1) (a2:=a2 + b2) (a3:=a3 + b3) (a4:=a4 + b4) (by omega) (by omega) (by omega) (by omega) (by omega);rw [T7,pB,pv,rv] at hE;generalize crd (a0 + b0) (a1 + b1) (a2 + b2) (a3 + b3) (a4 + b4) = r at *;have hz : (Us [a0 + b0,a1 + b1,a2 + b2,a3 + b3,a4 + b4]).toArray.size = 5:=rfl;generalize (Us [a0 + b0,a1 + b1,a2 + b2,a3 + b3,a4 + b4]).toArray = cs at *;have HK:=aH (aY h2 hbel);clear h1 h2 hbel ha hb p0 p1 p2 p3 p4 pv r0 r1 r2 r3 r4 rv e5;have hzr:=bV hE.len
   go_wp2_with (refine wpList_load_row rfl 75 _ rfl w.heap.size rfl 75 cs (0,0) _ h0 Tryd.underlying75 rfl (bO _ hz) ?_)
   refine (HC _).out.mono ?_
   rintro e w1 ⟨rfl,hw1⟩
   obtain ⟨h2,hbel⟩:=HK.out;have hb2:=hbel.trans (hw1.mono hbel.size);have h4:=h2.below hw1 h2.lt
   go_wp2_with (refine wpList_store_row rfl 75 _ _ rfl (w.heap.size + 1 + 1) rfl (Us r).toArray rfl 75 _ h4 (bO _ hzr) (by rw [hzr]; rfl) (cJ _) ?_)
   refine bodyPost_ret (results_cell_row rfl _ _ (w.heap.size + 1 + 1) 75 (Us r).toArray (0,0) _ rfl (h4.row _) Tryd.underlying75 rfl (bO _ hzr)) rfl ⟨r,hE,rfl,?_⟩;exact below_setRow hb2 (by omega) _
def twl : List Nat:=[4503599627370458,4503599627370494,4503599627370494,4503599627370494,4503599627370494]
theorem PO {k : Nat} (h : k < 5) : 4503599627370458 <= twl[k]! /\ twl[k]! <= 4503599627370494:=by
 have h5 : k = 0 \/ k = 1 \/ k = 2 \/ k = 3 \/ k = 4:=by omega
 rcases h5 with rfl | rfl | rfl | rfl | rfl <;> decide
structure Tw (w : World) : Prop where
  cell : ∀ i,i < 5 -> w.cell? ⟨2,i,none⟩ = some (.int .u64 (twl[i]! : Nat))
  lt : 2 < w.heap.size
theorem Tw.below {w w' : World}  (h : Tw w) (hb : Below w.heap.size w w') : Tw w' :=
 ⟨λi hi=>(hb.cell (p:=⟨2,i,none⟩) h.lt).trans (h.cell i hi),Nat.lt_of_lt_of_le h.lt hb.size⟩
theorem Tw.drew {w : World} (h : Tw w) : Tw w.drew:=⟨h.cell,h.lt⟩
theorem Tw.at {w : World} (h : Tw w) {k : Nat} (hk : k < 5) : w.cell? ⟨2,k,none⟩ = some (.int .u64 (twl[k]! : Nat)):=h.cell k hk
theorem mB {a b : List Nat} {x y : F} (ha : EB a x) (hb : EB b y) (w : World) (hT : Tw w) :
  Calls Tryd.prog 62 #[.agg (Us a).toArray,.agg (Us b).toArray] w λe w'=>∃ r,EB r (x - y) /\ e = .returned (.agg (Us r).toArray) /\ Below w.heap.size w w':=by
 go_enter Tryd.func62,Tryd.ntmps62
 go_wp2
 go_loopw [6] (λi wr=>∃ k : Nat,k <= 5 /\ i = .int .i64 k /\ Blk wr w.heap.size 75 (Us (mx (λj=>a[j]! + (twl[j]! - b[j]!)) a k)).toArray /\ Blk wr (w.heap.size + 1) 75 (Us b).toArray /\ Blk wr (w.heap.size + 1 + 1) 75 z5 /\ Below w.heap.size w wr) (λi _=>5 - (intOf i).toNat)
 case atStart =>
  refine ⟨0,by omega,rfl,?_,lI w _ _ _ _,lV w _ _ _ _,(((Below.refl _ _).alloc (aF _) _).alloc (by simp) _).alloc (by simp; omega) _⟩;rw [Ez _ ha.len];exact mV w _ _ _ _
 case round =>
  obtain ⟨k,hk,rfl,h0,h1,h2,hbel⟩:=hrel
  by_cases hlt : k < 5
  ·have hN:=EA (λj=>a[j]! + (twl[j]! - b[j]!)) a (k:=k)
   have hg:=Iz (λj=>a[j]! + (twl[j]! - b[j]!)) a hlt;have c0:=(h0.drew.cell k).trans (iE (by rw [zV]; exact hlt));rw [hg] at c0;have c1:=(h1.drew.cell k).trans (iE (by rw [hb.len]; exact hlt));have b0:=rF ha hlt;have b1:=rF hb hlt;have hf:=h0.drew.free k;have c2:=(hT.below hbel).drew.at hlt;have b2:=PO hlt;generalize a[k]! = u at *;generalize b[k]! = v at *;generalize twl[k]! = t at *
   have q0 : IntKind.u64.wrap ((t : Int) - (v : Int)) = ((t - v : Nat) : Int):=by rw [aP]; omega
   have q1 : IntKind.u64.wrap ((u : Int) + ((t - v : Nat) : Int)) = ((u + (t - v) : Nat) : Int):=by rw [aP]; omega
   have hle : v <= t:=by omega
   have q2 : (0 : Int) <= (k : Int):=by omega
   have HK:=aH (aY h0 (aY h1 (aY h2 (aY hbel hN))));clear h0 h1 h2 hbel hN hg
   go_wp2
   go_still_tail 15,(by kernel_rfl)
   go_wp2
   go_roundw
   case rel =>
    obtain ⟨h0,h1,h2,hbel,hN⟩:=HK.out;have h4:=h0.set k (.int .u64 ((u + (t - v) : Nat) : Int));rw [uP,hN] at h4;exact ⟨k + 1,by omega,by go_num,h4,h1.far (by simp) _,h2.far (by simp; omega) _,(hbel.setCell (by simp) _).drew⟩
   case measure=>simp [intOf]; omega
  ·obtain rfl : k = 5:=by omega
   obtain ⟨a0,a1,a2,a3,a4,rfl,p0,p1,p2,p3,p4,pv⟩:=ha.AZ;obtain ⟨b0,b1,b2,b3,b4,rfl,r0,r1,r2,r3,r4,rv⟩:=hb.AZ;have e5 : mx (λj=>[a0,a1,a2,a3,a4][j]! + (twl[j]! - [b0,b1,b2,b3,b4][j]!)) [a0,a1,a2,a3,a4] 5 = [a0 + (4503599627370458 - b0),a1 + (4503599627370494 - b1),a2 + (4503599627370494 - b2),a3 + (4503599627370494 - b3),a4 + (4503599627370494 - b4)]:=rfl;rw [e5] at h0;have HC:=λw1=>aH (Ai (a0 + (4503599627370458 - b0)) (a1 + (4503599627370494 - b1)) (a2 + (4503599627370494 - b2)) (a3 + (4503599627370494 - b3)) (a4 + (4503599627370494 - b4)) (by omega) (by omega) (by omega) (by omega) (by omega) w1);have hE:=I8 (a0:=a0 + (4503599627370458 - b0)) (a1:=a1 + (4503599627370494 - b1)) (a2:=a2 + (4503599627370494 - b2)) (a3:=a3 + (4503599627370494 - b3)) (a4:=a4 + (4503599627370494 - b4)) (by omega) (by omega) (by omega) (by omega) (by omega);rw [Sv r0 r1 r2 r3 r4,pv,rv] at hE;generalize crd (a0 + (4503599627370458 - b0)) (a1 + (4503599627370494 - b1)) (a2 + (4503599627370494 - b2)) (a3 + (4503599627370494 - b3)) (a4 + (4503599627370494 - b4)) = r at *;have hz : (Us [a0 + (4503599627370458 - b0),a1 + (4503599627370494 - b1),a2 + (4503599627370494 - b2),a3 + (4503599627370494 - b3),a4 + (4503599627370494 - b4)]).toArray.size = 5:=rfl;generalize (Us [a0 + (4503599627370458 - b0),a1 + (4503599627370494 - b1),a2 + (4503599627370494 - b2),a3 + (4503599627370494 - b3),a4 + (4503599627370494 - b4)]).toArray = cs at *;have HK:=aH (aY h2 hbel);clear h1 h2 hbel ha hb p0 p1 p2 p3 p4 pv r0 r1 r2 r3 r4 rv e5;have hzr:=bV hE.len
   go_wp2_with (refine wpList_load_row rfl 75 _ rfl w.heap.size rfl 75 cs (0,0) _ h0 Tryd.underlying75 rfl (bO _ hz) ?_)
   refine (HC _).out.mono ?_
   rintro e w1 ⟨rfl,hw1⟩
   obtain ⟨h2,hbel⟩:=HK.out;have hb2:=hbel.trans (hw1.mono hbel.size);have h4:=h2.below hw1 h2.lt
   go_wp2_with (refine wpList_store_row rfl 75 _ _ rfl (w.heap.size + 1 + 1) rfl (Us r).toArray rfl 75 _ h4 (bO _ hzr) (by rw [hzr]; rfl) (cJ _) ?_)
   refine bodyPost_ret (results_cell_row rfl _ _ (w.heap.size + 1 + 1) 75 (Us r).toArray (0,0) _ rfl (h4.row _) Tryd.underlying75 rfl (bO _ hzr)) rfl ⟨r,hE,rfl,?_⟩;exact below_setRow hb2 (by omega) _
theorem PS (v : Nat) (hv : v < 18446744073709551616) (w : World) :
  Calls Tryd.prog 59 #[.int .u64 v] w λe w'=>∃ r,EB r (fof v) /\ e = .returned (.agg (Us r).toArray) /\ Below w.heap.size w w':=by
 go_enter Tryd.func59,Tryd.ntmps59
 go_wp2
 rw [Dx v hv]
 have hE : EB [v % 2251799813685248,v / 2251799813685248,0,0,0] (fof v):=EB.mk5 (by omega) (by omega) (by omega) (by omega) (by omega) (by
  congr 1
  rw [lv5]
  omega)
 refine bodyPost_ret (results_cell_row rfl _ _ w.heap.size 75 _ (0,0) _ rfl (heap_alloc_new w _) Tryd.underlying75 rfl (bO _ rfl)) rfl ⟨_,hE,rfl,?_⟩;exact (Below.refl _ _).alloc (aF _) _
theorem Hy (l : List Nat) (u k : Nat) : whs l u k = mx (λj=>(up2 l u j + l[j]!) % 2251799813685248) l k:=rfl
theorem HI {l : List Nat} {x : F} (h : EB l x) : ∀ k,k <= 5 -> up1 l 19 k <= 19
 | 0,_=>aF _
 | k + 1,hk=>by
  have h1:=HI h k (by omega);have h2:=rF h (k:=k) (by omega)
  show (l[k]! + up1 l 19 k) / 2251799813685248 <= 19
  omega
theorem Mx {l : List Nat} {x : F} (h : EB l x) {u : Nat} (hu : u <= 361) : ∀ k,k <= 5 -> up2 l u k <= 361
 | 0,_=>hu
 | k + 1,hk=>by
  have h1:=Mx h hu k (by omega);have h2:=rF h (k:=k) (by omega)
  show (up2 l u k + l[k]!) / 2251799813685248 <= 361
  omega
theorem Be {a : List Nat} {x : F} (ha : EB a x) (w : World) :
  Calls Tryd.prog 86 #[.agg (Us a).toArray] w λe w'=>e = .returned (.agg (Us (whole a)).toArray) /\ Below w.heap.size w w':=by
 have hW : whole a = whs a (up1 a 19 5 * 19) 5:=rfl;rw [hW];clear hW;generalize hq1 : up1 a 19 5 = q;generalize hu0 : q * 19 = u0
 go_enter Tryd.func86,Tryd.ntmps86
 go_wp2
 go_loopw [6,3] (λi u wr=>∃ k : Nat,k <= 5 /\ i = .int .i64 k /\ u = .int .u64 (up1 a 19 k : Nat) /\ Blk wr w.heap.size 75 (Us a).toArray /\ Blk wr (w.heap.size + 1) 75 z5 /\ Below w.heap.size w wr) (λi _ _=>5 - (intOf i).toNat)
 case atStart =>
  exact ⟨0,by omega,rfl,rfl,heap_alloc2_old w _ _,heap_alloc2_new w _ _,((Below.refl _ _).alloc (aF _) _).alloc (by simp) _⟩
 case round =>
  obtain ⟨k,hk,rfl,rfl,h0,h1,hbel⟩:=hrel
  by_cases hlt : k < 5
  ·have hN : up1 a 19 (k + 1) = (a[k]! + up1 a 19 k) / 2251799813685248:=rfl
   have c0:=(h0.cell k).trans (iE (by rw [ha.len]; exact hlt));have b0:=rF ha hlt;have b1:=HI ha k (by omega);generalize a[k]! = u at *;generalize up1 a 19 k = v at *
   have q1 : IntKind.u64.wrap ((u : Int) + (v : Int)) = ((u + v : Nat) : Int):=by rw [aP]; omega
   have q2 : (0 : Int) <= (k : Int):=by omega
   have HK:=aH (aY h0 (aY h1 (aY hbel hN)));clear h0 h1 hbel hN
   go_wp2
   go_roundw
   case rel =>
    obtain ⟨h0,h1,hbel,hN⟩:=HK.out;exact ⟨k + 1,by omega,by go_num,by rw [hN]; congr 1,h0,h1,hbel⟩
   case measure=>simp [intOf]; omega
  ·obtain rfl : k = 5:=by omega
   have b1:=HI ha 5 (by omega);rw [hq1] at b1 ⊢
   have hq : u0 <= 361:=by omega
   have q1 : IntKind.u64.wrap ((q : Int) * 19) = (u0 : Int):=by rw [aP]; omega
   clear hq1 hu0
   have hW0 : whs a u0 0 = a:=by rw [Hy,Ez _ ha.len]
   have HK:=aH (aY h0 (aY h1 hbel));clear h0 h1 hbel
   go_wp2
   go_loopw [19,3] (λi u wq=>∃ k : Nat,k <= 5 /\ i = .int .i64 k /\ u = .int .u64 (up2 a u0 k : Nat) /\ Blk wq w.heap.size 75 (Us (whs a u0 k)).toArray /\ Blk wq (w.heap.size + 1) 75 z5 /\ Below w.heap.size w wq) (λi _ _=>5 - (intOf i).toNat)
   case atStart =>
    obtain ⟨h0,h1,hbel⟩:=HK.out;exact ⟨0,by omega,rfl,rfl,by rw [hW0]; exact h0,h1,hbel⟩
   case round =>
    obtain ⟨k,hk,rfl,rfl,h0,h1,hbel⟩:=hrel;clear HK
    by_cases hlt : k < 5
    ·have hN : up2 a u0 (k + 1) = (up2 a u0 k + a[k]!) / 2251799813685248:=rfl
     have hS : (whs a u0 k).set k ((up2 a u0 k + a[k]!) % 2251799813685248) = whs a u0 (k + 1):=EA (λj=>(up2 a u0 j + a[j]!) % 2251799813685248) a;have hg : (whs a u0 k)[k]! = a[k]!:=Iz _ a hlt;have c0:=(h0.cell k).trans (iE (by rw [Hy,zV]; exact hlt));rw [hg] at c0;have hf:=h0.free k;have b0:=rF ha hlt;have b1:=Mx ha hq k (by omega);generalize a[k]! = u at *;generalize up2 a u0 k = v at *
     have q2 : IntKind.u64.wrap ((v : Int) + (u : Int)) = ((v + u : Nat) : Int):=by rw [aP]; omega
     have q3:=Dx (v + u) (by omega)
     have q4 : (0 : Int) <= (k : Int):=by omega
     have HK:=aH (aY h0 (aY h1 (aY hbel (aY hN hS))));clear h0 h1 hbel hN hS hg;generalize hs : v + u = s at *
     go_wp2
     go_roundw
     case rel =>
      obtain ⟨h0,h1,hbel,hN,hS⟩:=HK.out;have h4:=h0.set k (.int .u64 ((s % 2251799813685248 : Nat) : Int));rw [uP,hS] at h4;exact ⟨k + 1,by omega,by go_num,by rw [hN]; congr 1,h4,h1.far (by simp) _,hbel.setCell (by simp) _⟩
     case measure=>simp [intOf]; omega
    ·obtain rfl : k = 5:=by omega
     have hz : (Us (whs a u0 5)).toArray.size = 5:=bV (by rw [Hy,zV])
     go_wp2_with (first
      | (refine wpList_load_row rfl 75 _ rfl w.heap.size rfl 75 (Us (whs a u0 5)).toArray (0,0) _ h0 Tryd.underlying75 rfl (bO _ hz) ?_)
      | (refine wpList_store_row rfl 75 _ _ rfl (w.heap.size + 1) rfl (Us (whs a u0 5)).toArray rfl 75 _ h1 (bO _ hz) (by rw [hz]; rfl) (cJ _) ?_))
     refine bodyPost_ret (results_cell_row rfl _ _ (w.heap.size + 1) 75 (Us (whs a u0 5)).toArray (0,0) _ rfl (h1.row _) Tryd.underlying75 rfl (bO _ hz)) rfl ⟨rfl,?_⟩;exact below_setRow hbel (by omega) _
def W2 (s : Nat) : Array Value:=(Us [s / 18446744073709551616,s % 18446744073709551616]).toArray
theorem oE (s : Nat) : (W2 s).size = 2:=rfl
theorem CC (s : Nat) : ∀ u ∈ (W2 s).toList,u.oneCell' = true:=cJ _
theorem BL (s a b : Nat) (ha : a < 18446744073709551616) (hb : b < 18446744073709551616) (hs : s + a * b < 340282366920938463463374607431768211456) (w : World) :
  Calls Tryd.prog 80 #[.agg (W2 s),.int .u64 a,.int .u64 b] w λe w'=>e = .returned (.agg (W2 (s + a * b))) /\ Below w.heap.size w w':=by
 refine (Nm (s / 18446744073709551616) (s % 18446744073709551616) a b (by omega) (by omega) ha hb w).mono ?_
 rintro e w' ⟨rfl,hw⟩
 refine ⟨?_,hw⟩
 unfold W2
 generalize a * b = m at *
 have e1 : (s / 18446744073709551616 + m / 18446744073709551616 + (s % 18446744073709551616 + m % 18446744073709551616) / 18446744073709551616) % 18446744073709551616 = (s + m) / 18446744073709551616:=by omega
 have e2 : (s % 18446744073709551616 + m % 18446744073709551616) % 18446744073709551616 = (s + m) % 18446744073709551616:=by omega
 rw [e1,e2]
theorem Gx (s : Nat) (w : World) :
  Calls Tryd.prog 81 #[.agg (W2 s)] w λe w'=>e = .returned (.int .u64 ((s % 2251799813685248 : Nat) : Int)) /\ Below w.heap.size w w':=by
 refine (QE (s / 18446744073709551616) (s % 18446744073709551616) (by omega) w).mono ?_
 rintro e w' ⟨rfl,hw⟩
 refine ⟨?_,hw⟩
 have e1 : s % 18446744073709551616 % 2251799813685248 = s % 2251799813685248:=by omega
 rw [e1]
theorem Cd (s : Nat) (hs : s < 41538374868278621028243970633760768) (w : World) :
  Calls Tryd.prog 82 #[.agg (W2 s)] w λe w'=>e = .returned (.int .u64 ((s / 2251799813685248 : Nat) : Int)) /\ Below w.heap.size w w':=by
 refine (Og (s / 18446744073709551616) (s % 18446744073709551616) (by omega) (by omega) w).mono ?_
 rintro e w' ⟨rfl,hw⟩
 refine ⟨?_,hw⟩
 have e1 : s / 18446744073709551616 * 8192 + s % 18446744073709551616 / 2251799813685248 = s / 2251799813685248:=by omega
 rw [e1]
theorem J0 : ∀ (l : List Nat) {k : Nat},k < l.length -> lv (l.take (k + 1)) = lv (l.take k) + 2251799813685248 ^ k * l[k]!
 | d :: ds,0,_=>by simp [lv]
 | d :: ds,k + 1,h=>by
  have ih:=J0 ds (k:=k) (by simpa using h)
  show d + 2251799813685248 * lv (ds.take (k + 1)) = d + 2251799813685248 * lv (ds.take k) + 2251799813685248 ^ (k + 1) * ds[k]!
  rw [ih,dE]
  grind only
structure MM (a : List Nat) (y : F) (k c0 c1 c2 c3 c4 s0 s1 s2 s3 s4 : Nat) : Prop where
  cv : fof (lv [c0,c1,c2,c3,c4]) = fof (2251799813685248 ^ k) * y
  sv : fof (lv [s0,s1,s2,s3,s4]) = fof (lv (a.take k)) * y
  c0b : c0 < 42784196465000448
  c1b : c1 < 42784196465000448
  c2b : c2 < 42784196465000448
  c3b : c3 < 42784196465000448
  c4b : c4 < 42784196465000448
  c0u : k <= 0 -> c0 < 2251799813947392
  c1u : k <= 1 -> c1 < 2251799813947392
  c2u : k <= 2 -> c2 < 2251799813947392
  c3u : k <= 3 -> c3 < 2251799813947392
  c4u : k <= 4 -> c4 < 2251799813947392
  s0b : s0 <= k * 96341445640026967064998646153216
  s1b : s1 <= k * 96341445640026967064998646153216
  s2b : s2 <= k * 96341445640026967064998646153216
  s3b : s3 <= k * 96341445640026967064998646153216
  s4b : s4 <= k * 96341445640026967064998646153216
theorem nZ {v c : Nat} (hv : v < 2251799813947392) (hc : c < 42784196465000448) : v * c <= 96341445640026967064998646153216 :=
 Nat.le_trans (Nat.mul_le_mul (fA hv) (fA hc)) (by decide)
theorem MM.next {a : List Nat} {x y : F} {k c0 c1 c2 c3 c4 s0 s1 s2 s3 s4 : Nat} (h : MM a y k c0 c1 c2 c3 c4 s0 s1 s2 s3 s4) (ha : EB a x) (hk : k < 5) :
  MM a y (k + 1) (19 * c4) c0 c1 c2 c3 (s0 + a[k]! * c0) (s1 + a[k]! * c1) (s2 + a[k]! * c2) (s3 + a[k]! * c3) (s4 + a[k]! * c4):=by
 obtain ⟨cv,sv,g0,g1,g2,g3,g4,u0,u1,u2,u3,u4,t0,t1,t2,t3,t4⟩:=h;have hv:=rF ha hk;have p0:=nZ hv g0;have p1:=nZ hv g1;have p2:=nZ hv g2;have p3:=nZ hv g3;have p4:=nZ hv g4
 have hm : (k + 1) * 96341445640026967064998646153216 = k * 96341445640026967064998646153216 + 96341445640026967064998646153216:=by omega
 have:=u4 (by omega);refine ⟨?_,?_,by omega,g0,g1,g2,g3,by omega,by omega,by omega,by omega,by omega,by omega,by omega,by omega,by omega,by omega⟩
 ·rw [PQ,cv,dE,jE]
  generalize fof (2251799813685248 ^ k) = u;generalize fof 2251799813685248 = v
  grind only
 ·rw [QD,pB,sv,jE,cv,J0 a (by rw [ha.len]; exact hk),pB,jE]
  generalize fof (lv (a.take k)) = u;generalize fof (2251799813685248 ^ k) = v;generalize fof (a[k]!) = z
  grind only
theorem MM.start {a : List Nat} {b0 b1 b2 b3 b4 : Nat} {y : F} (h0 : b0 < 2251799813947392) (h1 : b1 < 2251799813947392) (h2 : b2 < 2251799813947392) (h3 : b3 < 2251799813947392) (h4 : b4 < 2251799813947392) (hb : fof (lv [b0,b1,b2,b3,b4]) = y) :
  MM a y 0 b0 b1 b2 b3 b4 0 0 0 0 0:=by
 refine ⟨?_,?_,by omega,by omega,by omega,by omega,by omega,λ_=>h0,λ_=>h1,λ_=>h2,λ_=>h3,λ_=>h4,by omega,by omega,by omega,by omega,by omega⟩
 ·rw [hb,qG,oA]
  grind only
 ·have e1 : fof (lv [0,0,0,0,0]) = 0:=uG
  have e2 : fof (lv (a.take 0)) = 0:=uG;rw [e1,e2]
  grind only
theorem MM.fin {a : List Nat} {x y : F} {c0 c1 c2 c3 c4 s0 s1 s2 s3 s4 : Nat} (h : MM a y 5 c0 c1 c2 c3 c4 s0 s1 s2 s3 s4) (ha : EB a x) :
  fof (lv (crd s0 s1 s2 s3 s4)) = x * y /\ s0 < 41538374868278621028243970633760768 /\ s1 < 41538374868278621028243970633760768 /\ s2 < 41538374868278621028243970633760768 /\ s3 < 41538374868278621028243970633760768 /\ s4 < 41538374868278621028243970633760768 /\
   s0 / 2251799813685248 < 400000000000000000 /\ s1 / 2251799813685248 < 400000000000000000 /\ s2 / 2251799813685248 < 400000000000000000 /\ s3 / 2251799813685248 < 400000000000000000 /\ s4 / 2251799813685248 < 400000000000000000:=by
 have e : a.take 5 = a:=bT (by rw [ha.len]; omega);obtain ⟨cv,sv,g0,g1,g2,g3,g4,u0,u1,u2,u3,u4,t0,t1,t2,t3,t4⟩:=h;rw [e,ha.val] at sv;exact ⟨by rw [OX,sv],by omega,by omega,by omega,by omega,by omega,by omega,by omega,by omega,by omega,by omega⟩
structure MSt (w wr : World) (a : List Nat) (s0 s1 s2 s3 s4 : Nat) : Prop where
  ba : Blk wr w.heap.size 75 (Us a).toArray
  br : Blk wr (w.heap.size + 1 + 1) 75 z5
  k0 : Blk wr (w.heap.size + 1 + 1 + 1) 126 (W2 s0)
  k1 : Blk wr (w.heap.size + 1 + 1 + 1 + 1) 126 (W2 s1)
  k2 : Blk wr (w.heap.size + 1 + 1 + 1 + 1 + 1) 126 (W2 s2)
  k3 : Blk wr (w.heap.size + 1 + 1 + 1 + 1 + 1 + 1) 126 (W2 s3)
  k4 : Blk wr (w.heap.size + 1 + 1 + 1 + 1 + 1 + 1 + 1) 126 (W2 s4)
  be : Below w.heap.size w wr
section
variable {w wr w1 : World} {a : List Nat} {s0 s1 s2 s3 s4 : Nat}
theorem MSt.step (h : MSt w wr a s0 s1 s2 s3 s4) (hw : Below wr.heap.size wr w1) : MSt w w1 a s0 s1 s2 s3 s4 :=
 ⟨h.ba.below hw h.ba.lt,h.br.below hw h.br.lt,h.k0.below hw h.k0.lt,h.k1.below hw h.k1.lt,h.k2.below hw h.k2.lt,h.k3.below hw h.k3.lt,h.k4.below hw h.k4.lt,h.be.trans (hw.mono h.be.size)⟩
theorem MSt.VG (h : MSt w wr a s0 s1 s2 s3 s4) (s : Nat) : MSt w (wr.setRow (w.heap.size + 1 + 1 + 1) (W2 s)) a s s1 s2 s3 s4 :=
 ⟨h.ba.aR (by omega) _,h.br.aR (by omega) _,h.k0.row _,h.k1.aR (by omega) _,h.k2.aR (by omega) _,h.k3.aR (by omega) _,h.k4.aR (by omega) _,below_setRow h.be (by omega) _⟩
theorem MSt.VF (h : MSt w wr a s0 s1 s2 s3 s4) (s : Nat) : MSt w (wr.setRow (w.heap.size + 1 + 1 + 1 + 1) (W2 s)) a s0 s s2 s3 s4 :=
 ⟨h.ba.aR (by omega) _,h.br.aR (by omega) _,h.k0.aR (by omega) _,h.k1.row _,h.k2.aR (by omega) _,h.k3.aR (by omega) _,h.k4.aR (by omega) _,below_setRow h.be (by omega) _⟩
theorem MSt.VE (h : MSt w wr a s0 s1 s2 s3 s4) (s : Nat) : MSt w (wr.setRow (w.heap.size + 1 + 1 + 1 + 1 + 1) (W2 s)) a s0 s1 s s3 s4 :=
 ⟨h.ba.aR (by omega) _,h.br.aR (by omega) _,h.k0.aR (by omega) _,h.k1.aR (by omega) _,h.k2.row _,h.k3.aR (by omega) _,h.k4.aR (by omega) _,below_setRow h.be (by omega) _⟩
theorem MSt.VD (h : MSt w wr a s0 s1 s2 s3 s4) (s : Nat) : MSt w (wr.setRow (w.heap.size + 1 + 1 + 1 + 1 + 1 + 1) (W2 s)) a s0 s1 s2 s s4 :=
 ⟨h.ba.aR (by omega) _,h.br.aR (by omega) _,h.k0.aR (by omega) _,h.k1.aR (by omega) _,h.k2.aR (by omega) _,h.k3.row _,h.k4.aR (by omega) _,below_setRow h.be (by omega) _⟩
theorem MSt.VC (h : MSt w wr a s0 s1 s2 s3 s4) (s : Nat) : MSt w (wr.setRow (w.heap.size + 1 + 1 + 1 + 1 + 1 + 1 + 1) (W2 s)) a s0 s1 s2 s3 s :=
 ⟨h.ba.aR (by omega) _,h.br.aR (by omega) _,h.k0.aR (by omega) _,h.k1.aR (by omega) _,h.k2.aR (by omega) _,h.k3.aR (by omega) _,h.k4.row _,below_setRow h.be (by omega) _⟩
end
theorem Lz (w : World) (a : List Nat) (o : Obj) :
  MSt w ((((((((w.alloc (.cells (Us a).toArray 75)).alloc o).alloc (.cells z5 75)).alloc (.cells (W2 0) 126)).alloc (.cells (W2 0) 126)).alloc (.cells (W2 0) 126)).alloc (.cells (W2 0) 126)).alloc (.cells (W2 0) 126)).drew a 0 0 0 0 0 where
 ba:=(((((((Blk.new w _ _).alloc _).alloc _).alloc _).alloc _).alloc _).alloc _).alloc _
 br:=by
  have h:=(((((Blk.new ((w.alloc (.cells (Us a).toArray 75)).alloc o) 75 z5).alloc (.cells (W2 0) 126)).alloc (.cells (W2 0) 126)).alloc (.cells (W2 0) 126)).alloc (.cells (W2 0) 126)).alloc (.cells (W2 0) 126);rw [aW,aW] at h;exact h
 k0:=by
  have h:=((((Blk.new (((w.alloc (.cells (Us a).toArray 75)).alloc o).alloc (.cells z5 75)) 126 (W2 0)).alloc (.cells (W2 0) 126)).alloc (.cells (W2 0) 126)).alloc (.cells (W2 0) 126)).alloc (.cells (W2 0) 126);rw [aW,aW,aW] at h;exact h
 k1:=by
  have h:=(((Blk.new ((((w.alloc (.cells (Us a).toArray 75)).alloc o).alloc (.cells z5 75)).alloc (.cells (W2 0) 126)) 126 (W2 0)).alloc (.cells (W2 0) 126)).alloc (.cells (W2 0) 126)).alloc (.cells (W2 0) 126);rw [aW,aW,aW,aW] at h;exact h
 k2:=by
  have h:=((Blk.new (((((w.alloc (.cells (Us a).toArray 75)).alloc o).alloc (.cells z5 75)).alloc (.cells (W2 0) 126)).alloc (.cells (W2 0) 126)) 126 (W2 0)).alloc (.cells (W2 0) 126)).alloc (.cells (W2 0) 126);rw [aW,aW,aW,aW,aW] at h;exact h
 k3:=by
  have h:=(Blk.new ((((((w.alloc (.cells (Us a).toArray 75)).alloc o).alloc (.cells z5 75)).alloc (.cells (W2 0) 126)).alloc (.cells (W2 0) 126)).alloc (.cells (W2 0) 126)) 126 (W2 0)).alloc (.cells (W2 0) 126);rw [aW,aW,aW,aW,aW,aW] at h;exact h
 k4:=by
  have h:=Blk.new (((((((w.alloc (.cells (Us a).toArray 75)).alloc o).alloc (.cells z5 75)).alloc (.cells (W2 0) 126)).alloc (.cells (W2 0) 126)).alloc (.cells (W2 0) 126)).alloc (.cells (W2 0) 126)) 126 (W2 0);rw [aW,aW,aW,aW,aW,aW,aW] at h;exact h
 be:=(((((((((Below.refl _ _).alloc (aF _) _).alloc (by simp) _).alloc (by simp; omega) _).alloc (by simp; omega) _).alloc (by simp; omega) _).alloc (by simp; omega) _).alloc (by simp; omega) _).alloc (by simp; omega) _).drew
theorem yL : Own 81:=λ_ _=>by go_simp
theorem tW : Own 82:=λ_ _=>by go_simp
theorem Gj : Own 83:=λ_ _=>by go_simp
theorem Dk : Own 86:=λ_ _=>by go_simp
theorem bK : Own 60:=λ_ _=>by go_simp
theorem kN : Own 64:=λ_ _=>by go_simp
theorem iO : Own 62:=λ_ _=>by go_simp
theorem yM : Own 68:=λ_ _=>by go_simp
theorem zQ : Own 59:=λ_ _=>by go_simp
section
variable {ops : Array Oper} {C0 : World -> Prop} {Q : Act -> Prop} {a : Act} {o : Oper} {rest : List Oper}
theorem T4 {x y : Operand} {t : TypeId} (p q : Nat) (hg : aL o (yielded ops a.tmps) = true) (ho : o.op = .binOp .mul 49 x y t) (hx : a.eval x = .int .u64 (p : Int)) (hy : a.eval y = .int .u64 (q : Int)) (hb : p * q < 18446744073709551616)
  (hk : wpB Tryd.prog ops C0 Q rest (a.put o.dst (.int .u64 ((p * q : Nat) : Int)))) : wpB Tryd.prog ops C0 Q (o :: rest) a :=
 k5 hg (λw _=>by
  have e : IntKind.u64.wrap ((p : Int) * (q : Int)) = ((p * q : Nat) : Int):=by rw [aP,<-Int.natCast_mul]; omega
  unfold execOp
  simp only [ho,hx,hy]
  go_simp) hk
theorem Cw {x y : Operand} {t : TypeId} (p q : Nat) (hg : aL o (yielded ops a.tmps) = true) (ho : o.op = .binOp .add 49 x y t) (hx : a.eval x = .int .u64 (p : Int)) (hy : a.eval y = .int .u64 (q : Int)) (hb : p + q < 18446744073709551616)
  (hk : wpB Tryd.prog ops C0 Q rest (a.put o.dst (.int .u64 ((p + q : Nat) : Int)))) : wpB Tryd.prog ops C0 Q (o :: rest) a :=
 k5 hg (λw _=>by
  have e : IntKind.u64.wrap ((p : Int) + (q : Int)) = ((p + q : Nat) : Int):=by rw [aP]; omega
  unfold execOp
  simp only [ho,hx,hy]
  go_simp) hk
theorem fZ {l : List Nat} (g : Nat) (hl : l.length = 5) (x : Operand) (hg : aL o (yielded ops a.tmps) = true) (ho : o.op = .load 75 x) (hx : a.eval x = .pointer (some ⟨g,0,none⟩))
  (hc : ∀ w,C0 w -> Blk w g 75 (Us l).toArray) (hk : wpB Tryd.prog ops C0 Q rest (a.put o.dst (.agg (Us l).toArray))) : wpB Tryd.prog ops C0 Q (o :: rest) a :=
 y9 hg 75 x ho g 0 hx (Us l) _ (λw h=>(hc w h).range) Tryd.underlying75 rfl (bO (Us l).toArray (by rw [bA,cY,hl])) hk
theorem wM {s : Nat} (g : Nat) (x : Operand) (hg : aL o (yielded ops a.tmps) = true) (ho : o.op = .load 126 x) (hx : a.eval x = .pointer (some ⟨g,0,none⟩))
  (hc : ∀ w,C0 w -> Blk w g 126 (W2 s)) (hk : wpB Tryd.prog ops C0 Q rest (a.put o.dst (.agg (W2 s)))) : wpB Tryd.prog ops C0 Q (o :: rest) a :=
 y9 hg 126 x ho g 0 hx (Us [s / 18446744073709551616,s % 18446744073709551616]) _ (λw h=>Blk.range (hc w h)) Tryd.underlying126 rfl (kG _ rfl) hk
theorem iD {f : FuncId} {xs : Array Operand} {ats : Array TypeId} {args : Array Value} {x : F} (hg : aL o (yielded ops a.tmps) = true)
  (hf : Own f) (hc : ∀ w,C0 w -> Calls Tryd.prog f args w (λe w'=>∃ r,EB r x /\ e = .returned (.agg (Us r).toArray) /\ Below w.heap.size w w'))
  (ho : o.op = .call { callee:=.value (.func f),args:=xs,argTypes:=ats }) (hx : xs.toList.map a.eval = args.toList) (hk : ∀ r,EB r x -> wpB Tryd.prog ops C0 Q rest (a.put o.dst (.agg (Us r).toArray))) : wpB Tryd.prog ops C0 Q (o :: rest) a:=by
 refine Ph (f:=f) (args:=args) (λv=>∃ r,EB r x /\ v = .agg (Us r).toArray) hg (by rw [ho]; rfl) (λw hw=>(hc w hw).mono ?_) (λw=>by rw [jT hf ho,oI hx]) ?_
 ·rintro e w2 ⟨r,hr,rfl,hw2⟩
  exact ⟨_,rfl,⟨r,hr,rfl⟩,hw2⟩
 ·rintro _ ⟨r,hr,rfl⟩
  exact hk r hr
end
theorem Hg (v0 v1 v2 v3 v4 : Int) : Tryd.prog.built 73 [(0,.int .u64 v0),(1,.int .u64 v1),(2,.int .u64 v2),(3,.int .u64 v3),(4,.int .u64 v4)] = some #[.int .u64 v0,.int .u64 v1,.int .u64 v2,.int .u64 v3,.int .u64 v4]:=by kernel_rfl
theorem Hh (v0 v1 v2 v3 v4 : Int) : Tryd.prog.built 75 [(0,.agg #[.int .u64 v0,.int .u64 v1,.int .u64 v2,.int .u64 v3,.int .u64 v4])] = some #[.int .u64 v0,.int .u64 v1,.int .u64 v2,.int .u64 v3,.int .u64 v4]:=by kernel_rfl
theorem iZ : Tryd.prog.built 75 [] = some z5:=by kernel_rfl
theorem dA {a b : List Nat} {x y : F} (ha : EB a x) (hb : EB b y) (w : World) :
  Calls Tryd.prog 60 #[.agg (Us a).toArray,.agg (Us b).toArray] w λe w'=>∃ r,EB r (x * y) /\ e = .returned (.agg (Us r).toArray) /\ Below w.heap.size w w':=by
 obtain ⟨b0,b1,b2,b3,b4,rfl,r0,r1,r2,r3,r4,rv⟩:=hb.AZ;have e0 : (Us [b0,b1,b2,b3,b4]).toArray = #[.int .u64 (b0 : Int),.int .u64 (b1 : Int),.int .u64 (b2 : Int),.int .u64 (b3 : Int),.int .u64 (b4 : Int)]:=rfl;rw [e0]
 go_enter Tryd.func60,Tryd.ntmps60
 go_wp2
 go_region
 go_wp2
 go_loopw [32,5,6,7,8,9] (λi v5 v6 v7 v8 v9 wr=>∃ k : Nat,k <= 5 /\ i = .int .i64 k /\ ∃ c0 c1 c2 c3 c4 s0 s1 s2 s3 s4 : Nat,v5 = .int .u64 c0 /\ v6 = .int .u64 c1 /\ v7 = .int .u64 c2 /\ v8 = .int .u64 c3 /\ v9 = .int .u64 c4 /\ MM a y k c0 c1 c2 c3 c4 s0 s1 s2 s3 s4 /\ MSt w wr a s0 s1 s2 s3 s4) (λi _ _ _ _ _ _=>5 - (intOf i).toNat)
 case atStart =>
  exact ⟨0,by omega,rfl,b0,b1,b2,b3,b4,0,0,0,0,0,rfl,rfl,rfl,rfl,rfl,MM.start r0 r1 r2 r3 r4 rv,Lz w a _⟩
 case round =>
  obtain ⟨k,hk,rfl,c0,c1,c2,c3,c4,s0,s1,s2,s3,s4,rfl,rfl,rfl,rfl,rfl,hM,hS⟩:=hrel
  by_cases hlt : k < 5
  ·have hN:=hM.next ha hlt
   have hd:=(hS.ba.cell k).trans (iE (by rw [ha.len]; exact hlt));have hv:=rF ha hlt
   obtain ⟨g0,g1,g2,g3,g4,u4,t0,t1,t2,t3,t4⟩ : c0 < 42784196465000448 /\ c1 < 42784196465000448 /\ c2 < 42784196465000448 /\ c3 < 42784196465000448 /\ c4 < 42784196465000448 /\ c4 < 2251799813947392 /\ s0 < 41538374868278621028243970633760768 /\ s1 < 41538374868278621028243970633760768 /\ s2 < 41538374868278621028243970633760768 /\ s3 < 41538374868278621028243970633760768 /\ s4 < 41538374868278621028243970633760768:=by
    obtain ⟨_,_,g0,g1,g2,g3,g4,u0,u1,u2,u3,u4,t0,t1,t2,t3,t4⟩:=hM;exact ⟨g0,g1,g2,g3,g4,u4 (by omega),by omega,by omega,by omega,by omega,by omega⟩
   have p0:=nZ hv g0;have p1:=nZ hv g1;have p2:=nZ hv g2;have p3:=nZ hv g3;have p4:=nZ hv g4;generalize a[k]! = v at *;have HP0:=λw1=>aH (BL s0 v c0 (by omega) (by omega) (by omega) w1);have HP1:=λw1=>aH (BL s1 v c1 (by omega) (by omega) (by omega) w1);have HP2:=λw1=>aH (BL s2 v c2 (by omega) (by omega) (by omega) w1);have HP3:=λw1=>aH (BL s3 v c3 (by omega) (by omega) (by omega) w1);have HP4:=λw1=>aH (BL s4 v c4 (by omega) (by omega) (by omega) w1);have HN:=aH hN
   have q1 : IntKind.u64.wrap (19 * (c4 : Int)) = ((19 * c4 : Nat) : Int):=by rw [aP]; omega
   have q2 : (0 : Int) <= (k : Int):=by omega
   clear hN hM p0 p1 p2 p3 p4 g0 g1 g2 g3 g4 u4 t0 t1 t2 t3 t4 hv rv r0 r1 r2 r3 r4 hb;generalize s0 + v * c0 = n0 at *;generalize s1 + v * c1 = n1 at *;generalize s2 + v * c2 = n2 at *;generalize s3 + v * c3 = n3 at *;generalize s4 + v * c4 = n4 at *;generalize 19 * c4 = d at *;have hk0:=hS.k0;have HS:=aH hS;clear hS
   go_wp2_with (refine wpList_load_row rfl 126 _ rfl (w.heap.size + 1 + 1 + 1) rfl 126 (W2 s0) (0,0) _ hk0 Tryd.underlying126 rfl (kG _ (oE _)) ?_)
   refine (HP0 _).out.mono ?_
   rintro e w1 ⟨rfl,hw⟩
   have hS:=HS.out.step hw;have hk:=hS.k0;have hS2:=hS.VG n0;have hk2:=hS2.k1;clear HS hw hS;have HS:=aH hS2;clear hS2
   go_wp2_with (first
    | (refine wpList_store_row rfl 126 _ _ rfl (w.heap.size + 1 + 1 + 1) rfl (W2 n0) rfl 126 _ hk (kG _ (oE _)) rfl (CC _) ?_)
    | (refine wpList_load_row rfl 126 _ rfl (w.heap.size + 1 + 1 + 1 + 1) rfl 126 (W2 s1) (0,0) _ hk2 Tryd.underlying126 rfl (kG _ (oE _)) ?_))
   clear hk hk2;refine (HP1 _).out.mono ?_
   rintro e w2 ⟨rfl,hw⟩
   have hS:=HS.out.step hw;have hk:=hS.k1;have hS2:=hS.VF n1;have hk2:=hS2.k2;clear HS hw hS;have HS:=aH hS2;clear hS2
   go_wp2_with (first
    | (refine wpList_store_row rfl 126 _ _ rfl (w.heap.size + 1 + 1 + 1 + 1) rfl (W2 n1) rfl 126 _ hk (kG _ (oE _)) rfl (CC _) ?_)
    | (refine wpList_load_row rfl 126 _ rfl (w.heap.size + 1 + 1 + 1 + 1 + 1) rfl 126 (W2 s2) (0,0) _ hk2 Tryd.underlying126 rfl (kG _ (oE _)) ?_))
   clear hk hk2;refine (HP2 _).out.mono ?_
   rintro e w3 ⟨rfl,hw⟩
   have hS:=HS.out.step hw;have hk:=hS.k2;have hS2:=hS.VE n2;have hk2:=hS2.k3;clear HS hw hS;have HS:=aH hS2;clear hS2
   go_wp2_with (first
    | (refine wpList_store_row rfl 126 _ _ rfl (w.heap.size + 1 + 1 + 1 + 1 + 1) rfl (W2 n2) rfl 126 _ hk (kG _ (oE _)) rfl (CC _) ?_)
    | (refine wpList_load_row rfl 126 _ rfl (w.heap.size + 1 + 1 + 1 + 1 + 1 + 1) rfl 126 (W2 s3) (0,0) _ hk2 Tryd.underlying126 rfl (kG _ (oE _)) ?_))
   clear hk hk2;refine (HP3 _).out.mono ?_
   rintro e w4 ⟨rfl,hw⟩
   have hS:=HS.out.step hw;have hk:=hS.k3;have hS2:=hS.VD n3;have hk2:=hS2.k4;clear HS hw hS;have HS:=aH hS2;clear hS2
   go_wp2_with (first
    | (refine wpList_store_row rfl 126 _ _ rfl (w.heap.size + 1 + 1 + 1 + 1 + 1 + 1) rfl (W2 n3) rfl 126 _ hk (kG _ (oE _)) rfl (CC _) ?_)
    | (refine wpList_load_row rfl 126 _ rfl (w.heap.size + 1 + 1 + 1 + 1 + 1 + 1 + 1) rfl 126 (W2 s4) (0,0) _ hk2 Tryd.underlying126 rfl (kG _ (oE _)) ?_))
   clear hk hk2;refine (HP4 _).out.mono ?_
   rintro e w5 ⟨rfl,hw⟩
   have hS:=HS.out.step hw;have hk:=hS.k4;have hS2:=hS.VC n4;clear HS hw hS;have HS:=aH hS2;clear hS2
   go_wp2_with (refine wpList_store_row rfl 126 _ _ rfl (w.heap.size + 1 + 1 + 1 + 1 + 1 + 1 + 1) rfl (W2 n4) rfl 126 _ hk (kG _ (oE _)) rfl (CC _) ?_)
   clear hk
   go_roundw
   case rel =>
    exact ⟨k + 1,by omega,by go_num,d,c0,c1,c2,c3,n0,n1,n2,n3,n4,rfl,rfl,rfl,rfl,rfl,HN.out,HS.out⟩
   case measure=>simp [intOf]; omega
  ·obtain rfl : k = 5:=by omega
   obtain ⟨hv,m0,m1,m2,m3,m4,d0,d1,d2,d3,d4⟩:=hM.fin ha;obtain ⟨hba,hbr,k0,k1,k2,k3,k4,hbe⟩:=hS;have hE:=I8 (a0:=s0 % 2251799813685248 + 19 * (s4 / 2251799813685248)) (a1:=s1 % 2251799813685248 + s0 / 2251799813685248) (a2:=s2 % 2251799813685248 + s1 / 2251799813685248) (a3:=s3 % 2251799813685248 + s2 / 2251799813685248) (a4:=s4 % 2251799813685248 + s3 / 2251799813685248) (by omega) (by omega) (by omega) (by omega) (by omega)
   have hE2 : EB (crd (s0 % 2251799813685248 + 19 * (s4 / 2251799813685248)) (s1 % 2251799813685248 + s0 / 2251799813685248) (s2 % 2251799813685248 + s1 / 2251799813685248) (s3 % 2251799813685248 + s2 / 2251799813685248) (s4 % 2251799813685248 + s3 / 2251799813685248)) (x * y):=by
    have h : fof (lv (crd s0 s1 s2 s3 s4)) = x * y:=hv
    unfold crd at h
    rw [h] at hE;exact hE
   have HC:=λw1=>Ai (s0 % 2251799813685248 + 19 * (s4 / 2251799813685248)) (s1 % 2251799813685248 + s0 / 2251799813685248) (s2 % 2251799813685248 + s1 / 2251799813685248) (s3 % 2251799813685248 + s2 / 2251799813685248) (s4 % 2251799813685248 + s3 / 2251799813685248) (by omega) (by omega) (by omega) (by omega) (by omega) w1;generalize crd (s0 % 2251799813685248 + 19 * (s4 / 2251799813685248)) (s1 % 2251799813685248 + s0 / 2251799813685248) (s2 % 2251799813685248 + s1 / 2251799813685248) (s3 % 2251799813685248 + s2 / 2251799813685248) (s4 % 2251799813685248 + s3 / 2251799813685248) = r at *;clear hE hv hM hba rv r0 r1 r2 r3 r4 hb;have HC2:=aH HC;have HE:=aH hE2;clear HC hE2
   go_wp2
   refine vE 29 (.tmp 4) 75 (.tmp 94) rfl rfl rfl rfl (by kernel_rfl) (cC (by kernel_rfl)) (λ_ _ d _ _ h=>by cases d <;> exact h) ?_;simp only [a9,bN];refine wM (w.heap.size + 1 + 1 + 1) _ rfl rfl rfl (λ_ h=>h.blk k0) ?_; simp only [aE,aA,aB,aC];refine jU rfl yL (λw1=>Gx s0 w1) rfl rfl ?_; simp only [aE,aA,aB,aC];refine wM (w.heap.size + 1 + 1 + 1 + 1 + 1 + 1 + 1) _ rfl rfl rfl (λ_ h=>h.blk k4) ?_; simp only [aE,aA,aB,aC];refine jU rfl tW (λw1=>Cd s4 m4 w1) rfl rfl ?_; simp only [aE,aA,aB,aC];refine T4 19 (s4 / 2251799813685248) rfl rfl rfl rfl (by omega) ?_; simp only [aE,aA,aB,aC];refine Cw (s0 % 2251799813685248) (19 * (s4 / 2251799813685248)) rfl rfl rfl rfl (by omega) ?_; simp only [aE,aA,aB,aC];refine wM (w.heap.size + 1 + 1 + 1 + 1) _ rfl rfl rfl (λ_ h=>h.blk k1) ?_; simp only [aE,aA,aB,aC];refine jU rfl yL (λw1=>Gx s1 w1) rfl rfl ?_; simp only [aE,aA,aB,aC];refine wM (w.heap.size + 1 + 1 + 1) _ rfl rfl rfl (λ_ h=>h.blk k0) ?_; simp only [aE,aA,aB,aC];refine jU rfl tW (λw1=>Cd s0 m0 w1) rfl rfl ?_; simp only [aE,aA,aB,aC];refine Cw (s1 % 2251799813685248) (s0 / 2251799813685248) rfl rfl rfl rfl (by omega) ?_; simp only [aE,aA,aB,aC];refine wM (w.heap.size + 1 + 1 + 1 + 1 + 1) _ rfl rfl rfl (λ_ h=>h.blk k2) ?_; simp only [aE,aA,aB,aC];refine jU rfl yL (λw1=>Gx s2 w1) rfl rfl ?_; simp only [aE,aA,aB,aC];refine wM (w.heap.size + 1 + 1 + 1 + 1) _ rfl rfl rfl (λ_ h=>h.blk k1) ?_; simp only [aE,aA,aB,aC];refine jU rfl tW (λw1=>Cd s1 m1 w1) rfl rfl ?_; simp only [aE,aA,aB,aC];refine Cw (s2 % 2251799813685248) (s1 / 2251799813685248) rfl rfl rfl rfl (by omega) ?_; simp only [aE,aA,aB,aC];refine wM (w.heap.size + 1 + 1 + 1 + 1 + 1 + 1) _ rfl rfl rfl (λ_ h=>h.blk k3) ?_; simp only [aE,aA,aB,aC]
   refine jU rfl yL (λw1=>Gx s3 w1) rfl rfl ?_; simp only [aE,aA,aB,aC];refine wM (w.heap.size + 1 + 1 + 1 + 1 + 1) _ rfl rfl rfl (λ_ h=>h.blk k2) ?_; simp only [aE,aA,aB,aC];refine jU rfl tW (λw1=>Cd s2 m2 w1) rfl rfl ?_; simp only [aE,aA,aB,aC];refine Cw (s3 % 2251799813685248) (s2 / 2251799813685248) rfl rfl rfl rfl (by omega) ?_; simp only [aE,aA,aB,aC];refine wM (w.heap.size + 1 + 1 + 1 + 1 + 1 + 1 + 1) _ rfl rfl rfl (λ_ h=>h.blk k4) ?_; simp only [aE,aA,aB,aC];refine jU rfl yL (λw1=>Gx s4 w1) rfl rfl ?_; simp only [aE,aA,aB,aC];refine wM (w.heap.size + 1 + 1 + 1 + 1 + 1 + 1) _ rfl rfl rfl (λ_ h=>h.blk k3) ?_; simp only [aE,aA,aB,aC];refine jU rfl tW (λw1=>Cd s3 m3 w1) rfl rfl ?_; simp only [aE,aA,aB,aC];refine Cw (s4 % 2251799813685248) (s3 / 2251799813685248) rfl rfl rfl rfl (by omega) ?_; simp only [aE,aA,aB,aC];refine s7 _ _ rfl rfl rfl (Hg _ _ _ _ _) ?_; simp only [aE,aA,aB,aC];refine s7 _ _ rfl rfl rfl (Hh _ _ _ _ _) ?_; simp only [aE,aA,aB,aC];refine jU rfl Gj (λw1=>HC2.out w1) rfl rfl ?_; simp only [aE,aA,aB,aC];have hzr:=bV HE.out.len;refine cL ⟨_,z5,(Us r).toArray,rfl,rfl,hbr,by rw [hzr]; rfl,bO _ hzr,cJ _,λw1 hw1=>?_⟩;have hfin:=hw1.blk hbr;have hbe2:=a6 hbe hw1
   go_wp2
   refine bodyPost_ret (results_cell_row rfl _ _ (w.heap.size + 1 + 1) 75 (Us r).toArray (0,0) _ rfl (hfin.row _) Tryd.underlying75 rfl (bO _ hzr)) rfl ⟨r,HE.out,rfl,?_⟩;exact below_setRow hbe2 (by omega) _
theorem fK : Own 90:=λ_ _=>by go_simp
theorem Ge : Own 91:=λ_ _=>by go_simp
theorem Iu : Own 85:=λ_ _=>by go_simp
theorem kZ {a b : List Nat} {x : F} {d e : Nat} (ha : EB a (fP x d)) (hb : EB b (fP x e)) (w : World) :
  Calls Tryd.prog 60 #[.agg (Us a).toArray,.agg (Us b).toArray] w λe' w'=>∃ r,EB r (fP x (d + e)) /\ e' = .returned (.agg (Us r).toArray) /\ Below w.heap.size w w':=by
 rw [rT];exact dA ha hb w
theorem Db {a : List Nat} {x : F} (ha : EB a x) (n : Nat) (hn : n < 300) (w : World) :
  Calls Tryd.prog 90 #[.agg (Us a).toArray,.int .i64 n] w λe w'=>∃ r,EB r (fP x (2 ^ n)) /\ e = .returned (.agg (Us r).toArray) /\ Below w.heap.size w w':=by
 have hs : ∀ k,fP x (2 ^ (k + 1)) = fP x (2 ^ k) * fP x (2 ^ k):=λk=>by rw [<-rT,dE]; congr 1; omega
 have HS:=aH hs;clear hs
 go_enter Tryd.func90,Tryd.ntmps90
 go_wp2
 go_loopw [6] (λi wr=>∃ k : Nat,k <= n /\ i = .int .i64 k /\ ∃ r,EB r (fP x (2 ^ k)) /\ Blk wr w.heap.size 75 (Us r).toArray /\ Blk wr (w.heap.size + 1) 75 z5 /\ Below w.heap.size w wr) (λi _=>n - (intOf i).toNat)
 case atStart =>
  refine ⟨0,by omega,rfl,a,?_,heap_alloc2_old w _ _,heap_alloc2_new w _ _,((Below.refl _ _).alloc (aF _) _).alloc (by simp) _⟩;rw [qG,yV];exact ha
 case round =>
  obtain ⟨k,hk,rfl,r,hr,h0,h1,hbel⟩:=hrel
  by_cases hlt : k < n
  ·have HM:=λw1=>aH (dA hr hr w1)
   rw [<-HS.out k] at HM;have hzr:=bV hr.len;have HK:=aH (aY h0 (aY h1 hbel))
   have q0 : (k : Int) < (n : Int):=by omega
   clear h1 hbel
   go_wp2_with (refine wpList_load_row rfl 75 _ rfl w.heap.size rfl 75 (Us r).toArray (0,0) _ h0 Tryd.underlying75 rfl (bO _ hzr) ?_)
   refine (HM _).out.mono ?_
   rintro e w2 ⟨r1,hr1,rfl,hw2⟩
   have hz1:=bV hr1.len;obtain ⟨h0,h1,hbel⟩:=HK.out;have k0:=h0.below hw2 h0.lt;have k1:=h1.below hw2 h1.lt;have kb:=hbel.trans (hw2.mono hbel.size)
   have HR:=aH (show Blk (w2.setRow w.heap.size (Us r1).toArray) w.heap.size 75 (Us r1).toArray /\ Blk (w2.setRow w.heap.size (Us r1).toArray) (w.heap.size + 1) 75 z5 /\ Below w.heap.size w (w2.setRow w.heap.size (Us r1).toArray) from
    ⟨k0.row _,k1.aR (by omega) _,below_setRow kb (aF _) _⟩)
   clear HM HK h0 h1 hbel k1 kb hw2
   go_wp2_with (refine wpList_store_row rfl 75 _ _ rfl w.heap.size rfl (Us r1).toArray rfl 75 _ k0 (bO _ hz1) (by rw [hz1,hzr]) (cJ _) ?_)
   go_roundw
   case rel=>exact ⟨k + 1,by omega,by go_num,r1,hr1,HR.out⟩
   case measure=>simp [intOf]; omega
  ·obtain rfl : k = n:=by omega
   have hzr:=bV hr.len
   go_wp2_with (first
    | (refine wpList_load_row rfl 75 _ rfl w.heap.size rfl 75 (Us r).toArray (0,0) _ h0 Tryd.underlying75 rfl (bO _ hzr) ?_)
    | (refine wpList_store_row rfl 75 _ _ rfl (w.heap.size + 1) rfl (Us r).toArray rfl 75 _ h1 (bO _ hzr) (by rw [hzr]; rfl) (cJ _) ?_))
   refine bodyPost_ret (results_cell_row rfl _ _ (w.heap.size + 1) 75 (Us r).toArray (0,0) _ rfl (h1.row _) Tryd.underlying75 rfl (bO _ hzr)) rfl ⟨r,hr,rfl,?_⟩;exact below_setRow hbel (by omega) _
theorem iN {a : List Nat} {x : F} {d : Nat} (ha : EB a (fP x d)) (n : Nat) (hn : n < 300) (w : World) :
  Calls Tryd.prog 90 #[.agg (Us a).toArray,.int .i64 n] w λe w'=>∃ r,EB r (fP x (d * 2 ^ n)) /\ e = .returned (.agg (Us r).toArray) /\ Below w.heap.size w w':=by
 rw [Ci];exact Db ha n hn w
theorem ND {r : List Nat} {x : F} (h : EB r (fP x ((1267650600228229401496703205375 * 2 ^ 100 + 1267650600228229401496703205375) * 2 ^ 50 + 1125899906842623))) : EB r (fP x (2 ^ 250 - 1)):=by
 rw [show (2 : Nat) ^ 250 - 1 = ((1267650600228229401496703205375 * 2 ^ 100 + 1267650600228229401496703205375) * 2 ^ 50 + 1125899906842623) from by decide];exact h
theorem I3 {r : List Nat} {x : F} (h : EB r (fP (fP x (2 ^ 250 - 1)) (2 ^ 2) * x)) : EB r (fP x (2 ^ 252 - 3)):=by
 rw [show (2 : Nat) ^ 252 - 3 = (2 ^ 250 - 1) * 2 ^ 2 + 1 from by decide,gU,Ci];exact h
theorem NC {a : List Nat} {x : F} (hA1 : EB a x) (w : World) :
  Calls Tryd.prog 91 #[.agg (Us a).toArray] w λe w'=>∃ r,EB r (fP x (2 ^ 250 - 1)) /\ e = .returned (.agg (Us r).toArray) /\ Below w.heap.size w w':=by
 have hA : EB a (fP x 1):=by rw [yV]; exact hA1
 go_enter Tryd.func91,Tryd.ntmps91
 refine wp_seq_k λK hK=>?_;refine wp_region_lit ?_;refine jW (Us a).toArray rfl rfl rfl ?_;refine dN (zs:=z5) rfl rfl (by kernel_rfl) ?_;refine dP ?_
 go_simp
 refine hK _ _ ?_;clear hK K
 refine pM (λW=>Blk W w.heap.size 75 (Us a).toArray /\ Blk W (w.heap.size + 1) 75 z5 /\ Below w.heap.size w W)
  ⟨heap_alloc2_old w _ _,heap_alloc2_new w _ _,((Below.refl _ _).alloc (aF _) _).alloc (by simp) _⟩ ?_
 rintro W ⟨ha,ho,hbe⟩
 -- walk ones
 refine wp_seq_k λK hK=>?_;refine mO 4 3 75 (.tmp 14) z5 rfl rfl rfl rfl rfl rfl rfl (by kernel_rfl) (cC (by kernel_rfl)) (by kernel_rfl) (λ_ _ d _ _ h=>by cases d <;> exact h) (c9 rfl (by kernel_rfl)) ?_;simp only [a9,bN];refine fZ w.heap.size hA.len _ rfl rfl rfl (λ_ h=>h.blk ha) ?_;simp only [aE,aA,aB,aC];refine iD rfl fK (λw1 _=>iN hA 1 (by omega) w1) rfl rfl ?_
 intro r1 v1
 simp only [aE,aA,aB,aC];refine fZ w.heap.size hA.len _ rfl rfl rfl (λ_ h=>h.blk ha) ?_;simp only [aE,aA,aB,aC];refine iD rfl bK (λw1 _=>kZ v1 hA w1) rfl rfl ?_
 intro r2 v2
 simp only [aE,aA,aB,aC];refine cL ⟨(Us r2).toArray,λ_=>rfl,λ_=>rfl,(bV v2.len).symm,bO _ (bV v2.len),cJ _,λgtwo W1 hgtwo hw1 hbtwo=>?_⟩;simp only [Exit.then,aE,aA,aB,aC];refine hK _ _ ?_;clear hK K;have ha:=hw1.blk ha;have ho:=hw1.blk ho;have hbe:=a6 hbe hw1;clear hw1;have v2 : EB r2 (fP x 3):=v2;refine wp_seq_k λK hK=>?_;refine mO 4 4 75 (.tmp 18) z5 rfl rfl rfl rfl rfl rfl rfl (by kernel_rfl) (cC (by kernel_rfl)) (by kernel_rfl) (λ_ _ d _ _ h=>by cases d <;> exact h) (c9 rfl (by kernel_rfl)) ?_;simp only [a9,bN];refine fZ gtwo v2.len _ rfl rfl rfl (λ_ h=>h.blk hbtwo) ?_;simp only [aE,aA,aB,aC];refine iD rfl fK (λw1 _=>iN v2 2 (by omega) w1) rfl rfl ?_
 intro r3 v3
 simp only [aE,aA,aB,aC];refine fZ gtwo v2.len _ rfl rfl rfl (λ_ h=>h.blk hbtwo) ?_;simp only [aE,aA,aB,aC];refine iD rfl bK (λw1 _=>kZ v3 v2 w1) rfl rfl ?_
 intro r4 v4
 simp only [aE,aA,aB,aC];refine cL ⟨(Us r4).toArray,λ_=>rfl,λ_=>rfl,(bV v4.len).symm,bO _ (bV v4.len),cJ _,λgfour W1 hgfour hw1 hbfour=>?_⟩;simp only [Exit.then,aE,aA,aB,aC];refine hK _ _ ?_;clear hK K;have ha:=hw1.blk ha;have hbtwo:=hw1.blk hbtwo;have ho:=hw1.blk ho;have hbe:=a6 hbe hw1;clear hw1;have v4 : EB r4 (fP x 15):=v4;refine wp_seq_k λK hK=>?_;refine mO 4 5 75 (.tmp 22) z5 rfl rfl rfl rfl rfl rfl rfl (by kernel_rfl) (cC (by kernel_rfl)) (by kernel_rfl) (λ_ _ d _ _ h=>by cases d <;> exact h) (c9 rfl (by kernel_rfl)) ?_;simp only [a9,bN];refine fZ gfour v4.len _ rfl rfl rfl (λ_ h=>h.blk hbfour) ?_;simp only [aE,aA,aB,aC];refine iD rfl fK (λw1 _=>iN v4 1 (by omega) w1) rfl rfl ?_
 intro r5 v5
 simp only [aE,aA,aB,aC];refine fZ w.heap.size hA.len _ rfl rfl rfl (λ_ h=>h.blk ha) ?_;simp only [aE,aA,aB,aC];refine iD rfl bK (λw1 _=>kZ v5 hA w1) rfl rfl ?_
 intro r6 v6
 simp only [aE,aA,aB,aC];refine cL ⟨(Us r6).toArray,λ_=>rfl,λ_=>rfl,(bV v6.len).symm,bO _ (bV v6.len),cJ _,λgfive W1 hgfive hw1 hbfive=>?_⟩;simp only [Exit.then,aE,aA,aB,aC];refine hK _ _ ?_;clear hK K;have ha:=hw1.blk ha;have hbtwo:=hw1.blk hbtwo;have hbfour:=hw1.blk hbfour;have ho:=hw1.blk ho;have hbe:=a6 hbe hw1;clear hw1;have v6 : EB r6 (fP x 31):=v6;refine wp_seq_k λK hK=>?_;refine mO 4 6 75 (.tmp 26) z5 rfl rfl rfl rfl rfl rfl rfl (by kernel_rfl) (cC (by kernel_rfl)) (by kernel_rfl) (λ_ _ d _ _ h=>by cases d <;> exact h) (c9 rfl (by kernel_rfl)) ?_;simp only [a9,bN];refine fZ gfive v6.len _ rfl rfl rfl (λ_ h=>h.blk hbfive) ?_;simp only [aE,aA,aB,aC];refine iD rfl fK (λw1 _=>iN v6 5 (by omega) w1) rfl rfl ?_
 intro r7 v7
 simp only [aE,aA,aB,aC];refine fZ gfive v6.len _ rfl rfl rfl (λ_ h=>h.blk hbfive) ?_;simp only [aE,aA,aB,aC];refine iD rfl bK (λw1 _=>kZ v7 v6 w1) rfl rfl ?_
 intro r8 v8
 simp only [aE,aA,aB,aC];refine cL ⟨(Us r8).toArray,λ_=>rfl,λ_=>rfl,(bV v8.len).symm,bO _ (bV v8.len),cJ _,λgten W1 hgten hw1 hbten=>?_⟩;simp only [Exit.then,aE,aA,aB,aC];refine hK _ _ ?_;clear hK K;have ha:=hw1.blk ha;have hbtwo:=hw1.blk hbtwo;have hbfour:=hw1.blk hbfour;have hbfive:=hw1.blk hbfive;have ho:=hw1.blk ho;have hbe:=a6 hbe hw1;clear hw1;have v8 : EB r8 (fP x 1023):=v8;refine wp_seq_k λK hK=>?_;refine mO 4 7 75 (.tmp 30) z5 rfl rfl rfl rfl rfl rfl rfl (by kernel_rfl) (cC (by kernel_rfl)) (by kernel_rfl) (λ_ _ d _ _ h=>by cases d <;> exact h) (c9 rfl (by kernel_rfl)) ?_;simp only [a9,bN];refine fZ gten v8.len _ rfl rfl rfl (λ_ h=>h.blk hbten) ?_;simp only [aE,aA,aB,aC];refine iD rfl fK (λw1 _=>iN v8 10 (by omega) w1) rfl rfl ?_
 intro r9 v9
 simp only [aE,aA,aB,aC];refine fZ gten v8.len _ rfl rfl rfl (λ_ h=>h.blk hbten) ?_;simp only [aE,aA,aB,aC];refine iD rfl bK (λw1 _=>kZ v9 v8 w1) rfl rfl ?_
 intro r10 v10
 simp only [aE,aA,aB,aC];refine cL ⟨(Us r10).toArray,λ_=>rfl,λ_=>rfl,(bV v10.len).symm,bO _ (bV v10.len),cJ _,λgtwenty W1 hgtwenty hw1 hbtwenty=>?_⟩;simp only [Exit.then,aE,aA,aB,aC];refine hK _ _ ?_;clear hK K;have ha:=hw1.blk ha;have hbtwo:=hw1.blk hbtwo;have hbfour:=hw1.blk hbfour;have hbfive:=hw1.blk hbfive;have hbten:=hw1.blk hbten;have ho:=hw1.blk ho;have hbe:=a6 hbe hw1;clear hw1;have v10 : EB r10 (fP x 1048575):=v10;refine wp_seq_k λK hK=>?_;refine mO 4 8 75 (.tmp 34) z5 rfl rfl rfl rfl rfl rfl rfl (by kernel_rfl) (cC (by kernel_rfl)) (by kernel_rfl) (λ_ _ d _ _ h=>by cases d <;> exact h) (c9 rfl (by kernel_rfl)) ?_;simp only [a9,bN];refine fZ gtwenty v10.len _ rfl rfl rfl (λ_ h=>h.blk hbtwenty) ?_;simp only [aE,aA,aB,aC];refine iD rfl fK (λw1 _=>iN v10 20 (by omega) w1) rfl rfl ?_
 intro r11 v11
 simp only [aE,aA,aB,aC];refine fZ gtwenty v10.len _ rfl rfl rfl (λ_ h=>h.blk hbtwenty) ?_;simp only [aE,aA,aB,aC];refine iD rfl bK (λw1 _=>kZ v11 v10 w1) rfl rfl ?_
 intro r12 v12
 simp only [aE,aA,aB,aC];refine cL ⟨(Us r12).toArray,λ_=>rfl,λ_=>rfl,(bV v12.len).symm,bO _ (bV v12.len),cJ _,λgforty W1 hgforty hw1 hbforty=>?_⟩;simp only [Exit.then,aE,aA,aB,aC];refine hK _ _ ?_;clear hK K;have ha:=hw1.blk ha;have hbtwo:=hw1.blk hbtwo;have hbfour:=hw1.blk hbfour;have hbfive:=hw1.blk hbfive;have hbten:=hw1.blk hbten;have hbtwenty:=hw1.blk hbtwenty;have ho:=hw1.blk ho;have hbe:=a6 hbe hw1;clear hw1;have v12 : EB r12 (fP x 1099511627775):=v12;refine wp_seq_k λK hK=>?_;refine mO 4 9 75 (.tmp 38) z5 rfl rfl rfl rfl rfl rfl rfl (by kernel_rfl) (cC (by kernel_rfl)) (by kernel_rfl) (λ_ _ d _ _ h=>by cases d <;> exact h) (c9 rfl (by kernel_rfl)) ?_;simp only [a9,bN];refine fZ gforty v12.len _ rfl rfl rfl (λ_ h=>h.blk hbforty) ?_;simp only [aE,aA,aB,aC];refine iD rfl fK (λw1 _=>iN v12 10 (by omega) w1) rfl rfl ?_
 intro r13 v13
 simp only [aE,aA,aB,aC];refine fZ gten v8.len _ rfl rfl rfl (λ_ h=>h.blk hbten) ?_;simp only [aE,aA,aB,aC];refine iD rfl bK (λw1 _=>kZ v13 v8 w1) rfl rfl ?_
 intro r14 v14
 simp only [aE,aA,aB,aC];refine cL ⟨(Us r14).toArray,λ_=>rfl,λ_=>rfl,(bV v14.len).symm,bO _ (bV v14.len),cJ _,λgfifty W1 hgfifty hw1 hbfifty=>?_⟩;simp only [Exit.then,aE,aA,aB,aC];refine hK _ _ ?_;clear hK K;have ha:=hw1.blk ha;have hbtwo:=hw1.blk hbtwo;have hbfour:=hw1.blk hbfour;have hbfive:=hw1.blk hbfive;have hbten:=hw1.blk hbten;have hbtwenty:=hw1.blk hbtwenty;have hbforty:=hw1.blk hbforty;have ho:=hw1.blk ho;have hbe:=a6 hbe hw1;clear hw1;have v14 : EB r14 (fP x 1125899906842623):=v14;refine wp_seq_k λK hK=>?_;refine mO 4 10 75 (.tmp 42) z5 rfl rfl rfl rfl rfl rfl rfl (by kernel_rfl) (cC (by kernel_rfl)) (by kernel_rfl) (λ_ _ d _ _ h=>by cases d <;> exact h) (c9 rfl (by kernel_rfl)) ?_;simp only [a9,bN];refine fZ gfifty v14.len _ rfl rfl rfl (λ_ h=>h.blk hbfifty) ?_;simp only [aE,aA,aB,aC];refine iD rfl fK (λw1 _=>iN v14 50 (by omega) w1) rfl rfl ?_
 intro r15 v15
 simp only [aE,aA,aB,aC];refine fZ gfifty v14.len _ rfl rfl rfl (λ_ h=>h.blk hbfifty) ?_;simp only [aE,aA,aB,aC];refine iD rfl bK (λw1 _=>kZ v15 v14 w1) rfl rfl ?_
 intro r16 v16
 simp only [aE,aA,aB,aC];refine cL ⟨(Us r16).toArray,λ_=>rfl,λ_=>rfl,(bV v16.len).symm,bO _ (bV v16.len),cJ _,λghundred W1 hghundred hw1 hbhundred=>?_⟩;simp only [Exit.then,aE,aA,aB,aC];refine hK _ _ ?_;clear hK K;have ha:=hw1.blk ha;have hbtwo:=hw1.blk hbtwo;have hbfour:=hw1.blk hbfour;have hbfive:=hw1.blk hbfive;have hbten:=hw1.blk hbten;have hbtwenty:=hw1.blk hbtwenty;have hbforty:=hw1.blk hbforty;have hbfifty:=hw1.blk hbfifty;have ho:=hw1.blk ho;have hbe:=a6 hbe hw1;clear hw1;have v16 : EB r16 (fP x 1267650600228229401496703205375):=v16;refine wp_seq_k λK hK=>?_;refine vE 7 (.tmp 2) 75 (.tmp 49) rfl rfl rfl rfl (by kernel_rfl) (cC (by kernel_rfl)) (λ_ _ d _ _ h=>by cases d <;> exact h) ?_;simp only [a9,bN];refine fZ ghundred v16.len _ rfl rfl rfl (λ_ h=>h.blk hbhundred) ?_;simp only [aE,aA,aB,aC];refine iD rfl fK (λw1 _=>iN v16 100 (by omega) w1) rfl rfl ?_
 intro r17 v17
 simp only [aE,aA,aB,aC];refine fZ ghundred v16.len _ rfl rfl rfl (λ_ h=>h.blk hbhundred) ?_;simp only [aE,aA,aB,aC];refine iD rfl bK (λw1 _=>kZ v17 v16 w1) rfl rfl ?_
 intro r18 v18
 simp only [aE,aA,aB,aC];refine iD rfl fK (λw1 _=>iN v18 50 (by omega) w1) rfl rfl ?_
 intro r19 v19
 simp only [aE,aA,aB,aC];refine fZ gfifty v14.len _ rfl rfl rfl (λ_ h=>h.blk hbfifty) ?_;simp only [aE,aA,aB,aC];refine iD rfl bK (λw1 _=>kZ v19 v14 w1) rfl rfl ?_
 intro r20 v20
 simp only [aE,aA,aB,aC];refine cL ⟨(w.heap.size + 1),_,_,rfl,rfl,ho,(bV v20.len).symm,bO _ (bV v20.len),cJ _,λW1 hw1=>?_⟩;simp only [Exit.then];refine hK _ _ ?_;clear hK K;have ho:=hw1.blk ho;have hbe:=a6 hbe hw1;refine wp_ret ?_;refine bodyPost_ret (results_cell_row rfl _ _ (w.heap.size + 1) 75 (Us r20).toArray (0,0) _ rfl (ho.row _) Tryd.underlying75 rfl (bO _ (bV v20.len))) rfl ⟨r20,ND v20,rfl,?_⟩;exact below_setRow hbe (by omega) _
 -- end ones
theorem OQ {a : List Nat} {x : F} (hA : EB a x) (w : World) :
  Calls Tryd.prog 85 #[.agg (Us a).toArray] w λe w'=>∃ r,EB r (fP x (2 ^ 252 - 3)) /\ e = .returned (.agg (Us r).toArray) /\ Below w.heap.size w w':=by
 go_enter Tryd.func85,Tryd.ntmps85
 refine wp_seq_k λK hK=>?_;refine wp_region_lit ?_;refine jW (Us a).toArray rfl rfl rfl ?_;refine dN (zs:=z5) rfl rfl (by kernel_rfl) ?_;refine dP ?_
 go_simp
 refine hK _ _ ?_;clear hK K
 refine pM (λW=>Blk W w.heap.size 75 (Us a).toArray /\ Blk W (w.heap.size + 1) 75 z5 /\ Below w.heap.size w W)
  ⟨heap_alloc2_old w _ _,heap_alloc2_new w _ _,((Below.refl _ _).alloc (aF _) _).alloc (by simp) _⟩ ?_
 rintro W ⟨ha,ho,hbe⟩
 -- walk eighth
 refine wp_seq_k λK hK=>?_;refine vE 5 (.tmp 2) 75 (.tmp 7) rfl rfl rfl rfl (by kernel_rfl) (cC (by kernel_rfl)) (λ_ _ d _ _ h=>by cases d <;> exact h) ?_;simp only [a9,bN];refine fZ w.heap.size hA.len _ rfl rfl rfl (λ_ h=>h.blk ha) ?_;simp only [aE,aA,aB,aC];refine iD rfl Ge (λw1 _=>NC hA w1) rfl rfl ?_
 intro r1 v1
 simp only [aE,aA,aB,aC];refine iD rfl fK (λw1 _=>Db v1 2 (by omega) w1) rfl rfl ?_
 intro r2 v2
 simp only [aE,aA,aB,aC];refine fZ w.heap.size hA.len _ rfl rfl rfl (λ_ h=>h.blk ha) ?_;simp only [aE,aA,aB,aC];refine iD rfl bK (λw1 _=>dA v2 hA w1) rfl rfl ?_
 intro r3 v3
 simp only [aE,aA,aB,aC];refine cL ⟨(w.heap.size + 1),_,_,rfl,rfl,ho,(bV v3.len).symm,bO _ (bV v3.len),cJ _,λW1 hw1=>?_⟩;simp only [Exit.then];refine hK _ _ ?_;clear hK K;have ho:=hw1.blk ho;have hbe:=a6 hbe hw1;refine wp_ret ?_;refine bodyPost_ret (results_cell_row rfl _ _ (w.heap.size + 1) 75 (Us r3).toArray (0,0) _ rfl (ho.row _) Tryd.underlying75 rfl (bO _ (bV v3.len))) rfl ⟨r3,I3 v3,rfl,?_⟩;exact below_setRow hbe (by omega) _
 -- end eighth
theorem QQ {r : List Nat} {x : F} (h : EB r (fP x ((2 ^ 250 - 1) * 2 ^ 5 + ((1 + 1) * 2 ^ 2 + (1 + 1) + 1)))) : EB r (kR x):=by
 unfold kR
 rw [show p - 2 = (2 ^ 250 - 1) * 2 ^ 5 + ((1 + 1) * 2 ^ 2 + (1 + 1) + 1) from by decide];exact h
theorem Rb {a : List Nat} {x : F} (hA1 : EB a x) (w : World) :
  Calls Tryd.prog 72 #[.agg (Us a).toArray] w λe w'=>∃ r,EB r (kR x) /\ e = .returned (.agg (Us r).toArray) /\ Below w.heap.size w w':=by
 have hA : EB a (fP x 1):=by rw [yV]; exact hA1
 go_enter Tryd.func72,Tryd.ntmps72
 refine wp_seq_k λK hK=>?_;refine wp_region_lit ?_;refine jW (Us a).toArray rfl rfl rfl ?_;refine dN (zs:=z5) rfl rfl (by kernel_rfl) ?_;refine dP ?_
 go_simp
 refine hK _ _ ?_;clear hK K
 refine pM (λW=>Blk W w.heap.size 75 (Us a).toArray /\ Blk W (w.heap.size + 1) 75 z5 /\ Below w.heap.size w W)
  ⟨heap_alloc2_old w _ _,heap_alloc2_new w _ _,((Below.refl _ _).alloc (aF _) _).alloc (by simp) _⟩ ?_
 rintro W ⟨ha,ho,hbe⟩
 -- walk inv
 refine wp_seq_k λK hK=>?_;refine rN 3 3 75 (.tmp 7) z5 rfl rfl rfl rfl rfl rfl rfl (c9 rfl (by kernel_rfl)) ?_;simp only [a9,bN];refine fZ w.heap.size hA.len _ rfl rfl rfl (λ_ h=>h.blk ha) ?_;simp only [aE,aA,aB,aC];refine fZ w.heap.size hA.len _ rfl rfl rfl (λ_ h=>h.blk ha) ?_;simp only [aE,aA,aB,aC];refine iD rfl bK (λw1 _=>kZ hA hA w1) rfl rfl ?_
 intro r1 v1
 simp only [aE,aA,aB,aC];refine cL ⟨(Us r1).toArray,λ_=>rfl,λ_=>rfl,(bV v1.len).symm,bO _ (bV v1.len),cJ _,λgtwo W1 hgtwo hw1 hbtwo=>?_⟩;simp only [Exit.then,aE,aA,aB,aC];refine hK _ _ ?_;clear hK K;have ha:=hw1.blk ha;have ho:=hw1.blk ho;have hbe:=a6 hbe hw1;clear hw1;refine wp_seq_k λK hK=>?_;refine mO 6 4 75 (.tmp 13) z5 rfl rfl rfl rfl rfl rfl rfl (by kernel_rfl) (cC (by kernel_rfl)) (by kernel_rfl) (λ_ _ d _ _ h=>by cases d <;> exact h) (c9 rfl (by kernel_rfl)) ?_;simp only [a9,bN];refine fZ gtwo v1.len _ rfl rfl rfl (λ_ h=>h.blk hbtwo) ?_;simp only [aE,aA,aB,aC];refine iD rfl fK (λw1 _=>iN v1 2 (by omega) w1) rfl rfl ?_
 intro r2 v2
 simp only [aE,aA,aB,aC];refine fZ gtwo v1.len _ rfl rfl rfl (λ_ h=>h.blk hbtwo) ?_;simp only [aE,aA,aB,aC];refine iD rfl bK (λw1 _=>kZ v2 v1 w1) rfl rfl ?_
 intro r3 v3
 simp only [aE,aA,aB,aC];refine fZ w.heap.size hA.len _ rfl rfl rfl (λ_ h=>h.blk ha) ?_;simp only [aE,aA,aB,aC];refine iD rfl bK (λw1 _=>kZ v3 hA w1) rfl rfl ?_
 intro r4 v4
 simp only [aE,aA,aB,aC];refine cL ⟨(Us r4).toArray,λ_=>rfl,λ_=>rfl,(bV v4.len).symm,bO _ (bV v4.len),cJ _,λgeleven W1 hgeleven hw1 hbeleven=>?_⟩;simp only [Exit.then,aE,aA,aB,aC];refine hK _ _ ?_;clear hK K;have ha:=hw1.blk ha;have hbtwo:=hw1.blk hbtwo;have ho:=hw1.blk ho;have hbe:=a6 hbe hw1;clear hw1;refine wp_seq_k λK hK=>?_;refine vE 5 (.tmp 2) 75 (.tmp 18) rfl rfl rfl rfl (by kernel_rfl) (cC (by kernel_rfl)) (λ_ _ d _ _ h=>by cases d <;> exact h) ?_;simp only [a9,bN];refine fZ w.heap.size hA.len _ rfl rfl rfl (λ_ h=>h.blk ha) ?_;simp only [aE,aA,aB,aC];refine iD rfl Ge (λw1 _=>NC hA1 w1) rfl rfl ?_
 intro r90 v90
 simp only [aE,aA,aB,aC];refine iD rfl fK (λw1 _=>iN v90 5 (by omega) w1) rfl rfl ?_
 intro r91 v91
 simp only [aE,aA,aB,aC];refine fZ geleven v4.len _ rfl rfl rfl (λ_ h=>h.blk hbeleven) ?_;simp only [aE,aA,aB,aC];refine iD rfl bK (λw1 _=>kZ v91 v4 w1) rfl rfl ?_
 intro r92 v92
 simp only [aE,aA,aB,aC];refine cL ⟨(w.heap.size + 1),_,_,rfl,rfl,ho,(bV v92.len).symm,bO _ (bV v92.len),cJ _,λW1 hw1=>?_⟩;simp only [Exit.then];refine hK _ _ ?_;clear hK K;have ho:=hw1.blk ho;have hbe:=a6 hbe hw1;refine wp_ret ?_;refine bodyPost_ret (results_cell_row rfl _ _ (w.heap.size + 1) 75 (Us r92).toArray (0,0) _ rfl (ho.row _) Tryd.underlying75 rfl (bO _ (bV v92.len))) rfl ⟨r92,QQ v92,rfl,?_⟩;exact below_setRow hbe (by omega) _
 -- end inv
theorem To : (Tryd.prog.info? 49).map (λi=>(i.zero,i.size,i.bytes)) = some (some (.int .u64 0),1,8):=by kernel_rfl
theorem F9 (w : World) (l : List Nat) (i : Nat) (hi : i < l.length) : (part 49 (Us l).toArray (i * 1)).run Tryd.prog w = .ok (.int .u64 (l[i] : Nat)) w:=by
 have hagg : (isAgg 49).run Tryd.prog w = .ok false w:=by
  unfold isAgg
  rw [aJ,run_underlying Tryd.underlying49 w]
  rfl
 have hc : (Us l)[i]? = some (.int .u64 (l[i] : Nat)):=by simp [Us,List.getElem?_eq_getElem hi]
 unfold part
 simp [aJ,hagg,hc,aI]
theorem Qu (d x y : Nat) (w : World) : (fI (d + 1) 49 (.int .u64 (x : Int)) (.int .u64 (y : Int))).run Tryd.prog w = .ok (decide (x = y)) w:=by
 simp [fI,run_underlying Tryd.underlying49]
 by_cases h : x = y
 ·simp [h]
 ·simp [h]
  omega
theorem wH (d n t : Nat) (l m : List Nat) (ht : Tryd.prog.underlying t = some (.array n 49)) (hl : l.length = n) (hm : m.length = n) (w : World) :
  (fI (d + 2) t (.agg (Us l).toArray) (.agg (Us m).toArray)).run Tryd.prog w = .ok (decide (l = m)) w:=by
 obtain ⟨i0,hi0,hz0,hz1,hz2⟩:=info_parts To
 have hI : ∀ (I : List Nat),(∀ i ∈ I,i < n) -> (forIn I ((none : Option Bool),()) λi _=>do
   let a <-part 49 (Us l).toArray (i * 1)
   let b <-part 49 (Us m).toArray (i * 1)
   let r <-fI (d + 1) 49 a b
   if (!r) = true then pure (ForInStep.done (some false,())) else pure (ForInStep.yield (none,()))).run Tryd.prog w = .ok (if ∀ i ∈ I,l[i]! = m[i]! then (none,()) else (some false,())) w:=by
  intro I
  induction I with
  | nil=>intro _; simp [aI]
  | cons i I ih =>
   intro h
   have hi : i < l.length:=by have:=h i (by simp); omega
   have hj : i < m.length:=by have:=h i (by simp); omega
   have hp:=F9 w l i hi;have hq:=F9 w m i hj;have he:=Qu d l[i] m[i] w;have e1 : l[i]! = l[i]:=getElem!_pos l i hi;have e2 : m[i]! = m[i]:=getElem!_pos m i hj
   by_cases hx : l[i] = m[i]
   ·rw [show decide (l[i] = m[i]) = true by simp [hx]] at he
    simp only [Mf,aJ,hp,hq,aG,he,Bool.not_true,Bool.false_eq_true,if_false,aI];rw [ih (λj hj=>h j (by simp [hj]))]
    congr 1
    by_cases ha : ∀ i ∈ I,l[i]! = m[i]!
    ·have hb : ∀ j ∈ i :: I,l[j]! = m[j]!:=by
      intro j hj
      rcases List.mem_cons.mp hj with rfl | hj
      ·rw [e1,e2,hx]
      ·exact ha j hj
     rw [if_pos ha,if_pos hb]
    ·rw [if_neg ha,if_neg (λhb=>ha λj hj=>hb j (bE _ hj))]
   ·rw [show decide (l[i] = m[i]) = false by simp [hx]] at he
    simp only [Mf,aJ,hp,hq,aG,he,Bool.not_false,if_true,aI];rw [if_neg (λhb=>hx (by have:=hb i (bZ ..); rw [e1,e2] at this; exact this))]
 rw [fI];simp only [aJ,run_underlying ht,aG,sizeOf,typeInfo,run_program,hi0,hz1,aI,Std.Legacy.Range.forIn_eq_forIn_range']
 rw [hI _ (λi hi=>by
  have:=nI.1 hi
  simp [jB] at this
  omega)]
 by_cases hlm : l = m
 ·subst hlm
  simp [aI]
 ·have hne : ¬ ∀ i ∈ List.range' 0 n 1,l[i]! = m[i]!:=λha=>hlm (by
   apply eE (by rw [hl,hm])
   intro i h1 h2
   have:=ha i (nI.2 (by omega))
   rwa [getElem!_pos l i h1,getElem!_pos m i h2] at this)
  have hs : jB [:n] = n:=by simp [jB]
  rw [hs,if_neg hne,show decide (l = m) = false by simp [hlm]]
  rfl
theorem BN (w : World) (l : List Nat) (hl : l.length = 5) : (part 73 (Us l).toArray 0).run Tryd.prog w = .ok (.agg (Us l).toArray) w:=by
 have hagg : (isAgg 73).run Tryd.prog w = .ok true w:=by
  unfold isAgg
  rw [aJ,run_underlying Tryd.underlying73 w]
  rfl
 have hs : (sizeOf 73).run Tryd.prog w = .ok 5 w:=by kernel_rfl
 have he : (Us l).toArray.extract 0 (0 + 5) = (Us l).toArray:=by
  apply Array.ext'
  simp only [List.extract_toArray,List.extract_eq_take_drop,Nat.zero_add,Nat.sub_zero,List.drop_zero];exact bT (by rw [cY,hl]; exact aF _)
 unfold part
 simp only [aJ,hagg,aG,if_true,hs,aI,he]
theorem Eh (l : List Nat) (hl : l.length = 5) (w : World) : (Hu 75 (.agg (Us l).toArray) 0).run Tryd.prog w = .ok (.agg (Us l).toArray) w:=by
 have hp:=BN w l hl
 unfold Hu
 simp only [aJ,run_underlying Tryd.underlying75,aG];exact hp
theorem OL (l m : List Nat) (hl : l.length = 5) (hm : m.length = 5) (w : World) :
  (fI 10000 75 (.agg (Us l).toArray) (.agg (Us m).toArray)).run Tryd.prog w = .ok (decide (l = m)) w:=by
 have he:=wH 9997 5 73 l m Tryd.underlying73 hl hm w
 have hst : Tryd.prog.stoodInHeld 75 = false:=by kernel_rfl
 rw [fI];simp only [aJ,run_underlying Tryd.underlying75,aG,run_program,hst];have he' : (fI 9999 73 (.agg (Us l).toArray) (.agg (Us m).toArray)).run Tryd.prog w = .ok (decide (l = m)) w:=he;rw [if_neg (by decide)];have hp:=BN w l hl;have hq:=BN w m hm;generalize decide (l = m) = q at *
 cases q <;> simp [aJ,hp,hq,he',aI]
theorem NT : ∀ {a b : List Nat},a.length = b.length -> (∀ y ∈ a,y < 2251799813685248) -> (∀ y ∈ b,y < 2251799813685248) -> lv a = lv b -> a = b
 | [],[],_,_,_,_=>rfl
 | x :: a,y :: b,hl,ha,hb,h=>by
  have h1:=ha x (bZ ..);have h2:=hb y (bZ ..);have h3 : x + 2251799813685248 * lv a = y + 2251799813685248 * lv b:=h
  have h4 : x = y:=by omega
  have h5 : lv a = lv b:=by omega
  rw [h4,NT (by simpa using hl) (λz hz=>ha z (bE _ hz)) (λz hz=>hb z (bE _ hz)) h5]
theorem KO {a b : List Nat} {x y : F} (ha : EB a x) (hb : EB b y) : whole a = whole b ↔ x = y:=by
 obtain ⟨l1,b1,v1⟩:=nL ha;obtain ⟨l2,b2,v2⟩:=nL hb
 constructor
 ·intro h
  apply Fin.ext
  rw [<-v1,<-v2,h]
 ·rintro rfl
  exact NT (by rw [l1,l2]) b1 b2 (by rw [v1,v2])
theorem QP {a b : List Nat} {x y : F} (ha : EB a x) (hb : EB b y) (w : World) :
  Calls Tryd.prog 84 #[.agg (Us a).toArray,.agg (Us b).toArray] w λe w'=>e = .returned (.bool (decide (x = y))) /\ Below w.heap.size w w':=by
 have hq : decide (x = y) = decide (whole a = whole b):=decide_eq_decide.2 (KO ha hb).symm;rw [hq];clear hq;have l1:=(nL ha).1;have l2:=(nL hb).1;have hE:=λw1=>OL (whole a) (whole b) l1 l2 w1;have H1:=λw1=>Be ha w1;have H2:=λw1=>Be hb w1;generalize decide (whole a = whole b) = q at *;generalize whole a = u at *;generalize whole b = v at *;have hza:=ha.len;have hzb:=hb.len;have h0 : Blk ((w.alloc (gM (Us a).toArray 75)).alloc (gM (Us b).toArray 75)) w.heap.size 75 (Us a).toArray:=heap_alloc2_old w _ _;have h1 : Blk ((w.alloc (gM (Us a).toArray 75)).alloc (gM (Us b).toArray 75)) (w.heap.size + 1) 75 (Us b).toArray:=heap_alloc2_new w _ _;have hbel : Below w.heap.size w ((w.alloc (gM (Us a).toArray 75)).alloc (gM (Us b).toArray 75)):=((Below.refl _ _).alloc (aF _) _).alloc (by simp) _;clear ha hb
 go_enter Tryd.func84,Tryd.ntmps84
 go_wp2
 refine yG (by kernel_rfl) (cC (by kernel_rfl)) (λ_ _ d _ _ h=>by cases d <;> exact h) ?_;refine fZ w.heap.size hza _ rfl rfl rfl (λ_ h=>h.blk h0) ?_; simp only [aE,aA,aB,aC];refine jU rfl Dk (λw1=>H1 w1) rfl rfl ?_; simp only [aE,aA,aB,aC];refine fZ (w.heap.size + 1) hzb _ rfl rfl rfl (λ_ h=>h.blk h1) ?_; simp only [aE,aA,aB,aC];refine jU rfl Dk (λw1=>H2 w1) rfl rfl ?_; simp only [aE,aA,aB,aC];refine VZ (Us u).toArray (Us v).toArray rfl rfl rfl rfl (by kernel_rfl) hE ?_; simp only [aE,aA,aB,aC];refine Hj rfl rfl ?_; simp only [aE,aA,aB,aC];refine cL ?_
 intro w1 hw1
 have hb2:=a6 hbel hw1
 go_wp2
 go_ret
 exact ⟨rfl,hb2⟩
theorem KN {a : List Nat} {x : F} (ha : EB a x) : (whole a)[0]! % 2 = x.val % 2:=by
 obtain ⟨l1,_,v1⟩:=nL ha;obtain ⟨a0,a1,a2,a3,a4,h⟩:=AZ l1;rw [<-v1,h,lv5]
 show a0 % 2 = _
 omega
theorem Du {a : List Nat} {x : F} (ha : EB a x) (w : World) :
  Calls Tryd.prog 65 #[.agg (Us a).toArray] w λe w'=>e = .returned (.bool (decide (x.val % 2 = 1))) /\ Below w.heap.size w w':=by
 have ho:=KN ha;obtain ⟨l1,l2,_⟩:=nL ha;have H1:=λw1=>aH (Be ha w1);rw [<-ho];clear ho;obtain ⟨a0,a1,a2,a3,a4,h⟩:=AZ l1;rw [h] at H1 l2 ⊢;have ha0 : a0 < 2251799813685248:=l2 a0 (by simp);have e0 : (Us [a0,a1,a2,a3,a4]).toArray = #[.int .u64 (a0 : Int),.int .u64 (a1 : Int),.int .u64 (a2 : Int),.int .u64 (a3 : Int),.int .u64 (a4 : Int)]:=rfl;have e1 : [a0,a1,a2,a3,a4][0]! = a0:=rfl;rw [e1];rw [e0] at H1;have hza:=bV ha.len;have h0:=Blk.new w 75 (Us a).toArray;have hbel : Below w.heap.size w (w.alloc (gM (Us a).toArray 75)):=(Below.refl _ _).alloc (aF _) _
 have hand : bits .and .u64 (a0 : Int) 1 = ((a0 % 2 : Nat) : Int):=by
  have h:=u64_and_nat a0 1 (by omega) (by omega);rw [nat_mask1] at h;exact h
 go_enter Tryd.func65,Tryd.ntmps65
 go_wp2_with (refine wpList_load_row rfl 75 _ rfl w.heap.size rfl 75 (Us a).toArray (0,0) _ h0 Tryd.underlying75 rfl (bO _ hza) ?_)
 refine (H1 _).out.mono ?_
 rintro e w1 ⟨rfl,hw1⟩
 have hb2:=a6 hbel hw1
 have hfl : ∀ w1,(Hu 75 (.agg #[.int .u64 (a0 : Int),.int .u64 (a1 : Int),.int .u64 (a2 : Int),.int .u64 (a3 : Int),.int .u64 (a4 : Int)]) 0).run Tryd.prog w1 = .ok (.agg #[.int .u64 (a0 : Int),.int .u64 (a1 : Int),.int .u64 (a2 : Int),.int .u64 (a3 : Int),.int .u64 (a4 : Int)]) w1 :=
  λw1=>Eh [a0,a1,a2,a3,a4] rfl w1
 have hix : ∀ w1,(Instr.index 73 (.agg #[.int .u64 (a0 : Int),.int .u64 (a1 : Int),.int .u64 (a2 : Int),.int .u64 (a3 : Int),.int .u64 (a4 : Int)]) (.int .i64 0)).run Tryd.prog w1 = .ok (.int .u64 (a0 : Int)) w1:=λw1=>by kernel_rfl
 have hdec : (((a0 % 2 : Nat) : Int) == 1) = decide (a0 % 2 = 1):=by
  rw [Bool.eq_iff_iff]
  simp
  omega
 generalize ha2 : a0 % 2 = m at hand;rw [ha2] at hdec;have HD:=aH (show decide (m = 1) = decide (a0 % 2 = 1) by rw [ha2]);clear ha2
 go_wp2
 go_ret
 exact ⟨congrArg (λq=>Ending.returned (Value.bool q)) HD.out,hb2⟩
end Go.Proofs.YtfkchihlchlfdaaDoor
