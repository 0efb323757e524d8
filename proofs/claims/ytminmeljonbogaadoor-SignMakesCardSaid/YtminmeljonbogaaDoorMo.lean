/-
  SEVERAL TEXTS IN ONE: Mod, SumP, ScNew, LawR, SgVer, SgHalf, Sc, ScAdd, ProdP, ScMul, SgRef, SgRKey.
-/
import Derived.Test.YtminmeljonbogaaDoorMn
import Derived.Deep.OwnRows
import Derived.OwnWalk
import Derived.Test.YtminmeljonbogaaDoorMl
import Derived.Test.YtminmeljonbogaaDoorMe
import Derived.Test.YtminmeljonbogaaDoorMa
import Derived.StillTailTactics
/-
  THE DOCUMENT'S OWN SCALARS: Mod.
-/
namespace Go.Proofs.YtminmeljonbogaaDoor
open Go.RowKit Go.IntWalk Nums

def BL (w : World) (g : Nat) (l : List UInt8) : Prop:=g < w.heap.size ∧ ∀ j,j < l.length → w.cell? ⟨g,j,none⟩ = some (.int .u8 ((l[j]!).toNat : Int))
theorem BL.below {w w' : World} {g B : Nat} {l : List UInt8} (h : BL w g l) (hb : Below B w w') (hg : g < B) : BL w' g l :=
 ⟨Nat.lt_of_lt_of_le h.1 hb.size,fun j hj=>(hb.cell (p:=⟨g,j,none⟩) hg).trans (h.2 j hj)⟩

structure MS (w wr : World) (g : Nat) (m : List Int) (P : Nat) : Prop where
  hg : w.heap.size < g
  len : m.length = 33
  sm : Small2 m
  v : V2 m = ((P % LL : Nat) : Int)
  r : RL wr g m
  o : Blk wr w.heap.size 22 z32
  be : Below w.heap.size w wr
theorem MS.up {w wr w1 : World} {g : Nat} {m : List Int} {P : Nat} (h : MS w wr g m P) (hw : Below wr.heap.size wr w1) : MS w w1 g m P :=
 ⟨h.hg,h.len,h.sm,h.v,h.r.later hw,h.o.later hw,h.be.trans (hw.mono h.be.size)⟩

theorem made_ints (n : Nat) : madeCells #[.int .i64 0] n = (Is (List.replicate n 0)).toArray:=by
 apply Array.ext
 ·simp [size_madeCells,Is]
 ·intro i h1 h2
  simp [madeCells,Is,Nat.mod_one]
theorem RL.row {w : World} {g t : Nat} {l : List Int} (h : Blk w g t (Is l).toArray) : RL w g l :=
 ⟨h.lt,fun j hj=>(h.cell j).trans (by simp [Is,hj]),fun j _=>h.free j⟩

def filb (u : List UInt8) (k : Nat) : List UInt8:=u.take k ++ List.replicate (32 - k) 0
theorem filb_set {u : List UInt8} {k : Nat} (hk : k < 32) (hu : u.length = 32) : (filb u k).set k u[k]! = filb u (k + 1):=by
 unfold filb
 have e : 32 - k = (32 - (k + 1)) + 1:=by omega
 have hlen : (u.take k).length = k:=by rw [List.length_take]; omega
 rw [e,List.replicate_succ,List.take_succ_eq_append_getElem (by omega),List.append_assoc,List.set_append_right _ _ (by omega),hlen,Nat.sub_self,getElem!_pos u k (by omega)]
 rfl
theorem filb_len {u : List UInt8} {k : Nat} (hk : k ≤ 32) (hu : u.length = 32) : (filb u k).length = 32:=by
 unfold filb
 rw [List.length_append,List.length_take,List.length_replicate]
 omega
theorem filb_end {u : List UInt8} (hu : u.length = 32) : filb u 32 = u:=by
 unfold filb
 rw [List.take_of_length_le (by omega)]
 simp

set_option maxRecDepth 100000 in
set_option maxHeartbeats 8000000 in
theorem mod_any (l : List UInt8) (gb cb : Nat) (w : World) (hl : l.length < 100000) (h : BL w gb l) :
  Calls Tryd.prog 37 #[.slice (some ⟨gb,0,none⟩) l.length cb] w fun e w'=>e = .returned (.agg (By (Nums.bytes 32 (le l % LL))).toArray) ∧ Below w.heap.size w w':=by
 obtain ⟨i0,hi0,hz0,hz1,hz2⟩:=info_parts info_i64
 have hM0 : MS w ((w.alloc (.cells z32 22)).alloc (.cells (madeCells #[.int .i64 0] 33) 3)) (w.heap.size + 1) (List.replicate 33 0) 0:=by
  refine ⟨by omega,by simp,?_,by decide,?_,heap_alloc2_old w _ _,((Below.refl _ _).alloc (Nat.le_refl _) _).alloc (by simp) _⟩
  ·intro x hx
   obtain rfl:=List.eq_of_mem_replicate hx
   omega
  ·rw [made_ints]
   exact RL.row (heap_alloc2_new w _ _)
 have HM:=Lib.hid hM0;clear hM0
 go_enter Tryd.func37,Tryd.ntmps37
 go_wp2_with (at_make; refine wpList_make_row _ rfl _ _ 116 rfl 3 i0 _ Tryd.underlying116 hi0 hz0 hz1 rfl .i64 .i64 33 rfl rfl (by rw [hz2]; omega) (by omega) ?_)
 clear hi0 hz0 hz1 hz2 i0
 go_loopw [3,4] (fun r i wr=>∃ k : Nat,k ≤ l.length ∧ i = .int .i64 ((k : Int) - 1) ∧ ∃ g c m,r = .slice (some ⟨g,0,none⟩) 33 c ∧ MS w wr g m (le (l.drop k))) (fun _ i _=>(intOf i + 1).toNat)
 case atStart =>
  refine ⟨l.length,Nat.le_refl _,by go_num,w.heap.size + 1,33,List.replicate 33 0,rfl,?_⟩;rw [List.drop_length];exact HM.out
 case round =>
  clear HM;obtain ⟨k,hk,rfl,g,c,m,rfl,hM⟩:=hrel
  by_cases hlt : 0 < k
  ·obtain ⟨i,rfl⟩ : ∃ i,k = i + 1:=⟨k - 1,by omega⟩
   have e0 : (((i + 1 : Nat) : Int) - 1) = (i : Int):=by omega
   rw [e0];have HM:=Lib.hid hM;clear hM
   go_wp2
   go_loopw [3,5] (fun r b wr=>∃ t : Nat,t ≤ 8 ∧ b = .int .i64 ((128 / 2 ^ t : Nat) : Int) ∧ ∃ g c m,r = .slice (some ⟨g,0,none⟩) 33 c ∧ MS w wr g m (partL l i t)) (fun _ b _=>(intOf b).toNat)
   case atStart=>exact ⟨0,by omega,rfl,g,c,m,rfl,by rw [partL_zero]; exact HM.out⟩
   case round =>
    clear HM;obtain ⟨t,ht,rfl,g,c,m,rfl,hM⟩:=hrel
    by_cases h8 : t < 8
    ·have hx:=h.below hM.be h.1
     have cx:=hx.2 i (by omega);have hpn:=part_next (l:=l) (i:=i) h8
     have hqe : 128 / 2 ^ t = 2 ^ (7 - t):=by
      rw [show (128 : Nat) = 2 ^ 7 by decide,Nat.pow_div (by omega) (by decide)]
     have hq2 : 128 / 2 ^ t / 2 = 128 / 2 ^ (t + 1):=by rw [Nat.div_div_eq_div_mul,Nat.pow_succ]
     rw [← hqe] at hpn
     have hq0 : 0 < 128 / 2 ^ t:=by rw [hqe]; exact Nat.pow_pos (by decide)
     have hq1 : 128 / 2 ^ t ≤ 128:=Nat.div_le_self ..;have hxl:=(l[i]!).toNat_lt;generalize (l[i]!).toNat = x at *;generalize hP : partL l i t = P at *;generalize 128 / 2 ^ t = q at *
     have hdv : (x : Int).tdiv (q : Int) = ((x / q : Nat) : Int):=by rw [Int.tdiv_eq_ediv_of_nonneg (by omega)]; rfl
     have hrm : ((x / q : Nat) : Int).tmod 2 = ((x / q % 2 : Nat) : Int):=by rw [Int.tmod_eq_emod_of_nonneg (Int.natCast_nonneg _)]; rfl
     have hxq : x / q ≤ x:=Nat.div_le_self ..;have hb2 : x / q % 2 < 2:=Nat.mod_lt _ (by decide);generalize hbb : x / q % 2 = bb at *;generalize x / q = xq at *;have HM:=Lib.hid hM;have HP:=Lib.hid hpn;have HQ:=Lib.hid hq2
     have hi2 : (i : Int) < (l.length : Int):=by omega
     clear hM hpn hq2 hqe hx hbb hP
     go_wp2
     go_loopw [6,7] (fun cv kv wx=>∃ j : Nat,j ≤ 33 ∧ kv = .int .i64 j ∧ ∃ cc out,cv = .int .i64 cc ∧ Db m out (bb : Int) cc j ∧ RL wx g out ∧ Blk wx w.heap.size 22 z32 ∧ Below w.heap.size w wx) (fun _ kv _=>33 - (intOf kv).toNat)
     case atStart=>exact ⟨0,by omega,rfl,(bb : Int),m,rfl,Db.start (by omega),HM.out.r,HM.out.o,HM.out.be⟩
     case round =>
      obtain ⟨j,hj,rfl,cc,out,rfl,hD,hR,hO,hB⟩:=hrel;have hol:=hD.len HM.out.len hj
      by_cases hj3 : j < 33
      ·obtain ⟨⟨hy0,hy1⟩,⟨hc0,hc1⟩,hDn⟩:=hD.next HM.out.len HM.out.sm hj3
       have c0:=hR.2.1 j (by omega);have f0:=hR.2.2 j (by omega);have hRs:=hR.set j ((2 * out[j]! + cc) % 256);have hOs:=hO.far (p:=⟨g,j,none⟩) (by have:=HM.out.hg; simp; omega) (.int .i64 ((2 * out[j]! + cc) % 256));have hBs:=hB.setCell (p:=⟨g,j,none⟩) (by have:=HM.out.hg; simp; omega) (.int .i64 ((2 * out[j]! + cc) % 256));generalize out[j]! = y at *;have hm1 : (2 * y + cc).tmod 256 = (2 * y + cc) % 256:=Int.tmod_eq_emod_of_nonneg (by omega);have hd1 : (2 * y + cc).tdiv 256 = (2 * y + cc) / 256:=Int.tdiv_eq_ediv_of_nonneg (by omega);have HD:=Lib.hid (And.intro hDn (And.intro hRs (And.intro hOs hBs)));clear hD hR hO hB hDn hRs hOs hBs
       have hj33 : (j : Int) < 33:=by omega
       go_wp2
       go_roundw
       case rel=>exact ⟨j + 1,by omega,by go_num,_,_,rfl,HD.out.1,HD.out.2.1,HD.out.2.2.1,HD.out.2.2.2⟩
       case measure=>simp [intOf]; omega
      ·obtain rfl : j = 33:=by omega
       have hmv:=HM.out.v;obtain ⟨⟨hmlo,hmge⟩,hm2⟩:=mod_bit (P:=P) (v:=P % LL) rfl hb2;have hLL : LL = 7237005577332262213973186563042994240857116359379907606001950938285454250989:=rfl;obtain ⟨hsm,hv⟩:=hD.last HM.out.len (by rw [hmv,W2_33]; omega)
       have hq3 : (q : Int).tdiv 2 = ((128 / 2 ^ (t + 1) : Nat) : Int):=by rw [Int.tdiv_eq_ediv_of_nonneg (by omega),← HQ.out]; rfl
       have hqlt : 128 / 2 ^ (t + 1) < q:=by rw [← HQ.out]; omega
       have hPn:=HP.out;have hBl:=below_any out g c wr hol hsm hR.il;have hgg:=HM.out.hg
       by_cases hlo : 2 * (P % LL) + bb < LL
       ·have hlw : lowL out = true:=by
         unfold lowL
         rw [hv,hmv];exact decide_eq_true (by omega)
        rw [hlw] at hBl;have hMn : MS w wr g out (partL l i (t + 1)):=⟨hgg,hol,hsm,by rw [hv,hmv,hPn,← hmlo hlo]; omega,hR,hO,hB⟩;have HN:=Lib.hid hMn;have HBl:=Lib.hid hBl;clear hMn hBl hD hR hO hB hv hmv hmlo hmge hm2 hPn hlw hlo HM HP HQ hsm hLL;generalize hq2 : 128 / 2 ^ (t + 1) = q2 at *
        go_wp2_with (fail)
        refine HBl.out.mono ?_
        rintro e w2 ⟨rfl,hw2⟩
        have HN2:=Lib.hid (HN.out.up hw2);clear HN HBl hw2
        go_wp2
        go_roundw
        case rel=>exact ⟨t + 1,by omega,by rw [hq2],g,c,out,rfl,HN2.out⟩
        case measure=>simp [intOf]; omega
       ·have hlw : lowL out = false:=by
         unfold lowL
         rw [hv,hmv];exact decide_eq_false (by omega)
        have hLs:=fun w2 (hw2 : Below wr.heap.size wr w2)=>Lib.hid (less_any out g c w2 hol hsm (hR.later hw2).il hlw);rw [hlw] at hBl
        have hvv : V2 out - V2 od33 = ((partL l i (t + 1) % LL : Nat) : Int):=by
         rw [hv,hmv,hPn,← hmge hlo,V2_od33]
         omega
        have HBl:=Lib.hid hBl;have HF:=Lib.hid (And.intro hO (And.intro hB hvv));clear hBl hD hR hO hB hv hmv hmlo hmge hm2 hPn hlw hlo HM HP HQ hsm hLL hvv;generalize hq2 : 128 / 2 ^ (t + 1) = q2 at *
        go_wp2_with (fail)
        refine HBl.out.mono ?_
        rintro e w2 ⟨rfl,hw2⟩
        have hLs2:=hLs w2 hw2;clear hLs
        go_wp2_with (fail)
        refine hLs2.out.mono ?_
        rintro e w3 ⟨m3,g3,c3,hm3,hs3,hv3,hg3,hR3,rfl,hw3⟩
        have hMn : MS w w3 g3 m3 (partL l i (t + 1)):=⟨Nat.lt_of_lt_of_le (Nat.lt_of_lt_of_le HF.out.1.lt hw2.size) hg3,hm3,hs3,hv3.trans HF.out.2.2,hR3,(HF.out.1.later hw2).later hw3,(HF.out.2.1.trans (hw2.mono HF.out.2.1.size)).trans (hw3.mono (Nat.le_trans HF.out.2.1.size hw2.size))⟩;have HN2:=Lib.hid hMn;clear hMn HF HBl hLs2 hw2 hw3 hR3 hv3 hg3 hs3
        go_wp2
        go_roundw
        case rel=>exact ⟨t + 1,by omega,by rw [hq2],g3,c3,m3,rfl,HN2.out⟩
        case measure=>simp [intOf]; omega
    ·obtain rfl : t = 8:=by omega
     rw [part_eight (by omega)] at hM;have HM:=Lib.hid hM;clear hM
     go_wp2
     go_roundw
     case rel=>exact ⟨i,by omega,by go_num,g,c,m,rfl,HM.out⟩
     case measure=>simp [intOf]
  ·obtain rfl : k = 0:=by omega
   rw [List.drop_zero] at hM;obtain ⟨hm0,hmb⟩:=bytes_of hM.len hM.sm hM.v (Nat.mod_lt _ (by decide));have hul : (Nums.bytes 32 (le l % LL)).length = 32:=bytes_len _ _
   have hget : ∀ j,j < 32 → (((Nums.bytes 32 (le l % LL))[j]!).toNat : Int) = m[j]!:=fun j hj=>by
    have hs:=small_get hM.sm (i:=j) (by rw [hM.len]; omega);rw [← hmb,getElem!_pos _ j (by rw [List.length_map,List.length_take,hM.len]; omega),List.getElem_map,List.getElem_take,← getElem!_pos m j (by rw [hM.len]; omega),UInt8.toNat_ofNat_of_lt' (by show _ < 256; omega)]
    omega
   generalize hu : Nums.bytes 32 (le l % LL) = u at *;have HU:=Lib.hid hu;clear hu;have hso:=hM.o;have hwo:=hM.o.lt;have HM:=Lib.hid hM;have HG:=Lib.hid hget;have hnew : ∀ o,Blk (wr.alloc (.cells o 22)) wr.heap.size 22 o:=fun o=>Blk.new wr _ _
   have HS : Hid (Blk (wr.alloc (.cells z32 22)) wr.heap.size 22 (By (filb u 0)).toArray ∧ RL (wr.alloc (.cells z32 22)) g m ∧ Blk (wr.alloc (.cells z32 22)) w.heap.size 22 z32 ∧ Below w.heap.size w (wr.alloc (.cells z32 22))) :=
    Lib.hid ⟨hnew _,hM.r.later ((Below.refl _ _).alloc (Nat.le_refl _) _),hM.o.alloc _,hM.be.alloc hM.be.size _⟩
   have hgl:=hM.r.1;clear hM hm0 hmb hget hnew hso;generalize hgh : wr.heap.size = gh at *
   go_wp2
   clear hgh
   go_loopw [54] (fun iv wx=>∃ k : Nat,k ≤ 32 ∧ iv = .int .i64 k ∧ Blk wx gh 22 (By (filb u k)).toArray ∧ RL wx g m ∧ Blk wx w.heap.size 22 z32 ∧ Below w.heap.size w wx) (fun iv _=>32 - (intOf iv).toNat)
   case atStart=>exact ⟨0,by omega,rfl,HS.out⟩
   case round =>
    clear HS;obtain ⟨k,hk,rfl,hH,hR,hO,hB⟩:=hrel
    by_cases hlt : k < 32
    ·have c0:=hR.2.1 k (by rw [HM.out.len]; omega)
     have hsm:=small_get HM.out.sm (i:=k) (by rw [HM.out.len]; omega);have hgk:=HG.out k hlt;have hgr : g ≠ gh:=Nat.ne_of_lt hgl;have hfl:=filb_len (u:=u) (k:=k) (by omega) hul;have f0:=hH.free k;have cH:=(hH.cell k).trans (By_get (by omega));have hH2:=hH.set k (.int .u8 ((u[k]!).toNat : Int));rw [By_set,filb_set hlt hul,hgk] at hH2;have hR2:=hR.far (p:=⟨gh,k,none⟩) hgr (.int .u8 m[k]!);have hO2:=hO.far (p:=⟨gh,k,none⟩) (Nat.ne_of_lt hwo) (.int .u8 m[k]!);have hB2:=hB.setCell (p:=⟨gh,k,none⟩) (Nat.le_of_lt hwo) (.int .u8 m[k]!);have HD:=Lib.hid (And.intro hH2 (And.intro hR2 (And.intro hO2 hB2)));clear hH hR hO hB hH2 hR2 hO2 hB2 hgk;generalize m[k]! = y at *
     go_wp2
     go_roundw
     case rel=>exact ⟨k + 1,by omega,by go_num,HD.out⟩
     case measure=>simp [intOf]; omega
    ·obtain rfl : k = 32:=by omega
     rw [filb_end hul] at hH;have hz:=len_by hul;have HB:=Lib.hid hB;clear hB hR
     go_wp2_with (first
      | (refine wpList_load_row rfl 22 _ rfl gh rfl 22 (By u).toArray (0,0) _ hH Tryd.underlying22 rfl (size_hash _ hz) ?_)
      | (refine wpList_store_row rfl 22 _ _ rfl w.heap.size rfl (By u).toArray rfl 22 _ hO (size_hash _ hz) (by rw [hz]; rfl) (By_one _) ?_))
     refine bodyPost_ret (results_cell_row rfl _ _ w.heap.size 22 (By u).toArray (0,0) _ rfl (hO.row _) Tryd.underlying22 rfl (size_hash _ hz)) rfl ⟨by rw [HU.out],?_⟩;exact below_setRow HB.out (by omega) _
end Go.Proofs.YtminmeljonbogaaDoor
/-
  PLAIN NUMBERS: sums of bytes. No program is imported.
-/
namespace Nums

theorem le_take {l : List UInt8} {k : Nat} (h : k < l.length) : le (l.take (k + 1)) = le (l.take k) + 256 ^ k * (l[k]!).toNat:=by
 rw [List.take_succ_eq_append_getElem h,le_append,List.length_take,Nat.min_eq_left (by omega),getElem!_pos l k h]
 show _ + _ * (l[k].toNat + 256 * 0) = _
 rw [Nat.mul_zero,Nat.add_zero]
theorem le_take_set {l : List UInt8} {k : Nat} (x : UInt8) (h : k < l.length) : le ((l.set k x).take (k + 1)) = le (l.take k) + 256 ^ k * x.toNat:=by
 rw [le_take (by rw [List.length_set]; exact h),List.take_set_of_le (Nat.le_refl _),getElem!_pos _ k (by rw [List.length_set]; exact h),List.getElem_set_self]

def Sm (a b s : List UInt8) (cc k : Nat) : Prop:=s.length = 33 ∧ cc ≤ 1 ∧ le (s.take k) + cc * 256 ^ k = le (a.take k) + le (b.take k)
section
variable {a b s : List UInt8} {cc k : Nat}
theorem Sm.start (h : s.length = 33) : Sm a b s 0 0:=⟨h,by omega,rfl⟩
theorem Sm.next (h : Sm a b s cc k) (ha : a.length = 32) (hb : b.length = 32) (hk : k < 32) :
  Sm a b (s.set k (UInt8.ofNat ((cc + ((a[k]!).toNat + (b[k]!).toNat)) % 256))) ((cc + ((a[k]!).toNat + (b[k]!).toNat)) / 256) (k + 1):=by
 obtain ⟨hs,hc,hV⟩:=h;have hx:=(a[k]!).toNat_lt;have hy:=(b[k]!).toNat_lt;refine ⟨by rw [List.length_set,hs],by omega,?_⟩;rw [le_take_set _ (by omega),le_take (l:=a) (by omega),le_take (l:=b) (by omega),UInt8.toNat_ofNat_of_lt' (by show _ < 256; omega),Nat.pow_succ];generalize (a[k]!).toNat = x at *;generalize (b[k]!).toNat = y at *;have e:=Nat.mod_add_div (cc + (x + y)) 256;generalize (cc + (x + y)) % 256 = r at *;generalize (cc + (x + y)) / 256 = q at *;generalize 256 ^ k = W at *;generalize le (s.take k) = u at *;generalize le (a.take k) = v at *;generalize le (b.take k) = w at *
 have e2 : W * (r + 256 * q) = W * (cc + (x + y)):=by rw [e]
 rw [Nat.mul_add,Nat.mul_add,Nat.mul_add] at e2
 have e3 : q * (W * 256) = W * (256 * q):=by rw [Nat.mul_comm q,Nat.mul_assoc]
 have e4 : cc * W = W * cc:=Nat.mul_comm ..
 omega
theorem Sm.last (h : Sm a b s cc 32) (ha : a.length = 32) (hb : b.length = 32) : le (s.set 32 (UInt8.ofNat cc)) = le a + le b ∧ (s.set 32 (UInt8.ofNat cc)).length = 33:=by
 obtain ⟨hs,hc,hV⟩:=h;have h1:=le_take_set (l:=s) (k:=32) (UInt8.ofNat cc) (by omega)
 have hl : (s.set 32 (UInt8.ofNat cc)).length = 33:=by rw [List.length_set,hs]
 rw [List.take_of_length_le (by omega),UInt8.toNat_ofNat_of_lt' (by show _ < 256; omega)] at h1;rw [List.take_of_length_le (l:=a) (by omega),List.take_of_length_le (l:=b) (by omega)] at hV;refine ⟨?_,hl⟩;rw [h1,← hV,Nat.mul_comm]
end
theorem good_iff {b : List UInt8} (hb : b.length = 32) : decide (bytes 32 (le b % LL) = b) = decide (le b < LL):=by
 congr 1
 refine propext ⟨fun h=>?_,fun h=>?_⟩
 ·have h1:=congrArg le h
  rw [le_bytes] at h1;have h2 : le b % LL < LL:=Nat.mod_lt _ (by decide);have h3 : le b % LL % 256 ^ 32 = le b % LL:=Nat.mod_eq_of_lt (Nat.lt_trans h2 (by decide))
  omega
 ·apply le_inj (by rw [bytes_len,hb])
  rw [le_bytes,Nat.mod_eq_of_lt h,Nat.mod_eq_of_lt (Nat.lt_trans h (by decide))]
end Nums
/-
  THE PROGRAM'S SCALARS: New.
-/
namespace Go.Proofs.YtminmeljonbogaaDoor
open Go.RowKit Go.IntWalk Nums

theorem own_scnew : Own 43:=fun _ _=>by go_simp

def z64v : Array Value:=(By (List.replicate 64 0)).toArray
section
variable {ops : Array Oper} {C0 : World → Prop} {Q : Act → Prop} {a : Act} {o : Oper} {rest : List Oper}
theorem b_by64 {l : List UInt8} (g : Nat) (hl : l.length = 64) (x : Operand) (hg : Region.wanted o (yielded ops a.tmps) = true) (ho : o.op = .load 32 x) (hx : a.eval x = .pointer (some ⟨g,0,none⟩))
  (hc : ∀ w,C0 w → Blk w g 32 (By l).toArray) (hk : wpB Tryd.prog ops C0 Q rest (a.put o.dst (.agg (By l).toArray))) : wpB Tryd.prog ops C0 Q (o :: rest) a :=
 b_mid hg 32 x ho g 0 hx (By l) _ (fun w h=>(hc w h).range) Tryd.underlying32 rfl (size_w64 (By l).toArray (len_b64 hl)) hk
end

theorem le_zero : ∀ n,le (List.replicate n 0) = 0
 | 0=>rfl
 | n + 1=>by
  show (0 : UInt8).toNat + 256 * le (List.replicate n 0) = 0
  rw [le_zero n]
  rfl
theorem cop_half {b : List UInt8} (hb : b.length = 32) : (cop (List.replicate 64 0) 0 b).length = 64 ∧ le (cop (List.replicate 64 0) 0 b) = le b:=by
 have e : cop (List.replicate 64 0) 0 b = b ++ List.replicate 32 0:=by
  simp [cop,hb]
 rw [e];refine ⟨by simp [hb],?_⟩;rw [le_append,le_zero,Nat.mul_zero,Nat.add_zero]

/-! ### New -/
set_option maxRecDepth 100000 in
set_option maxHeartbeats 1000000 in
theorem scnew_f {b : List UInt8} (hb : b.length = 32) (w : World) :
  Calls Tryd.prog 43 #[.agg (By b).toArray] w fun e w'=>e = .returned (.tuple #[.agg (Us (ws (if le b < LL then le b else 0))).toArray,.bool (decide (le b < LL))]) ∧ Below w.heap.size w w':=by
 obtain ⟨hl,hle⟩:=cop_half hb;have hE:=fun w1=>equal32 (Nums.bytes 32 (le b % LL)) b (bytes_len _ _) hb w1;rw [good_iff hb] at hE;have hW:=fun w1=>wide_f hl w1;rw [hle] at hW;clear hle
 go_enter Tryd.func43,Tryd.ntmps43
 refine wp_seq_k fun K hK=>?_;refine wp_region_lit ?_;refine wpl_box (By b).toArray rfl rfl rfl ?_;refine wpl_alloc (zs:=z4) rfl rfl (by kernel_rfl) ?_;refine wpl_assign rfl rfl ?_;refine wpl_nil ?_
 go_simp
 refine hK _ _ ?_;clear hK K;refine wp_seq_k fun K hK=>?_;refine wp_region_lit ?_;refine wpl_alloc (zs:=z64v) rfl rfl (by kernel_rfl) ?_;refine wpl_nil ?_
 go_simp
 refine hK _ _ ?_;clear hK K;refine wp_at (fun W=>Blk W w.heap.size 22 (By b).toArray ∧ Blk W (w.heap.size + 1) 59 z4 ∧ Blk W (w.heap.size + 1 + 1) 32 z64v ∧ Below w.heap.size w W) ⟨blk3_0 w _ _ _ _,blk3_1 w _ _ _ _,blk3_2 w _ _ _ _,(((Below.refl _ _).alloc (Nat.le_refl _) _).alloc (by simp) _).alloc (by simp; omega) _⟩ ?_
 rintro W ⟨h0,h1,h2,hbe⟩
 refine wp_seq_k fun K hK=>?_;refine reg_copy 2 (.tmp 6) (.tmp 7) rfl rfl rfl (tail_ok (by kernel_rfl)) (fun _ _ d _ _ h=>by cases d <;> exact h) (by kernel_rfl) ?_;simp only [List.take_succ_cons,List.take_zero];refine b_val (v:=.slice (some ⟨w.heap.size + 1 + 1,0,none⟩) 64 64) rfl (fun w1 h1=>by go_simp) ?_;simp only [Act.put,List.setIfInBounds_toArray,List.set_cons_zero,List.set_cons_succ];refine b_val (v:=.slice (some ⟨w.heap.size,0,none⟩) 32 32) rfl (fun w1 h1=>by go_simp) ?_;simp only [Act.put,List.setIfInBounds_toArray,List.set_cons_zero,List.set_cons_succ];refine wpB_nil ⟨w.heap.size + 1 + 1,0,64,64,w.heap.size,32,_,_,_,b,rfl,by rw [hb]; rfl,h2,h0,by omega,by rw [hb,List.length_replicate]; omega,fun W1 hw1=>?_⟩;simp only [Exit.then,Act.put,List.setIfInBounds_toArray,List.set_cons_zero,List.set_cons_succ];refine hK _ _ ?_;clear hK K;have k0:=(hw1.blk h0).rowFar (g':=w.heap.size + 1 + 1) (by omega) (By (cop (List.replicate 64 0) 0 b)).toArray;have k1:=(hw1.blk h1).rowFar (g':=w.heap.size + 1 + 1) (by omega) (By (cop (List.replicate 64 0) 0 b)).toArray;have k2:=(hw1.blk h2).row (By (cop (List.replicate 64 0) 0 b)).toArray;have kbe:=below_setRow (below_up hbe hw1) (g:=w.heap.size + 1 + 1) (by omega) (By (cop (List.replicate 64 0) 0 b)).toArray;clear hw1 h0 h1 h2 hbe;generalize cop (List.replicate 64 0) 0 b = l at *;generalize W1.setRow (w.heap.size + 1 + 1) (By l).toArray = W2 at *;have hz:=len_u4 (ws_len (le b % LL));refine wp_seq_k fun K hK=>?_;refine reg_varF 2 5 59 (.tmp 10) z4 rfl rfl rfl rfl rfl rfl rfl (exec_alloc rfl (by kernel_rfl)) ?_;simp only [List.take_succ_cons,List.take_zero];refine b_by64 (w.heap.size + 1 + 1) hl _ rfl rfl rfl (fun _ h=>h.blk k2) ?_;simp only [Act.put,List.setIfInBounds_toArray,List.set_cons_zero,List.set_cons_succ];refine b_one rfl own_wide (fun w1=>hW w1) rfl rfl ?_;simp only [Act.put,List.setIfInBounds_toArray,List.set_cons_zero,List.set_cons_succ];refine wpB_nil ⟨(Us (ws (le b % LL))).toArray,fun _=>rfl,fun _=>rfl,hz.symm,size_sc _ hz,Us_one _,fun gx W3 hgx hw1 hbx=>?_⟩;simp only [Exit.then,Act.put,List.setIfInBounds_toArray,List.set_cons_zero,List.set_cons_succ];refine hK _ _ ?_;clear hK K;have k0:=hw1.blk k0;have k1:=hw1.blk k1;have kbe:=below_up kbe hw1;clear hw1 k2 hW hl;refine wp_seq_k fun K hK=>?_;refine wp_seq_k fun K2 hK2=>?_;refine reg_q (by kernel_rfl) (tail_ok (by kernel_rfl)) (fun _ _ d _ _ h=>by cases d <;> exact h) ?_;refine b_sc gx (ws_len _) _ rfl rfl rfl (fun _ h=>h.blk hbx) ?_;simp only [Act.put,List.setIfInBounds_toArray,List.set_cons_zero,List.set_cons_succ];refine b_one rfl own_schash (fun w1=>schash_f (le b % LL) w1) rfl rfl ?_;simp only [Act.put,List.setIfInBounds_toArray,List.set_cons_zero,List.set_cons_succ];refine b_by w.heap.size hb _ rfl rfl rfl (fun _ h=>h.blk k0) ?_;simp only [Act.put,List.setIfInBounds_toArray,List.set_cons_zero,List.set_cons_succ]
 refine b_neq (By (Nums.bytes 32 (le b % LL))).toArray (By b).toArray rfl rfl rfl rfl (by kernel_rfl) hE ?_;simp only [Act.put,List.setIfInBounds_toArray,List.set_cons_zero,List.set_cons_succ];refine wpB_nil ?_
 intro W1 hw1
 simp only [Exit.then];refine hK2 _ _ ?_;clear hK2 K2;have hbx:=hw1.blk hbx;have k1:=hw1.blk k1;have kbe:=below_up kbe hw1;clear hw1 k0 hE
 by_cases hq : le b < LL
 ·rw [decide_eq_true hq]
  have hm : le b % LL = le b:=Nat.mod_eq_of_lt hq;rw [hm] at hbx hz;refine wp_cond (t:=false) rfl ?_;rw [if_neg (by decide)];refine wp_skip ?_;simp only [Exit.then];refine hK _ _ ?_;clear hK K;refine wp_seq_k fun K hK=>?_;refine wp_region_lit ?_;refine wpList_load_row rfl 59 _ rfl gx rfl 59 (Us (ws (le b))).toArray (0,0) _ hbx Tryd.underlying59 rfl (size_sc _ hz) ?_;simp only [Act.put,List.setIfInBounds_toArray,List.set_cons_zero,List.set_cons_succ];refine wpList_store_row rfl 59 _ _ rfl (w.heap.size + 1) rfl (Us (ws (le b))).toArray rfl 59 _ k1 (size_sc _ hz) (by rw [hz]; rfl) (Us_one _) ?_;refine wpl_assign rfl rfl ?_;refine wpl_nil ?_;simp only [Exit.then,Act.put,List.setIfInBounds_toArray,List.set_cons_zero,List.set_cons_succ];refine hK _ _ ?_;clear hK K;refine wp_ret ?_;refine bodyPost_ret (results_cell_tmp rfl _ _ (w.heap.size + 1) 59 (Us (ws (le b))).toArray (0,0) _ (.bool true) rfl rfl (k1.row _) Tryd.underlying59 rfl (size_sc _ hz)) rfl ⟨by rw [if_pos hq,decide_eq_true hq],?_⟩;exact below_setRow kbe (by omega) _
 ·rw [decide_eq_false hq]
  refine wp_cond (t:=true) rfl ?_;rw [if_pos rfl];refine wp_seq_k fun K2 hK2=>?_;refine wp_region_lit ?_;refine wpl_build (t:=59) [] z4 rfl rfl rfl (by kernel_rfl) ?_;simp only [Act.put,List.setIfInBounds_toArray,List.set_cons_zero,List.set_cons_succ];refine wpList_store_row rfl 59 _ _ rfl (w.heap.size + 1) rfl z4 rfl 59 _ k1 (size_sc _ rfl) rfl (Us_one _) ?_;refine wpl_assign rfl rfl ?_;refine wpl_nil ?_;simp only [Exit.then,Act.put,List.setIfInBounds_toArray,List.set_cons_zero,List.set_cons_succ];refine hK2 _ _ ?_;clear hK2 K2 hK;refine wp_ret ?_;simp only [Exit.then];refine bodyPost_ret (results_cell_tmp rfl _ _ (w.heap.size + 1) 59 z4 (0,0) _ (.bool false) rfl rfl (k1.row _) Tryd.underlying59 rfl (size_sc _ rfl)) rfl ⟨by rw [if_neg hq]; rfl,?_⟩;exact below_setRow kbe (by omega) _

end Go.Proofs.YtminmeljonbogaaDoor
/-
  STEPS AT THE DOCUMENT'S OWN POINTS, over frames by what is known of them.
-/
namespace Go.Proofs.YtminmeljonbogaaDoor
open Go.RowKit Go.IntWalk Nums

theorem own_rnew : Own 8:=fun _ _=>by go_simp
theorem own_rbase : Own 35:=fun _ _=>by go_simp
theorem own_rmul5 : Own 34:=fun _ _=>by go_simp
theorem own_rbytes : Own 33:=fun _ _=>by go_simp
theorem own_cboth : Own 44:=fun _ _=>by go_simp
theorem Is_oneA (l : List Int) : ∀ v ∈ (Is l).toArray.toList,v.oneCell' = true:=fun v hv=>Is_one l v (by simpa using hv)
theorem size_C {l : List Int} (h : l.length = 16) : (Tryd.prog.info? 29).map (·.size) = some (Is l).toArray.size:=size_curve _ (by rw [List.size_toArray,Is_len,h])
theorem size_C0 {l : List Int} (h : l.length = 16) : (Is n16).toArray.size = (Is l).toArray.size:=by rw [List.size_toArray,List.size_toArray,Is_len,Is_len,h,n16_len]
section
variable {ops : Array Oper} {C0 : World → Prop} {Q : Act → Prop} {N : Nat} {E : List (Nat × Value)} {o : Oper} {rest : List Oper} {k : Nat}
theorem f_cu {x : Operand} {l : List Int} (b : Nat) (hl : l.length = 16) (hg : o.guard = none) (hd : o.dst = some k) (hk : Nat.blt k N = true) (ho : o.op = .load 29 x) (hx : ev E x = some (.pointer (some ⟨b,0,none⟩)))
  (hc : ∀ w,C0 w → w.rangeAt b 0 (Is l)) (hn : bF Tryd.prog ops C0 Q rest N ((k,.agg (Is l).toArray) :: E)) : bF Tryd.prog ops C0 Q (o :: rest) N E :=
 f_row b 0 (Is l) _ hg hd hk ho hx hc Tryd.underlying29 rfl (by have:=size_C hl; simpa using this) hn
theorem f_cur {f : FuncId} {xs : Array Operand} {ats : Array TypeId} (args : Array Value) (hg : o.guard = none) (hd : o.dst = some k) (hk : Nat.blt k N = true)
  (hf : Own f) (hc : ∀ w,C0 w → Calls Tryd.prog f args w (fun e w'=>∃ r,NB 65573 r dd ∧ e = .returned (.agg (Is r).toArray) ∧ Below w.heap.size w w'))
  (ho : o.op = .call { callee:=.value (.func f),args:=xs,argTypes:=ats }) (hx : xs.toList.map (ev E) = args.toList.map some) (hn : ∀ r,NB 65573 r dd → bF Tryd.prog ops C0 Q rest N ((k,.agg (Is r).toArray) :: E)) : bF Tryd.prog ops C0 Q (o :: rest) N E:=by
 refine f_callV args (fun v=>∃ r,NB 65573 r dd ∧ v = .agg (Is r).toArray) hg hd hk hf (fun w hw=>(hc w hw).mono ?_) ho hx ?_
 ·rintro e w2 ⟨r,hr,rfl,hw2⟩
  exact ⟨_,rfl,⟨r,hr,rfl⟩,hw2⟩
 ·rintro _ ⟨r,hr,rfl⟩
  exact hn r hr
theorem f_rpt {f : FuncId} {xs : Array Operand} {ats : Array TypeId} (args : Array Value) (A : Ed.Pt p) (hg : o.guard = none) (hd : o.dst = some k) (hk : Nat.blt k N = true)
  (hf : Own f) (hc : ∀ w,C0 w → Calls Tryd.prog f args w (fun e w'=>∃ X Y Z T,PR X Y Z T A ∧ e = .returned (.agg (pt X Y Z T).toArray) ∧ Below w.heap.size w w'))
  (ho : o.op = .call { callee:=.value (.func f),args:=xs,argTypes:=ats }) (hx : xs.toList.map (ev E) = args.toList.map some) (hn : ∀ X Y Z T,PR X Y Z T A → bF Tryd.prog ops C0 Q rest N ((k,.agg (pt X Y Z T).toArray) :: E)) : bF Tryd.prog ops C0 Q (o :: rest) N E:=by
 refine f_callV args (fun v=>∃ X Y Z T,PR X Y Z T A ∧ v = .agg (pt X Y Z T).toArray) hg hd hk hf (fun w hw=>(hc w hw).mono ?_) ho hx ?_
 ·rintro e w2 ⟨X,Y,Z,T,hr,rfl,hw2⟩
  exact ⟨_,rfl,⟨X,Y,Z,T,hr,rfl⟩,hw2⟩
 ·rintro _ ⟨X,Y,Z,T,hr,rfl⟩
  exact hn X Y Z T hr
end
end Go.Proofs.YtminmeljonbogaaDoor
/-
  THE PROGRAM'S SIGNATURES: Verify.
-/
namespace Go.Proofs.YtminmeljonbogaaDoor
open Go.RowKit Go.IntWalk Nums

theorem own_verify : Own 13:=fun _ _=>by go_simp
open Classical in
noncomputable def rightB (key sig m : List UInt8) : Bool:=decide (Right key sig m)
open Classical in
theorem rightB_no {key sig m : List UInt8} (h : ¬ ∃ A,Ed.On dd A ∧ encP A = key) : rightB key sig m = false:=decide_eq_false fun ⟨A,h1,h2,_⟩=>h ⟨A,h1,h2⟩
open Classical in
theorem rightB_small {A : Ed.Pt p} {sig m : List UInt8} (hA : Ed.On dd A) (h : Ed.mul dd 8 A = Ed.zero) : rightB (encP A) sig m = false:=decide_eq_false fun ⟨B,h1,h2,h3,_⟩=>h3 (by rw [encP_inj h1 hA h2]; exact h)
open Classical in
theorem rightB_great {key sig m : List UInt8} (h : ¬ le (sig.drop 32) < LL) : rightB key sig m = false:=decide_eq_false fun ⟨_,_,_,_,h4,_⟩=>h h4
theorem rightB_is {A : Ed.Pt p} {sig m : List UInt8} (hA : Ed.On dd A) (h8 : Ed.mul dd 8 A ≠ Ed.zero) (hS : le (sig.drop 32) < LL) :
  rightB (encP A) sig m = decide (encP (Ed.add dd (Ed.mul dd (le (Nums.bytes 32 (le (sig.drop 32)))) base) (Ed.mul dd (le (Nums.bytes 32 (sgK (sig.take 32) (encP A) m))) (Ed.neg A))) = sig.take 32):=by
 rw [le_bytesL hS,le_bytesL (sgK_lt _ _ _),Ed.mul_neg good hA]
 unfold rightB
 rw [decide_eq_decide]
 constructor
 ·rintro ⟨B,h1,h2,_,_,h5⟩
  obtain rfl:=encP_inj h1 hA h2;exact h5
 ·exact fun h=>⟨A,hA,rfl,h8,hS,h⟩
theorem small_dec {A : Ed.Pt p} (hA : Ed.On dd A) : encP (Ed.mul dd 8 A) = encP Ed.zero ↔ Ed.mul dd 8 A = Ed.zero :=
 ⟨fun h=>encP_inj (Ed.on_mul good hA 8) Ed.on_zero h,fun h=>by rw [h]⟩
section
variable {ops : Array Oper} {C0 : World → Prop} {Q : Act → Prop} {N : Nat} {E : List (Nat × Value)} {o : Oper} {rest : List Oper} {k : Nat}
theorem f_neE {x y : Operand} {t t' : TypeId} (m n : Int) (q : Bool) (hg : o.guard = none) (hd : o.dst = some k) (hk : Nat.blt k N = true) (ho : o.op = .binOp .neq t x y t') (ht : t = 42) (hx : ev E x = some (.int .i64 m)) (hy : ev E y = some (.int .i64 n))
  (hr : decide (m ≠ n) = q) (hn : bF Tryd.prog ops C0 Q rest N ((k,.bool q) :: E)) : bF Tryd.prog ops C0 Q (o :: rest) N E:=by
 subst ht
 exact f_val _ hg hd hk (fun a ha w _=>by
  have h1:=ha.eval hx;have h2:=ha.eval hy;subst hr
  unfold execOp
  simp only [ho,h1,h2]
  by_cases e : m = n <;> go_simp) hn
end

set_option maxRecDepth 100000 in
set_option maxHeartbeats 2000000 in
theorem verify_f {key sig : List UInt8} {P : Option Addr} {ls : List (List UInt8)} {pc : Nat} (hk : key.length = 32) (hs : sig.length = 64) (w : World) (hT : Ta w) (hP : PT w P ls) (h0 : P = none → pc = 0) (hls : ls.length ≤ 1000000) :
  Calls Tryd.prog 13 #[.agg (By key).toArray,.agg (By sig).toArray,.slice P ls.length pc] w fun e w'=>e = .returned (.bool (rightB key sig ls.flatten)) ∧ Below w.heap.size w w':=by
 refine calls_F (vs:=[.agg (By key).toArray,.agg (By sig).toArray,.slice P ls.length pc]) 50 Tryd.func13 rfl (by rw [Tryd.ntmps13]; rfl) ?_;have hU:=Up.refl w;refine c_seq fun K hK=>?_;refine c_lit ?_;refine l_boxA ((By key).toArray) rfl rfl rfl rfl rfl fun W1 g1 hw1 hg1 b1=>?_;replace hU:=hU.step hw1;clear hw1 hg1;refine l_boxA ((By sig).toArray) rfl rfl rfl rfl rfl fun W2 g2 hw2 hg2 b2=>?_;replace b1:=b1.later hw2;replace hU:=hU.step hw2;clear hw2 hg2;refine l_assign (.bool false) rfl rfl rfl rfl rfl ?_;refine l_nil ?_;refine hK _ _ ?_;clear hK K
 by_cases hA : ∃ A,Ed.On dd A ∧ encP A = key
 ·obtain ⟨A,hA,rfl⟩:=hA
  refine c_seq fun K hK=>?_;refine c_gF 5 ?_;refine g_op rfl ?_;refine f_by g1 0 hk rfl rfl rfl rfl rfl (fun _ h1=>(h1.1.blk b1).range) ?_;refine g_go ?_;refine g_op rfl ?_;refine f_callV #[.agg (By (encP A)).toArray] (fun v=>∃ l,QB l A ∧ v = .tuple #[.agg (Us l).toArray,.int .i64 0]) rfl rfl rfl own_cdecode (fun w1 h1=>cdec_pt hA w1 (hT.below (hU.step h1.1)).tw) rfl rfl ?_
  rintro _ ⟨l,hl,rfl⟩
  refine g_go ?_;refine g_op rfl ?_;refine f_move (.tuple #[.agg (Us l).toArray,.int .i64 0]) rfl rfl rfl rfl rfl ?_;refine g_go ?_;refine g_op rfl ?_;refine f_extract (.agg (Us l).toArray) rfl rfl rfl rfl rfl rfl ?_;refine g_go ?_;refine g_op rfl ?_;refine f_extract (.int .i64 0) rfl rfl rfl rfl rfl rfl ?_;refine g_go ?_;refine g_end fun W3 hw3 hF3=>?_;clear hF3;replace b1:=b1.later hw3;replace b2:=b2.later hw3;replace hU:=hU.step hw3;clear hw3;refine l_allocA ((Us pz).toArray) rfl rfl rfl rfl (by kernel_rfl) fun W4 g4 hw4 hg4 b4=>?_
  have n1_4 : g1 ≠ g4:=by have:=b1.lt; omega
  have n2_4 : g2 ≠ g4:=by have:=b2.lt; omega
  have q4 : w.heap.size ≤ g4:=by rw [hg4]; exact hU.size
  replace b1:=b1.later hw4;replace b2:=b2.later hw4;replace hU:=hU.step hw4;clear hw4 hg4;refine l_set g4 _ ((Us l).toArray) rfl rfl rfl rfl rfl b4 (size_P hl.len) ((us_size pz_len).trans (us_size hl.len).symm) (Us_oneA _) ?_;replace b1:=b1.rowFar n1_4 ((Us l).toArray);replace b2:=b2.rowFar n2_4 ((Us l).toArray);replace b4:=b4.row ((Us l).toArray);replace hU:=up_row hU q4 ((Us l).toArray);generalize World.setRow _ g4 ((Us l).toArray) = W5 at *;refine l_assign (.int .i64 0) rfl rfl rfl rfl rfl ?_;refine l_nil ?_;refine hK _ _ ?_;clear hK K;have hsm:=small_dec hA;refine c_seq fun K0 hK0=>?_;refine c_seq fun K hK=>?_;refine c_gF 6 ?_;refine g_op rfl ?_;refine f_move (.int .i64 0) rfl rfl rfl rfl rfl ?_;refine g_go ?_;refine g_op rfl ?_;refine f_neE _ 0 false rfl rfl rfl rfl rfl rfl rfl (by decide) ?_;refine g_go ?_;refine g_op rfl ?_;refine f_move (.bool false) rfl rfl rfl rfl rfl ?_;refine g_go ?_;refine g_guard rfl rfl rfl rfl ?_;refine g_op rfl ?_;refine f_pt g4 0 hl.len rfl rfl rfl rfl rfl (fun _ h1=>(h1.1.blk b4).range) ?_;refine g_go ?_;refine g_guard rfl rfl rfl rfl ?_;refine g_op rfl ?_;refine f_call #[.agg (Us l).toArray] (.bool (decide (encP (Ed.mul dd 8 A) = encP Ed.zero))) rfl rfl rfl own_csmall (fun w1 h1=>csmall_f (.inr hl) w1 (hT.below (hU.step h1.1)).tw) rfl rfl ?_;refine g_go ?_;refine g_op rfl ?_;refine f_pickF (.bool ((decide (encP (Ed.mul dd 8 A) = encP Ed.zero)))) rfl rfl rfl rfl rfl rfl ?_;refine g_go ?_;refine g_end fun W6 hw6 hF6=>?_;clear hF6;replace b1:=b1.later hw6;replace b2:=b2.later hw6;replace b4:=b4.later hw6;replace hU:=hU.step hw6;clear hw6;refine l_nil ?_;refine hK _ _ ?_;clear hK K
  by_cases h8 : Ed.mul dd 8 A = Ed.zero
  ·rw [decide_eq_true (hsm.2 h8)]
   refine c_cond true rfl ?_;rw [if_pos rfl];refine c_seq fun K hK=>?_;refine c_lit ?_;refine l_assign (.bool false) rfl rfl rfl rfl rfl ?_;refine l_nil ?_;refine hK _ _ ?_;clear hK K;rw [rightB_small hA h8];exact c_ret (k_then_ret (fun a ha=>bodyPost_ret (results_tmp rfl _ _ _) ha.defers ⟨congrArg Ending.returned (ha.get 6 _ rfl),hU⟩))
  ·rw [decide_eq_false fun h=>h8 (hsm.1 h)]
   refine c_cond false rfl ?_;rw [if_neg (by decide)];refine c_skip ?_;refine hK0 _ _ ?_;clear hK0 K0;clear hsm;refine c_seq fun K hK=>?_;refine c_gF 7 ?_;refine g_op rfl ?_;refine f_slice64h g2 rfl rfl rfl rfl rfl ?_;refine g_go ?_;refine g_op rfl ?_;refine f_arrp (some ⟨g2,32,none⟩) 32 rfl rfl rfl rfl rfl ?_;refine g_go ?_;refine g_op rfl ?_;refine f_by g2 32 (drop32 hs) rfl rfl rfl rfl rfl (fun _ h1=>rng_drop (h1.1.blk b2) hs) ?_;refine g_go ?_;refine g_op rfl ?_;refine f_call #[.agg (By (sig.drop 32)).toArray] (.tuple #[.agg (Us (ws ((if le (sig.drop 32) < LL then le (sig.drop 32) else 0)))).toArray,.bool ((decide (le (sig.drop 32) < LL)))]) rfl rfl rfl own_scnew (fun w1 h1=>scnew_f (drop32 hs) w1) rfl rfl ?_;refine g_go ?_;refine g_op rfl ?_;refine f_move (.tuple #[.agg (Us (ws ((if le (sig.drop 32) < LL then le (sig.drop 32) else 0)))).toArray,.bool ((decide (le (sig.drop 32) < LL)))]) rfl rfl rfl rfl rfl ?_;refine g_go ?_;refine g_op rfl ?_;refine f_extract (.agg (Us (ws ((if le (sig.drop 32) < LL then le (sig.drop 32) else 0)))).toArray) rfl rfl rfl rfl rfl rfl ?_;refine g_go ?_;refine g_op rfl ?_;refine f_extract (.bool ((decide (le (sig.drop 32) < LL)))) rfl rfl rfl rfl rfl rfl ?_;refine g_go ?_;refine g_end fun W7 hw7 hF7=>?_;clear hF7;replace b1:=b1.later hw7;replace b2:=b2.later hw7;replace b4:=b4.later hw7;replace hU:=hU.step hw7;clear hw7;refine l_allocA z4 rfl rfl rfl rfl (by kernel_rfl) fun W8 g8 hw8 hg8 b8=>?_
   have n1_8 : g1 ≠ g8:=by have:=b1.lt; omega
   have n2_8 : g2 ≠ g8:=by have:=b2.lt; omega
   have n4_8 : g4 ≠ g8:=by have:=b4.lt; omega
   have q8 : w.heap.size ≤ g8:=by rw [hg8]; exact hU.size
   replace b1:=b1.later hw8;replace b2:=b2.later hw8;replace b4:=b4.later hw8;replace hU:=hU.step hw8;clear hw8 hg8;refine l_set g8 _ ((Us (ws ((if le (sig.drop 32) < LL then le (sig.drop 32) else 0)))).toArray) rfl rfl rfl rfl rfl b8 (size_S _) (by rw [us_size (ws_len _)]; rfl) (Us_oneA _) ?_;replace b1:=b1.rowFar n1_8 ((Us (ws ((if le (sig.drop 32) < LL then le (sig.drop 32) else 0)))).toArray);replace b2:=b2.rowFar n2_8 ((Us (ws ((if le (sig.drop 32) < LL then le (sig.drop 32) else 0)))).toArray);replace b4:=b4.rowFar n4_8 ((Us (ws ((if le (sig.drop 32) < LL then le (sig.drop 32) else 0)))).toArray);replace b8:=b8.row ((Us (ws ((if le (sig.drop 32) < LL then le (sig.drop 32) else 0)))).toArray);replace hU:=up_row hU q8 ((Us (ws ((if le (sig.drop 32) < LL then le (sig.drop 32) else 0)))).toArray);generalize World.setRow _ g8 ((Us (ws ((if le (sig.drop 32) < LL then le (sig.drop 32) else 0)))).toArray) = W9 at *;refine l_assign (.bool ((decide (le (sig.drop 32) < LL)))) rfl rfl rfl rfl rfl ?_;refine l_nil ?_;refine hK _ _ ?_;clear hK K
   by_cases hS : le (sig.drop 32) < LL
   ·rw [decide_eq_true hS]
    refine c_seq fun K0 hK0=>?_;refine c_seq fun K hK=>?_;refine c_gF 2 ?_;refine g_op rfl ?_;refine f_move (.bool true) rfl rfl rfl rfl rfl ?_;refine g_go ?_;refine g_op rfl ?_;refine f_not true false rfl rfl rfl rfl rfl rfl ?_;refine g_go ?_;refine g_end fun W10 hw10 hF10=>?_;clear hF10;replace b1:=b1.later hw10;replace b2:=b2.later hw10;replace b4:=b4.later hw10;replace b8:=b8.later hw10;replace hU:=hU.step hw10;clear hw10;refine l_nil ?_;refine hK _ _ ?_;clear hK K;refine c_cond false rfl ?_;rw [if_neg (by decide)];refine c_skip ?_;refine hK0 _ _ ?_;clear hK0 K0;rw [if_pos hS] at b8;refine c_seq fun K hK=>?_;refine c_gF 3 ?_;refine g_op rfl ?_;refine f_slice64l g2 rfl rfl rfl rfl rfl ?_;refine g_go ?_;refine g_op rfl ?_;refine f_arrp (some ⟨g2,0,none⟩) 64 rfl rfl rfl rfl rfl ?_;refine g_go ?_;refine g_op rfl ?_;refine f_by g2 0 (take32 hs) rfl rfl rfl rfl rfl (fun _ h1=>rng_take (h1.1.blk b2) hs) ?_;refine g_go ?_;refine g_end fun W11 hw11 hF11=>?_;clear hF11;replace b1:=b1.later hw11;replace b4:=b4.later hw11;replace b8:=b8.later hw11;replace hU:=hU.step hw11;clear hw11;refine l_allocA z32 rfl rfl rfl rfl (by kernel_rfl) fun W12 g12 hw12 hg12 b12=>?_
    have n1_12 : g1 ≠ g12:=by have:=b1.lt; omega
    have n4_12 : g4 ≠ g12:=by have:=b4.lt; omega
    have n8_12 : g8 ≠ g12:=by have:=b8.lt; omega
    have q12 : w.heap.size ≤ g12:=by rw [hg12]; exact hU.size
    replace b1:=b1.later hw12;replace b4:=b4.later hw12;replace b8:=b8.later hw12;replace hU:=hU.step hw12;clear hw12 hg12;refine l_set g12 _ ((By (sig.take 32)).toArray) rfl rfl rfl rfl rfl b12 (size_H (take32 hs)) (by rw [len_by (take32 hs)]; rfl) (By_oneA _) ?_;replace b1:=b1.rowFar n1_12 ((By (sig.take 32)).toArray);replace b4:=b4.rowFar n4_12 ((By (sig.take 32)).toArray);replace b8:=b8.rowFar n8_12 ((By (sig.take 32)).toArray);replace b12:=b12.row ((By (sig.take 32)).toArray);replace hU:=up_row hU q12 ((By (sig.take 32)).toArray);generalize World.setRow _ g12 ((By (sig.take 32)).toArray) = W13 at *;refine l_nil ?_;refine hK _ _ ?_;clear hK K;refine c_seq fun K hK=>?_;refine c_g 5 (by decide) (by kernel_rfl) (by kernel_rfl) ?_;refine g_op rfl ?_;refine f_slice32 g12 rfl rfl rfl rfl rfl ?_;refine g_go ?_;refine g_op rfl ?_;refine f_slice32 g1 rfl rfl rfl rfl rfl ?_;refine g_go ?_;refine g_op rfl ?_;refine f_move (.slice P ls.length pc) rfl rfl rfl rfl rfl ?_;refine g_go ?_;refine g_op rfl ?_
    refine f_call #[.slice (some ⟨g12,0,none⟩) 32 32,.slice (some ⟨g1,0,none⟩) 32 32,.slice P ls.length pc] (.agg (Us (ws ((sgK (sig.take 32) (encP A) ls.flatten)))).toArray) rfl rfl rfl own_number (fun w1 h1=>by
      have:=number_f (P:=P) (ls:=ls) (pc:=pc) w1 (hT.below (hU.step h1.1)).sh (SB.all (b12.later h1.1) (take32 hs) (by decide)) (SB.all (b1.later h1.1) hk (by decide)) (hP.later (hU.step h1.1)) h0 hls
      rwa [sgK_eq] at this) rfl rfl ?_
    refine g_go ?_;refine g_alloc z4 (W13).heap.size rfl rfl rfl rfl rfl (by kernel_rfl) (fun _ h=>h.size) (fun g w w' h hr=>⟨h.1,h.2.later hr⟩) fun g14 _ _ _ _=>?_;refine g_end fun W15 hw15 hF15=>?_;have b14:=(hF15 4 _ rfl).2;have ge14:=(hF15 4 _ rfl).1
    have n1_14 : g1 ≠ g14:=by have:=b1.lt; omega
    have n4_14 : g4 ≠ g14:=by have:=b4.lt; omega
    have n8_14 : g8 ≠ g14:=by have:=b8.lt; omega
    have n12_14 : g12 ≠ g14:=by have:=b12.lt; omega
    have q14 : w.heap.size ≤ g14:=Nat.le_trans hU.size ge14;clear ge14;clear hF15;replace b1:=b1.later hw15;replace b4:=b4.later hw15;replace b8:=b8.later hw15;replace b12:=b12.later hw15;replace hU:=hU.step hw15;clear hw15;refine l_set g14 _ ((Us (ws ((sgK (sig.take 32) (encP A) ls.flatten)))).toArray) rfl rfl rfl rfl rfl b14 (size_S _) (by rw [us_size (ws_len _)]; rfl) (Us_oneA _) ?_;replace b1:=b1.rowFar n1_14 ((Us (ws ((sgK (sig.take 32) (encP A) ls.flatten)))).toArray);replace b4:=b4.rowFar n4_14 ((Us (ws ((sgK (sig.take 32) (encP A) ls.flatten)))).toArray);replace b8:=b8.rowFar n8_14 ((Us (ws ((sgK (sig.take 32) (encP A) ls.flatten)))).toArray);replace b12:=b12.rowFar n12_14 ((Us (ws ((sgK (sig.take 32) (encP A) ls.flatten)))).toArray);replace b14:=b14.row ((Us (ws ((sgK (sig.take 32) (encP A) ls.flatten)))).toArray);replace hU:=up_row hU q14 ((Us (ws ((sgK (sig.take 32) (encP A) ls.flatten)))).toArray);generalize World.setRow _ g14 ((Us (ws ((sgK (sig.take 32) (encP A) ls.flatten)))).toArray) = W16 at *;refine l_nil ?_;refine hK _ _ ?_;clear hK K;refine c_seq fun K hK=>?_;refine c_g 11 (by decide) (by kernel_rfl) (by kernel_rfl) ?_;refine g_op rfl ?_;refine f_sc g8 ((le (sig.drop 32))) rfl rfl rfl rfl rfl (fun _ h1=>(h1.1.blk b8).range) ?_;refine g_go ?_;refine g_op rfl ?_;refine f_call #[.agg (Us (ws ((le (sig.drop 32))))).toArray] (.agg (By (Nums.bytes 32 ((le (sig.drop 32))))).toArray) rfl rfl rfl own_schash (fun w1 h1=>schash_f ((le (sig.drop 32))) w1) rfl rfl ?_;refine g_go ?_;refine g_op rfl ?_;refine f_pt g4 0 hl.len rfl rfl rfl rfl rfl (fun _ h1=>(h1.1.blk b4).range) ?_;refine g_go ?_;refine g_op rfl ?_;refine f_us #[.agg (Us l).toArray] (QB · (Ed.neg A)) rfl rfl rfl own_cneg (fun w1 h1=>cneg_f (.inr hl) w1 (hT.below (hU.step h1.1)).tw) rfl rfl fun r43 v43=>?_;refine g_go ?_;refine g_op rfl ?_;refine f_sc g14 ((sgK (sig.take 32) (encP A) ls.flatten)) rfl rfl rfl rfl rfl (fun _ h1=>(h1.1.blk b14).range) ?_;refine g_go ?_;refine g_op rfl ?_;refine f_call #[.agg (Us (ws ((sgK (sig.take 32) (encP A) ls.flatten)))).toArray] (.agg (By (Nums.bytes 32 ((sgK (sig.take 32) (encP A) ls.flatten)))).toArray) rfl rfl rfl own_schash (fun w1 h1=>schash_f ((sgK (sig.take 32) (encP A) ls.flatten)) w1) rfl rfl ?_;refine g_go ?_;refine g_op rfl ?_;refine f_us #[.agg (By (Nums.bytes 32 ((le (sig.drop 32))))).toArray,.agg (Us r43).toArray,.agg (By (Nums.bytes 32 ((sgK (sig.take 32) (encP A) ls.flatten)))).toArray] (PB · (Ed.add dd (Ed.mul dd (le (Nums.bytes 32 ((le (sig.drop 32))))) base) (Ed.mul dd (le (Nums.bytes 32 ((sgK (sig.take 32) (encP A) ls.flatten)))) (Ed.neg A)))) rfl rfl rfl own_cboth (fun w1 h1=>cboth_f (bytes_len _ _) (.inr v43) (bytes_len _ _) w1 (hT.below (hU.step h1.1)).tw) rfl rfl fun r46 v46=>?_;refine g_go ?_;refine g_op rfl ?_;refine f_call #[.agg (Us r46).toArray] (.agg (By (encP (Ed.add dd (Ed.mul dd (le (Nums.bytes 32 ((le (sig.drop 32))))) base) (Ed.mul dd (le (Nums.bytes 32 ((sgK (sig.take 32) (encP A) ls.flatten)))) (Ed.neg A))))).toArray) rfl rfl rfl own_chash (fun w1 h1=>chash_f v46 w1 (hT.below (hU.step h1.1)).tw) rfl rfl ?_
    refine g_go ?_;refine g_op rfl ?_;refine f_by g12 0 (take32 hs) rfl rfl rfl rfl rfl (fun _ h1=>(h1.1.blk b12).range) ?_;refine g_go ?_;refine g_op rfl ?_;refine f_eqd (encP (Ed.add dd (Ed.mul dd (le (Nums.bytes 32 ((le (sig.drop 32))))) base) (Ed.mul dd (le (Nums.bytes 32 ((sgK (sig.take 32) (encP A) ls.flatten)))) (Ed.neg A)))) (sig.take 32) rfl rfl rfl rfl rfl rfl rfl ((encP_len _)) (take32 hs) ?_;refine g_go ?_;refine g_op rfl ?_;refine f_assign (.bool ((decide (encP (Ed.add dd (Ed.mul dd (le (Nums.bytes 32 ((le (sig.drop 32))))) base) (Ed.mul dd (le (Nums.bytes 32 ((sgK (sig.take 32) (encP A) ls.flatten)))) (Ed.neg A))) = sig.take 32)))) rfl rfl rfl rfl rfl ?_;refine g_go ?_;refine g_end fun W17 hw17 hF17=>?_;clear hF17;replace b1:=b1.later hw17;replace b4:=b4.later hw17;replace hU:=hU.step hw17;clear hw17;refine l_nil ?_;refine hK _ _ ?_;clear hK K;rw [rightB_is hA h8 hS];exact c_ret (fun a ha=>bodyPost_ret (results_tmp rfl _ _ _) ha.defers ⟨congrArg Ending.returned (ha.get 6 _ rfl),hU⟩)
   ·rw [decide_eq_false hS]
    refine c_seq fun K0 hK0=>?_;refine c_seq fun K hK=>?_;refine c_gF 2 ?_;refine g_op rfl ?_;refine f_move (.bool false) rfl rfl rfl rfl rfl ?_;refine g_go ?_;refine g_op rfl ?_;refine f_not false true rfl rfl rfl rfl rfl rfl ?_;refine g_go ?_;refine g_end fun W10 hw10 hF10=>?_;clear hF10;replace b1:=b1.later hw10;replace b4:=b4.later hw10;replace hU:=hU.step hw10;clear hw10;refine l_nil ?_;refine hK _ _ ?_;clear hK K;refine c_cond true rfl ?_;rw [if_pos rfl];refine c_seq fun K hK=>?_;refine c_lit ?_;refine l_assign (.bool false) rfl rfl rfl rfl rfl ?_;refine l_nil ?_;refine hK _ _ ?_;clear hK K;rw [rightB_great hS];exact c_ret (k_then_ret (fun a ha=>bodyPost_ret (results_tmp rfl _ _ _) ha.defers ⟨congrArg Ending.returned (ha.get 6 _ rfl),hU⟩))
 ·refine c_seq fun K hK=>?_
  refine c_gF 5 ?_;refine g_op rfl ?_;refine f_by g1 0 hk rfl rfl rfl rfl rfl (fun _ h1=>(h1.1.blk b1).range) ?_;refine g_go ?_;refine g_op rfl ?_;refine f_call #[.agg (By key).toArray] (.tuple #[.agg (Us pz).toArray,.int .i64 50]) rfl rfl rfl own_cdecode (fun w1 h1=>cdec_no hk hA w1 (hT.below (hU.step h1.1)).tw) rfl rfl ?_;refine g_go ?_;refine g_op rfl ?_;refine f_move (.tuple #[.agg (Us pz).toArray,.int .i64 50]) rfl rfl rfl rfl rfl ?_;refine g_go ?_;refine g_op rfl ?_;refine f_extract (.agg (Us pz).toArray) rfl rfl rfl rfl rfl rfl ?_;refine g_go ?_;refine g_op rfl ?_;refine f_extract (.int .i64 50) rfl rfl rfl rfl rfl rfl ?_;refine g_go ?_;refine g_end fun W3 hw3 hF3=>?_;clear hF3;replace hU:=hU.step hw3;clear hw3;refine l_allocA ((Us pz).toArray) rfl rfl rfl rfl (by kernel_rfl) fun W4 g4 hw4 hg4 b4=>?_
  have q4 : w.heap.size ≤ g4:=by rw [hg4]; exact hU.size
  replace hU:=hU.step hw4;clear hw4 hg4;refine l_set g4 _ ((Us pz).toArray) rfl rfl rfl rfl rfl b4 (size_P pz_len) ((us_size pz_len).trans (us_size pz_len).symm) (Us_oneA _) ?_;replace hU:=up_row hU q4 ((Us pz).toArray);generalize World.setRow _ g4 ((Us pz).toArray) = W5 at *;refine l_assign (.int .i64 50) rfl rfl rfl rfl rfl ?_;refine l_nil ?_;refine hK _ _ ?_;clear hK K;refine c_seq fun K0 hK0=>?_;refine c_seq fun K hK=>?_;refine c_gF 6 ?_;refine g_op rfl ?_;refine f_move (.int .i64 50) rfl rfl rfl rfl rfl ?_;refine g_go ?_;refine g_op rfl ?_;refine f_neE _ 0 true rfl rfl rfl rfl rfl rfl rfl (by decide) ?_;refine g_go ?_;refine g_op rfl ?_;refine f_move (.bool true) rfl rfl rfl rfl rfl ?_;refine g_go ?_;refine g_skip rfl rfl rfl rfl rfl rfl rfl ?_;refine g_skip rfl rfl rfl rfl rfl rfl rfl ?_;refine g_op rfl ?_;refine f_pick (.bool true) rfl rfl rfl rfl rfl rfl ?_;refine g_go ?_;refine g_end fun W6 hw6 hF6=>?_;clear hF6;replace hU:=hU.step hw6;clear hw6;refine l_nil ?_;refine hK _ _ ?_;clear hK K;refine c_cond true rfl ?_;rw [if_pos rfl];refine c_seq fun K hK=>?_;refine c_lit ?_;refine l_assign (.bool false) rfl rfl rfl rfl rfl ?_;refine l_nil ?_;refine hK _ _ ?_;clear hK K;rw [rightB_no hA];exact c_ret (k_then_ret (fun a ha=>bodyPost_ret (results_tmp rfl _ _ _) ha.defers ⟨congrArg Ending.returned (ha.get 6 _ rfl),hU⟩))
end Go.Proofs.YtminmeljonbogaaDoor
/-
  THE DOCUMENT'S SIGNATURES: half.
-/
namespace Go.Proofs.YtminmeljonbogaaDoor
open Go.RowKit Go.IntWalk Nums

theorem own_rhalf : Own 49:=fun _ _=>by go_simp
section
variable {ops : Array Oper} {C0 : World → Prop} {Q : Act → Prop} {N : Nat} {E : List (Nat × Value)} {o : Oper} {rest : List Oper} {k : Nat}
theorem f_idxB {x y : Operand} (ad : Addr) (n c i : Nat) (hi : i < n) (hg : o.guard = none) (hd : o.dst = some k) (hk : Nat.blt k N = true) (ho : o.op = .indexAddr 23 x y)
  (hx : ev E x = some (.slice (some ad) n c)) (hy : ev E y = some (.int .i64 (i : Int))) (hn : bF Tryd.prog ops C0 Q rest N ((k,.pointer (some (ad.add i))) :: E)) : bF Tryd.prog ops C0 Q (o :: rest) N E :=
 f_val _ hg hd hk (fun a ha w _=>by
  have h1:=ha.eval hx;have h2:=ha.eval hy
  have h3 : (i : Int) < (n : Int):=by omega
  have h4 : (0 : Int) ≤ (i : Int):=by omega
  unfold execOp
  simp only [ho,h1,h2]
  go_simp) hn
end
def hb (l : List UInt8) (i : Nat) : List UInt8:=l.take i ++ List.replicate (32 - i) 0
theorem hb_len {l : List UInt8} (hl : l.length = 32) {i : Nat} (hi : i ≤ 32) : (hb l i).length = 32:=by
 rw [hb,List.length_append,List.length_take,List.length_replicate]
 omega
theorem hb_set {l : List UInt8} (hl : l.length = 32) {i : Nat} (hi : i < 32) : (hb l i).set i l[i]! = hb l (i + 1):=by
 have h1 : (l.take i).length = i:=by rw [List.length_take]; omega
 rw [hb,hb,List.set_append_right _ _ (by omega),h1,Nat.sub_self,List.take_succ_eq_append_getElem (by omega),List.append_assoc]
 congr 1
 rw [show 32 - i = 32 - (i + 1) + 1 by omega,List.replicate_succ,List.set_cons_zero,getElem!_pos l i (by omega)]
 rfl
noncomputable def hl6 (k : Nat) : Code:=((Tryd.f49.body.map loopsOf).getD [])[k]?.getD .skip
def FHa (v : Value) (at' g4 g5 i : Nat) : List (Nat × Value):=[(7,.int .i64 (i : Int)),(5,.pointer (some ⟨g5,0,none⟩)),(4,.pointer (some ⟨g4,0,none⟩)),(0,v),(1,.int .i64 (at' : Int))]
set_option maxRecDepth 100000 in
set_option maxHeartbeats 4000000 in
theorem half_l {Q : Exit → Act → World → Prop} {w0 w : World} {v : Value} {l : List UInt8} {at' g4 g5 : Nat} (hv : SB w0 v l) (ha : at' + 32 ≤ l.length) (hU : Up w0 w) (b4 : Blk w g4 22 z32) (b5 : Blk w g5 22 z32) (n45 : g4 ≠ g5) (q5 : w0.heap.size ≤ g5)
  (hend : ∀ w',Up w0 w' → Blk w' g4 22 z32 → Blk w' g5 22 (By ((l.drop at').take 32)).toArray → kF (Q .normal) 20 (FHa v at' g4 g5 32) w') :
  cF Tryd.prog (.loop (hl6 0)) (Exit.inBlock 0 Q) 20 (FHa v at' g4 g5 0) w:=by
 have hsl : ((l.drop at').take 32).length = 32:=by rw [List.length_take,List.length_drop]; omega
 obtain ⟨A,c,rfl,hS⟩:=hv;obtain ⟨ad,rfl,_,hlt,hc⟩:=hS.2.2.2 (by omega);have hmax:=hS.1;have hmax2:=hS.2.1;obtain ⟨s,hs⟩ : ∃ s,s = (l.drop at').take 32:=⟨_,rfl⟩;rw [← hs] at hsl hend
 have hcell : ∀ i,i < 32 → w0.cell? (ad.add (at' + i)) = some (.int .u8 ((s[i]!).toNat : Int)):=fun i hi=>by
  refine hc _ _ ?_;rw [hs,getElem!_pos _ i (by rw [← hs,hsl]; exact hi),List.getElem_take,List.getElem_drop];exact List.getElem?_eq_getElem (by omega)
 clear hc hS
 have hstart : cF Tryd.prog (.loop (hl6 0)) (Exit.inBlock 0 Q) 20 ((fun i : Nat=>FHa (.slice (some ad) l.length c) at' g4 g5 i) 0) w:=by
  refine c_loop (m:=fun i : Nat=>32 - i) (F:=fun i : Nat=>FHa (.slice (some ad) l.length c) at' g4 g5 i) (R:=fun i w=>i ≤ 32 ∧ Up w0 w ∧ Blk w g4 22 z32 ∧ Blk w g5 22 (By (hb s i)).toArray) ?_ 0 ⟨by omega,hU,b4,b5⟩
  rintro i w ⟨hi,hU,b4,b5⟩
  conv=>arg 2; whnf
  refine c_seq fun K1 hK1=>?_;refine c_qF ?_
  by_cases hil : i < 32
  ·refine f_lssI (i : Int) 32 true rfl rfl rfl rfl rfl rfl (decide_eq_true (by omega)) ?_
   refine f_end fun w1 hw1=>hK1 _ _ ?_;refine c_seq fun K2 hK2=>?_;refine c_cond true rfl ?_;refine c_skip ?_;refine hK2 _ _ ?_;refine c_seq fun K3 hK3=>?_;refine c_block ?_;refine c_seq fun K4 hK4=>?_;refine c_qF ?_;refine f_move (.int .i64 (i : Int)) rfl rfl rfl rfl rfl ?_;refine f_assign (.int .i64 (i : Int)) rfl rfl rfl rfl rfl ?_;refine f_end fun w2 hw2=>hK4 _ _ ?_;have hU2 : Up w0 w2:=(hU.step hw1).step hw2;have d4:=(b4.later hw1).later hw2;have d5:=(b5.later hw1).later hw2;have c5:=(d5.cell i).trans (By_get (l:=hb s i) (j:=i) (by rw [hb_len hsl hi]; exact hil));have cs:=hcell i hil;refine c_tF 8 ?_;refine f_move (.int .i64 (i : Int)) rfl rfl rfl rfl rfl ?_;refine f_move (.slice (some ad) l.length c) rfl rfl rfl rfl rfl ?_;refine f_move (.int .i64 (at' : Int)) rfl rfl rfl rfl rfl ?_;refine f_move (.int .i64 (i : Int)) rfl rfl rfl rfl rfl ?_;refine f_addI (at' : Int) (i : Int) ((at' + i : Nat) : Int) rfl rfl rfl rfl rfl rfl (addI at' i (by omega)) ?_;refine f_idxB ad l.length c (at' + i) (by omega) rfl rfl rfl rfl rfl rfl ?_;refine f_load (ad.add (at' + i)) (.int .u8 ((s[i]!).toNat : Int)) (by decide) rfl rfl rfl rfl rfl (fun w3 h3=>((hU2.step h3).cell (by rw [block_add]; exact hlt)).trans cs) ?_;refine f_ix _ (i : Int) ⟨g5,i,none⟩ rfl rfl rfl rfl rfl rfl (ixH _ i hil) ?_;refine f_store ⟨g5,i,none⟩ ((s[i]!).toNat : Int) _ (.inr ⟨rfl,rfl⟩) rfl rfl rfl rfl rfl c5 (d5.free i) d5.lt fun w3 hw3=>?_;have e4:=(d4.later hw3).far (p:=⟨g5,i,none⟩) n45 (.int .u8 ((s[i]!).toNat : Int));have e5:=(d5.later hw3).set i (.int .u8 ((s[i]!).toNat : Int));have hU3 : Up w0 _:=(hU2.step hw3).setCell (p:=⟨g5,i,none⟩) q5 (.int .u8 ((s[i]!).toNat : Int));rw [By_set,hb_set hsl hil] at e5;generalize w3.setCell ⟨g5,i,none⟩ (.int .u8 ((s[i]!).toNat : Int)) = W3 at *;refine hK3 _ _ ?_;refine c_qF ?_;refine f_addI (i : Int) 1 ((i + 1 : Nat) : Int) rfl rfl rfl rfl rfl rfl (addI i 1 (by omega)) ?_;refine f_move (.int .i64 ((i + 1 : Nat) : Int)) rfl rfl rfl rfl rfl ?_;refine f_end fun w5 hw5=>?_;exact k_round (F:=fun i : Nat=>FHa (.slice (some ad) l.length c) at' g4 g5 i) (m:=fun i : Nat=>32 - i) (R:=fun i w=>i ≤ 32 ∧ Up w0 w ∧ Blk w g4 22 z32 ∧ Blk w g5 22 (By (hb s i)).toArray) (s:=i) (i + 1) ⟨rfl,rfl,rfl,rfl,rfl,trivial⟩ ⟨hil,hU3.step hw5,e4.later hw5,e5.later hw5⟩ (by omega)
  ·refine f_lssI (i : Int) 32 false rfl rfl rfl rfl rfl rfl (decide_eq_false (by omega)) ?_
   refine f_end fun w1 hw1=>hK1 _ _ ?_;refine c_seq fun K2 hK2=>?_;refine c_cond false rfl ?_;refine c_exit ?_;refine k_exit (id:=0) (Q:=Q) ?_
   obtain rfl : i = 32:=by omega
   have e : hb s 32 = s:=by
    rw [hb,Nat.sub_self,List.replicate_zero,List.append_nil,List.take_of_length_le (by omega)]
   rw [e] at b5;exact k_sub (E':=FHa (.slice (some ad) l.length c) at' g4 g5 32) ⟨rfl,rfl,rfl,rfl,rfl,trivial⟩ (hend w1 (hU.step hw1) (b4.later hw1) (b5.later hw1))
 exact hstart

set_option maxRecDepth 100000 in
set_option maxHeartbeats 1000000 in
theorem rhalf_f {v : Value} {l : List UInt8} {at' : Nat} (w : World) (hv : SB w v l) (ha : at' + 32 ≤ l.length) :
  Calls Tryd.prog 49 #[v,.int .i64 (at' : Int)] w fun e w'=>e = .returned (.agg (By ((l.drop at').take 32)).toArray) ∧ Below w.heap.size w w':=by
 have hsl : ((l.drop at').take 32).length = 32:=by rw [List.length_take,List.length_drop]; omega
 refine calls_F (vs:=[v,.int .i64 (at' : Int)]) 20 Tryd.func49 rfl (by rw [Tryd.ntmps49]; rfl) ?_;refine c_seq fun K hK=>?_;refine c_lit ?_;refine l_allocA z32 rfl rfl rfl rfl (by kernel_rfl) fun W1 g4 hw1 hg4 b4=>?_;refine l_nil ?_;refine hK _ _ ?_;clear hK K;refine c_seq fun K hK=>?_;refine c_lit ?_;refine l_allocA z32 rfl rfl rfl rfl (by kernel_rfl) fun W2 g5 hw2 hg5 b5=>?_;refine l_nil ?_;refine hK _ _ ?_;clear hK K
 have n45 : g4 ≠ g5:=by have:=b4.lt; omega
 have q4 : w.heap.size ≤ g4:=by omega
 have q5 : w.heap.size ≤ g5:=by have:=hw1.size; omega
 have hU : Up w W2:=hw1.step hw2;replace b4:=b4.later hw2;clear hw1 hw2 hg4 hg5;refine c_seq fun K hK=>?_;refine c_seq fun K2 hK2=>?_;refine c_qF ?_;refine f_move (.int .i64 0) rfl rfl rfl rfl rfl ?_;refine f_end fun W3 hw3=>?_;refine k_sub (E':=FHa v at' g4 g5 0) ⟨rfl,rfl,rfl,rfl,rfl,trivial⟩ ?_;refine hK2 _ _ ?_;refine c_block ?_;refine half_l (w0:=w) hv ha (hU.step hw3) (b4.later hw3) (b5.later hw3) n45 q5 fun W4 hU b4 b5=>?_;refine hK _ _ ?_;clear hK2 K2 hK K;refine c_seq fun K hK=>?_;refine c_tF 1 ?_;refine f_by g5 0 hsl rfl rfl rfl rfl rfl (fun _ h1=>(h1.blk b5).range) ?_;refine f_set g4 _ (By ((l.drop at').take 32)).toArray rfl rfl rfl rfl rfl b4 (size_H hsl) (by rw [len_by hsl]; rfl) (By_oneA _) fun w4 hw4 c4=>?_;refine l_nil ?_;refine hK _ _ ?_;clear hK K;exact c_ret (k_ret_row g4 _ rfl rfl c4 Tryd.underlying22 rfl (size_H hsl) ⟨rfl,up_row (hU.step hw4) q4 _⟩)
end Go.Proofs.YtminmeljonbogaaDoor
/-
  THE DOCUMENT'S OWN SCALARS: Good, Add.
-/
namespace Go.Proofs.YtminmeljonbogaaDoor
open Go.RowKit Go.IntWalk Nums

def WL (w : World) (g : Nat) (l : List UInt8) : Prop:=BL w g l ∧ ∀ j,j < l.length → w.frozen? ⟨g,j,none⟩ = false
section
variable {w w' : World} {g B : Nat} {l : List UInt8}
theorem WL.later (h : WL w g l) (hb : Below w.heap.size w w') : WL w' g l :=
 ⟨h.1.below hb h.1.1,fun j hj=>(hb.frozen (p:=⟨g,j,none⟩) h.1.1).trans (h.2 j hj)⟩
theorem WL.set (h : WL w g l) (k : Nat) (x : UInt8) : WL (w.setCell ⟨g,k,none⟩ (.int .u8 (x.toNat : Int))) g (l.set k x):=by
 refine ⟨⟨by simpa [World.setCell] using h.1.1,fun j hj=>?_⟩,fun j hj=>?_⟩
 ·rw [List.length_set] at hj
  by_cases e : j = k
  ·subst e
   rw [World.cell?_setCell_same _ _ _ (h.1.2 j hj)]
   simp [hj]
  ·rw [World.cell?_setCell_other _ _ _ _ (by intro he; injection he with _ he _; omega),h.1.2 j hj]
   have e1 : (l.set k x)[j]! = l[j]!:=by
    rw [getElem!_pos (l.set k x) j (by rw [List.length_set]; exact hj),List.getElem_set_ne (by omega),getElem!_pos l j hj]
   rw [e1]
 ·rw [List.length_set] at hj
  rw [World.frozen?_setCell];exact h.2 j hj
theorem WL.row {t : Nat} (h : Blk w g t (By l).toArray) : WL w g l :=
 ⟨⟨h.lt,fun j hj=>(h.cell j).trans (By_get hj)⟩,fun j _=>h.free j⟩
end
theorem made_bytes (n : Nat) : madeCells #[.int .u8 0] n = (By (List.replicate n 0)).toArray:=by
 apply Array.ext
 ·simp [size_madeCells,By]
 ·intro i h1 h2
  simp [madeCells,By,Nat.mod_one]
theorem info_u8 : (Tryd.prog.info? 5).map (fun i=>(i.zero,i.size,i.bytes)) = some (some (.int .u8 0),1,1):=by kernel_rfl
end Go.Proofs.YtminmeljonbogaaDoor
/-
  THE DOCUMENT'S OWN SCALARS: Add.
-/
namespace Go.Proofs.YtminmeljonbogaaDoor
open Go.RowKit Go.IntWalk Nums

structure AW (w wr : World) (a b s : List UInt8) : Prop where
  a : Blk wr w.heap.size 22 (By a).toArray
  b : Blk wr (w.heap.size + 1) 22 (By b).toArray
  o : Blk wr (w.heap.size + 1 + 1) 22 z32
  s : WL wr (w.heap.size + 1 + 1 + 1) s
  be : Below w.heap.size w wr
theorem AW.set {w wr : World} {a b s : List UInt8} (h : AW w wr a b s) (k : Nat) (x : UInt8) : AW w (wr.setCell ⟨w.heap.size + 1 + 1 + 1,k,none⟩ (.int .u8 (x.toNat : Int))) a b (s.set k x) where
 a:=h.a.far (by show w.heap.size ≠ w.heap.size + 1 + 1 + 1; omega) _
 b:=h.b.far (by show w.heap.size + 1 ≠ w.heap.size + 1 + 1 + 1; omega) _
 o:=h.o.far (by show w.heap.size + 1 + 1 ≠ w.heap.size + 1 + 1 + 1; omega) _
 s:=h.s.set k x
 be:=h.be.setCell (by show w.heap.size ≤ w.heap.size + 1 + 1 + 1; omega) _
theorem AW.up {w wr w1 : World} {a b s : List UInt8} (h : AW w wr a b s) (k : Up wr w1) : AW w w1 a b s:=⟨k.blk h.a,k.blk h.b,k.blk h.o,h.s.later k,below_up h.be k⟩

set_option maxRecDepth 100000 in
set_option maxHeartbeats 4000000 in
theorem add4_f (a b : List UInt8) (ha : a.length = 32) (hb : b.length = 32) (w : World) :
  Calls Tryd.prog 39 #[.agg (By a).toArray,.agg (By b).toArray] w fun e w'=>e = .returned (.agg (By (Nums.bytes 32 ((le a + le b) % LL))).toArray) ∧ Below w.heap.size w w':=by
 obtain ⟨i0,hi0,hz0,hz1,hz2⟩:=info_parts info_u8
 have hA0 : AW w ((((w.alloc (.cells (By a).toArray 22)).alloc (.cells (By b).toArray 22)).alloc (.cells z32 22)).alloc (.cells (madeCells #[.int .u8 0] 33) 5)) a b (List.replicate 33 0):=by
  refine ⟨blk4_0 w _ _ _ _ _,blk4_1 w _ _ _ _ _,blk4_2 w _ _ _ _ _,?_,below4 _ _ _ _ _⟩;rw [made_bytes];exact WL.row (blk4_3 w _ _ _ _ _)
 have HA:=Lib.hid hA0;clear hA0
 go_enter Tryd.func39,Tryd.ntmps39
 go_wp2_with (at_make; refine wpList_make_row _ rfl _ _ 23 rfl 5 i0 _ Tryd.underlying23 hi0 hz0 hz1 rfl .i64 .i64 33 rfl rfl (by rw [hz2]; omega) (by omega) ?_)
 clear hi0 hz0 hz1 hz2 i0
 go_loopw [6,7] (fun cv kv wr=>∃ k : Nat,k ≤ 32 ∧ kv = .int .i64 k ∧ ∃ (cc : Nat) (s : List UInt8),cv = .int .i64 cc ∧ Sm a b s cc k ∧ AW w wr a b s) (fun _ kv _=>32 - (intOf kv).toNat)
 case atStart=>exact ⟨0,by omega,rfl,0,List.replicate 33 0,rfl,Sm.start (by simp),HA.out⟩
 case round =>
  clear HA;obtain ⟨k,hk,rfl,cc,s,rfl,hS,hW⟩:=hrel
  by_cases hlt : k < 32
  ·have hSn:=hS.next ha hb hlt
   have ca:=(hW.a.cell k).trans (By_get (l:=a) (by omega));have cb:=(hW.b.cell k).trans (By_get (l:=b) (by omega));have cs:=hW.s.1.2 k (by rw [hS.1]; omega);have fs:=hW.s.2 k (by rw [hS.1]; omega);have hx:=(a[k]!).toNat_lt;have hy:=(b[k]!).toNat_lt;have hc1:=hS.2.1;have hup:=fun w1 (h1 : Up wr w1)=>(hW.up h1).set k (UInt8.ofNat ((cc + ((a[k]!).toNat + (b[k]!).toNat)) % 256));have hca:=fun w1 (h1 : Up wr w1)=>((hW.up h1).a.cell k).trans (By_get (l:=a) (by omega));have hcb:=fun w1 (h1 : Up wr w1)=>((hW.up h1).b.cell k).trans (By_get (l:=b) (by omega));have hcs:=fun w1 (h1 : Up wr w1)=>(hW.up h1).s.1.2 k (by rw [hS.1]; omega);have hfs:=fun w1 (h1 : Up wr w1)=>(hW.up h1).s.2 k (by rw [hS.1]; omega);rw [UInt8.toNat_ofNat_of_lt' (by show _ < 256; omega)] at hup;clear ca cb cs fs;generalize (a[k]!).toNat = x at *;generalize (b[k]!).toNat = y at *
   have hm1 : ((cc : Int) + ((x : Int) + (y : Int))).tmod 256 = (((cc + (x + y)) % 256 : Nat) : Int):=by rw [Int.tmod_eq_emod_of_nonneg (by omega)]; rfl
   have hd1 : ((cc : Int) + ((x : Int) + (y : Int))).tdiv 256 = (((cc + (x + y)) / 256 : Nat) : Int):=by rw [Int.tdiv_eq_ediv_of_nonneg (by omega)]; rfl
   have hr256 : (cc + (x + y)) % 256 < 256:=Nat.mod_lt _ (by decide)
   have hq256 : (cc + (x + y)) / 256 < 256:=by omega
   have HS:=Lib.hid hSn;clear hS hW hSn
   have hk32 : (k : Int) < 32:=by omega
   generalize (cc + (x + y)) % 256 = r at *;generalize (cc + (x + y)) / 256 = q at *
   go_wp2
   refine reg_q (by kernel_rfl) (by kernel_rfl) (fun _ _ d _ _ h=>by cases d <;> exact h) ?_;refine b_move rfl rfl ?_;refine b_move rfl rfl ?_;refine wpB_step (fun K hK=>?_)
   go_simp
   refine ⟨_,fun _ _=>⟨rfl,rfl⟩,hK _ ?_⟩;clear hK K;refine b_val (v:=.int .u8 (x : Int)) rfl (fun w5 h5=>by have hc:=hca w5 h5; go_simp) ?_;refine wpB_step (fun K hK=>?_)
   go_simp
   refine ⟨_,fun _ _=>⟨rfl,rfl⟩,hK _ ?_⟩;clear hK K;refine b_move rfl rfl ?_;refine wpB_step (fun K hK=>?_)
   go_simp
   refine ⟨_,fun _ _=>⟨rfl,rfl⟩,hK _ ?_⟩;clear hK K;refine b_val (v:=.int .u8 (y : Int)) rfl (fun w5 h5=>by have hc:=hcb w5 h5; go_simp) ?_;refine wpB_step (fun K hK=>?_)
   go_simp
   refine ⟨_,fun _ _=>⟨rfl,rfl⟩,hK _ ?_⟩;clear hK K;refine wpB_step (fun K hK=>?_)
   go_simp
   refine ⟨_,fun _ _=>⟨rfl,rfl⟩,hK _ ?_⟩;clear hK K;refine wpB_step (fun K hK=>?_)
   go_simp
   refine ⟨_,fun _ _=>⟨rfl,rfl⟩,hK _ ?_⟩;clear hK K;refine b_assign rfl rfl ?_;refine wpB_nil ?_
   intro w5 h5
   have cs:=hcs w5 h5;have fs:=hfs w5 h5;have HD:=Lib.hid (And.intro HS.out (hup w5 h5));clear hup hca hcb hcs hfs HS h5
   go_wp2
   go_roundw
   case rel=>exact ⟨k + 1,by omega,by go_num,q,_,rfl,HD.out.1,HD.out.2⟩
   case measure=>simp [intOf]; omega
  ·obtain rfl : k = 32:=by omega
   obtain ⟨hv,hl33⟩:=hS.last ha hb;have cs:=hW.s.1.2 32 (by rw [hS.1]; omega);have fs:=hW.s.2 32 (by rw [hS.1]; omega);have hWn:=hW.set 32 (UInt8.ofNat cc);have hc1:=hS.2.1;rw [UInt8.toNat_ofNat_of_lt' (by show _ < 256; omega)] at hWn;have HMd:=fun (w1 : World) (h : WL w1 (w.heap.size + 1 + 1 + 1) (s.set 32 (UInt8.ofNat cc)))=>Lib.hid (mod_any (s.set 32 (UInt8.ofNat cc)) (w.heap.size + 1 + 1 + 1) 33 w1 (by omega) h.1);rw [hv,hl33] at HMd;have HM:=HMd _ hWn.s;have HW:=Lib.hid hWn;clear hW hS hWn HMd hv hl33;generalize s.set 32 (UInt8.ofNat cc) = s2 at *
   go_wp2_with (fail)
   refine HM.out.mono ?_
   rintro e w2 ⟨rfl,hw2⟩
   have ho:=HW.out.o.later hw2;have HB:=Lib.hid (HW.out.be.trans (hw2.mono HW.out.be.size));have hz:=len_by (bytes_len 32 ((le a + le b) % LL));clear HM HW hw2;generalize hu : Nums.bytes 32 ((le a + le b) % LL) = u at *;have HU:=Lib.hid hu;clear hu
   go_wp2_with (refine wpList_store_row rfl 22 _ _ rfl (w.heap.size + 1 + 1) rfl (By u).toArray rfl 22 _ ho (size_hash _ hz) (by rw [hz]; rfl) (By_one _) ?_)
   refine bodyPost_ret (results_cell_row rfl _ _ (w.heap.size + 1 + 1) 22 (By u).toArray (0,0) _ rfl (ho.row _) Tryd.underlying22 rfl (size_hash _ hz)) rfl ⟨by rw [HU.out],?_⟩;exact below_setRow HB.out (by omega) _
end Go.Proofs.YtminmeljonbogaaDoor
/-
  PLAIN NUMBERS: products of bytes. No program is imported.
-/
namespace Nums

theorem W2_pow : ∀ k,W2 k = ((256 ^ k : Nat) : Int)
 | 0=>rfl
 | k + 1=>by
  show 256 * W2 k = _
  rw [W2_pow k,Nat.pow_succ]
  omega
theorem V2_set {l : List Int} {k : Nat} (x : Int) (h : k < l.length) : V2 (l.set k x) = V2 l + W2 k * (x - l[k]!):=by
 have e : (l.set k x)[k]! = x:=by rw [getElem!_pos _ k (by rw [List.length_set]; exact h),List.getElem_set_self]
 rw [V2_split (l:=l.set k x) (k:=k) (by rw [List.length_set]; exact h),V2_split h,e,List.take_set_of_le (Nat.le_refl _),List.drop_set_of_lt (by omega)];generalize l[k]! = y;generalize V2 (l.drop (k + 1)) = z;generalize V2 (l.take k) = u;generalize W2 k = W
 grind only

theorem V2_zeros : ∀ n,V2 (List.replicate n 0) = 0
 | 0=>rfl
 | n + 1=>by
  show 0 + 256 * V2 (List.replicate n 0) = 0
  rw [V2_zeros n]
  rfl

structure Cv (a b : List UInt8) (t : List Int) (i k : Nat) : Prop where
  len : t.length = 65
  bnd : ∀ x ∈ t,0 ≤ x ∧ x ≤ (32 * i + k : Nat) * 65025
  val : V2 t = ((le (a.take i) * le b + 256 ^ i * ((a[i]!).toNat * le (b.take k)) : Nat) : Int)
section
variable {a b : List UInt8} {t : List Int} {i k : Nat}
theorem Cv.start (a b : List UInt8) : Cv a b (List.replicate 65 0) 0 0:=by
 refine ⟨by simp,?_,?_⟩
 ·intro x hx
  obtain rfl:=List.eq_of_mem_replicate hx
  omega
 ·rw [V2_zeros,List.take_zero,List.take_zero]
  show (0 : Int) = ((0 * le b + 256 ^ 0 * (_ * 0) : Nat) : Int)
  rw [Nat.zero_mul,Nat.mul_zero,Nat.mul_zero]
  rfl
theorem Cv.get (h : Cv a b t i k) {j : Nat} (hj : j < 65) : 0 ≤ t[j]! ∧ t[j]! ≤ (32 * i + k : Nat) * 65025:=by
 rw [getElem!_pos t j (by rw [h.len]; exact hj)];exact h.bnd _ (List.getElem_mem _)
theorem Cv.next (h : Cv a b t i k) (hb : b.length = 32) (hi : i < 32) (hk : k < 32) :
  Cv a b (t.set (i + k) (t[i + k]! + (((a[i]!).toNat * (b[k]!).toNat : Nat) : Int))) i (k + 1):=by
 have hx:=(a[i]!).toNat_lt;have hy:=(b[k]!).toNat_lt;have hg:=h.get (j:=i + k) (by omega);have hxy : (a[i]!).toNat * (b[k]!).toNat ≤ 255 * 255:=Nat.mul_le_mul (by omega) (by omega);refine ⟨by rw [List.length_set,h.len],fun x hx2=>?_,?_⟩
 ·rcases List.mem_or_eq_of_mem_set hx2 with h1 | h1
  ·have:=h.bnd x h1
   omega
  ·subst h1
   omega
 ·rw [V2_set _ (by rw [h.len]; omega),h.val,le_take (l:=b) (by omega),W2_pow]
  generalize (a[i]!).toNat = x at *;generalize (b[k]!).toNat = y at *;generalize t[i + k]! = z at *;generalize le (b.take k) = u;generalize le (a.take i) * le b = v
  have e1 : z + ((x * y : Nat) : Int) - z = ((x * y : Nat) : Int):=by omega
  have e2 : 256 ^ i * (x * (u + 256 ^ k * y)) = 256 ^ i * (x * u) + 256 ^ (i + k) * (x * y):=by
   rw [Nat.mul_add,Nat.mul_add,Nat.pow_add]
   congr 1
   rw [Nat.mul_left_comm x,Nat.mul_assoc]
  rw [e1,e2,← Int.natCast_mul,← Int.natCast_add,Nat.add_assoc]
theorem Cv.roll (h : Cv a b t i 32) (ha : a.length = 32) (hb : b.length = 32) (hi : i < 32) : Cv a b t (i + 1) 0:=by
 refine ⟨h.len,fun x hx=>?_,?_⟩
 ·have:=h.bnd x hx
  omega
 ·rw [h.val,le_take (l:=a) (by omega),List.take_of_length_le (l:=b) (by omega)]
  congr 1
  rw [Nat.add_mul,List.take_zero]
  show _ = _ + 256 ^ (i + 1) * (_ * 0)
  rw [Nat.mul_zero,Nat.mul_zero,Nat.add_zero,Nat.mul_assoc]
theorem Cv.last (h : Cv a b t 32 0) (ha : a.length = 32) : V2 t = ((le a * le b : Nat) : Int):=by
 rw [h.val,List.take_of_length_le (l:=a) (by omega),List.take_zero]
 congr 1
end

def Cy (t : List Int) (s : List UInt8) (c k : Nat) : Prop:=s.length = 65 ∧ c ≤ 66585600 ∧ ((le (s.take k) + c * 256 ^ k : Nat) : Int) = V2 (t.take k)
section
variable {t : List Int} {s : List UInt8} {c k : Nat}
theorem Cy.start (h : s.length = 65) : Cy t s 0 0:=⟨h,by omega,by simp [le,V2]⟩
theorem Cy.next (h : Cy t s c k) (ht : t.length = 65) (hk : k < 65) {x : Nat} (hx : t[k]! = (x : Int)) (hxb : x ≤ 66585600) :
  Cy t (s.set k (UInt8.ofNat ((c + x) % 256))) ((c + x) / 256) (k + 1):=by
 obtain ⟨hs,hc,hV⟩:=h;refine ⟨by rw [List.length_set,hs],by omega,?_⟩;rw [le_take_set _ (by omega),V2_take (by omega),← hV,hx,W2_pow,UInt8.toNat_ofNat_of_lt' (by show _ < 256; omega),Nat.pow_succ];have e:=Nat.mod_add_div (c + x) 256;generalize (c + x) % 256 = r at *;generalize (c + x) / 256 = q at *;generalize 256 ^ k = W at *;generalize le (s.take k) = u at *
 have e2 : W * (r + 256 * q) = W * (c + x):=by rw [e]
 rw [Nat.mul_add,Nat.mul_add] at e2
 have e3 : q * (W * 256) = W * (256 * q):=by rw [Nat.mul_comm q,Nat.mul_assoc]
 have e4 : c * W = W * c:=Nat.mul_comm ..;rw [← Int.natCast_mul,← Int.natCast_add]
 congr 1
 omega
theorem Cy.last (h : Cy t s c 65) (ht : t.length = 65) {v : Nat} (hv : V2 t = (v : Int)) (hlt : v < 256 ^ 64) : le s = v:=by
 obtain ⟨hs,hc,hV⟩:=h;rw [List.take_of_length_le (by omega),List.take_of_length_le (by omega),hv] at hV;have h1 : le s + c * 256 ^ 65 = v:=Int.ofNat_inj.1 hV
 have h2 : (256 : Nat) ^ 64 < 256 ^ 65:=by decide
 rcases Nat.eq_zero_or_pos c with h0 | h0
 ·subst h0
  omega
 ·have h3 : 256 ^ 65 ≤ c * 256 ^ 65:=Nat.le_mul_of_pos_left _ h0
  omega
end
theorem prod_lt {a b : List UInt8} (ha : a.length = 32) (hb : b.length = 32) : le a * le b < 256 ^ 64:=by
 have h1:=le_lt a;have h2:=le_lt b;rw [ha] at h1;rw [hb] at h2
 have h3 : (256 : Nat) ^ 64 = 256 ^ 32 * 256 ^ 32:=by decide
 rw [h3];exact Nat.mul_lt_mul'' h1 h2
end Nums
/-
  THE DOCUMENT'S OWN SCALARS: Mul.
-/
namespace Go.Proofs.YtminmeljonbogaaDoor
open Go.RowKit Go.IntWalk Nums

structure UW (w wr : World) (a b : List UInt8) (t : List Int) : Prop where
  a : Blk wr w.heap.size 22 (By a).toArray
  b : Blk wr (w.heap.size + 1) 22 (By b).toArray
  o : Blk wr (w.heap.size + 1 + 1) 22 z32
  t : RL wr (w.heap.size + 1 + 1 + 1) t
  be : Below w.heap.size w wr
theorem UW.set {w wr : World} {a b : List UInt8} {t : List Int} (h : UW w wr a b t) (k : Nat) (x : Int) : UW w (wr.setCell ⟨w.heap.size + 1 + 1 + 1,k,none⟩ (.int .i64 x)) a b (t.set k x) where
 a:=h.a.far (by show w.heap.size ≠ w.heap.size + 1 + 1 + 1; omega) _
 b:=h.b.far (by show w.heap.size + 1 ≠ w.heap.size + 1 + 1 + 1; omega) _
 o:=h.o.far (by show w.heap.size + 1 + 1 ≠ w.heap.size + 1 + 1 + 1; omega) _
 t:=h.t.set k x
 be:=h.be.setCell (by show w.heap.size ≤ w.heap.size + 1 + 1 + 1; omega) _
theorem UW.up {w wr w1 : World} {a b : List UInt8} {t : List Int} (h : UW w wr a b t) (k : Up wr w1) : UW w w1 a b t:=⟨k.blk h.a,k.blk h.b,k.blk h.o,h.t.later k,below_up h.be k⟩

structure VW (w wr : World) (g : Nat) (t : List Int) (s : List UInt8) : Prop where
  hg : w.heap.size + 1 + 1 + 1 < g
  o : Blk wr (w.heap.size + 1 + 1) 22 z32
  t : RL wr (w.heap.size + 1 + 1 + 1) t
  s : WL wr g s
  be : Below w.heap.size w wr
theorem VW.set {w wr : World} {g : Nat} {t : List Int} {s : List UInt8} (h : VW w wr g t s) (k : Nat) (x : UInt8) : VW w (wr.setCell ⟨g,k,none⟩ (.int .u8 (x.toNat : Int))) g t (s.set k x) where
 hg:=h.hg
 o:=h.o.far (by have:=h.hg; show w.heap.size + 1 + 1 ≠ g; omega) _
 t:=h.t.far (by have:=h.hg; show w.heap.size + 1 + 1 + 1 ≠ g; omega) _
 s:=h.s.set k x
 be:=h.be.setCell (by have:=h.hg; show w.heap.size ≤ g; omega) _

set_option maxRecDepth 100000 in
set_option maxHeartbeats 8000000 in
theorem mul4_f (a b : List UInt8) (ha : a.length = 32) (hb : b.length = 32) (w : World) :
  Calls Tryd.prog 40 #[.agg (By a).toArray,.agg (By b).toArray] w fun e w'=>e = .returned (.agg (By (Nums.bytes 32 ((le a * le b) % LL))).toArray) ∧ Below w.heap.size w w':=by
 obtain ⟨i0,hi0,hz0,hz1,hz2⟩:=info_parts info_i64;obtain ⟨i1,hj0,hy0,hy1,hy2⟩:=info_parts info_u8
 have hA0 : UW w ((((w.alloc (.cells (By a).toArray 22)).alloc (.cells (By b).toArray 22)).alloc (.cells z32 22)).alloc (.cells (madeCells #[.int .i64 0] 65) 3)) a b (List.replicate 65 0):=by
  refine ⟨blk4_0 w _ _ _ _ _,blk4_1 w _ _ _ _ _,blk4_2 w _ _ _ _ _,?_,below4 _ _ _ _ _⟩;rw [made_ints];exact RL.row (blk4_3 w _ _ _ _ _)
 have HA:=Lib.hid hA0;clear hA0
 go_enter Tryd.func40,Tryd.ntmps40
 go_wp2_with (at_make; refine wpList_make_row _ rfl _ _ 116 rfl 3 i0 _ Tryd.underlying116 hi0 hz0 hz1 rfl .i64 .i64 65 rfl rfl (by rw [hz2]; omega) (by omega) ?_)
 go_loopw [6] (fun iv wr=>∃ i : Nat,i ≤ 32 ∧ iv = .int .i64 i ∧ ∃ t,Cv a b t i 0 ∧ UW w wr a b t) (fun iv _=>32 - (intOf iv).toNat)
 case atStart=>exact ⟨0,by omega,rfl,List.replicate 65 0,Cv.start a b,HA.out⟩
 case round =>
  clear HA;obtain ⟨i,hi,rfl,t,hC,hW⟩:=hrel
  by_cases hlt : i < 32
  ·have q7 : (i : Int) < 32:=by omega
   have HC:=Lib.hid (And.intro hC hW);clear hC hW
   go_wp2
   go_loopw [7] (fun kv wr=>∃ k : Nat,k ≤ 32 ∧ kv = .int .i64 k ∧ ∃ t,Cv a b t i k ∧ UW w wr a b t) (fun kv _=>32 - (intOf kv).toNat)
   case atStart=>exact ⟨0,by omega,rfl,t,HC.out.1,HC.out.2⟩
   case round =>
    clear HC;obtain ⟨k,hk,rfl,t,hC,hW⟩:=hrel
    by_cases hlk : k < 32
    ·have hN:=hC.next hb hlt hlk
     have hx:=(a[i]!).toNat_lt;have hy:=(b[k]!).toNat_lt;have hxy : (a[i]!).toNat * (b[k]!).toNat ≤ 255 * 255:=Nat.mul_le_mul (by omega) (by omega);have hz:=hC.get (j:=i + k) (by omega);have c0:=(hW.t.later (Below.refl _ _).drew).2.1 (i + k) (by rw [hC.len]; omega);have c1:=(hW.a.drew.cell i).trans (By_get (l:=a) (by omega));have c2:=(hW.b.drew.cell k).trans (By_get (l:=b) (by omega));have hf:=(hW.t.later (Below.refl _ _).drew).2.2 (i + k) (by rw [hC.len]; omega);have hst:=(hW.up (Up.drew wr)).set (i + k) (t[i + k]! + (((a[i]!).toNat * (b[k]!).toNat : Nat) : Int))
     have hzb : t[i + k]! ≤ 66585600:=by omega
     generalize t[i + k]! = z at *;generalize (a[i]!).toNat = x at *;generalize (b[k]!).toNat = y at *;have exy : ((x * y : Nat) : Int) = (x : Int) * (y : Int):=Int.natCast_mul ..
     have qx : IntKind.i64.wrap (x : Int) = (x : Int):=by rw [i64_left,wrap64_in _ (by omega)]
     have qy : IntKind.i64.wrap (y : Int) = (y : Int):=by rw [i64_left,wrap64_in _ (by omega)]
     have q0 : IntKind.i64.wrap ((i : Int) + (k : Int)) = ((i + k : Nat) : Int):=by rw [i64_left,wrap64_in _ (by omega)]; omega
     have q1 : IntKind.i64.wrap ((x : Int) * (y : Int)) = ((x * y : Nat) : Int):=by rw [i64_left,wrap64_in _ (by omega),exy]
     have q2 : IntKind.i64.wrap (z + ((x * y : Nat) : Int)) = z + ((x * y : Nat) : Int):=by rw [i64_left,wrap64_in _ (by omega)]
     have q3 : (0 : Int) ≤ ((i + k : Nat) : Int):=by omega
     have q4 : ((i + k : Nat) : Int) < 65:=by omega
     have q5 : (0 : Int) ≤ (i : Int):=by omega
     have q6 : (0 : Int) ≤ (k : Int):=by omega
     have HN:=Lib.hid (And.intro hN hst);clear hN hst hC hW exy hz;generalize i + k = m at *;generalize x * y = xy at *
     go_wp2
     go_still_tail 17,(by kernel_rfl)
     go_wp2
     go_roundw
     case rel=>exact ⟨k + 1,by omega,by go_num,_,HN.out.1,HN.out.2⟩
     case measure=>simp [intOf]; omega
    ·obtain rfl : k = 32:=by omega
     have HR:=Lib.hid (And.intro (hC.roll ha hb hlt) hW);clear hC hW
     go_wp2
     go_roundw
     case rel=>exact ⟨i + 1,by omega,by go_num,_,HR.out.1,HR.out.2⟩
     case measure=>simp [intOf]; omega
  ·obtain rfl : i = 32:=by omega
   have hV:=hC.last ha;have htl:=hC.len
   have htb : ∀ j,j < 65 → ∃ x : Nat,t[j]! = (x : Int) ∧ x ≤ 66585600:=fun j hj=>by
    have h1:=hC.get hj;exact ⟨t[j]!.toNat,by omega,by omega⟩
   have hV0 : ∀ gs,wr.heap.size = gs → VW w (wr.alloc (.cells (madeCells #[.int .u8 0] 65) 5)) gs t (List.replicate 65 0):=fun gs hgs=>by
    subst hgs;refine ⟨hW.t.1,hW.o.alloc _,hW.t.later ((Below.refl _ _).alloc (Nat.le_refl _) _),?_,hW.be.alloc hW.be.size _⟩;rw [made_bytes];exact WL.row (Blk.new wr _ _)
   have HV:=Lib.hid hV;generalize hgs : wr.heap.size = gs at *;have HW:=Lib.hid (hV0 gs rfl);clear hC hW hV0 hV
   go_wp2_with (at_make; refine wpList_make_row _ rfl _ _ 23 rfl 5 i1 _ Tryd.underlying23 hj0 hy0 hy1 rfl .i64 .i64 65 rfl rfl (by rw [hy2]; omega) (by omega) ?_)
   clear hgs
   go_loopw [9,40] (fun cv kv wx=>∃ k : Nat,k ≤ 65 ∧ kv = .int .i64 k ∧ ∃ (c : Nat) (s : List UInt8),cv = .int .i64 c ∧ Cy t s c k ∧ VW w wx gs t s) (fun _ kv _=>65 - (intOf kv).toNat)
   case atStart=>exact ⟨0,by omega,rfl,0,List.replicate 65 0,rfl,Cy.start (by simp),HW.out⟩
   case round =>
    clear HW;obtain ⟨k,hk,rfl,c,s,rfl,hY,hM⟩:=hrel
    by_cases hlk : k < 65
    ·obtain ⟨x,hx,hxb⟩:=htb k hlk
     have hN:=hY.next htl hlk hx hxb;have ct:=hM.t.2.1 k (by omega);have cs:=hM.s.1.2 k (by rw [hY.1]; omega);have fs:=hM.s.2 k (by rw [hY.1]; omega);have hc:=hY.2.1;have hMn:=hM.set k (UInt8.ofNat ((c + x) % 256));rw [UInt8.toNat_ofNat_of_lt' (by show _ < 256; omega)] at hMn;rw [hx] at ct
     have hm1 : ((c : Int) + (x : Int)).tmod 256 = (((c + x) % 256 : Nat) : Int):=by rw [Int.tmod_eq_emod_of_nonneg (by omega)]; rfl
     have hd1 : ((c : Int) + (x : Int)).tdiv 256 = (((c + x) / 256 : Nat) : Int):=by rw [Int.tdiv_eq_ediv_of_nonneg (by omega)]; rfl
     have hr256 : (c + x) % 256 < 256:=Nat.mod_lt _ (by decide)
     have hq256 : (c + x) / 256 < 1000000:=by omega
     have HD:=Lib.hid (And.intro hN hMn)
     have hk65 : (k : Int) < 65:=by omega
     clear hN hMn hY hM htb;generalize (c + x) % 256 = r at *;generalize (c + x) / 256 = q at *
     go_wp2
     go_roundw
     case rel=>exact ⟨k + 1,by omega,by go_num,q,_,rfl,HD.out.1,HD.out.2⟩
     case measure=>simp [intOf]; omega
    ·obtain rfl : k = 65:=by omega
     have hv:=hY.last htl HV.out (prod_lt ha hb);have hl65:=hY.1;have HMd:=fun (w1 : World) (h : WL w1 gs s)=>Lib.hid (mod_any s gs 65 w1 (by omega) h.1);rw [hv,hl65] at HMd;have HM:=HMd _ hM.s;have HW:=Lib.hid hM;clear hY hM HMd hv hl65 htb
     go_wp2_with (fail)
     refine HM.out.mono ?_
     rintro e w2 ⟨rfl,hw2⟩
     have ho:=HW.out.o.later hw2;have HB:=Lib.hid (HW.out.be.trans (hw2.mono HW.out.be.size));have hz:=len_by (bytes_len 32 ((le a * le b) % LL));clear HM HW hw2;generalize hu : Nums.bytes 32 ((le a * le b) % LL) = u at *;have HU:=Lib.hid hu;clear hu
     go_wp2_with (refine wpList_store_row rfl 22 _ _ rfl (w.heap.size + 1 + 1) rfl (By u).toArray rfl 22 _ ho (size_hash _ hz) (by rw [hz]; rfl) (By_one _) ?_)
     refine bodyPost_ret (results_cell_row rfl _ _ (w.heap.size + 1 + 1) 22 (By u).toArray (0,0) _ rfl (ho.row _) Tryd.underlying22 rfl (size_hash _ hz)) rfl ⟨by rw [HU.out],?_⟩;exact below_setRow HB.out (by omega) _
end Go.Proofs.YtminmeljonbogaaDoor
/-
  THE DOCUMENT'S SIGNATURES: steps.
-/
namespace Go.Proofs.YtminmeljonbogaaDoor
open Go.RowKit Go.IntWalk Nums

theorem own_rlong : Own 38:=fun _ _=>by go_simp
theorem own_rnum6 : Own 36:=fun _ _=>by go_simp
theorem own_rkey6 : Own 11:=fun _ _=>by go_simp
theorem own_rmod4 : Own 37:=fun _ _=>by go_simp
theorem own_radd4 : Own 39:=fun _ _=>by go_simp
theorem own_rmul4 : Own 40:=fun _ _=>by go_simp
def DG (v : Value) (D : List UInt8) (w : World) : Prop:=∃ g c,v = .slice (some ⟨g,0,none⟩) D.length c ∧ BL w g D ∧ SB w v D
theorem BL.later {w w' : World} {g : Nat} {l : List UInt8} (h : BL w g l) (hb : Below w.heap.size w w') : BL w' g l:=h.below hb h.1
theorem DG.later {w w' : World} {v : Value} {D : List UInt8} (h : DG v D w) (hb : Below w.heap.size w w') : DG v D w':=by
 obtain ⟨g,c,e,h1,h2⟩:=h;exact ⟨g,c,e,h1.later hb,h2.later hb⟩
theorem DG.sb {w : World} {v : Value} {D : List UInt8} (h : DG v D w) : SB w v D:=by
 obtain ⟨_,_,_,_,h⟩:=h;exact h
theorem DG.bl {w : World} {g n c : Nat} {D : List UInt8} (h : DG (.slice (some ⟨g,0,none⟩) n c) D w) : BL w g D:=by
 obtain ⟨g',c',e,h,_⟩:=h
 injection e with e
 injection e with e
 injection e with e
 rw [e];exact h
theorem bl_of {w : World} {g t : Nat} {l : List UInt8} (h : Blk w g t (By l).toArray) : BL w g l:=⟨h.lt,fun j hj=>(h.cell j).trans (By_get hj)⟩
theorem digest_pos (m : List UInt8) : 0 < (digest s512 m).length:=by rw [digest512_len]; decide
theorem rlong_g {P : Option Addr} {ls : List (List UInt8)} {pc : Nat} (hn : ls.length ≤ 1000000) (hl : ls.flatten.length ≤ 70368744177664) (w : World) (hP : PT w P ls) :
  Calls Tryd.prog 38 #[.slice P ls.length pc] w fun e w'=>∃ v,e = .returned v ∧ DG v (digest s512 ls.flatten) w' ∧ Below w.heap.size w w' :=
 (rlong_f P ls pc (by omega) hl w hP).mono fun e w' ⟨A,c,he,hG,hb⟩=>by
  rw [By_len] at he;refine ⟨_,he,?_,hb⟩;have hsb:=hG.sb
  rcases hG.cut with ⟨h1,_,h3⟩ | ⟨g,h1,_,h3⟩
  ·have h4:=congrArg List.length h3
   rw [By_len] at h4;have:=digest_pos ls.flatten;simp only [List.length_nil] at h4
   omega
  ·subst h1
   refine ⟨g,c,rfl,⟨h3.lt,fun j hj=>h3.cell j _ ?_⟩,hsb⟩;have:=By_get (l:=digest s512 ls.flatten) hj
   simpa using this
section
variable {ops : Array Oper} {C0 : World → Prop} {Q : Act → Prop} {N : Nat} {E : List (Nat × Value)} {o : Oper} {rest : List Oper} {k : Nat}
theorem f_cutB {x : Operand} (g n c : Nat) (hn : 32 ≤ n) (hc : n ≤ c) (hg : o.guard = none) (hd : o.dst = some k) (hk : Nat.blt k N = true) (ho : o.op = .slice 23 x (some (.const (.int .i64 32))) none none) (hx : ev E x = some (.slice (some ⟨g,0,none⟩) n c))
  (hn' : bF Tryd.prog ops C0 Q rest N ((k,.slice (if c = 32 then some ⟨g,0,none⟩ else some ⟨g,32,none⟩) (n - 32) (c - 32)) :: E)) : bF Tryd.prog ops C0 Q (o :: rest) N E :=
 f_val _ hg hd hk (fun a ha w _=>by
  have h1:=ha.eval hx
  have h2 : (32 : Int) ≤ (n : Int):=by omega
  have h3 : (n : Int) ≤ (c : Int):=by omega
  unfold execOp
  simp only [ho,h1]
  go_simp) hn'
theorem f_remB {x y : Operand} {t : TypeId} (m n r : Int) (hz : n ≠ 0) (hg : o.guard = none) (hd : o.dst = some k) (hk : Nat.blt k N = true) (ho : o.op = .binOp .rem 5 x y t) (hx : ev E x = some (.int .u8 m)) (hy : ev E y = some (.int .u8 n))
  (hr : m.tmod n = r) (hn : bF Tryd.prog ops C0 Q rest N ((k,.int .u8 r) :: E)) : bF Tryd.prog ops C0 Q (o :: rest) N E :=
 f_val _ hg hd hk (fun a ha w _=>by
  have h1:=ha.eval hx;have h2:=ha.eval hy;subst hr
  unfold execOp
  simp only [ho,h1,h2]
  go_simp) hn
theorem f_subB {x y : Operand} {t : TypeId} (m n r : Int) (hg : o.guard = none) (hd : o.dst = some k) (hk : Nat.blt k N = true) (ho : o.op = .binOp .sub 5 x y t) (hx : ev E x = some (.int .u8 m)) (hy : ev E y = some (.int .u8 n))
  (hr : IntKind.u8.wrap (m - n) = r) (hn : bF Tryd.prog ops C0 Q rest N ((k,.int .u8 r) :: E)) : bF Tryd.prog ops C0 Q (o :: rest) N E :=
 f_val _ hg hd hk (fun a ha w _=>by
  have h1:=ha.eval hx;have h2:=ha.eval hy;subst hr
  unfold execOp
  simp only [ho,h1,h2]
  go_simp) hn
theorem f_addB {x y : Operand} {t : TypeId} (m n r : Int) (hg : o.guard = none) (hd : o.dst = some k) (hk : Nat.blt k N = true) (ho : o.op = .binOp .add 5 x y t) (hx : ev E x = some (.int .u8 m)) (hy : ev E y = some (.int .u8 n))
  (hr : IntKind.u8.wrap (m + n) = r) (hn : bF Tryd.prog ops C0 Q rest N ((k,.int .u8 r) :: E)) : bF Tryd.prog ops C0 Q (o :: rest) N E :=
 f_val _ hg hd hk (fun a ha w _=>by
  have h1:=ha.eval hx;have h2:=ha.eval hy;subst hr
  unfold execOp
  simp only [ho,h1,h2]
  go_simp) hn
end
theorem cut_sb {w : World} {g c : Nat} {l : List UInt8} (h : SB w (.slice (some ⟨g,0,none⟩) l.length c) l) (hl : 32 ≤ l.length) : SB w (.slice (if c = 32 then some ⟨g,0,none⟩ else some ⟨g,32,none⟩) (l.length - 32) (c - 32)) (l.drop 32):=by
 obtain ⟨A,c',e,hS⟩:=h
 injection e with e1 e2 e3
 subst e1 e3;refine ⟨_,_,?_,hS.cut hl⟩;rw [List.length_drop]
 congr 1
theorem rem8 (m : Nat) : ((m : Int)).tmod 8 = ((m % 8 : Nat) : Int):=rfl
theorem rem64 (m : Nat) : ((m : Int)).tmod 64 = ((m % 64 : Nat) : Int):=rfl
theorem sub8 (m : Nat) (h : m < 256) : IntKind.u8.wrap ((m : Int) - ((m % 8 : Nat) : Int)) = ((m / 8 * 8 : Nat) : Int):=by
 have key : ∀ m : Nat,m < 256 → IntKind.u8.wrap ((m : Int) - ((m % 8 : Nat) : Int)) = ((m / 8 * 8 : Nat) : Int):=by decide +kernel
 exact key m h
theorem add64 (m : Nat) (h : m < 256) : IntKind.u8.wrap (((m % 64 : Nat) : Int) + 64) = ((m % 64 + 64 : Nat) : Int):=by
 have key : ∀ m : Nat,m < 256 → IntKind.u8.wrap (((m % 64 : Nat) : Int) + 64) = ((m % 64 + 64 : Nat) : Int):=by decide +kernel
 exact key m h
end Go.Proofs.YtminmeljonbogaaDoor
/-
  THE DOCUMENT'S SIGNATURES: number, Key.
-/
namespace Go.Proofs.YtminmeljonbogaaDoor
open Go.RowKit Go.IntWalk Nums

set_option maxRecDepth 100000 in
set_option maxHeartbeats 2000000 in
theorem rnum6_f {seed : List UInt8} (hs : seed.length = 32) (w : World) :
  Calls Tryd.prog 36 #[.agg (By seed).toArray] w fun e w'=>e = .returned (.agg (By (sgAB seed)).toArray) ∧ Below w.heap.size w w':=by
 refine calls_F (vs:=[.agg (By seed).toArray]) 21 Tryd.func36 rfl (by rw [Tryd.ntmps36]; rfl) ?_;have hU:=Up.refl w;refine c_seq fun K hK=>?_;refine c_lit ?_;refine l_boxA ((By seed).toArray) rfl rfl rfl rfl rfl fun W1 g1 hw1 hg1 b1=>?_;replace hU:=hU.step hw1;clear hw1 hg1;refine l_allocA z32 rfl rfl rfl rfl (by kernel_rfl) fun W2 g2 hw2 hg2 b2=>?_
 have q2 : w.heap.size ≤ g2:=by rw [hg2]; exact hU.size
 replace b1:=b1.later hw2;replace hU:=hU.step hw2;clear hw2 hg2;refine l_nil ?_;refine hK _ _ ?_;clear hK K;refine c_seq fun K hK=>?_;refine c_gF 5 ?_;refine g_op rfl ?_;refine f_slice32 g1 rfl rfl rfl rfl rfl ?_;refine g_go ?_;refine g_slices [.slice (some ⟨g1,0,none⟩) 32 32] [seed] (W2).heap.size rfl rfl rfl rfl rfl rfl rfl (by decide) (by decide) (fun _ h=>h.size) (fun _ h hu=>⟨SB.all (b1.later h) hs (by decide),trivial⟩) fun gs3 _ _ _=>?_
 refine g_call #[.slice (some ⟨gs3,0,none⟩) 1 1] (DG · (sgD seed)) rfl rfl rfl rfl (fun _ _ _ h hr=>h.later hr) own_rlong (fun w1 h1 hu=>by
   have:=rlong_g (P:=some ⟨gs3,0,none⟩) (ls:=[seed]) (pc:=1) (by simp only [List.length_cons,List.length_nil]; omega) (by simp; omega) w1 (hu 1 _ rfl (by kernel_rfl) : NewS _ _ _ _ _).pt
   rwa [show [seed].flatten = seed from by simp,show digest s512 seed = sgD seed from rfl] at this) rfl rfl fun _ _ _ hv4=>?_
 obtain ⟨gd4,cd4,rfl,_,hsb4⟩:=hv4;refine g_op rfl ?_
 refine f_call #[.slice (some ⟨gd4,0,none⟩) (sgD seed).length cd4,.int .i64 0] (.agg (By ((sgD seed).take 32)).toArray) rfl rfl rfl own_rhalf (fun w1 h1=>by
   have:=rhalf_f (at':=0) w1 ((h1.2 2 _ rfl (by kernel_rfl) : DG _ _ _).sb) (by rw [sgD_len]; decide)
   rwa [List.drop_zero] at this) rfl rfl ?_
 refine g_go ?_;refine g_alloc z32 (W2).heap.size rfl rfl rfl rfl rfl (by kernel_rfl) (fun _ h=>h.size) (fun g w w' h hr=>⟨h.1,h.2.later hr⟩) fun g5 _ _ _ _=>?_;refine g_end fun W6 hw6 hF6=>?_;have b5:=(hF6 4 _ rfl).2;have ge5:=(hF6 4 _ rfl).1
 have n1_5 : g1 ≠ g5:=by have:=b1.lt; omega
 have n2_5 : g2 ≠ g5:=by have:=b2.lt; omega
 have q5 : w.heap.size ≤ g5:=Nat.le_trans hU.size ge5;clear ge5;clear hF6;replace b1:=b1.later hw6;replace b2:=b2.later hw6;replace hU:=hU.step hw6;clear hw6;refine l_set g5 _ ((By ((sgD seed).take 32)).toArray) rfl rfl rfl rfl rfl b5 (size_H ((take32 (sgD_len seed)))) (by rw [len_by ((take32 (sgD_len seed)))]; rfl) (By_oneA _) ?_;replace b1:=b1.rowFar n1_5 ((By ((sgD seed).take 32)).toArray);replace b2:=b2.rowFar n2_5 ((By ((sgD seed).take 32)).toArray);replace b5:=b5.row ((By ((sgD seed).take 32)).toArray);replace hU:=up_row hU q5 ((By ((sgD seed).take 32)).toArray);generalize World.setRow _ g5 ((By ((sgD seed).take 32)).toArray) = W7 at *;refine l_nil ?_;refine hK _ _ ?_;clear hK K;obtain ⟨d,hd⟩ : ∃ d,d = (sgD seed).take 32:=⟨_,rfl⟩
 have hl : d.length = 32:=by rw [hd]; exact take32 (sgD_len seed)
 rw [← hd] at b5;have x0:=(d[0]!).toNat_lt;have c0:=(b5.cell 0).trans (By_get (l:=d) (j:=0) (by rw [hl]; decide))
 have e0 : ((UInt8.ofNat ((d[0]!).toNat / 8 * 8)).toNat : Int) = (((d[0]!).toNat / 8 * 8 : Nat) : Int):=by rw [ofNat_toNat (by omega)]
 refine c_seq fun K hK=>?_;refine c_tF 7 ?_;refine f_ix _ 0 ⟨g5,0,none⟩ rfl rfl rfl rfl rfl rfl (ixH _ 0 (by decide)) ?_;refine f_load ⟨g5,0,none⟩ (.int .u8 ((d[0]!).toNat : Int)) (by decide) rfl rfl rfl rfl rfl (fun _ h1=>(h1.cell b5.lt).trans c0) ?_;refine f_ix _ 0 ⟨g5,0,none⟩ rfl rfl rfl rfl rfl rfl (ixH _ 0 (by decide)) ?_;refine f_load ⟨g5,0,none⟩ (.int .u8 ((d[0]!).toNat : Int)) (by decide) rfl rfl rfl rfl rfl (fun _ h1=>(h1.cell b5.lt).trans c0) ?_;refine f_remB _ 8 (((d[0]!).toNat % 8 : Nat) : Int) (by decide) rfl rfl rfl rfl rfl rfl (rem8 _) ?_;refine f_subB _ _ (((d[0]!).toNat / 8 * 8 : Nat) : Int) rfl rfl rfl rfl rfl rfl (sub8 _ x0) ?_;refine f_ix _ 0 ⟨g5,0,none⟩ rfl rfl rfl rfl rfl rfl (ixH _ 0 (by decide)) ?_;refine f_store ⟨g5,0,none⟩ (((d[0]!).toNat / 8 * 8 : Nat) : Int) _ (.inr ⟨rfl,rfl⟩) rfl rfl rfl rfl rfl c0 (b5.free 0) b5.lt fun w8 hw8=>?_;replace b1:=(b1.later hw8).far (p:=⟨g5,0,none⟩) n1_5 (.int .u8 (((d[0]!).toNat / 8 * 8 : Nat) : Int));replace b2:=(b2.later hw8).far (p:=⟨g5,0,none⟩) n2_5 (.int .u8 (((d[0]!).toNat / 8 * 8 : Nat) : Int));replace b5:=(b5.later hw8).set 0 (.int .u8 (((d[0]!).toNat / 8 * 8 : Nat) : Int));replace hU : Up w _:=(hU.step hw8).setCell (p:=⟨g5,0,none⟩) q5 (.int .u8 (((d[0]!).toNat / 8 * 8 : Nat) : Int));rw [← e0,By_set] at b5;rw [← e0] at b1 b2 hU ⊢;rw [show d.set 0 (UInt8.ofNat ((d[0]!).toNat / 8 * 8)) = lowB d from rfl] at b5;generalize World.setCell _ ⟨g5,0,none⟩ (.int .u8 ((UInt8.ofNat ((d[0]!).toNat / 8 * 8)).toNat : Int)) = W8 at *;refine k_sub (E':=[(2,.pointer (some ⟨g2,0,none⟩)),(3,.pointer (some ⟨g5,0,none⟩))]) ⟨rfl,rfl,trivial⟩ ?_;refine hK _ _ ?_;clear hK K hw8 c0 x0 e0;have x31:=((lowB d)[31]!).toNat_lt;have c31:=(b5.cell 31).trans (By_get (l:=lowB d) (j:=31) (by rw [lowB_len,hl]; decide))
 have e31 : ((UInt8.ofNat (((lowB d)[31]!).toNat % 64 + 64)).toNat : Int) = ((((lowB d)[31]!).toNat % 64 + 64 : Nat) : Int):=by rw [ofNat_toNat (by omega)]
 refine c_seq fun K hK=>?_;refine c_tF 5 ?_;refine f_ix _ 31 ⟨g5,31,none⟩ rfl rfl rfl rfl rfl rfl (ixH _ 31 (by decide)) ?_;refine f_load ⟨g5,31,none⟩ (.int .u8 (((lowB d)[31]!).toNat : Int)) (by decide) rfl rfl rfl rfl rfl (fun _ h1=>(h1.cell b5.lt).trans c31) ?_;refine f_remB _ 64 ((((lowB d)[31]!).toNat % 64 : Nat) : Int) (by decide) rfl rfl rfl rfl rfl rfl (rem64 _) ?_;refine f_addB _ 64 ((((lowB d)[31]!).toNat % 64 + 64 : Nat) : Int) rfl rfl rfl rfl rfl rfl (add64 _ x31) ?_;refine f_ix _ 31 ⟨g5,31,none⟩ rfl rfl rfl rfl rfl rfl (ixH _ 31 (by decide)) ?_;refine f_store ⟨g5,31,none⟩ ((((lowB d)[31]!).toNat % 64 + 64 : Nat) : Int) _ (.inr ⟨rfl,rfl⟩) rfl rfl rfl rfl rfl c31 (b5.free 31) b5.lt fun w9 hw9=>?_;replace b1:=(b1.later hw9).far (p:=⟨g5,31,none⟩) n1_5 (.int .u8 ((((lowB d)[31]!).toNat % 64 + 64 : Nat) : Int));replace b2:=(b2.later hw9).far (p:=⟨g5,31,none⟩) n2_5 (.int .u8 ((((lowB d)[31]!).toNat % 64 + 64 : Nat) : Int));replace b5:=(b5.later hw9).set 31 (.int .u8 ((((lowB d)[31]!).toNat % 64 + 64 : Nat) : Int));replace hU : Up w _:=(hU.step hw9).setCell (p:=⟨g5,31,none⟩) q5 (.int .u8 ((((lowB d)[31]!).toNat % 64 + 64 : Nat) : Int));rw [← e31,By_set] at b5;rw [← e31] at b1 b2 hU ⊢;rw [show (lowB d).set 31 (UInt8.ofNat (((lowB d)[31]!).toNat % 64 + 64)) = clampB d from rfl] at b5;generalize World.setCell _ ⟨g5,31,none⟩ (.int .u8 ((UInt8.ofNat (((lowB d)[31]!).toNat % 64 + 64)).toNat : Int)) = W9 at *;refine k_sub (E':=[(2,.pointer (some ⟨g2,0,none⟩)),(3,.pointer (some ⟨g5,0,none⟩))]) ⟨rfl,rfl,trivial⟩ ?_;refine hK _ _ ?_;clear hK K hw9 c31 x31 e31
 have ha : clampB d = sgAB seed:=by rw [hd]; rfl
 rw [ha] at b5;clear ha hd hl d;refine c_seq fun K hK=>?_;refine c_gF 1 ?_;refine g_op rfl ?_;refine f_by g5 0 ((sgAB_len seed)) rfl rfl rfl rfl rfl (fun _ h1=>(h1.1.blk b5).range) ?_;refine g_go ?_;refine g_end fun W10 hw10 hF10=>?_;clear hF10;replace b2:=b2.later hw10;replace hU:=hU.step hw10;clear hw10;refine l_set g2 _ ((By (sgAB seed)).toArray) rfl rfl rfl rfl rfl b2 (size_H ((sgAB_len seed))) (by rw [len_by ((sgAB_len seed))]; rfl) (By_oneA _) ?_;replace b2:=b2.row ((By (sgAB seed)).toArray);replace hU:=up_row hU q2 ((By (sgAB seed)).toArray);generalize World.setRow _ g2 ((By (sgAB seed)).toArray) = W11 at *;refine l_nil ?_;refine hK _ _ ?_;clear hK K;exact c_ret (k_ret_row g2 _ rfl rfl b2 Tryd.underlying22 rfl (size_H ((sgAB_len seed))) ⟨rfl,hU⟩)

set_option maxRecDepth 100000 in
set_option maxHeartbeats 2000000 in
theorem rkey6_f {D : List Int} {seed : List UInt8} (hD : NB 65573 D dd) (hs : seed.length = 32) (w : World) :
  Calls Tryd.prog 11 #[.agg (Is D).toArray,.agg (By seed).toArray] w fun e w'=>e = .returned (.agg (By (sgKey seed)).toArray) ∧ Below w.heap.size w w':=by
 refine calls_F (vs:=[.agg (Is D).toArray,.agg (By seed).toArray]) 12 Tryd.func11 rfl (by rw [Tryd.ntmps11]; rfl) ?_;have hU:=Up.refl w;refine c_seq fun K hK=>?_;refine c_lit ?_;refine l_boxA ((Is D).toArray) rfl rfl rfl rfl rfl fun W1 g1 hw1 hg1 b1=>?_;replace hU:=hU.step hw1;clear hw1 hg1;refine l_boxA ((By seed).toArray) rfl rfl rfl rfl rfl fun W2 g2 hw2 hg2 b2=>?_;replace b1:=b1.later hw2;replace hU:=hU.step hw2;clear hw2 hg2;refine l_allocA z32 rfl rfl rfl rfl (by kernel_rfl) fun W3 g3 hw3 hg3 b3=>?_
 have q3 : w.heap.size ≤ g3:=by rw [hg3]; exact hU.size
 replace b1:=b1.later hw3;replace b2:=b2.later hw3;replace hU:=hU.step hw3;clear hw3 hg3;refine l_nil ?_;refine hK _ _ ?_;clear hK K;refine c_seq fun K hK=>?_;refine c_g 7 (by decide) (by kernel_rfl) (by kernel_rfl) ?_;refine g_op rfl ?_;refine f_cu g1 hD.len rfl rfl rfl rfl rfl (fun _ h1=>(h1.1.blk b1).range) ?_;refine g_go ?_;refine g_op rfl ?_;refine f_cu g1 hD.len rfl rfl rfl rfl rfl (fun _ h1=>(h1.1.blk b1).range) ?_;refine g_go ?_;refine g_op rfl ?_;refine f_rpt #[.agg (Is D).toArray] base rfl rfl rfl own_rbase (fun w1 h1=>base_f hD w1) rfl rfl fun X7 Y7 Z7 T7 v7=>?_;refine g_go ?_;refine g_op rfl ?_;refine f_by g2 0 hs rfl rfl rfl rfl rfl (fun _ h1=>(h1.1.blk b2).range) ?_;refine g_go ?_;refine g_op rfl ?_;refine f_call #[.agg (By seed).toArray] (.agg (By (sgAB seed)).toArray) rfl rfl rfl own_rnum6 (fun w1 h1=>rnum6_f hs w1) rfl rfl ?_;refine g_go ?_;refine g_op rfl ?_;refine f_rpt #[.agg (Is D).toArray,.agg (pt X7 Y7 Z7 T7).toArray,.agg (By (sgAB seed)).toArray] (Ed.mul dd (le (sgAB seed)) base) rfl rfl rfl own_rmul5 (fun w1 h1=>pmul_f hD v7 ((sgAB_len seed)) w1) rfl rfl fun X10 Y10 Z10 T10 v10=>?_;refine g_go ?_;refine g_op rfl ?_
 refine f_call #[.agg (pt X10 Y10 Z10 T10).toArray] (.agg (By (sgKey seed)).toArray) rfl rfl rfl own_rbytes (fun w1 h1=>by
   have:=pbytes_f v10 w1
   rwa [show encP (Ed.mul dd (le (sgAB seed)) base) = sgKey seed from rfl] at this) rfl rfl ?_
 refine g_go ?_;refine g_end fun W4 hw4 hF4=>?_;clear hF4;replace b3:=b3.later hw4;replace hU:=hU.step hw4;clear hw4;refine l_set g3 _ ((By (sgKey seed)).toArray) rfl rfl rfl rfl rfl b3 (size_H ((sgKey_len seed))) (by rw [len_by ((sgKey_len seed))]; rfl) (By_oneA _) ?_;replace b3:=b3.row ((By (sgKey seed)).toArray);replace hU:=up_row hU q3 ((By (sgKey seed)).toArray);generalize World.setRow _ g3 ((By (sgKey seed)).toArray) = W5 at *;refine l_nil ?_;refine hK _ _ ?_;clear hK K;exact c_ret (k_ret_row g3 _ rfl rfl b3 Tryd.underlying22 rfl (size_H ((sgKey_len seed))) ⟨rfl,hU⟩)
end Go.Proofs.YtminmeljonbogaaDoor
