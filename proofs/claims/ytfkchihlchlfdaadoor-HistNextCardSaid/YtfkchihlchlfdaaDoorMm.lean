import Derived.Test.YtfkchihlchlfdaaDoorMe
import Derived.Test.YtfkchihlchlfdaaDoorMl
import Derived.Test.YtfkchihlchlfdaaDoorMg
import Derived.Test.YtfkchihlchlfdaaDoorMc
import Derived.Test.YtfkchihlchlfdaaDoorMi
import Derived.Test.YtfkchihlchlfdaaDoorMa
import Derived.Deep.AppendLies
import Derived.Deep.OwnRows
import Derived.OwnWalk
open And renaming intro->aY
open Go.IntKind renaming wrap_u64->aP,wrap_u8'->k6
open Go.Lib renaming hid->aH
open Go.World renaming setRow->dU
open List renaming setIfInBounds_toArray->aA,set_cons_zero->aB,set_cons_succ->aC,replicate->aD,length_append->aO,append_assoc->aU,length_take->aZ,take_succ_cons->a9,size_toArray->bA,length_replicate->bM,take_zero->bN,take_of_length_le->bT,length_cons->bW,append_nil->cD,length_set->eP,take_append_drop->fQ,length_drop->iG,nil_append->jD,take_succ_eq_append_getElem->jM,drop_eq_getElem_cons->lX,length_reverse->lZ,flatten_cons->o6,drop_zero->qI,length_nil->qJ,drop_of_length_le->vX,set_append_right->Ba,take_append_of_le_length->DZ,cons_append->Jm
open Nat renaming le_refl->aF,lt_of_lt_of_le->bB,lt_of_le_of_lt->bR,mod_eq_of_lt->bS,min_eq_left->cO,pow_succ->dE,mod_lt->eR,le_of_lt->fA,div_le_self->gJ,div_div_eq_div_mul->gX,le_trans->jL,pow_zero->qG,add_mul->rH,div_one->sG,lt_trans->uV,mul_mod->wR,sub_self->zG,mul_zero->A9,one_mul->CG
open UInt8 renaming ofNat->aX
namespace Go.Proofs.YtfkchihlchlfdaaDoor
open Go.RowKit Go.IntWalk Nums
structure S5 (B gh gb : Nat) (w0 w : World) (o : Oct) (b : List UInt8) : Prop where
  h : Blk w gh 91 (Us o.list).toArray
  m : Blk w gb 121 (By b).toArray
  ob : OB 64 o
  len : b.length = 128
  ts : Ts w
  be : Below B w0 w
  bh : B <= gh
  bb : B <= gb
  ne : gh ≠ gb
  ht : 1 < B
theorem Ts.Aj {B : Nat} {w w' : World} (h : Ts w) (hb : Below B w w') (hB : 1 < B) : Ts w' :=
 ⟨λi hi=>(hb.cell (p:=⟨1,i,none⟩) hB).trans (h.cell i hi),bB h.lt hb.size⟩
section
variable {B gh gb : Nat} {w0 w w' : World} {o : Oct} {b : List UInt8}
theorem S5.up (h : S5 B gh gb w0 w o b) (k : Below w.heap.size w w') (hB : B <= w.heap.size) : S5 B gh gb w0 w' o b :=
 ⟨h.h.later k,h.m.later k,h.ob,h.len,h.ts.below k,h.be.trans (k.mono hB),h.bh,h.bb,h.ne,h.ht⟩
theorem S5.BI (h : S5 B gh gb w0 w o b) : S5 B gh gb w w o b:=⟨h.h,h.m,h.ob,h.len,h.ts,Below.refl _ _,h.bh,h.bb,h.ne,h.ht⟩
theorem S5.since {w1 : World} (h : S5 B gh gb w0 w o b) (k : Below B w1 w0) : S5 B gh gb w1 w o b:=⟨h.h,h.m,h.ob,h.len,h.ts,k.trans h.be,h.bh,h.bb,h.ne,h.ht⟩
theorem S5.size (h : S5 B gh gb w0 w o b) : B <= w.heap.size:=fA (bR h.bh h.h.lt)
theorem S5.H7 (h : S5 B gh gb w0 w o b) {p : Oct} (hp : OB 64 p) : S5 B gh gb w0 (w.setRow gh (Us p.list).toArray) p b :=
 ⟨h.h.row _,h.m.aR (Ne.symm h.ne) _,hp,h.len,h.ts.Aj (below_setRow (Below.refl B w) h.bh _) h.ht,below_setRow h.be h.bh _,h.bh,h.bb,h.ne,h.ht⟩
theorem S5.D6 (h : S5 B gh gb w0 w o b) {c : List UInt8} (hc : c.length = 128) : S5 B gh gb w0 (w.setRow gb (By c).toArray) o c :=
 ⟨h.h.aR h.ne _,h.m.row _,h.ob,hc,h.ts.Aj (below_setRow (Below.refl B w) h.bb _) h.ht,below_setRow h.be h.bb _,h.bh,h.bb,h.ne,h.ht⟩
theorem S5.D9 (h : S5 B gh gb w0 w o b) (k : Nat) (x : UInt8) : S5 B gh gb w0 (w.setCell ⟨gb,k,none⟩ (.int .u8 (x.toNat : Int))) o (b.set k x) where
 h:=h.h.far (by show gh ≠ gb; exact h.ne) _
 m:=by
  have h4:=h.m.set k (.int .u8 (x.toNat : Int));rw [rG] at h4;exact h4
 ob:=h.ob
 len:=by rw [eP]; exact h.len
 ts:=h.ts.Aj ((Below.refl B w).setCell (p:=⟨gb,k,none⟩) h.bb _) h.ht
 be:=h.be.setCell h.bb _
 bh:=h.bh
 bb:=h.bb
 ne:=h.ne
 ht:=h.ht
end
set_option maxRecDepth 100000 in
set_option maxHeartbeats 1000000 in
theorem nM {B gh gb : Nat} {w0 w : World} {o : Oct} {b : List UInt8} (h : S5 B gh gb w0 w o b) :
  Calls Tryd.prog 76 #[.pointer (some ⟨gh,0,none⟩),.pointer (some ⟨gb,0,none⟩)] w λe w'=>e = .returned (.tuple #[]) /\ S5 B gh gb w0 w' (iA eM o b) b:=by
 have HT:=KQ h.ob h.len w h.ts;have kh:=h.h;have km:=h.m;have hz : (Us o.list).toArray.size = 8:=rfl;have hz2 : (Us (iA eM o b).list).toArray.size = 8:=rfl;have hb128:=GB h.len;have hp:=OB.iA eM o b;have HK:=aH h;clear h;generalize iA eM o b = p at *
 go_enter Tryd.func76,Tryd.ntmps76
 go_wp2_with (first
  | (refine wpList_load_row rfl 91 _ rfl gh rfl 91 (Us o.list).toArray (0,0) _ kh Tryd.underlying91 rfl (qN _ hz) ?_)
  | (refine wpList_load_row rfl 121 _ rfl gb rfl 121 (By b).toArray (0,0) _ km Tryd.underlying121 rfl (Dc _ hb128) ?_))
 refine HT.mono ?_
 rintro e w1 ⟨rfl,hw1⟩
 have h1:=HK.out.up hw1 HK.out.size;have kh1:=h1.h;have H2:=aH (h1.H7 hp);clear h1 hw1 HT kh km
 go_wp2_with (refine wpList_store_row rfl 91 _ _ rfl gh rfl (Us p.list).toArray rfl 91 _ kh1 (qN _ hz2) (by rw [hz,hz2]) (cJ _) ?_)
 go_end0
 exact ⟨rfl,H2.out⟩
theorem y8 (v : Nat) : (s6 v).length = 8:=by
 unfold s6
 rw [lZ,cK]
theorem y7 (v : Nat) : s6 (v % 18446744073709551616) = s6 v:=by
 unfold s6
 congr 1
 refine xH (by rw [cK,cK]) ?_;rw [oJ,oJ];exact Nat.mod_mod _ _
theorem Hi {v i : Nat} (h : i < 8) : ((s6 v)[7 - i]!).toNat = v / 256 ^ i % 256:=by
 have hl : (Nums.bytes 8 v).length = 8:=cK _ _
 have e : (s6 v)[7 - i]! = (Nums.bytes 8 v)[i]!:=by
  unfold s6
  rw [getElem!_pos _ _ (by rw [lZ,hl]; omega),List.getElem_reverse,getElem!_pos _ i (by rw [hl]; exact h)]
  congr 1
  rw [hl]
  omega
 rw [e,nS _ _ h]
def eig (c e : List UInt8) (n i : Nat) : List UInt8:=c.take (n - i) ++ e.drop (8 - i)
theorem qV {c e : List UInt8} {n i : Nat} (hc : c.length = n) (he : e.length = 8) (hi : i <= 8) (hn : 8 <= n) : (eig c e n i).length = n:=by
 unfold eig
 rw [aO,aZ,iG]
 omega
theorem rZ {c e : List UInt8} {n : Nat} (hc : c.length = n) (he : e.length = 8) : eig c e n 0 = c:=by
 unfold eig
 rw [bT (by omega),vX (by omega),cD]
theorem vQ {c e : List UInt8} {n i : Nat} (hc : c.length = n) (he : e.length = 8) (hi : i < 8) (hn : 8 <= n) : (eig c e n i).set (n - 1 - i) e[7 - i]! = eig c e n (i + 1):=by
 unfold eig
 have h1 : c.take (n - i) = c.take (n - (i + 1)) ++ [c[n - (i + 1)]!]:=by
  rw [show n - i = n - (i + 1) + 1 by omega,jM (by omega),getElem!_pos c _ (by omega)]
 have h2 : e.drop (8 - (i + 1)) = e[7 - i]! :: e.drop (8 - i):=by
  rw [lX (by omega),getElem!_pos e _ (by omega)]
  congr 1
  ·congr 1
   omega
  ·congr 1
   omega
 have hl : (c.take (n - (i + 1))).length = n - (i + 1):=by rw [aZ]; omega
 rw [h1,h2,aU,Ba _ _ (by omega),hl,show n - 1 - i - (n - (i + 1)) = 0 by omega]
 rfl
theorem KA {b : List UInt8} {n r : Nat} (hb : b.length = n) (hr : r < n) : clr (b.set r 128) (r + 1) = b.take r ++ 128 :: aD (n - 1 - r) 0:=by
 unfold clr
 rw [eP,hb]
 have h1 : (b.set r 128).take (r + 1) = b.take r ++ [128]:=by
  rw [jM (by rw [eP]; omega),List.getElem_set_self,List.take_set_of_le (aF r)]
 rw [h1,aU,show n - (r + 1) = n - 1 - r by omega]
 rfl
theorem Bo (c : List UInt8) : clr c 0 = aD c.length 0:=by
 unfold clr
 simp
theorem Kq {s : Sha} {b : List UInt8} {n r v : Nat} {o : Oct} (hn : 64 <= n) (hb : b.length = n) (hr : r < n) (h : r + 1 <= n - n / 8) :
  iA s o (eig (b.take r ++ 128 :: aD (n - 1 - r) 0) (s6 v) n 8) = jQ s n o (b.take r ++ jG n r v):=by
 have h8 : n / 8 * 8 <= n:=Nat.div_mul_le_self n 8
 have h9 : 2 <= n / 8:=by omega
 have e : eig (b.take r ++ 128 :: aD (n - 1 - r) 0) (s6 v) n 8 = b.take r ++ jG n r v:=by
  unfold eig jG
  have hl : (b.take r).length = r:=by rw [aZ]; omega
  rw [if_pos h,List.take_append,hl,bT (by omega),aU,zG,qI]
  congr 1
  rw [show n - 8 - r = (n - 9 - r) + 1 by omega,a9,List.take_replicate,cO (by omega),Jm]
 rw [e]
 have hl : (b.take r ++ jG n r v).length = n:=by
  rw [<-e,qV (by rw [aO,aZ,bW,bM]; omega) (y8 _) (aF _) (by omega)]
 have h0:=lD (s:=s) (B:=n) (o:=o) (b:=b.take r ++ jG n r v) (l:=[]) (by omega) hl;rw [cD] at h0;rw [h0,iX (by simp only [qJ]; omega)]
theorem Kp {s : Sha} {b : List UInt8} {n r v : Nat} {o : Oct} (hn : 64 <= n) (hb : b.length = n) (hr : r < n) (h : ¬ r + 1 <= n - n / 8) :
  iA s (iA s o (b.take r ++ 128 :: aD (n - 1 - r) 0)) (eig (aD n 0) (s6 v) n 8) = jQ s n o (b.take r ++ jG n r v):=by
 have hl1 : (b.take r ++ 128 :: aD (n - 1 - r) 0).length = n:=by
  rw [aO,aZ,bW,bM]
  omega
 have hl2 : (eig (aD n 0) (s6 v) n 8).length = n:=qV (bM) (y8 _) (aF _) (by omega)
 have e : b.take r ++ jG n r v = (b.take r ++ 128 :: aD (n - 1 - r) 0) ++ eig (aD n 0) (s6 v) n 8:=by
  unfold jG eig
  rw [if_neg h,aU,Jm,zG,qI,List.take_replicate,cO (by omega),<-aU (aD _ 0),List.replicate_append_replicate]
  congr 4
  omega
 have h0:=lD (s:=s) (B:=n) (o:=iA s o (b.take r ++ 128 :: aD (n - 1 - r) 0)) (b:=eig (aD n 0) (s6 v) n 8) (l:=[]) (by omega) hl2;rw [cD] at h0;rw [e,lD (by omega) hl1,h0,iX (by simp only [qJ]; omega)]
set_option maxRecDepth 100000 in
set_option maxHeartbeats 4000000 in
theorem OM {B gh gb : Nat} {w0 w : World} {o : Oct} {b : List UInt8} (h : S5 B gh gb w0 w o b) (r v : Nat) (hr : r < 128) :
  Calls Tryd.prog 51 #[.slice (some ⟨gb,0,none⟩) 128 128,.int .i64 (r : Int),.int .u64 (v : Int),.func (.func 76) #[] #[.pointer (some ⟨gh,0,none⟩),.pointer (some ⟨gb,0,none⟩)]] w λe w' =>
   e = .returned (.tuple #[]) /\ ∃ b',S5 B gh gb w0 w' (jQ eM 128 o (b.take r ++ jG 128 r (8 * v))) b':=by
 have hlen:=h.len;have h1:=Kq (s:=eM) (o:=o) (v:=8 * v) (n:=128) (by omega) hlen hr;have h2:=Kp (s:=eM) (o:=o) (v:=8 * v) (n:=128) (by omega) hlen hr;have hcl:=KA hlen hr;have hS1 : S5 B gh gb w0 (w.setCell ⟨gb,r,none⟩ (.int .u8 128)) o (b.set r 128):=h.D9 r 128
 have hsl : (b.set r 128).length = 128:=by rw [eP]; exact hlen
 have hm1:=hS1.m;have hS2:=hS1.D6 (c:=clr (b.set r 128) (r + 1)) (by rw [vT (by rw [hsl]; omega)]; exact hsl);rw [hcl] at hS2;have hc0:=(h.m.cell r).trans (fU (by omega));have hf0:=h.m.free r;generalize (b[r]!).toNat = old at *
 have hl1 : (b.take r ++ 128 :: aD (128 - 1 - r) 0).length = 128:=by
  rw [aO,aZ,bW,bM]
  omega
 obtain ⟨c1,hc1⟩ : ∃ c,c = b.take r ++ 128 :: aD (128 - 1 - r) 0:=⟨_,rfl⟩;rw [<-hc1] at hcl hS2 hl1 h1 h2;have HC:=aH hcl;have HK:=aH (aY h hS2)
 have hr2 : (r : Int) < 128:=by omega
 have hr3 : (0 : Int) <= (r : Int):=by omega
 have hx:=y7 (8 * v);have hxe:=y8 (8 * v);have hxg:=λi hi=>Hi (v:=8 * v % 18446744073709551616) (i:=i) hi;rw [hx] at hxg
 have hv8 : IntKind.u64.wrap ((v : Int) * 8) = ((8 * v % 18446744073709551616 : Nat) : Int):=by rw [aP]; omega
 have hvb : 8 * v % 18446744073709551616 < 18446744073709551616:=eR _ (by decide);generalize s6 (8 * v) = E at *;generalize 8 * v % 18446744073709551616 = y at *;clear hS2 hx h hc1 hcl
 rcases (show r = 127 \/ r + 1 <= 112 \/ (112 < r + 1 /\ r < 127) by omega) with rfl | hc | ⟨hc,h127⟩
 ·rw [show ((127 : Nat) : Int) = (127 : Int) from rfl]
  go_enter Tryd.func51,Tryd.ntmps51
  go_wp2_with (refine kL (.tmp 16) rfl rfl gb 128 0 0 (some ⟨gb,0,none⟩) rfl (λh=>absurd h (by decide)) (b.set 127 128) 121 hm1 (by rw [hsl]) c1 HC ?_)
  have hS:=HK.out.2;clear HK hm1 hc0 hf0 hS1;refine (nM hS).mono ?_
  rintro z w3 ⟨rfl,hS3⟩
  have hm3:=hS3.m;have hS4:=hS3.D6 (c:=clr c1 0) (by rw [vT (by omega)]; exact hl1)
  have hz4 : clr c1 0 = aD 128 0:=by rw [Bo,hl1]
  have HF:=aH (h2 (by omega));rw [hz4] at hS4;have hl : (aD 128 (0 : UInt8)).length = 128:=bM;generalize aD 128 (0 : UInt8) = c at *;generalize iA eM o c1 = p at *;have HZ:=aH hz4;have HS:=aH hS4;clear hS hS3 h1 h2 hS4 hz4
  go_wp2_with (refine kL (.tmp 28) rfl rfl gb 0 128 128 (some ⟨gb,0,none⟩) rfl (λ_=>rfl) c1 121 hm3 (by rw [hl1]) c HZ ?_)
  clear hm3
  go_loopw [31,8] (λi u wr=>∃ k : Nat,k <= 8 /\ i = .int .i64 k /\ u = .int .u64 ((y / 256 ^ k : Nat) : Int) /\ S5 B gh gb w0 wr p (eig c E 128 k)) (λi _ _=>8 - (intOf i).toNat)
  case atStart =>
   refine ⟨0,by omega,rfl,by rw [qG,sG],?_⟩;rw [rZ hl hxe];exact HS.out
  case round =>
   clear HS;obtain ⟨k,hk,rfl,rfl,hS⟩:=hrel
   by_cases hkl : k < 8
   ·have hN:=hS.D9 (127 - k) E[7 - k]!
    have hset:=vQ hl hxe hkl (by omega);rw [show 128 - 1 - k = 127 - k by omega] at hset;rw [hset] at hN;have hb:=hxg k hkl
    have hdiv : y / 256 ^ (k + 1) = y / 256 ^ k / 256:=by rw [dE,gX]
    have hle : y / 256 ^ k < 18446744073709551616:=bR (gJ _ _) hvb;have c2:=(hS.m.cell (127 - k)).trans (fU (by rw [qV hl hxe (by omega) (by omega)]; omega));have f2:=hS.m.free (127 - k);generalize y / 256 ^ k = z at *
    have q4 : IntKind.u8.wrap (z : Int) = ((E[7 - k]!).toNat : Int):=by
     rw [k6,hb]
     omega
    have q5 : (z : Int) / 256 = ((z / 256 : Nat) : Int):=by omega
    have g5 : (0 : Int) <= (k : Int):=by omega
    have HN:=aH (aY hN hdiv);clear hS hN hdiv hb hset hxg;generalize (E[7 - k]!).toNat = x at *;generalize ((eig c E 128 k)[127 - k]!).toNat = old2 at *;generalize z / 256 = z2 at *
    go_wp2
    go_roundw
    case rel =>
     obtain ⟨hN,hdiv⟩:=HN.out;exact ⟨k + 1,by omega,by go_num,by rw [hdiv],hN⟩
    case measure=>simp [intOf]; omega
   ·obtain rfl : k = 8:=by omega
    have HT:=nM hS;rw [HF.out] at HT;have HT:=aH HT;clear hS hxg
    go_wp2_with (fail)
    refine HT.out.mono ?_
    rintro z w5 ⟨rfl,hS5⟩
    go_wp2_with (fail)
    go_end0
    exact ⟨rfl,_,hS5⟩
 ·go_enter Tryd.func51,Tryd.ntmps51
  go_wp2_with (refine kL (.tmp 16) rfl rfl gb (r + 1) (127 - r) (127 - r) (some ⟨gb,r + 1,none⟩) rfl (λ_=>rfl) (b.set r 128) 121 hm1 (by rw [hsl]; omega) c1 HC ?_)
  have HF:=aH (h1 (by omega));have HS:=aH HK.out.2;have hl:=hl1;clear HK h1 h2 hl1 hm1 hc0 hf0 hS1;generalize c1 = c at *
  go_loopw [31,8] (λi u wr=>∃ k : Nat,k <= 8 /\ i = .int .i64 k /\ u = .int .u64 ((y / 256 ^ k : Nat) : Int) /\ S5 B gh gb w0 wr o (eig c E 128 k)) (λi _ _=>8 - (intOf i).toNat)
  case atStart =>
   refine ⟨0,by omega,rfl,by rw [qG,sG],?_⟩;rw [rZ hl hxe];exact HS.out
  case round =>
   clear HS;obtain ⟨k,hk,rfl,rfl,hS⟩:=hrel
   by_cases hkl : k < 8
   ·have hN:=hS.D9 (127 - k) E[7 - k]!
    have hset:=vQ hl hxe hkl (by omega);rw [show 128 - 1 - k = 127 - k by omega] at hset;rw [hset] at hN;have hb:=hxg k hkl
    have hdiv : y / 256 ^ (k + 1) = y / 256 ^ k / 256:=by rw [dE,gX]
    have hle : y / 256 ^ k < 18446744073709551616:=bR (gJ _ _) hvb;have c2:=(hS.m.cell (127 - k)).trans (fU (by rw [qV hl hxe (by omega) (by omega)]; omega));have f2:=hS.m.free (127 - k);generalize y / 256 ^ k = z at *
    have q4 : IntKind.u8.wrap (z : Int) = ((E[7 - k]!).toNat : Int):=by
     rw [k6,hb]
     omega
    have q5 : (z : Int) / 256 = ((z / 256 : Nat) : Int):=by omega
    have g5 : (0 : Int) <= (k : Int):=by omega
    have HN:=aH (aY hN hdiv);clear hS hN hdiv hb hset hxg;generalize (E[7 - k]!).toNat = x at *;generalize ((eig c E 128 k)[127 - k]!).toNat = old2 at *;generalize z / 256 = z2 at *
    go_wp2
    go_roundw
    case rel =>
     obtain ⟨hN,hdiv⟩:=HN.out;exact ⟨k + 1,by omega,by go_num,by rw [hdiv],hN⟩
    case measure=>simp [intOf]; omega
   ·obtain rfl : k = 8:=by omega
    have HT:=nM hS;rw [HF.out] at HT;have HT:=aH HT;clear hS hxg
    go_wp2_with (fail)
    refine HT.out.mono ?_
    rintro z w5 ⟨rfl,hS5⟩
    go_wp2_with (fail)
    go_end0
    exact ⟨rfl,_,hS5⟩
 ·go_enter Tryd.func51,Tryd.ntmps51
  go_wp2_with (refine kL (.tmp 16) rfl rfl gb (r + 1) (127 - r) (127 - r) (some ⟨gb,r + 1,none⟩) rfl (λ_=>rfl) (b.set r 128) 121 hm1 (by rw [hsl]; omega) c1 HC ?_)
  have hS:=HK.out.2;clear HK hm1 hc0 hf0 hS1;refine (nM hS).mono ?_
  rintro z w3 ⟨rfl,hS3⟩
  have hm3:=hS3.m;have hS4:=hS3.D6 (c:=clr c1 0) (by rw [vT (by omega)]; exact hl1)
  have hz4 : clr c1 0 = aD 128 0:=by rw [Bo,hl1]
  have HF:=aH (h2 (by omega));rw [hz4] at hS4;have hl : (aD 128 (0 : UInt8)).length = 128:=bM;generalize aD 128 (0 : UInt8) = c at *;generalize iA eM o c1 = p at *;have HZ:=aH hz4;have HS:=aH hS4;clear hS hS3 h1 h2 hS4 hz4
  go_wp2_with (refine kL (.tmp 28) rfl rfl gb 0 128 128 (some ⟨gb,0,none⟩) rfl (λ_=>rfl) c1 121 hm3 (by rw [hl1]) c HZ ?_)
  clear hm3
  go_loopw [31,8] (λi u wr=>∃ k : Nat,k <= 8 /\ i = .int .i64 k /\ u = .int .u64 ((y / 256 ^ k : Nat) : Int) /\ S5 B gh gb w0 wr p (eig c E 128 k)) (λi _ _=>8 - (intOf i).toNat)
  case atStart =>
   refine ⟨0,by omega,rfl,by rw [qG,sG],?_⟩;rw [rZ hl hxe];exact HS.out
  case round =>
   clear HS;obtain ⟨k,hk,rfl,rfl,hS⟩:=hrel
   by_cases hkl : k < 8
   ·have hN:=hS.D9 (127 - k) E[7 - k]!
    have hset:=vQ hl hxe hkl (by omega);rw [show 128 - 1 - k = 127 - k by omega] at hset;rw [hset] at hN;have hb:=hxg k hkl
    have hdiv : y / 256 ^ (k + 1) = y / 256 ^ k / 256:=by rw [dE,gX]
    have hle : y / 256 ^ k < 18446744073709551616:=bR (gJ _ _) hvb;have c2:=(hS.m.cell (127 - k)).trans (fU (by rw [qV hl hxe (by omega) (by omega)]; omega));have f2:=hS.m.free (127 - k);generalize y / 256 ^ k = z at *
    have q4 : IntKind.u8.wrap (z : Int) = ((E[7 - k]!).toNat : Int):=by
     rw [k6,hb]
     omega
    have q5 : (z : Int) / 256 = ((z / 256 : Nat) : Int):=by omega
    have g5 : (0 : Int) <= (k : Int):=by omega
    have HN:=aH (aY hN hdiv);clear hS hN hdiv hb hset hxg;generalize (E[7 - k]!).toNat = x at *;generalize ((eig c E 128 k)[127 - k]!).toNat = old2 at *;generalize z / 256 = z2 at *
    go_wp2
    go_roundw
    case rel =>
     obtain ⟨hN,hdiv⟩:=HN.out;exact ⟨k + 1,by omega,by go_num,by rw [hdiv],hN⟩
    case measure=>simp [intOf]; omega
   ·obtain rfl : k = 8:=by omega
    have HT:=nM hS;rw [HF.out] at HT;have HT:=aH HT;clear hS hxg
    go_wp2_with (fail)
    refine HT.out.mono ?_
    rintro z w5 ⟨rfl,hS5⟩
    go_wp2_with (fail)
    go_end0
    exact ⟨rfl,_,hS5⟩
end Go.Proofs.YtfkchihlchlfdaaDoor
namespace Nums
theorem Ha {t r b : List UInt8} {n : Nat} (ht : b.take t.length = t) : (Go.Proofs.YtfkchihlchlfdaaDoor.cop b t.length (r.take (n - t.length))).take (t.length + min r.length (n - t.length)) = t ++ r.take (n - t.length):=by
 unfold Go.Proofs.YtfkchihlchlfdaaDoor.cop
 rw [ht,<-aU]
 have hl : (t ++ r.take (n - t.length)).length = t.length + min r.length (n - t.length):=by
  rw [aO,aZ,Nat.min_comm]
 rw [<-hl,List.take_left]
theorem yE {s : Sha} {n k : Nat} {o : Oct} {a z : List UInt8} (hn : 0 < n) (ha : a.length = k * n) (hz : z.length = n) : iA s (jQ s n o a) z = jQ s n o (a ++ z):=by
 rw [qP hn k ha];have h:=lD (s:=s) (B:=n) (o:=jQ s n o a) (b:=z) (l:=[]) hn hz;rw [cD] at h;have h2:=iX (s:=s) (B:=n) (o:=iA s (jQ s n o a) z) (l:=[]) (by simpa using hn);rw [h,h2]
theorem JK {s : Sha} {n k : Nat} {o : Oct} {a t x : List UInt8} (hn : 0 < n) (ha : a.length = k * n) : jQ s n (jQ s n o a) (t ++ x) = jQ s n o ((a ++ t) ++ x):=by
 rw [aU,qP hn k ha]
theorem Da (n r v : Nat) : jG n r (8 * (v % 18446744073709551616)) = jG n r (8 * v):=by
 unfold jG
 have e : s6 (8 * (v % 18446744073709551616)) = s6 (8 * v):=by
  have h1:=Go.Proofs.YtfkchihlchlfdaaDoor.y7 (8 * (v % 18446744073709551616));have h2:=Go.Proofs.YtfkchihlchlfdaaDoor.y7 (8 * v);rw [<-h1,<-h2]
  congr 1
  omega
 rw [e]
end Nums
namespace Go.Proofs.YtfkchihlchlfdaaDoor
open Go.RowKit Go.IntWalk Nums
def CS : Value -> Nat
  | .slice _ n _=>n
  | _=>0
structure FS5 (B gh gb : Nat) (w wr : World) (o : Oct) (m : List UInt8) (a t b : List UInt8) (k : Nat) : Prop where
  em : m = a ++ t
  ea : a.length = k * 128
  et : t.length < 128
  es : S5 B gh gb w wr (jQ eM 128 o a) b
  eb : b.take t.length = t
theorem DK (ls : List (List UInt8)) (k : Nat) (h : k < ls.length) : (ls.take (k + 1)).flatten = (ls.take k).flatten ++ ls[k]:=by
 rw [jM h,List.flatten_append,o6,List.flatten_nil,cD]
set_option maxRecDepth 100000 in
set_option maxHeartbeats 4000000 in
theorem LW {B gh gb : Nat} {w : World} {o : Oct} {b : List UInt8} (h : S5 B gh gb w w o b) (A : Option Addr) (ls : List (List UInt8)) (pc : Nat) (hA : oM w B A ls) (hpc : ls.length <= pc) (hpm : pc <= 9223372036854775807) :
  Calls Tryd.prog 30 #[.slice (some ⟨gb,0,none⟩) 128 128,.slice A ls.length pc,.func (.func 76) #[] #[.pointer (some ⟨gh,0,none⟩),.pointer (some ⟨gb,0,none⟩)]] w λe w' =>
   e = .returned (.tuple #[]) /\ ∃ b',S5 B gh gb w w' (jQ eM 128 o (ls.flatten ++ jG 128 (ls.flatten.length % 128) (8 * ls.flatten.length))) b':=by
 have h0 : FS5 B gh gb w w o (ls.take 0).flatten [] [] b 0:=by
  refine ⟨by simp,by simp,by simp,?_,by simp⟩;have e:=iX (s:=eM) (B:=128) (o:=o) (l:=[]) (by simp);rw [e];exact h
 have H0:=aH h0;have HA:=aH hA;clear h h0 hA
 go_enter Tryd.func30,Tryd.ntmps30
 go_wp2
 go_loopw [13,6,7] (λi f z wr=>∃ n : Nat,n <= ls.length /\ i = .int .i64 n /\ ∃ a t b k,f = .int .i64 ((t : List UInt8).length : Nat) /\ z = .int .u64 (((ls.take n).flatten.length % 18446744073709551616 : Nat) : Int) /\ FS5 B gh gb w wr o (ls.take n).flatten a t b k) (λi _ _ _=>ls.length - (intOf i).toNat)
 case atStart=>exact ⟨0,by omega,rfl,[],[],b,0,rfl,rfl,H0.out⟩
 case round =>
  clear H0;obtain ⟨n,hn,rfl,a,t,b,k,rfl,rfl,hF⟩:=hrel
  by_cases hnl : n < ls.length
  ·obtain ⟨ad,rfl,had,hcell⟩:=HA.out.below hF.es.be (aF _) (by omega)
   obtain ⟨P,c,hx,hsl⟩:=hcell n ls[n] (List.getElem?_eq_getElem hnl);have hfl:=DK ls n hnl
   have hsz : IntKind.u64.wrap ((((ls.take n).flatten.length % 18446744073709551616 : Nat) : Int) + (ls[n].length : Int)) = (((ls.take (n + 1)).flatten.length % 18446744073709551616 : Nat) : Int):=by
    rw [hfl,aO,aP]
    omega
   have HL:=aH hfl;have hl1:=hsl.1;have hl2:=hsl.2.1;have hwn : IntKind.u64.wrap (ls[n].length : Int) = (ls[n].length : Int):=rJ _ (by omega);have HS:=aH (aY hF hsl);clear hF hsl hcell hfl;obtain ⟨zn,hzn⟩ : ∃ z,(ls.take (n + 1)).flatten.length % 18446744073709551616 = z:=⟨_,rfl⟩;rw [hzn] at hsz;have HZN:=aH hzn;clear hzn;generalize (ls.take n).flatten.length % 18446744073709551616 = z0 at *;generalize ls[n] = l at *
   go_wp2
   go_loopw [9,6] (λp f wq=>∃ d r P c a t b k,l = d ++ r /\ p = .slice P (r : List UInt8).length c /\ f = .int .i64 ((t : List UInt8).length : Nat) /\ SL wq 0 B P r c /\ FS5 B gh gb w wq o ((ls.take n).flatten ++ d) a t b k) (λp _ _=>CS p)
   case atStart =>
    obtain ⟨hF,hsl⟩:=HS.out;refine ⟨[],l,P,c,a,t,b,k,rfl,rfl,rfl,hsl,?_⟩;rw [cD];exact hF
   case round =>
    clear HS hwn hsz hx hl1 hl2;obtain ⟨d,r,P,c,a,t,b,k,hd,rfl,rfl,hsl,hF⟩:=hrel
    by_cases hr : 0 < r.length
    ·skip
     have hm0:=hF.es.m;have hlt:=hF.et;have hz128:=hF.es.len;have hbv:=hsl.2.2.2;have hs1:=hsl.1;have hs2:=hsl.2.1;have hcut:=hsl.cut (k:=min r.length (128 - t.length)) (Nat.min_le_left _ _);have htl:=Ha (r:=r) (n:=128) hF.eb
     have hzl : (cop b t.length (r.take (128 - t.length))).length = 128:=by
      rw [EZ (by rw [aZ]; omega)];exact hz128
     have hS2:=hF.es.D6 hzl;obtain ⟨z',hz'⟩ : ∃ z,cop b t.length (r.take (128 - t.length)) = z:=⟨_,rfl⟩;obtain ⟨m,hm⟩ : ∃ m,min r.length (128 - t.length) = m:=⟨_,rfl⟩;rw [hz'] at hS2 hzl htl;rw [hm] at hcut htl;have HZ:=aH hz';have HM:=aH hm;have hrd : (r.drop m).length = r.length - m:=iG
     have hmr : m <= r.length:=by omega
     have hmt : t.length + m <= 128:=by omega
     have hm1 : 0 < m:=by omega
     have hq : IntKind.i64.wrap ((t.length : Int) + (m : Int)) = ((t.length + m : Nat) : Int):=by rw [i64_left,wrap64_in _ (by omega)]; omega
     have hsl2 : SL (wr.setRow gb (By z').toArray) 0 B (if c = m then P else P.map (·.add m)) (r.drop m) (c - m):=hcut.below (below_setRow (Below.refl B wr) hF.es.bb _) (aF _)
     have hd2 : l = (d ++ r.take m) ++ r.drop m:=by rw [hd,aU,fQ]
     have htm : r.take (128 - t.length) = r.take m:=by
      rw [<-hm]
      by_cases hh : r.length <= 128 - t.length
      ·rw [cO hh,bT hh,bT (aF _)]
      ·rw [Nat.min_eq_right (by omega)]
     rw [htm] at htl;have hem:=hF.em;have hea:=hF.ea;have HS:=aH (aY hS2 (aY hsl2 (aY hd2 (aY htl (aY hem hea)))));clear hF hsl hcut hS2 hsl2 hd hd2 htl htm hm hz' hem hea
     by_cases hf : t.length + m < 128
     ·by_cases hck : c = m
      ·have hck2:=hck.symm
       subst hck2
       go_wp2_with (refine oG (.tmp 27) (.tmp 28) rfl rfl gb t.length (128 - t.length) (128 - t.length) rfl P r m rfl b 121 hm0 0 B hbv (by rw [hz128]; omega) z' HZ m HM ?_)
       go_roundw
       case rel =>
        obtain ⟨hS2,hsl2,hd2,htl,hem,hea⟩:=HS.out
        first | rw [if_pos rfl] at hsl2 | rw [if_pos trivial] at hsl2
        refine ⟨d ++ r.take m,r.drop m,P,m - m,a,t ++ r.take m,z',k,hd2,by rw [hrd,show r.length - m = 0 by omega,zG],?_,hsl2,?_,hea,?_,hS2,?_⟩
        ·rw [aO,aZ,cO hmr]
         go_num
        ·rw [<-aU,hem,aU]
        ·rw [aO,aZ,cO hmr]
         exact hf
        ·rw [aO,aZ,cO hmr]
         exact htl
       case measure=>simp [CS]; omega
      ·skip
       go_wp2_with (refine oG (.tmp 27) (.tmp 28) rfl rfl gb t.length (128 - t.length) (128 - t.length) rfl P r c rfl b 121 hm0 0 B hbv (by rw [hz128]; omega) z' HZ m HM ?_)
       go_roundw
       case rel =>
        obtain ⟨hS2,hsl2,hd2,htl,hem,hea⟩:=HS.out;rw [if_neg hck] at hsl2;refine ⟨d ++ r.take m,r.drop m,(P.map (·.add m)),c - m,a,t ++ r.take m,z',k,hd2,by rw [hrd],?_,hsl2,?_,hea,?_,hS2,?_⟩
        ·rw [aO,aZ,cO hmr]
         go_num
        ·rw [<-aU,hem,aU]
        ·rw [aO,aZ,cO hmr]
         exact hf
        ·rw [aO,aZ,cO hmr]
         exact htl
       case measure=>simp [CS]; omega
     ·have hf : t.length + m = 128:=by omega
      by_cases hck : c = m
      ·have hck2:=hck.symm
       subst hck2
       go_wp2_with (refine oG (.tmp 27) (.tmp 28) rfl rfl gb t.length (128 - t.length) (128 - t.length) rfl P r m rfl b 121 hm0 0 B hbv (by rw [hz128]; omega) z' HZ m HM ?_)
       refine (nM HS.out.1.BI).mono ?_
       rintro e w4 ⟨rfl,hS4⟩
       go_wp2_with (fail)
       go_roundw
       case rel =>
        obtain ⟨hS2,hsl2,hd2,htl,hem,hea⟩:=HS.out
        first | rw [if_pos rfl] at hsl2 | rw [if_pos trivial] at hsl2
        have hzz : z' = t ++ r.take m:=by
         rw [<-htl,hf,bT (by omega)]
        have hfull:=yE (s:=eM) (n:=128) (o:=o) (by decide) hea hzl;rw [hfull] at hS4;refine ⟨d ++ r.take m,r.drop m,P,m - m,a ++ z',[],z',k + 1,hd2,by rw [hrd,show r.length - m = 0 by omega,zG],rfl,?_,?_,?_,by decide,hS4.since hS2.be,rfl⟩
        ·exact hsl2.below hS4.be (aF _)
        ·rw [cD,hzz,<-aU,hem,aU]
        ·rw [aO,hea,hzl,rH,CG]
       case measure=>simp [CS]; omega
      ·skip
       go_wp2_with (refine oG (.tmp 27) (.tmp 28) rfl rfl gb t.length (128 - t.length) (128 - t.length) rfl P r c rfl b 121 hm0 0 B hbv (by rw [hz128]; omega) z' HZ m HM ?_)
       refine (nM HS.out.1.BI).mono ?_
       rintro e w4 ⟨rfl,hS4⟩
       go_wp2_with (fail)
       go_roundw
       case rel =>
        obtain ⟨hS2,hsl2,hd2,htl,hem,hea⟩:=HS.out;rw [if_neg hck] at hsl2
        have hzz : z' = t ++ r.take m:=by
         rw [<-htl,hf,bT (by omega)]
        have hfull:=yE (s:=eM) (n:=128) (o:=o) (by decide) hea hzl;rw [hfull] at hS4;refine ⟨d ++ r.take m,r.drop m,(P.map (·.add m)),c - m,a ++ z',[],z',k + 1,hd2,by rw [hrd],rfl,?_,?_,?_,by decide,hS4.since hS2.be,rfl⟩
        ·exact hsl2.below hS4.be (aF _)
        ·rw [cD,hzz,<-aU,hem,aU]
        ·rw [aO,hea,hzl,rH,CG]
       case measure=>simp [CS]; omega
    ·have hr0 : r = []:=List.eq_nil_of_length_eq_zero (by omega)
     subst hr0;rw [cD] at hd;subst hd;have HF:=aH hF;clear hF hsl
     go_wp2
     go_roundw
     case rel =>
      refine ⟨n + 1,by omega,by go_num,a,t,b,k,rfl,?_,?_⟩
      ·rw [HZN.out]
      ·rw [HL.out]
       exact HF.out
     case measure=>simp [intOf]; omega
  ·obtain rfl : n = ls.length:=by omega
   rw [List.take_length] at hF ⊢;have hE:=OM hF.es t.length (ls.flatten.length % 18446744073709551616) hF.et;rw [Da,hF.eb,JK (by decide) hF.ea,<-hF.em] at hE
   have hmod : t.length = ls.flatten.length % 128:=by
    have h1:=hF.ea;have h2:=hF.et;rw [hF.em,aO]
    omega
   have HE:=aH hE;have HMO:=aH hmod;clear hE hF hmod;generalize ls.flatten.length % 18446744073709551616 = zz at *
   go_wp2_with (fail)
   refine HE.out.mono ?_
   rintro e w4 ⟨rfl,hS4⟩
   go_wp2_with (fail)
   go_end0
   rw [HMO.out] at hS4;exact ⟨rfl,hS4⟩
theorem BR : Own 47:=λ_ _=>by go_simp
structure Tsh (w : World) : Prop where
  steps : Ts w
  cell : ∀ i,i < 8 -> w.cell? ⟨0,i,none⟩ = some (.int .u64 (sqs[i]! : Nat))
  lt : 0 < w.heap.size
theorem Tsh.below {w w' : World} (h : Tsh w) (hb : Below w.heap.size w w') : Tsh w' :=
 ⟨h.steps.below hb,λi hi=>(hb.cell (p:=⟨0,i,none⟩) h.lt).trans (h.cell i hi),bB h.lt hb.size⟩
def tQ : Oct:=⟨sqs[0]!,sqs[1]!,sqs[2]!,sqs[3]!,sqs[4]!,sqs[5]!,sqs[6]!,sqs[7]!⟩
theorem FB : OB 64 tQ:=by
 constructor <;> decide
theorem CM : tQ.list = sqs:=by decide
theorem Tsh.range {w : World} (h : Tsh w) : w.rangeAt 0 0 (Us sqs):=λj v hv=>by
 rw [Nat.zero_add]
 have hj : j < 8:=by
  have:=(List.getElem?_eq_some_iff.1 hv).1;rw [cY] at this;exact this
 rw [h.cell j hj];have h1 : (Us sqs).toArray[j]? = some (.int .u64 (sqs[j]! : Nat)):=iE (show j < sqs.length from hj);rw [<-h1]
 simpa using hv
def Fj : List UInt8:=aD 128 0
theorem Uc : (Tryd.prog.info? 121).bind (λi=>i.zero.map (·.cells)) = some (By Fj).toArray:=by kernel_rfl
theorem OB.QF {o : Oct} (h : OB 64 o) : ∀ x ∈ o.list,x < 18446744073709551616:=by
 intro x hx
 simp only [Oct.list,List.mem_cons,List.not_mem_nil,or_false] at hx
 rcases hx with rfl | rfl | rfl | rfl | rfl | rfl | rfl | rfl
 ·exact h.a
 ·exact h.b
 ·exact h.c
 ·exact h.d
 ·exact h.e
 ·exact h.f
 ·exact h.g
 ·exact h.h
set_option maxRecDepth 100000 in
set_option maxHeartbeats 2000000 in
theorem Fz (A : Option Addr) (ls : List (List UInt8)) (pc : Nat) (w : World) (hT : Tsh w) (hA : oM w w.heap.size A ls) (hpc : ls.length <= pc) (hpm : pc <= 9223372036854775807) :
  Calls Tryd.prog 47 #[.slice A ls.length pc] w λe w'=>e = .returned (.agg (By (eK eM ls.flatten)).toArray) /\ Below w.heap.size w w':=by
 have hD : eK eM ls.flatten = ((jQ eM 128 tQ (ls.flatten ++ jG 128 (ls.flatten.length % 128) (8 * ls.flatten.length))).list.map (m9 eM)).flatten:=rfl;rw [hD];clear hD;generalize hR : jQ eM 128 tQ (ls.flatten ++ jG 128 (ls.flatten.length % 128) (8 * ls.flatten.length)) = R at *;have HR:=aH hR;clear hR
 go_enter Tryd.func47,Tryd.ntmps47
 refine wp_seq_k λK hK=>?_;refine wp_region_lit ?_;refine dN (zs:=(By wU).toArray) rfl rfl PG ?_;refine dP ?_
 go_simp
 refine hK _ _ ?_;clear hK K;refine pM (λW=>Blk W w.heap.size 25 (By wU).toArray /\ Below w.heap.size w W /\ w.heap.size < W.heap.size) ⟨Blk.new w _ _,(Below.refl _ _).alloc (aF _) _,by rw [World.size_alloc]; omega⟩ ?_
 rintro W ⟨ho,hbe,hsz⟩
 refine wp_seq_k λK hK=>?_;refine rN 1 3 91 (.tmp 5) z8w rfl rfl rfl rfl rfl rfl rfl (c9 rfl (by kernel_rfl)) ?_;simp only [a9,bN];refine y9 rfl 91 _ rfl 0 0 rfl (Us sqs) _ (λw1 h=>((hT.below hbe).below h).range) Tryd.underlying91 rfl (qN (Us sqs).toArray rfl) ?_;simp only [Act.put,aA,aB,aC];refine cL ⟨(Us sqs).toArray,λ_=>rfl,λ_=>rfl,rfl,qN _ rfl,cJ _,λgh W1 hgh hw1 hbh=>?_⟩;simp only [Exit.then,Act.put,aA,aB,aC];refine hK _ _ ?_;clear hK K;have ho:=hw1.blk ho;have hbe:=a6 hbe hw1;clear hw1;have hng:=hbh.lt;refine wp_seq_k λK hK=>?_;refine wp_region_lit ?_;refine dN (zs:=(By Fj).toArray) rfl rfl Uc ?_;refine dP ?_
 go_simp
 refine hK _ _ ?_;clear hK K;have ho:=ho.alloc (.cells (By Fj).toArray 121);have hbh:=hbh.alloc (.cells (By Fj).toArray 121);have hbe:=hbe.alloc hbe.size (.cells (By Fj).toArray 121);have hbb:=Blk.new W1 121 (By Fj).toArray;generalize W1.alloc (.cells (By Fj).toArray 121) = W2 at *;generalize W1.heap.size = gb at *;have hTw:=hT.below hbe;rw [<-CM] at hbh;have hsgh : w.heap.size < gh:=bB hsz hgh;have hS : S5 gh gh gb W2 W2 tQ Fj:=⟨hbh,hbb,FB,rfl,hTw.steps,Below.refl _ _,aF _,fA hng,Nat.ne_of_lt hng,bB hT.steps.lt (fA hsgh)⟩
 have hP : oM W2 gh A ls:=λhl=>by
  obtain ⟨ad,e,h1,h2⟩:=(hA.below hbe (aF _)) hl;refine ⟨ad,e,uV h1 hsgh,λi l hi=>?_⟩;obtain ⟨A',c',h3,h4⟩:=h2 i l hi;exact ⟨A',c',h3,h4.more (aF _) (fA hsgh)⟩
 have HF:=aH (LW hS A ls pc hP hpc hpm);have hmf : ∀ (fn : Fn) (first cap : Array Value) (w : World),(Instr.makeFunc fn first cap).run Tryd.prog w = .ok (.func fn first cap) w:=λ_ _ _ _=>rfl;have HK:=aH (aY ho hbe);clear hS hP hTw hbb hbh ho hbe hA hT
 go_wp2_with (fail)
 refine HF.out.mono ?_
 rintro e W3 ⟨rfl,b',hS3⟩
 rw [HR.out] at hS3;have kh:=hS3.h;have hb3:=hS3.be;have hzr : (Us R.list).toArray.size = 8:=rfl;have HL:=aH (λw1=>N0 (l:=R.list) rfl (OB.QF hS3.ob) w1);have hko : Blk W3 w.heap.size 25 (By wU).toArray:=HK.out.1.below hb3 hsgh;have hbe3 : Below w.heap.size w W3:=HK.out.2.trans (hb3.mono (fA hsgh));clear HF HK hS3 hb3 hmf
 go_wp2_with (refine wpList_load_row rfl 91 _ rfl gh rfl 91 (Us R.list).toArray (0,0) _ kh Tryd.underlying91 rfl (qN _ hzr) ?_)
 refine (HL.out _).mono ?_
 rintro e W4 ⟨rfl,hw4⟩
 have hko:=hko.later hw4;have hbe4:=a6 hbe3 hw4
 have hz : (By (R.list.map (m9 eM)).flatten).toArray.size = 64:=by
  rw [bA,b6,rU (m9 eM) (n:=8) (λx=>rS eM x) R.list]
  rfl
 clear HL hw4 kh hbe3;obtain ⟨D,hDD⟩ : ∃ D,(R.list.map (m9 eM)).flatten = D:=⟨_,rfl⟩;rw [hDD] at hz ⊢;have HDD:=aH hDD;clear hDD
 go_wp2_with (refine wpList_store_row rfl 25 _ _ rfl w.heap.size rfl (By D).toArray rfl 25 _ hko (pP _ hz) (by rw [hz]; rfl) (lJ _) ?_)
 refine bodyPost_ret (results_cell_row rfl _ _ w.heap.size 25 (By D).toArray (0,0) _ rfl (hko.row _) Tryd.underlying25 rfl (pP _ hz)) rfl ⟨by rw [HDD.out],?_⟩;exact below_setRow hbe4 (aF _) _
end Go.Proofs.YtfkchihlchlfdaaDoor
namespace Nums
theorem CR : dJ 1224481:=gA (k:=1107) (by decide) (by decide +kernel) (by decide +kernel)
theorem En : dJ 531581:=gA (k:=730) (by decide) (by decide +kernel) (by decide +kernel)
theorem Nh : dJ 41:=gA (k:=7) (by decide) (by decide) (by decide +kernel)
theorem Io : dJ 2851:=gA (k:=54) (by decide) (by decide) (by decide +kernel)
theorem Lm : dJ 269:=gA (k:=17) (by decide) (by decide) (by decide +kernel)
theorem Qk : dJ 7:=gA (k:=3) (by decide) (by decide) (by decide +kernel)
theorem Ni : dJ 11:=gA (k:=4) (by decide) (by decide) (by decide +kernel)
theorem Ng : dJ 1257559732178653:=l4 (q1:=1224481) (q2:=531581) (a:=2) (k:=51) CR En (by decide +kernel)
theorem Nf : dJ 4434155615661930479:=l4 (q1:=1257559732178653) (q2:=41) (a:=3) (k:=62) Ng Nh (by decide +kernel)
theorem Nd : dJ 172054593956031949258510691:=l4 (q1:=4434155615661930479) (q2:=2851) (a:=2) (k:=88) Nf Io (by decide +kernel)
theorem Nc : dJ 19757330305831588566944191468367130476339:=l4 (q1:=172054593956031949258510691) (q2:=269) (a:=2) (k:=134) Nd Lm (by decide +kernel)
theorem Nb : dJ 276602624281642239937218680557139826668747:=l4 (q1:=19757330305831588566944191468367130476339) (q2:=7) (a:=2) (k:=138) Nc Qk (by decide +kernel)
theorem JT : dJ LL:=l4 (q1:=276602624281642239937218680557139826668747) (q2:=11) (a:=2) (k:=253) Nb Ni (by decide +kernel)
theorem Rt : base ≠ Ed.zero:=λh=>by
 have h1:=congrArg Ed.Pt.y h;have h2 : (fof bY : F).val = (1 : F).val:=congrArg Fin.val h1;rw [val_one gT,vO] at h2
 revert h2
 decide
theorem Qr (n : Nat) : Ed.mul dd n base = Ed.zero ↔ LL ∣ n:=by
 constructor
 ·intro h
  by_cases hd : LL ∣ n
  ·exact hd
  ·exfalso
   have hf:=IV JT hd;obtain ⟨e,he⟩ : ∃ e,LL - 1 = e + 1:=⟨LL - 2,by decide⟩;rw [he,dE] at hf;generalize n ^ e = c at hf
   have h1 : n * c = LL * (c * n / LL) + 1:=by
    have:=Nat.div_add_mod (c * n) LL;rw [hf] at this;rw [Nat.mul_comm n c];exact this.symm
   exact Rt (Ed.PF iL l8 h order h1)
 ·rintro ⟨c,rfl⟩
  rw [Ed.vH iL l8,order,Ed.mul_zero iL]
def xN (x : Nat) : Nat:=x % 28948022309329048855892746252171976963317496166410141009864396001978282409984 / 8 * 8 + 28948022309329048855892746252171976963317496166410141009864396001978282409984
theorem O1 (x : Nat) : ¬ LL ∣ xN x:=by
 rintro ⟨c,hc⟩
 obtain ⟨y,hy⟩ : ∃ y,y = x % 28948022309329048855892746252171976963317496166410141009864396001978282409984:=⟨_,rfl⟩
 have hy2 : y < 28948022309329048855892746252171976963317496166410141009864396001978282409984:=by rw [hy]; exact eR _ (by decide)
 have h0 : xN x = y / 8 * 8 + 28948022309329048855892746252171976963317496166410141009864396001978282409984:=by rw [hy]; rfl
 rw [h0] at hc
 have h8 : LL * c % 8 = 0:=by rw [<-hc]; omega
 have h1 : LL * c < LL * 8:=by
  rw [<-hc];refine bB (m:=57896044618658097711785492504343953926634992332820282019728792003956564819968) ?_ (by decide)
  omega
 have h2 : 0 < LL * c:=by rw [<-hc]; omega
 have hc8 : c < 8:=Nat.lt_of_mul_lt_mul_left h1;clear hc h0 hy hy2 h1
 have h5 : LL * c % 8 = 5 * c % 8:=by rw [wR,show LL % 8 = 5 from by decide,wR 5 c,show 5 % 8 = 5 from rfl]
 rw [h5] at h8
 have hcz : c = 0:=by omega
 rw [hcz,A9] at h2;exact absurd h2 (by decide)
theorem Hb (x : Nat) : Ed.mul dd 8 (Ed.mul dd (xN x) base) ≠ Ed.zero:=by
 intro h
 rw [Ed.Dw iL l8,Qr] at h
 rcases JT.dvd_mul h with h1 | h1
 ·exact absurd (Nat.le_of_dvd (by decide) h1) (by decide)
 ·exact O1 x h1
theorem HY (r k a : Nat) : Ed.add dd (Ed.mul dd ((r + k * a) % LL) base) (Ed.neg (Ed.mul dd k (Ed.mul dd a base))) = Ed.mul dd r base:=by
 have hr:=Ed.j9 iL l8 r;have hk:=Ed.j9 iL l8 (k * a);rw [<-Ed.mul_mod iL l8 order,Ed.mul_add iL l8,Ed.Dw iL l8,Ed.add_assoc iL hr hk (Ed.tZ hk),Ed.add_neg iL hk,Ed.add_zero iL]
end Nums
namespace Nums
def p8 (l : List UInt8) : List UInt8:=l.set 0 (aX ((l[0]!).toNat / 8 * 8))
def KS (l : List UInt8) : List UInt8:=l.set 31 (aX ((l[31]!).toNat % 64 + 64))
def Cu (l : List UInt8) : List UInt8:=KS (p8 l)
theorem B7 (l : List UInt8) : (p8 l).length = l.length:=eP
theorem MB (l : List UInt8) : (KS l).length = l.length:=eP
theorem I9 (l : List UInt8) : (Cu l).length = l.length:=by rw [Cu,MB,B7]
theorem ofNat_toNat {n : Nat} (h : n < 256) : (aX n).toNat = n:=by
 rw [UInt8.toNat_ofNat']
 omega
theorem L5 (x b t : Nat) (h : x = b + 28948022309329048855892746252171976963317496166410141009864396001978282409984 * t) (hb : b < 28948022309329048855892746252171976963317496166410141009864396001978282409984) : xN x = b / 8 * 8 + 28948022309329048855892746252171976963317496166410141009864396001978282409984:=by
 unfold xN
 rw [h,Nat.add_mul_mod_self_left,bS hb]
theorem QH : ∀ {l : List UInt8},0 < l.length -> le (p8 l) = le l / 8 * 8
 | [],h=>absurd h (by simp)
 | x :: l,_=>by
  have hx:=x.toNat_lt;have e : p8 (x :: l) = aX (x.toNat / 8 * 8) :: l:=rfl;rw [e]
  show (aX (x.toNat / 8 * 8)).toNat + 256 * le l = (x.toNat + 256 * le l) / 8 * 8
  rw [ofNat_toNat (by omega)]
  omega
theorem QG {l : List UInt8} (h : l.length = 32) : ∃ b t,b < 28948022309329048855892746252171976963317496166410141009864396001978282409984 /\ le l = b + 28948022309329048855892746252171976963317496166410141009864396001978282409984 * t /\ le (KS l) = b + 28948022309329048855892746252171976963317496166410141009864396001978282409984 /\ b % 8 = le l % 8:=by
 have hs : l = l.take 31 ++ [l[31]!]:=by
  have h1 : l.drop 31 = [l[31]!]:=by
   rw [lX (by omega),List.drop_eq_nil_of_le (by omega),getElem!_pos l 31 (by omega)]
  rw [<-h1,fQ]
 have hlen : (l.take 31).length = 31:=by rw [aZ]; omega
 have ht : KS l = l.take 31 ++ [aX ((l[31]!).toNat % 64 + 64)]:=by
  unfold KS
  conv=>lhs; arg 1; rw [hs]
  rw [Ba _ _ (by rw [hlen]; exact aF _),hlen]
  rfl
 have hx:=(l[31]!).toNat_lt;have hlo:=AJ (l.take 31);rw [hlen] at hlo
 have e1 : le l = le (l.take 31) + 256 ^ 31 * (l[31]!).toNat:=by
  conv=>lhs; rw [hs]
  rw [lP,hlen]
  rfl
 have e2 : le (KS l) = le (l.take 31) + 256 ^ 31 * ((l[31]!).toNat % 64 + 64):=by
  rw [ht,lP,hlen]
  show _ + 256 ^ 31 * ((aX ((l[31]!).toNat % 64 + 64)).toNat + 256 * 0) = _
  rw [ofNat_toNat (by omega)]
 generalize le (l.take 31) = u at *;generalize (l[31]!).toNat = y at *;refine ⟨u + 256 ^ 31 * (y % 64),y / 64,?_,?_,?_,?_⟩
 ·omega
 ·rw [e1]
  omega
 ·rw [e2]
  omega
 ·rw [e1]
  omega
theorem LH {l : List UInt8} (h : l.length = 32) : le (Cu l) = xN (le l):=by
 have h1:=QH (l:=l) (by omega);obtain ⟨b,t,hb,e1,e2,e3⟩:=QG (l:=p8 l) (by rw [B7,h]);rw [h1] at e1 e3
 have h8 : b % 8 = 0:=by rw [e3]; omega
 obtain ⟨r,hr,hr8⟩ : ∃ r,le l = le l / 8 * 8 + r /\ r < 8:=⟨le l % 8,by omega,by omega⟩;rw [Cu,e2,L5 (le l) (b + r) t (by omega) (by omega)]
 omega
def sgD (seed : List UInt8) : List UInt8:=eK eM seed
def gY (seed : List UInt8) : List UInt8:=Cu ((sgD seed).take 32)
def iS (seed : List UInt8) : List UInt8:=(sgD seed).drop 32
def gG (seed : List UInt8) : List UInt8:=eN (Ed.mul dd (le (gY seed)) base)
def sgR (seed m : List UInt8) : Nat:=le (eK eM (iS seed ++ m)) % LL
def gQ (seed m : List UInt8) : List UInt8:=eN (Ed.mul dd (sgR seed m) base)
def sgK (R key m : List UInt8) : Nat:=le (eK eM (R ++ (key ++ m))) % LL
def sgS (seed m : List UInt8) : Nat:=(sgR seed m + sgK (gQ seed m) (gG seed) m * le (gY seed)) % LL
def jH (seed m : List UInt8) : List UInt8:=gQ seed m ++ bytes 32 (sgS seed m)
def Sg (key sig m : List UInt8) : Prop:=∃ A,Ed.On dd A /\ eN A = key /\ Ed.mul dd 8 A ≠ Ed.zero /\ le (sig.drop 32) < LL /\
  eN (Ed.add dd (Ed.mul dd (le (sig.drop 32)) base) (Ed.neg (Ed.mul dd (sgK (sig.take 32) key m) A))) = sig.take 32
theorem wI (m : List UInt8) : (eK eM m).length = 64:=by
 unfold eK
 have h : ∀ l : List Nat,((l.map (m9 eM)).flatten).length = 8 * l.length:=by
  intro l
  induction l with
  | nil=>rfl
  | cons x l ih =>
   rw [List.map_cons,o6,aO,ih,bW]
   have : (m9 eM x).length = 8:=by
    unfold m9
    rw [lZ,cK]
    rfl
   omega
 rw [h]
 rfl
theorem Bg (seed : List UInt8) : (sgD seed).length = 64:=wI _
theorem MQ (seed : List UInt8) : (gY seed).length = 32:=by rw [gY,I9,aZ,Bg]; rfl
theorem pE (seed : List UInt8) : (iS seed).length = 32:=by rw [iS,iG,Bg]
theorem lM (seed : List UInt8) : (gG seed).length = 32:=gH _
theorem iR (seed m : List UInt8) : (gQ seed m).length = 32:=gH _
theorem kM (seed m : List UInt8) : (jH seed m).length = 64:=by rw [jH,aO,iR,cK]
theorem H4 (seed m : List UInt8) : (jH seed m).take 32 = gQ seed m:=by rw [jH,DZ (by rw [iR]; exact aF _),bT (by rw [iR]; exact aF _)]
theorem H5 (seed m : List UInt8) : (jH seed m).drop 32 = bytes 32 (sgS seed m):=by
 rw [jH,List.drop_append,iR,vX (by rw [iR]; exact aF _)]
 rfl
theorem zW (n : Nat) : n % LL < LL:=eR _ (by decide)
theorem ML (seed m : List UInt8) : sgS seed m < LL:=zW _
theorem vL {n : Nat} (h : n < LL) : le (bytes 32 n) = n:=by
 rw [oJ,bS (uV h (by decide))]
theorem NX (seed m : List UInt8) : le ((jH seed m).drop 32) = sgS seed m:=by rw [H5,vL (ML _ _)]
theorem LK (seed : List UInt8) : Ed.mul dd 8 (Ed.mul dd (le (gY seed)) base) ≠ Ed.zero:=by
 have h : le (gY seed) = xN (le ((sgD seed).take 32)):=LH (by rw [aZ,Bg]; rfl);rw [h];exact Hb _
theorem Li (seed m : List UInt8) : Sg (gG seed) (jH seed m) m:=by
 refine ⟨_,Ed.j9 iL l8 _,rfl,LK seed,?_,?_⟩
 ·rw [NX]
  exact ML _ _
 ·rw [NX,H4,sgS,HY]
  rfl
end Nums
namespace Go.Proofs.YtfkchihlchlfdaaDoor
open Go.RowKit Go.IntWalk Nums
theorem Qg {w : World} {P : Option Addr} {ls : List (List UInt8)} (h : PT w P ls) (hP : P = none) : ls = []:=by
 cases ls with
 | nil=>rfl
 | cons l ls =>
  obtain ⟨ad,e,_⟩:=h (by simp);rw [hP] at e
  cases e
set_option maxRecDepth 100000 in
set_option maxHeartbeats 1000000 in
theorem BZ {v1 v2 : Value} {l1 l2 : List UInt8} {P : Option Addr} {ls : List (List UInt8)} {pc : Nat} (w : World) (hT : Tsh w) (h1 : SB w v1 l1) (h2 : SB w v2 l2) (hP : PT w P ls) (h0 : P = none -> pc = 0) (hls : ls.length <= 1000000) :
  Calls Tryd.prog 39 #[v1,v2,.slice P ls.length pc] w λe w'=>e = .returned (.agg (Us (ws (le (eK eM (l1 ++ (l2 ++ ls.flatten))) % LL))).toArray) /\ Below w.heap.size w w':=by
 refine e9 (vs:=[v1,v2,.slice P ls.length pc]) 16 Tryd.func39 rfl (by rw [Tryd.ntmps39]; rfl) ?_;refine aM λK hK=>?_;refine eQ ?_;refine cT z4 rfl rfl rfl rfl (by kernel_rfl) λW1 g1 hw1 hg1 b1=>?_;refine bG ?_;refine hK _ _ ?_;clear hK K;replace h1:=h1.later hw1;replace h2:=h2.later hw1;replace hP:=hP.later hw1;replace hT:=hT.below hw1;have hU : Up w W1:=hw1
 have q1 : w.heap.size <= g1:=by rw [hg1]; exact aF _
 clear hw1;refine aM λK hK=>?_;refine xP 4 ?_;refine cU rfl ?_;refine aK v1 rfl rfl rfl rfl rfl ?_;refine cV ?_;refine cU rfl ?_;refine aK v2 rfl rfl rfl rfl rfl ?_;refine cV ?_;refine uF [v1,v2] [l1,l2] W1.heap.size rfl rfl rfl rfl rfl rfl rfl (by decide) (by decide) (λ_ h=>h.size) (λ_ h _=>⟨h1.later h,h2.later h,trivial⟩) λg2 _ _ _=>?_;refine cU rfl ?_;refine aK (.slice P ls.length pc) rfl rfl rfl rfl rfl ?_;refine cV ?_;refine jC λW2 hw2 hF=>?_;have n2:=hF 2 _ rfl;clear hF;refine Tl (vs:=[v1,v2]) (ls:=ls) (base:=W1.heap.size) rfl rfl rfl rfl rfl rfl (n2.gs (n:=2) rfl (by decide)) hw2 hP (λe=>⟨h0 e,Qg hP e⟩) (by simp; omega) hw2.size λA' c' W3 us hus hgs hgr=>?_;have hU3 : Up W1 W3:=GS.IM (n2.gs (n:=2) rfl (by decide)) hw2 hgr hw2.size;have hall : lW W3 ([v1,v2] ++ us) ([l1,l2] ++ ls):=lW.app ⟨h1.later hU3,h2.later hU3,trivial⟩ (lW.later hU3 hus);obtain ⟨hPT,hc1,hc2⟩:=hgs.pt hall;rw [hall.len];refine cP (.slice A' ([l1,l2] ++ ls).length c') rfl rfl rfl rfl rfl ?_;refine bG ?_;refine hK _ _ ?_;clear hK K;replace b1:=b1.later hU3;replace hT:=hT.below hU3;replace hU:=hU.step hU3;refine aM λK hK=>?_;refine k8 3 ?_;refine aK (.slice A' ([l1,l2] ++ ls).length c') rfl rfl rfl rfl rfl ?_;refine dG #[.slice A' ([l1,l2] ++ ls).length c'] (.agg (By (eK eM ([l1,l2] ++ ls).flatten)).toArray) rfl rfl rfl BR (λw1 h=>Fz A' ([l1,l2] ++ ls) c' w1 (hT.below h) (hPT.later h) hc1 hc2) rfl rfl ?_;refine dG #[.agg (By (eK eM ([l1,l2] ++ ls).flatten)).toArray] (.agg (Us (ws (le (eK eM ([l1,l2] ++ ls).flatten) % LL))).toArray) rfl rfl rfl BQ (λw1 _=>Hx (wI _) w1) rfl rfl ?_;refine iC g1 _ (Us (ws (le (eK eM ([l1,l2] ++ ls).flatten) % LL))).toArray rfl rfl rfl rfl rfl b1 (pQ _) (by rw [aT (eT _)]; rfl) (bP _) λw4 hw4 c4=>?_;refine bG ?_;refine hK _ _ ?_;clear hK K;refine gI (eC g1 _ rfl rfl c4 Tryd.underlying57 rfl (pQ _) ⟨?_,cM (hU.step hw4) q1 _⟩)
 rfl
theorem BS : Own 26:=λ_ _=>by go_simp
theorem zT : Own 27:=λ_ _=>by go_simp
theorem xD : Own 39:=λ_ _=>by go_simp
theorem Ir : Own 16:=λ_ _=>by go_simp
theorem T6 (m : Nat) (h : m < 256) : bits .and .u8 (m : Int) 248 = ((m / 8 * 8 : Nat) : Int):=by
 have key : ∀ m : Nat,m < 256 -> bits .and .u8 (m : Int) 248 = ((m / 8 * 8 : Nat) : Int):=by decide +kernel
 exact key m h
theorem VI (m : Nat) (h : m < 256) : bits .or .u8 ((m % 128 : Nat) : Int) 64 = ((m % 64 + 64 : Nat) : Int):=by
 have key : ∀ m : Nat,m < 256 -> bits .or .u8 ((m % 128 : Nat) : Int) 64 = ((m % 64 + 64 : Nat) : Int):=by decide +kernel
 exact key m h
theorem Ky {d : List UInt8} (h : d.length = 32) {k : Nat} (hk : k < 32) (x : UInt8) : (cop z64 0 d).set k x = cop z64 0 (d.set k x):=by
 simp only [cop,h,eP,bN,jD];rw [List.set_append_left _ _ (by omega)]
theorem Kz {d : List UInt8} (h : d.length = 32) {k : Nat} (hk : k < 32) : (cop z64 0 d)[k]! = d[k]!:=by
 simp only [cop,bN,jD];rw [getElem!_pos _ k (by rw [aO]; omega),getElem!_pos _ k (by omega),List.getElem_append_left]
set_option maxRecDepth 100000 in
set_option maxHeartbeats 2000000 in
theorem FE {seed : List UInt8} (hs : seed.length = 32) (w : World) (hT : Tsh w) :
  Calls Tryd.prog 26 #[.agg (By seed).toArray] w λe w'=>e = .returned (.tuple #[.agg (Us (ws (le (gY seed) % LL))).toArray,.agg (By (iS seed)).toArray]) /\ Below w.heap.size w w':=by
 have hD:=Bg seed
 have hd32 : ((sgD seed).take 32).length = 32:=by rw [aZ,hD]; rfl
 refine e9 (vs:=[.agg (By seed).toArray]) 26 Tryd.func26 rfl (by rw [Tryd.ntmps26]; rfl) ?_;refine aM λK hK=>?_;refine eQ ?_;refine gB (By seed).toArray rfl rfl rfl rfl rfl λW1 g1 hw1 hg1 b1=>?_;refine cT z4 rfl rfl rfl rfl (by kernel_rfl) λW2 g2 hw2 hg2 b2=>?_;refine cT z32 rfl rfl rfl rfl (by kernel_rfl) λW3 g3 hw3 hg3 b3=>?_;refine bG ?_;refine hK _ _ ?_;clear hK K;have l1:=b1.lt;have l2:=b2.lt;have l3:=b3.lt;have s1:=hw1.size;have s2:=hw2.size
 have n12 : g1 ≠ g2:=by omega
 have n23 : g2 ≠ g3:=by omega
 have n13 : g1 ≠ g3:=by omega
 have q2 : w.heap.size <= g2:=by omega
 have q3 : w.heap.size <= g3:=by omega
 replace b1:=(b1.later hw2).later hw3;replace b2:=b2.later hw3;have hU : Up w W3:=(hw1.step hw2).step hw3;replace hT:=hT.below hU;clear hw1 hw2 hw3 hg1 hg2 hg3 l1 l2 l3 s1 s2;refine aM λK hK=>?_;refine xP 4 ?_;refine cU rfl ?_;refine mI g1 rfl rfl rfl rfl rfl ?_;refine cV ?_;refine uF [.slice (some ⟨g1,0,none⟩) 32 32] [seed] W3.heap.size rfl rfl rfl rfl rfl rfl rfl (by decide) (by decide) (λ_ h=>h.size) (λ_ h _=>⟨SB.all (b1.later h) hs (by decide),trivial⟩) λgs _ _ _=>?_;refine cU rfl ?_
 refine dG #[.slice (some ⟨gs,0,none⟩) 1 1] (.agg (By (sgD seed)).toArray) rfl rfl rfl BR (λw1 h=>by
  have:=Fz (some ⟨gs,0,none⟩) [seed] 1 w1 (hT.below h.1) (h.2 1 _ rfl (by kernel_rfl) : zD _ _ _ _ _).pt (aF _) (by decide)
  rwa [show [seed].flatten = seed from by simp] at this) rfl rfl ?_
 refine cV ?_;refine yU (By z64).toArray W3.heap.size rfl rfl rfl rfl rfl Br (λ_ h=>h.size) (λg w w' h hr=>⟨h.1,h.2.later hr⟩) λg4 w4 _ hg4 _=>?_;refine jC λW4 hw4 hF=>?_;have b4:=(hF 3 _ rfl).2;clear hF
 have n14 : g1 ≠ g4:=by have:=b1.lt; omega
 have n24 : g2 ≠ g4:=by have:=b2.lt; omega
 have n34 : g3 ≠ g4:=by have:=b3.lt; omega
 have q4 : w.heap.size <= g4:=jL hU.size hg4;refine mH g4 _ (By (sgD seed)).toArray rfl rfl rfl rfl rfl b4 (yA hD) (by rw [bA,bA,b6,b6,hD]; rfl) (kD _) ?_;refine bG ?_;refine hK _ _ ?_;clear hK K;replace b2:=(b2.later hw4).aR n24 (By (sgD seed)).toArray;replace b3:=(b3.later hw4).aR n34 (By (sgD seed)).toArray;replace b4:=b4.row (By (sgD seed)).toArray;replace hU:=cM (hU.step hw4) q4 (By (sgD seed)).toArray;clear hT b1 n12 n13 n14 hg4 hw4;generalize W4.setRow g4 (By (sgD seed)).toArray = W5 at *;refine aM λK hK=>?_;refine eQ ?_;refine cT (By z64).toArray rfl rfl rfl rfl Br λW6 g5 hw6 hg5 b5=>?_;refine bG ?_;refine hK _ _ ?_;clear hK K
 have n25 : g2 ≠ g5:=by have:=b2.lt; omega
 have n35 : g3 ≠ g5:=by have:=b3.lt; omega
 have n45 : g4 ≠ g5:=by have:=b4.lt; omega
 have q5 : w.heap.size <= g5:=by rw [hg5]; exact hU.size
 replace b2:=b2.later hw6;replace b3:=b3.later hw6;replace b4:=b4.later hw6;replace hU:=hU.step hw6;clear hw6 hg5
 -- the number's bytes
 refine aM λK hK=>?_;refine c_g 2 (by decide) (by kernel_rfl) (by kernel_rfl) ?_;refine cU rfl ?_;refine sV g5 rfl rfl rfl rfl rfl ?_;refine cV ?_;refine cU rfl ?_;refine sV g4 rfl rfl rfl rfl rfl ?_;refine cV ?_;refine jC λW7 hw7 _=>?_;replace b2:=b2.later hw7;replace b3:=b3.later hw7;replace b4:=b4.later hw7;replace b5:=b5.later hw7;replace hU:=hU.step hw7;refine IE g5 0 32 64 _ z64 ((sgD seed).take 32) (.slice (some ⟨g4,0,none⟩) 32 64) rfl rfl rfl rfl rfl rfl b5 (SB.arr b4 (by rw [qI]) hd32 (by decide) (by decide)) (by rw [hd32]; decide) (by rw [hd32]; exact aF _) (by rw [hd32]; decide) λb5=>?_;replace b2:=b2.aR n25 (By (cop z64 0 ((sgD seed).take 32))).toArray;replace b3:=b3.aR n35 (By (cop z64 0 ((sgD seed).take 32))).toArray;replace b4:=b4.aR n45 (By (cop z64 0 ((sgD seed).take 32))).toArray;replace hU:=cM hU q5 (By (cop z64 0 ((sgD seed).take 32))).toArray;generalize W7.setRow g5 (By (cop z64 0 ((sgD seed).take 32))).toArray = W8 at *;refine bG ?_;refine hK _ _ ?_;clear hK K hw7;obtain ⟨d,hd⟩ : ∃ d,d = (sgD seed).take 32:=⟨_,rfl⟩;rw [<-hd] at b5 hd32;have x0:=(d[0]!).toNat_lt;have c0:=(b5.cell 0).trans (fU (l:=cop z64 0 d) (j:=0) (by rw [vS hd32]; decide));rw [Kz hd32 (by decide)] at c0
 have e0 : ((aX ((d[0]!).toNat / 8 * 8)).toNat : Int) = (((d[0]!).toNat / 8 * 8 : Nat) : Int):=by rw [ofNat_toNat (by omega)]
 refine aM λK hK=>?_;refine k8 4 ?_;refine tF _ 0 ⟨g5,0,none⟩ rfl rfl rfl rfl rfl rfl (QO _ 0 (by decide)) ?_;refine cX ⟨g5,0,none⟩ (.int .u8 ((d[0]!).toNat : Int)) (by decide) rfl rfl rfl rfl rfl (λ_ h1=>(h1.cell b5.lt).trans c0) ?_;refine EU _ 248 (((d[0]!).toNat / 8 * 8 : Nat) : Int) rfl rfl rfl rfl rfl rfl (T6 _ x0) ?_;refine tF _ 0 ⟨g5,0,none⟩ rfl rfl rfl rfl rfl rfl (QO _ 0 (by decide)) ?_;refine mA ⟨g5,0,none⟩ (((d[0]!).toNat / 8 * 8 : Nat) : Int) _ (.inr ⟨rfl,rfl⟩) rfl rfl rfl rfl rfl c0 (b5.free 0) b5.lt λw9 hw9=>?_;replace b2:=(b2.later hw9).far (p:=⟨g5,0,none⟩) n25 (.int .u8 (((d[0]!).toNat / 8 * 8 : Nat) : Int));replace b3:=(b3.later hw9).far (p:=⟨g5,0,none⟩) n35 (.int .u8 (((d[0]!).toNat / 8 * 8 : Nat) : Int));replace b4:=(b4.later hw9).far (p:=⟨g5,0,none⟩) n45 (.int .u8 (((d[0]!).toNat / 8 * 8 : Nat) : Int));replace b5:=(b5.later hw9).set 0 (.int .u8 (((d[0]!).toNat / 8 * 8 : Nat) : Int));replace hU : Up w _:=(hU.step hw9).setCell (p:=⟨g5,0,none⟩) q5 (.int .u8 (((d[0]!).toNat / 8 * 8 : Nat) : Int));rw [<-e0,rG,Ky hd32 (by decide)] at b5;rw [<-e0] at b2 b3 b4 hU ⊢;have e1 : d.set 0 (aX ((d[0]!).toNat / 8 * 8)) = p8 d:=rfl;rw [e1] at b5;generalize w9.setCell ⟨g5,0,none⟩ (.int .u8 ((aX ((d[0]!).toNat / 8 * 8)).toNat : Int)) = W9 at *;refine hK _ _ ?_;clear hK K hw9 c0 x0 e0 e1
 have hl32 : (p8 d).length = 32:=by rw [B7,hd32]
 have x1:=((p8 d)[31]!).toNat_lt;have c1:=(b5.cell 31).trans (fU (l:=cop z64 0 (p8 d)) (j:=31) (by rw [vS hl32]; decide));rw [Kz hl32 (by decide)] at c1
 have e0 : ((aX (((p8 d)[31]!).toNat % 64 + 64)).toNat : Int) = ((((p8 d)[31]!).toNat % 64 + 64 : Nat) : Int):=by rw [ofNat_toNat (by omega)]
 refine aM λK hK=>?_;refine k8 5 ?_;refine tF _ 31 ⟨g5,31,none⟩ rfl rfl rfl rfl rfl rfl (QO _ 31 (by decide)) ?_;refine cX ⟨g5,31,none⟩ (.int .u8 (((p8 d)[31]!).toNat : Int)) (by decide) rfl rfl rfl rfl rfl (λ_ h1=>(h1.cell b5.lt).trans c1) ?_;refine EU _ 127 ((((p8 d)[31]!).toNat % 128 : Nat) : Int) rfl rfl rfl rfl rfl rfl (UO _ x1) ?_;refine Kn _ 64 ((((p8 d)[31]!).toNat % 64 + 64 : Nat) : Int) rfl rfl rfl rfl rfl rfl (VI _ x1) ?_;refine tF _ 31 ⟨g5,31,none⟩ rfl rfl rfl rfl rfl rfl (QO _ 31 (by decide)) ?_;refine mA ⟨g5,31,none⟩ ((((p8 d)[31]!).toNat % 64 + 64 : Nat) : Int) _ (.inr ⟨rfl,rfl⟩) rfl rfl rfl rfl rfl c1 (b5.free 31) b5.lt λw9 hw9=>?_;replace b2:=(b2.later hw9).far (p:=⟨g5,31,none⟩) n25 (.int .u8 ((((p8 d)[31]!).toNat % 64 + 64 : Nat) : Int));replace b3:=(b3.later hw9).far (p:=⟨g5,31,none⟩) n35 (.int .u8 ((((p8 d)[31]!).toNat % 64 + 64 : Nat) : Int));replace b4:=(b4.later hw9).far (p:=⟨g5,31,none⟩) n45 (.int .u8 ((((p8 d)[31]!).toNat % 64 + 64 : Nat) : Int));replace b5:=(b5.later hw9).set 31 (.int .u8 ((((p8 d)[31]!).toNat % 64 + 64 : Nat) : Int));replace hU : Up w _:=(hU.step hw9).setCell (p:=⟨g5,31,none⟩) q5 (.int .u8 ((((p8 d)[31]!).toNat % 64 + 64 : Nat) : Int));rw [<-e0,rG,Ky hl32 (by decide)] at b5;rw [<-e0] at b2 b3 b4 hU ⊢
 have e1 : (p8 d).set 31 (aX (((p8 d)[31]!).toNat % 64 + 64)) = gY seed:=by rw [hd]; rfl
 rw [e1] at b5;generalize w9.setCell ⟨g5,31,none⟩ (.int .u8 ((aX (((p8 d)[31]!).toNat % 64 + 64)).toNat : Int)) = W10 at *;refine dT (E':=[(2,.pointer (some ⟨g2,0,none⟩)),(3,.pointer (some ⟨g3,0,none⟩)),(4,.pointer (some ⟨g4,0,none⟩)),(5,.pointer (some ⟨g5,0,none⟩))]) ⟨rfl,rfl,rfl,rfl,trivial⟩ ?_;refine hK _ _ ?_;clear hK K hw9 c1 x1 e0 e1 hl32 hd hd32 d;have hA:=MQ seed;have hle:=Te hA;have hlen:=vS hA;have hpl:=pE seed
 -- what is handed back
 refine aM λK hK=>?_;refine Vt (Rel:=l5 g2 57 (Us (ws (le (gY seed) % LL))).toArray) (C0:=l5 g2 57 (Us (ws (le (gY seed) % LL))).toArray W10) 6 (λ_ _ h k=>h.trans k) (l5.of (Up.drew W10)) (by decide) (by kernel_rfl) (by kernel_rfl) ?_;refine cU rfl ?_;refine OK g5 hlen rfl rfl rfl rfl rfl (λ_ h=>(h.1.far b5 n25.symm).range) ?_;refine cV ?_;refine cU rfl ?_
 refine dG #[.agg (By (cop z64 0 (gY seed))).toArray] (.agg (Us (ws (le (gY seed) % LL))).toArray) rfl rfl rfl BQ (λw1 _=>by
  have:=Hx hlen w1
  rwa [hle] at this) rfl rfl ?_
 refine cV ?_;refine cU rfl ?_;refine xL g4 rfl rfl rfl rfl rfl ?_;refine cV ?_;refine cU rfl ?_;refine I2 (some ⟨g4,32,none⟩) 32 rfl rfl rfl rfl rfl ?_;refine cV ?_;refine cU rfl ?_
 refine tG g4 32 hpl rfl rfl rfl rfl rfl (λ_ h=>by
  have:=(h.1.far b4 n24.symm).part 32 32
  have e : ((By (sgD seed)).drop 32).take 32 = By (iS seed):=by
   rw [iS,By,By,<-List.map_drop,<-List.map_take,bT (by rw [iG,hD]; decide)]
  rwa [e] at this) ?_
 refine cV ?_;refine QY g2 (Us (ws (le (gY seed) % LL))).toArray rfl rfl rfl rfl rfl rfl (pQ _) (bP _) (λw1 h=>?_) (λw1 w2 h hr=>hr.self h) ?_
 ·rcases h.here b2.lt with h1 | h1
  ·exact ⟨_,h1.trans b2,by rw [aT (eT _)]; rfl,l5.set (h1.trans b2)⟩
  ·exact ⟨_,h1,rfl,l5.set h1⟩
 refine jC λW11 hw11 hF=>?_;have d2 : Blk W11 g2 57 (Us (ws (le (gY seed) % LL))).toArray:=hF 5 _ rfl;have d3:=hw11.far b3 n23.symm;refine mH g3 _ (By (iS seed)).toArray rfl rfl rfl rfl rfl d3 (lC hpl) (by rw [iY hpl]; rfl) (kD _) ?_;refine bG ?_;refine hK _ _ ?_;clear hK K;have r2:=d2.aR n23 (By (iS seed)).toArray;have r3:=d3.row (By (iS seed)).toArray;have r:=cM (hw11.up hU q2) q3 (By (iS seed)).toArray;refine gI λa ha=>?_;exact bodyPost_ret (CO rfl _ _ g2 g3 _ _ _ _ (0,0) (0,0) _ _ (ha.at rfl) (ha.at rfl) r2 r3 Tryd.underlying57 rfl (pQ _) Tryd.underlying24 rfl (lC hpl)) ha.defers ⟨rfl,r⟩
set_option maxRecDepth 100000 in
set_option maxHeartbeats 1000000 in
theorem E5 {n : Nat} (hn : n < LL) (w : World) (hT : Tw w) :
  Calls Tryd.prog 27 #[.agg (Us (ws n)).toArray] w λe w'=>e = .returned (.agg (By (eN (Ed.mul dd n base))).toArray) /\ Below w.heap.size w w':=by
 have hb:=cK 32 n;have hle:=vL hn;refine e9 (vs:=[.agg (Us (ws n)).toArray]) 8 Tryd.func27 rfl (by rw [Tryd.ntmps27]; rfl) ?_;refine aM λK hK=>?_;refine eQ ?_;refine gB (Us (ws n)).toArray rfl rfl rfl rfl rfl λW1 g1 hw1 hg1 b1=>?_;refine cT z32 rfl rfl rfl rfl (by kernel_rfl) λW2 g2 hw2 hg2 b2=>?_;refine bG ?_;refine hK _ _ ?_;clear hK K;replace b1:=b1.later hw2;have hU : Up w W2:=hw1.step hw2;replace hT:=hT.below hU
 have q2 : w.heap.size <= g2:=by rw [hg2]; exact hw1.size
 clear hw1 hw2 hg1 hg2;refine aM λK hK=>?_;refine c_t 5 (by decide) (by kernel_rfl) (cC (by kernel_rfl)) (λ_ _ d _ _ h=>by cases d <;> exact h) ?_;refine eV #[] (QB · base) rfl rfl rfl Dq (λw1 _=>KC w1) rfl rfl λr3 v3=>?_;refine ET g1 n rfl rfl rfl rfl rfl (λ_ h1=>(h1.blk b1).range) ?_;refine dG #[.agg (Us (ws n)).toArray] (.agg (By (Nums.bytes 32 n)).toArray) rfl rfl rfl pU (λw1 _=>tS n w1) rfl rfl ?_
 refine eV #[.agg (Us r3).toArray,.agg (By (Nums.bytes 32 n)).toArray] (PB · (Ed.mul dd n base)) rfl rfl rfl NB (λw1 h1=>by
  have:=TV (.inr v3) hb w1 (hT.below h1)
  rwa [hle] at this) rfl rfl λr6 v6=>?_
 refine dG #[.agg (Us r6).toArray] (.agg (By (eN (Ed.mul dd n base))).toArray) rfl rfl rfl Dp (λw1 h1=>KB v6 w1 (hT.below h1)) rfl rfl ?_;refine iC g2 _ (By (eN (Ed.mul dd n base))).toArray rfl rfl rfl rfl rfl b2 (lC (gH _)) (by rw [iY (gH _)]; rfl) (kD _) λw4 hw4 c4=>?_;refine bG ?_;refine hK _ _ ?_;clear hK K;exact gI (eC g2 _ rfl rfl c4 Tryd.underlying24 rfl (lC (gH _)) ⟨rfl,cM (hU.step hw4) q2 _⟩)
structure Ta (w : World) : Prop where
  tw : Tw w
  sh : Tsh w
theorem Ta.below {w w' : World} (h : Ta w) (hb : Below w.heap.size w w') : Ta w':=⟨h.tw.below hb,h.sh.below hb⟩
theorem RU (seed : List UInt8) : eN (Ed.mul dd (le (gY seed) % LL) base) = gG seed:=by rw [S9]; rfl
set_option maxRecDepth 100000 in
set_option maxHeartbeats 2000000 in
theorem M7 {seed : List UInt8} (hs : seed.length = 32) (w : World) (hT : Ta w) :
  Calls Tryd.prog 16 #[.agg (By seed).toArray] w λe w'=>e = .returned (.agg (By (gG seed)).toArray) /\ Below w.heap.size w w':=by
 refine e9 (vs:=[.agg (By seed).toArray]) 12 Tryd.func16 rfl (by rw [Tryd.ntmps16]; rfl) ?_;have hU:=Up.refl w;refine aM λK hK=>?_;refine eQ ?_;refine gB ((By seed).toArray) rfl rfl rfl rfl rfl λW1 g1 hw1 hg1 b1=>?_;replace hU:=hU.step hw1;clear hw1 hg1;refine cT z32 rfl rfl rfl rfl (by kernel_rfl) λW2 g2 hw2 hg2 b2=>?_
 have q2 : w.heap.size <= g2:=by rw [hg2]; exact hU.size
 replace b1:=b1.later hw2;replace hU:=hU.step hw2;clear hw2 hg2;refine bG ?_;refine hK _ _ ?_;clear hK K;refine aM λK hK=>?_;refine xP 5 ?_;refine cU rfl ?_;refine tG g1 0 hs rfl rfl rfl rfl rfl (λ_ h1=>(h1.1.blk b1).range) ?_;refine cV ?_;refine cU rfl ?_;refine dG #[.agg (By seed).toArray] (.tuple #[.agg (Us (ws (le (gY seed) % LL))).toArray,.agg (By (iS seed)).toArray]) rfl rfl rfl BS (λw1 h1=>FE hs w1 (hT.below (hU.step h1.1)).sh) rfl rfl ?_;refine cV ?_;refine cU rfl ?_;refine aK (.tuple #[.agg (Us (ws (le (gY seed) % LL))).toArray,.agg (By (iS seed)).toArray]) rfl rfl rfl rfl rfl ?_;refine cV ?_;refine cU rfl ?_;refine dQ (.agg (Us (ws (le (gY seed) % LL))).toArray) rfl rfl rfl rfl rfl rfl ?_;refine cV ?_;refine cU rfl ?_;refine dQ (.agg (By (iS seed)).toArray) rfl rfl rfl rfl rfl rfl ?_;refine cV ?_;refine jC λW3 hw3 hF3=>?_;clear hF3;replace b2:=b2.later hw3;replace hU:=hU.step hw3;clear hw3;refine cT z4 rfl rfl rfl rfl (by kernel_rfl) λW4 g4 hw4 hg4 b4=>?_
 have n2_4 : g2 ≠ g4:=by have:=b2.lt; omega
 have q4 : w.heap.size <= g4:=by rw [hg4]; exact hU.size
 replace b2:=b2.later hw4;replace hU:=hU.step hw4;clear hw4 hg4;refine cT z32 rfl rfl rfl rfl (by kernel_rfl) λW5 g5 hw5 hg5 b5=>?_
 have n2_5 : g2 ≠ g5:=by have:=b2.lt; omega
 have n4_5 : g4 ≠ g5:=by have:=b4.lt; omega
 have q5 : w.heap.size <= g5:=by rw [hg5]; exact hU.size
 replace b2:=b2.later hw5;replace b4:=b4.later hw5;replace hU:=hU.step hw5;clear hw5 hg5;refine mH g4 _ ((Us (ws (le (gY seed) % LL))).toArray) rfl rfl rfl rfl rfl b4 (pQ _) (by rw [aT (eT _)]; rfl) (bP _) ?_;replace b2:=b2.aR n2_4 ((Us (ws (le (gY seed) % LL))).toArray);replace b5:=b5.aR n4_5.symm ((Us (ws (le (gY seed) % LL))).toArray);replace b4:=b4.row ((Us (ws (le (gY seed) % LL))).toArray);replace hU:=cM hU q4 ((Us (ws (le (gY seed) % LL))).toArray);generalize dU _ g4 ((Us (ws (le (gY seed) % LL))).toArray) = W6 at *;refine mH g5 _ ((By (iS seed)).toArray) rfl rfl rfl rfl rfl b5 (lC ((pE seed))) (by rw [iY ((pE seed))]; rfl) (kD _) ?_;replace b2:=b2.aR n2_5 ((By (iS seed)).toArray);replace b4:=b4.aR n4_5 ((By (iS seed)).toArray);replace hU:=cM hU q5 ((By (iS seed)).toArray);generalize dU _ g5 ((By (iS seed)).toArray) = W7 at *;refine bG ?_;refine hK _ _ ?_;clear hK K;refine aM λK hK=>?_;refine xP 2 ?_;refine cU rfl ?_;refine ET g4 (le (gY seed) % LL) rfl rfl rfl rfl rfl (λ_ h1=>(h1.1.blk b4).range) ?_;refine cV ?_;refine cU rfl ?_
 refine dG #[.agg (Us (ws (le (gY seed) % LL))).toArray] (.agg (By (gG seed)).toArray) rfl rfl rfl zT (λw1 h1=>by
   have:=E5 (EF (le (gY seed))) w1 (hT.below (hU.step h1.1)).tw
   rwa [RU] at this) rfl rfl ?_
 refine cV ?_;refine jC λW8 hw8 hF8=>?_;clear hF8;replace b2:=b2.later hw8;replace hU:=hU.step hw8;clear hw8;refine mH g2 _ ((By (gG seed)).toArray) rfl rfl rfl rfl rfl b2 (lC ((lM _))) (by rw [iY ((lM _))]; rfl) (kD _) ?_;replace b2:=b2.row ((By (gG seed)).toArray);replace hU:=cM hU q2 ((By (gG seed)).toArray);generalize dU _ g2 ((By (gG seed)).toArray) = W9 at *;refine bG ?_;refine hK _ _ ?_;clear hK K;exact gI (eC g2 _ rfl rfl b2 Tryd.underlying24 rfl (lC ((lM _))) ⟨rfl,hU⟩)
theorem Nx : Own 24:=λ_ _=>by go_simp
theorem SD {seed m : List UInt8} : le (eK eM (iS seed ++ ([] ++ m))) % LL = sgR seed m:=rfl
theorem MN (seed m : List UInt8) : sgR seed m < LL:=zW _
theorem PX {seed m : List UInt8} : eN (Ed.mul dd (sgR seed m) base) = gQ seed m:=rfl
theorem MP {R key m : List UInt8} : le (eK eM (R ++ (key ++ m))) % LL = sgK R key m:=rfl
theorem MO (R key m : List UInt8) : sgK R key m < LL:=zW _
theorem SA {seed m : List UInt8} : (sgR seed m + sgK (gQ seed m) (gG seed) m * (le (gY seed) % LL) % LL) % LL = Nums.sgS seed m:=by
 rw [Nums.sgS,Nat.mul_mod_mod,Nat.add_mod_mod]
theorem PW {seed m : List UInt8} : cop (cop z64 0 (gQ seed m)) 32 (Nums.bytes 32 (Nums.sgS seed m)) = jH seed m:=by
 have h1:=iR seed m;have h2:=cK 32 (Nums.sgS seed m)
 have e : cop z64 0 (gQ seed m) = gQ seed m ++ aD 32 0:=by
  rw [cop,h1]
  simp [z64]
 rw [e,cop,h2,DZ (by rw [h1]; exact aF _),bT (by rw [h1]; exact aF _),vX (by rw [aO,h1,bM]; exact aF _),cD]
 rfl
set_option maxRecDepth 100000 in
set_option maxHeartbeats 2000000 in
theorem Sz {seed : List UInt8} {P : Option Addr} {ls : List (List UInt8)} {pc : Nat} (hs : seed.length = 32) (w : World) (hT : Ta w) (hP : PT w P ls) (h0 : P = none -> pc = 0) (hls : ls.length <= 1000000) :
  Calls Tryd.prog 24 #[.agg (By seed).toArray,.slice P ls.length pc] w λe w'=>e = .returned (.agg (By (jH seed ls.flatten)).toArray) /\ Below w.heap.size w w':=by
 refine e9 (vs:=[.agg (By seed).toArray,.slice P ls.length pc]) 42 Tryd.func24 rfl (by rw [Tryd.ntmps24]; rfl) ?_;have hU:=Up.refl w;refine aM λK hK=>?_;refine eQ ?_;refine gB ((By seed).toArray) rfl rfl rfl rfl rfl λW1 g1 hw1 hg1 b1=>?_;replace hU:=hU.step hw1;clear hw1 hg1;refine cT ((By z64).toArray) rfl rfl rfl rfl Br λW2 g2 hw2 hg2 b2=>?_
 have q2 : w.heap.size <= g2:=by rw [hg2]; exact hU.size
 replace b1:=b1.later hw2;replace hU:=hU.step hw2;clear hw2 hg2;refine bG ?_;refine hK _ _ ?_;clear hK K;refine aM λK hK=>?_;refine xP 5 ?_;refine cU rfl ?_;refine tG g1 0 hs rfl rfl rfl rfl rfl (λ_ h1=>(h1.1.blk b1).range) ?_;refine cV ?_;refine cU rfl ?_;refine dG #[.agg (By seed).toArray] (.tuple #[.agg (Us (ws (le (gY seed) % LL))).toArray,.agg (By (iS seed)).toArray]) rfl rfl rfl BS (λw1 h1=>FE hs w1 (hT.below (hU.step h1.1)).sh) rfl rfl ?_;refine cV ?_;refine cU rfl ?_;refine aK (.tuple #[.agg (Us (ws (le (gY seed) % LL))).toArray,.agg (By (iS seed)).toArray]) rfl rfl rfl rfl rfl ?_;refine cV ?_;refine cU rfl ?_;refine dQ (.agg (Us (ws (le (gY seed) % LL))).toArray) rfl rfl rfl rfl rfl rfl ?_;refine cV ?_;refine cU rfl ?_;refine dQ (.agg (By (iS seed)).toArray) rfl rfl rfl rfl rfl rfl ?_;refine cV ?_;refine jC λW3 hw3 hF3=>?_;clear hF3;replace b1:=b1.later hw3;replace b2:=b2.later hw3;replace hU:=hU.step hw3;clear hw3;refine cT z4 rfl rfl rfl rfl (by kernel_rfl) λW4 g4 hw4 hg4 b4=>?_
 have n1_4 : g1 ≠ g4:=by have:=b1.lt; omega
 have n2_4 : g2 ≠ g4:=by have:=b2.lt; omega
 have q4 : w.heap.size <= g4:=by rw [hg4]; exact hU.size
 replace b1:=b1.later hw4;replace b2:=b2.later hw4;replace hU:=hU.step hw4;clear hw4 hg4;refine cT z32 rfl rfl rfl rfl (by kernel_rfl) λW5 g5 hw5 hg5 b5=>?_
 have n1_5 : g1 ≠ g5:=by have:=b1.lt; omega
 have n2_5 : g2 ≠ g5:=by have:=b2.lt; omega
 have n4_5 : g4 ≠ g5:=by have:=b4.lt; omega
 have q5 : w.heap.size <= g5:=by rw [hg5]; exact hU.size
 replace b1:=b1.later hw5;replace b2:=b2.later hw5;replace b4:=b4.later hw5;replace hU:=hU.step hw5;clear hw5 hg5;refine mH g4 _ ((Us (ws (le (gY seed) % LL))).toArray) rfl rfl rfl rfl rfl b4 (pQ _) (by rw [aT (eT _)]; rfl) (bP _) ?_;replace b1:=b1.aR n1_4 ((Us (ws (le (gY seed) % LL))).toArray);replace b2:=b2.aR n2_4 ((Us (ws (le (gY seed) % LL))).toArray);replace b5:=b5.aR n4_5.symm ((Us (ws (le (gY seed) % LL))).toArray);replace b4:=b4.row ((Us (ws (le (gY seed) % LL))).toArray);replace hU:=cM hU q4 ((Us (ws (le (gY seed) % LL))).toArray);generalize dU _ g4 ((Us (ws (le (gY seed) % LL))).toArray) = W6 at *;refine mH g5 _ ((By (iS seed)).toArray) rfl rfl rfl rfl rfl b5 (lC ((pE seed))) (by rw [iY ((pE seed))]; rfl) (kD _) ?_;replace b1:=b1.aR n1_5 ((By (iS seed)).toArray);replace b2:=b2.aR n2_5 ((By (iS seed)).toArray);replace b4:=b4.aR n4_5 ((By (iS seed)).toArray);replace b5:=b5.row ((By (iS seed)).toArray);replace hU:=cM hU q5 ((By (iS seed)).toArray);generalize dU _ g5 ((By (iS seed)).toArray) = W7 at *;refine bG ?_;refine hK _ _ ?_;clear hK K;refine aM λK hK=>?_;refine xP 3 ?_;refine cU rfl ?_;refine mI g5 rfl rfl rfl rfl rfl ?_;refine cV ?_;refine cU rfl ?_;refine aK (.slice P ls.length pc) rfl rfl rfl rfl rfl ?_;refine cV ?_;refine cU rfl ?_
 refine dG #[.slice (some ⟨g5,0,none⟩) 32 32,.slice none 0 0,.slice P ls.length pc] (.agg (Us (ws ((sgR seed ls.flatten)))).toArray) rfl rfl rfl xD (λw1 h1=>by
   have:=BZ (P:=P) (ls:=ls) (pc:=pc) w1 (hT.below (hU.step h1.1)).sh (SB.all (b5.later h1.1) ((pE seed)) (by decide)) (SB.nil _) (hP.later (hU.step h1.1)) h0 hls
   rwa [SD] at this) rfl rfl ?_
 refine cV ?_;refine jC λW8 hw8 hF8=>?_;clear hF8;replace b1:=b1.later hw8;replace b2:=b2.later hw8;replace b4:=b4.later hw8;replace b5:=b5.later hw8;replace hU:=hU.step hw8;clear hw8;refine cT z4 rfl rfl rfl rfl (by kernel_rfl) λW9 g9 hw9 hg9 b9=>?_
 have n1_9 : g1 ≠ g9:=by have:=b1.lt; omega
 have n2_9 : g2 ≠ g9:=by have:=b2.lt; omega
 have n4_9 : g4 ≠ g9:=by have:=b4.lt; omega
 have n5_9 : g5 ≠ g9:=by have:=b5.lt; omega
 have q9 : w.heap.size <= g9:=by rw [hg9]; exact hU.size
 replace b1:=b1.later hw9;replace b2:=b2.later hw9;replace b4:=b4.later hw9;replace b5:=b5.later hw9;replace hU:=hU.step hw9;clear hw9 hg9;refine mH g9 _ ((Us (ws ((sgR seed ls.flatten)))).toArray) rfl rfl rfl rfl rfl b9 (pQ _) (by rw [aT (eT _)]; rfl) (bP _) ?_;replace b1:=b1.aR n1_9 ((Us (ws ((sgR seed ls.flatten)))).toArray);replace b2:=b2.aR n2_9 ((Us (ws ((sgR seed ls.flatten)))).toArray);replace b4:=b4.aR n4_9 ((Us (ws ((sgR seed ls.flatten)))).toArray);replace b5:=b5.aR n5_9 ((Us (ws ((sgR seed ls.flatten)))).toArray);replace b9:=b9.row ((Us (ws ((sgR seed ls.flatten)))).toArray);replace hU:=cM hU q9 ((Us (ws ((sgR seed ls.flatten)))).toArray);generalize dU _ g9 ((Us (ws ((sgR seed ls.flatten)))).toArray) = W10 at *;refine bG ?_;refine hK _ _ ?_;clear hK K;refine aM λK hK=>?_;refine AQ 4 [nvH 8,nvH 9] (by decide) (by decide) ⟨⟨rfl,rfl,rfl,rfl,by kernel_rfl⟩,⟨rfl,rfl,rfl,rfl,by kernel_rfl⟩,trivial⟩ (by kernel_rfl) (cC (by kernel_rfl)) (by kernel_rfl) (λ_ _ d _ _ h=>by cases d <;> exact h) ?_;refine ET g9 ((sgR seed ls.flatten)) rfl rfl rfl rfl rfl (λ_ h1=>(h1.blk b9).range) ?_
 refine dG #[.agg (Us (ws ((sgR seed ls.flatten)))).toArray] (.agg (By (gQ seed ls.flatten)).toArray) rfl rfl rfl zT (λw1 h1=>by
   have:=E5 (n:=sgR seed ls.flatten) (MN _ _) w1 (hT.below (hU.step h1)).tw
   rwa [PX] at this) rfl rfl ?_
 refine ET g4 (le (gY seed) % LL) rfl rfl rfl rfl rfl (λ_ h1=>(h1.blk b4).range) ?_
 refine dG #[.agg (Us (ws (le (gY seed) % LL))).toArray] (.agg (By (gG seed)).toArray) rfl rfl rfl zT (λw1 h1=>by
   have:=E5 (EF (le (gY seed))) w1 (hT.below (hU.step h1)).tw
   rwa [RU] at this) rfl rfl ?_
 refine oL [.tmp 22,.tmp 24] [(By (gQ seed ls.flatten)).toArray,(By (gG seed)).toArray] ⟨rfl,rfl,trivial⟩ (by decide) ⟨⟨rfl,rfl,rfl⟩,⟨rfl,rfl,rfl⟩,rfl⟩ ⟨⟨rfl,(by rw [iY ((iR seed ls.flatten))]; rfl),(lC ((iR seed ls.flatten))),(kD _)⟩,⟨rfl,(by rw [iY ((lM seed))]; rfl),(lC ((lM seed))),(kD _)⟩,trivial⟩ λf11 W11 hg11 hd11 hw11 hb11=>?_;have b1100 : Blk W11 (f11 0) 24 ((By (gQ seed ls.flatten)).toArray):=hb11.1;have b1101 : Blk W11 (f11 1) 24 ((By (gG seed)).toArray):=hb11.2.1;clear hb11;replace b1:=b1.later hw11;replace b2:=b2.later hw11;replace b4:=b4.later hw11;replace b5:=b5.later hw11;replace b9:=b9.later hw11;replace hU:=hU.step hw11;clear hg11 hd11 hw11;generalize hf1100 : f11 0 = g1100 at *;generalize hf1101 : f11 1 = g1101 at *;simp only [lO,Nat.reduceAdd,hf1100,hf1101];clear hf1100 hf1101 f11;refine bG ?_;refine hK _ _ ?_;clear hK K;refine aM λK hK=>?_;refine c_g 5 (by decide) (by kernel_rfl) (by kernel_rfl) ?_;refine cU rfl ?_;refine mI g1100 rfl rfl rfl rfl rfl ?_;refine cV ?_;refine cU rfl ?_;refine mI g1101 rfl rfl rfl rfl rfl ?_;refine cV ?_;refine cU rfl ?_;refine aK (.slice P ls.length pc) rfl rfl rfl rfl rfl ?_;refine cV ?_;refine cU rfl ?_
 refine dG #[.slice (some ⟨g1100,0,none⟩) 32 32,.slice (some ⟨g1101,0,none⟩) 32 32,.slice P ls.length pc] (.agg (Us (ws ((sgK (gQ seed ls.flatten) (gG seed) ls.flatten)))).toArray) rfl rfl rfl xD (λw1 h1=>by
   have:=BZ (P:=P) (ls:=ls) (pc:=pc) w1 (hT.below (hU.step h1.1)).sh (SB.all (b1100.later h1.1) ((iR seed ls.flatten)) (by decide)) (SB.all (b1101.later h1.1) ((lM seed)) (by decide)) (hP.later (hU.step h1.1)) h0 hls
   rwa [MP] at this) rfl rfl ?_
 refine cV ?_;refine yU z4 (W11).heap.size rfl rfl rfl rfl rfl (by kernel_rfl) (λ_ h=>h.size) (λg w w' h hr=>⟨h.1,h.2.later hr⟩) λg12 _ _ _ _=>?_;refine jC λW13 hw13 hF13=>?_;have b12:=(hF13 4 _ rfl).2;have ge12:=(hF13 4 _ rfl).1
 have n1_12 : g1 ≠ g12:=by have:=b1.lt; omega
 have n2_12 : g2 ≠ g12:=by have:=b2.lt; omega
 have n4_12 : g4 ≠ g12:=by have:=b4.lt; omega
 have n5_12 : g5 ≠ g12:=by have:=b5.lt; omega
 have n9_12 : g9 ≠ g12:=by have:=b9.lt; omega
 have n1100_12 : g1100 ≠ g12:=by have:=b1100.lt; omega
 have n1101_12 : g1101 ≠ g12:=by have:=b1101.lt; omega
 have q12 : w.heap.size <= g12:=jL hU.size ge12;clear ge12;clear hF13;replace b1:=b1.later hw13;replace b2:=b2.later hw13;replace b4:=b4.later hw13;replace b5:=b5.later hw13;replace b9:=b9.later hw13;replace b1100:=b1100.later hw13;replace b1101:=b1101.later hw13;replace hU:=hU.step hw13;clear hw13;refine mH g12 _ ((Us (ws ((sgK (gQ seed ls.flatten) (gG seed) ls.flatten)))).toArray) rfl rfl rfl rfl rfl b12 (pQ _) (by rw [aT (eT _)]; rfl) (bP _) ?_;replace b1:=b1.aR n1_12 ((Us (ws ((sgK (gQ seed ls.flatten) (gG seed) ls.flatten)))).toArray);replace b2:=b2.aR n2_12 ((Us (ws ((sgK (gQ seed ls.flatten) (gG seed) ls.flatten)))).toArray);replace b4:=b4.aR n4_12 ((Us (ws ((sgK (gQ seed ls.flatten) (gG seed) ls.flatten)))).toArray);replace b5:=b5.aR n5_12 ((Us (ws ((sgK (gQ seed ls.flatten) (gG seed) ls.flatten)))).toArray);replace b9:=b9.aR n9_12 ((Us (ws ((sgK (gQ seed ls.flatten) (gG seed) ls.flatten)))).toArray);replace b1100:=b1100.aR n1100_12 ((Us (ws ((sgK (gQ seed ls.flatten) (gG seed) ls.flatten)))).toArray);replace b1101:=b1101.aR n1101_12 ((Us (ws ((sgK (gQ seed ls.flatten) (gG seed) ls.flatten)))).toArray);replace b12:=b12.row ((Us (ws ((sgK (gQ seed ls.flatten) (gG seed) ls.flatten)))).toArray);replace hU:=cM hU q12 ((Us (ws ((sgK (gQ seed ls.flatten) (gG seed) ls.flatten)))).toArray);generalize dU _ g12 ((Us (ws ((sgK (gQ seed ls.flatten) (gG seed) ls.flatten)))).toArray) = W14 at *;refine bG ?_;refine hK _ _ ?_;clear hK K;refine aM λK hK=>?_;refine c_g 7 (by decide) (by kernel_rfl) (by kernel_rfl) ?_;refine cU rfl ?_;refine ET g9 ((sgR seed ls.flatten)) rfl rfl rfl rfl rfl (λ_ h1=>(h1.1.blk b9).range) ?_;refine cV ?_;refine cU rfl ?_;refine ET g12 ((sgK (gQ seed ls.flatten) (gG seed) ls.flatten)) rfl rfl rfl rfl rfl (λ_ h1=>(h1.1.blk b12).range) ?_;refine cV ?_;refine cU rfl ?_;refine ET g4 (le (gY seed) % LL) rfl rfl rfl rfl rfl (λ_ h1=>(h1.1.blk b4).range) ?_;refine cV ?_;refine cU rfl ?_;refine dG #[.agg (Us (ws ((sgK (gQ seed ls.flatten) (gG seed) ls.flatten)))).toArray,.agg (Us (ws (le (gY seed) % LL))).toArray] (.agg (Us (ws ((((sgK (gQ seed ls.flatten) (gG seed) ls.flatten)) * (le (gY seed) % LL) % LL)))).toArray) rfl rfl rfl Ls (λw1 h1=>PZ (MO _ _ _) (EF (le (gY seed))) w1) rfl rfl ?_;refine cV ?_;refine cU rfl ?_
 refine dG #[.agg (Us (ws ((sgR seed ls.flatten)))).toArray,.agg (Us (ws ((((sgK (gQ seed ls.flatten) (gG seed) ls.flatten)) * (le (gY seed) % LL) % LL)))).toArray] (.agg (Us (ws ((Nums.sgS seed ls.flatten)))).toArray) rfl rfl rfl Lt (λw1 h1=>by
   have:=P1 (x:=(sgR seed ls.flatten)) (y:=(((sgK (gQ seed ls.flatten) (gG seed) ls.flatten)) * (le (gY seed) % LL) % LL)) (MN _ _) (EF (((sgK (gQ seed ls.flatten) (gG seed) ls.flatten)) * (le (gY seed) % LL))) w1
   rwa [SA] at this) rfl rfl ?_
 refine cV ?_;refine cU rfl ?_;refine dG #[.agg (Us (ws ((Nums.sgS seed ls.flatten)))).toArray] (.agg (By (Nums.bytes 32 ((Nums.sgS seed ls.flatten)))).toArray) rfl rfl rfl pU (λw1 h1=>tS ((Nums.sgS seed ls.flatten)) w1) rfl rfl ?_;refine cV ?_;refine yU z32 (W14).heap.size rfl rfl rfl rfl rfl (by kernel_rfl) (λ_ h=>h.size) (λg w w' h hr=>⟨h.1,h.2.later hr⟩) λg15 _ _ _ _=>?_;refine jC λW16 hw16 hF16=>?_;have b15:=(hF16 6 _ rfl).2;have ge15:=(hF16 6 _ rfl).1
 have n1_15 : g1 ≠ g15:=by have:=b1.lt; omega
 have n2_15 : g2 ≠ g15:=by have:=b2.lt; omega
 have n4_15 : g4 ≠ g15:=by have:=b4.lt; omega
 have n5_15 : g5 ≠ g15:=by have:=b5.lt; omega
 have n9_15 : g9 ≠ g15:=by have:=b9.lt; omega
 have n1100_15 : g1100 ≠ g15:=by have:=b1100.lt; omega
 have n1101_15 : g1101 ≠ g15:=by have:=b1101.lt; omega
 have n12_15 : g12 ≠ g15:=by have:=b12.lt; omega
 have q15 : w.heap.size <= g15:=jL hU.size ge15;clear ge15;clear hF16;replace b1:=b1.later hw16;replace b2:=b2.later hw16;replace b4:=b4.later hw16;replace b5:=b5.later hw16;replace b9:=b9.later hw16;replace b1100:=b1100.later hw16;replace b1101:=b1101.later hw16;replace b12:=b12.later hw16;replace hU:=hU.step hw16;clear hw16;refine mH g15 _ ((By (Nums.bytes 32 ((Nums.sgS seed ls.flatten)))).toArray) rfl rfl rfl rfl rfl b15 (lC ((cK _ _))) (by rw [iY ((cK _ _))]; rfl) (kD _) ?_;replace b1:=b1.aR n1_15 ((By (Nums.bytes 32 ((Nums.sgS seed ls.flatten)))).toArray);replace b2:=b2.aR n2_15 ((By (Nums.bytes 32 ((Nums.sgS seed ls.flatten)))).toArray);replace b4:=b4.aR n4_15 ((By (Nums.bytes 32 ((Nums.sgS seed ls.flatten)))).toArray);replace b5:=b5.aR n5_15 ((By (Nums.bytes 32 ((Nums.sgS seed ls.flatten)))).toArray);replace b9:=b9.aR n9_15 ((By (Nums.bytes 32 ((Nums.sgS seed ls.flatten)))).toArray);replace b1100:=b1100.aR n1100_15 ((By (Nums.bytes 32 ((Nums.sgS seed ls.flatten)))).toArray);replace b1101:=b1101.aR n1101_15 ((By (Nums.bytes 32 ((Nums.sgS seed ls.flatten)))).toArray);replace b12:=b12.aR n12_15 ((By (Nums.bytes 32 ((Nums.sgS seed ls.flatten)))).toArray);replace b15:=b15.row ((By (Nums.bytes 32 ((Nums.sgS seed ls.flatten)))).toArray);replace hU:=cM hU q15 ((By (Nums.bytes 32 ((Nums.sgS seed ls.flatten)))).toArray);generalize dU _ g15 ((By (Nums.bytes 32 ((Nums.sgS seed ls.flatten)))).toArray) = W17 at *;refine bG ?_;refine hK _ _ ?_;clear hK K;refine aM λK hK=>?_;refine eQ ?_;refine cT ((By z64).toArray) rfl rfl rfl rfl Br λW18 g18 hw18 hg18 b18=>?_
 have n1_18 : g1 ≠ g18:=by have:=b1.lt; omega
 have n2_18 : g2 ≠ g18:=by have:=b2.lt; omega
 have n4_18 : g4 ≠ g18:=by have:=b4.lt; omega
 have n5_18 : g5 ≠ g18:=by have:=b5.lt; omega
 have n9_18 : g9 ≠ g18:=by have:=b9.lt; omega
 have n1100_18 : g1100 ≠ g18:=by have:=b1100.lt; omega
 have n1101_18 : g1101 ≠ g18:=by have:=b1101.lt; omega
 have n12_18 : g12 ≠ g18:=by have:=b12.lt; omega
 have n15_18 : g15 ≠ g18:=by have:=b15.lt; omega
 have q18 : w.heap.size <= g18:=by rw [hg18]; exact hU.size
 replace b1:=b1.later hw18;replace b2:=b2.later hw18;replace b4:=b4.later hw18;replace b5:=b5.later hw18;replace b9:=b9.later hw18;replace b1100:=b1100.later hw18;replace b1101:=b1101.later hw18;replace b12:=b12.later hw18;replace b15:=b15.later hw18;replace hU:=hU.step hw18;clear hw18 hg18;refine bG ?_;refine hK _ _ ?_;clear hK K;refine aM λK hK=>?_;refine c_g 2 (by decide) (by kernel_rfl) (by kernel_rfl) ?_;refine cU rfl ?_;refine sV g18 rfl rfl rfl rfl rfl ?_;refine cV ?_;refine cU rfl ?_;refine mI g1100 rfl rfl rfl rfl rfl ?_;refine cV ?_;refine jC λW19 hw19 hF19=>?_;clear hF19;replace b1:=b1.later hw19;replace b2:=b2.later hw19;replace b4:=b4.later hw19;replace b5:=b5.later hw19;replace b9:=b9.later hw19;replace b1100:=b1100.later hw19;replace b1101:=b1101.later hw19;replace b12:=b12.later hw19;replace b15:=b15.later hw19;replace b18:=b18.later hw19;replace hU:=hU.step hw19;clear hw19;refine IE g18 0 32 64 _ z64 (gQ seed ls.flatten) (.slice (some ⟨g1100,0,none⟩) 32 32) rfl rfl rfl rfl rfl rfl b18 (SB.all (b1100.later (Up.refl _)) ((iR seed ls.flatten)) (by decide)) (by rw [iR]; decide) (by rw [iR]; decide) (by rw [iR]; decide) λb18=>?_;replace b1:=b1.aR n1_18 (By (cop z64 0 (gQ seed ls.flatten))).toArray;replace b2:=b2.aR n2_18 (By (cop z64 0 (gQ seed ls.flatten))).toArray;replace b4:=b4.aR n4_18 (By (cop z64 0 (gQ seed ls.flatten))).toArray;replace b5:=b5.aR n5_18 (By (cop z64 0 (gQ seed ls.flatten))).toArray;replace b9:=b9.aR n9_18 (By (cop z64 0 (gQ seed ls.flatten))).toArray;replace b1100:=b1100.aR n1100_18 (By (cop z64 0 (gQ seed ls.flatten))).toArray;replace b1101:=b1101.aR n1101_18 (By (cop z64 0 (gQ seed ls.flatten))).toArray;replace b12:=b12.aR n12_18 (By (cop z64 0 (gQ seed ls.flatten))).toArray;replace b15:=b15.aR n15_18 (By (cop z64 0 (gQ seed ls.flatten))).toArray;replace hU:=cM hU q18 (By (cop z64 0 (gQ seed ls.flatten))).toArray;generalize dU _ g18 (By (cop z64 0 (gQ seed ls.flatten))).toArray = W20 at *;refine bG ?_;refine hK _ _ ?_;clear hK K;refine aM λK hK=>?_;refine c_g 2 (by decide) (by kernel_rfl) (by kernel_rfl) ?_;refine cU rfl ?_;refine xL g18 rfl rfl rfl rfl rfl ?_;refine cV ?_;refine cU rfl ?_;refine mI g15 rfl rfl rfl rfl rfl ?_;refine cV ?_;refine jC λW21 hw21 hF21=>?_;clear hF21;replace b1:=b1.later hw21;replace b2:=b2.later hw21;replace b4:=b4.later hw21;replace b5:=b5.later hw21;replace b9:=b9.later hw21;replace b1100:=b1100.later hw21;replace b1101:=b1101.later hw21;replace b12:=b12.later hw21;replace b15:=b15.later hw21;replace b18:=b18.later hw21;replace hU:=hU.step hw21;clear hw21;refine IE g18 32 32 32 _ (cop z64 0 (gQ seed ls.flatten)) (Nums.bytes 32 ((Nums.sgS seed ls.flatten))) (.slice (some ⟨g15,0,none⟩) 32 32) rfl rfl rfl rfl rfl rfl b18 (SB.all (b15.later (Up.refl _)) ((cK _ _)) (by decide)) (by rw [cK]; decide) (by rw [cK]; decide) (by rw [cK]; rw [vS (iR _ _)]; decide) λb18=>?_
 replace b1:=b1.aR n1_18 (By (cop (cop z64 0 (gQ seed ls.flatten)) 32 (Nums.bytes 32 ((Nums.sgS seed ls.flatten))))).toArray;replace b2:=b2.aR n2_18 (By (cop (cop z64 0 (gQ seed ls.flatten)) 32 (Nums.bytes 32 ((Nums.sgS seed ls.flatten))))).toArray;replace b4:=b4.aR n4_18 (By (cop (cop z64 0 (gQ seed ls.flatten)) 32 (Nums.bytes 32 ((Nums.sgS seed ls.flatten))))).toArray;replace b5:=b5.aR n5_18 (By (cop (cop z64 0 (gQ seed ls.flatten)) 32 (Nums.bytes 32 ((Nums.sgS seed ls.flatten))))).toArray;replace b9:=b9.aR n9_18 (By (cop (cop z64 0 (gQ seed ls.flatten)) 32 (Nums.bytes 32 ((Nums.sgS seed ls.flatten))))).toArray;replace b1100:=b1100.aR n1100_18 (By (cop (cop z64 0 (gQ seed ls.flatten)) 32 (Nums.bytes 32 ((Nums.sgS seed ls.flatten))))).toArray;replace b1101:=b1101.aR n1101_18 (By (cop (cop z64 0 (gQ seed ls.flatten)) 32 (Nums.bytes 32 ((Nums.sgS seed ls.flatten))))).toArray;replace b12:=b12.aR n12_18 (By (cop (cop z64 0 (gQ seed ls.flatten)) 32 (Nums.bytes 32 ((Nums.sgS seed ls.flatten))))).toArray;replace b15:=b15.aR n15_18 (By (cop (cop z64 0 (gQ seed ls.flatten)) 32 (Nums.bytes 32 ((Nums.sgS seed ls.flatten))))).toArray;replace hU:=cM hU q18 (By (cop (cop z64 0 (gQ seed ls.flatten)) 32 (Nums.bytes 32 ((Nums.sgS seed ls.flatten))))).toArray;rw [PW] at b1 b2 b4 b5 b9 b1100 b1101 b12 b15 b18 hU ⊢;generalize dU _ g18 (By (jH seed ls.flatten)).toArray = W22 at *;refine bG ?_;refine hK _ _ ?_;clear hK K;refine aM λK hK=>?_;refine xP 1 ?_;refine cU rfl ?_;refine OK g18 ((kM _ _)) rfl rfl rfl rfl rfl (λ_ h1=>(h1.1.blk b18).range) ?_;refine cV ?_;refine jC λW23 hw23 hF23=>?_;clear hF23;replace b2:=b2.later hw23;replace hU:=hU.step hw23;clear hw23;refine mH g2 _ ((By (jH seed ls.flatten)).toArray) rfl rfl rfl rfl rfl b2 (yA ((kM _ _))) (by rw [bA,bA,b6,b6,((kM _ _))]; rfl) (kD _) ?_;replace b2:=b2.row ((By (jH seed ls.flatten)).toArray);replace hU:=cM hU q2 ((By (jH seed ls.flatten)).toArray);generalize dU _ g2 ((By (jH seed ls.flatten)).toArray) = W24 at *;refine bG ?_;refine hK _ _ ?_;clear hK K;exact gI (eC g2 _ rfl rfl b2 Tryd.underlying25 rfl (yA ((kM _ _))) ⟨rfl,hU⟩)
end Go.Proofs.YtfkchihlchlfdaaDoor
namespace Nums
end Nums
namespace Go.Proofs.YtfkchihlchlfdaaDoor
open Go.RowKit Go.IntWalk Nums
end Go.Proofs.YtfkchihlchlfdaaDoor
namespace Nums
end Nums
namespace Go.Proofs.YtfkchihlchlfdaaDoor
open Go.RowKit Go.IntWalk Nums
end Go.Proofs.YtfkchihlchlfdaaDoor
namespace Nums
end Nums
namespace Go.Proofs.YtfkchihlchlfdaaDoor
open Go.RowKit Go.IntWalk Nums
end Go.Proofs.YtfkchihlchlfdaaDoor
namespace Nums
theorem J3 {l : List UInt8} {k : Nat} (h : k < l.length) : le (l.take (k + 1)) = le (l.take k) + 256 ^ k * (l[k]!).toNat:=by
 rw [jM h,lP,aZ,cO (by omega),getElem!_pos l k h]
 show _ + _ * (l[k].toNat + 256 * 0) = _
 rw [A9,Nat.add_zero]
theorem Oh {b : List UInt8} (hb : b.length = 32) : decide (bytes 32 (le b % LL) = b) = decide (le b < LL):=by
 congr 1
 refine propext ⟨λh=>?_,λh=>?_⟩
 ·have h1:=congrArg le h
  rw [oJ] at h1;have h2 : le b % LL < LL:=eR _ (by decide);have h3 : le b % LL % 256 ^ 32 = le b % LL:=bS (uV h2 (by decide))
  omega
 ·apply xH (by rw [cK,hb])
  rw [oJ,bS h,bS (uV h (by decide))]
end Nums
