/-
  SEVERAL TEXTS IN ONE: EndW512, Fill512, Sum512, PrimeL, SgP, SgNum, SgKey, SgSign, Scal, Below, Less, LessC, ModP, Mod, SumP, ScNew, LawR.
-/
import Derived.Test.YtlcbhbahchiofaaGreatDoorMk
import Derived.Test.YtlcbhbahchiofaaGreatDoorMe
import Derived.Test.YtlcbhbahchiofaaGreatDoorMc
import Derived.Test.YtlcbhbahchiofaaGreatDoorMg
import Derived.Test.YtlcbhbahchiofaaGreatDoorMa
import Derived.Deep.AppendLies
import Derived.Deep.OwnRows
import Derived.OwnWalk
import Derived.Test.YtlcbhbahchiofaaGreatDoorMj
/-
  THE DIGESTS: end: the message's end.
-/
namespace Go.Proofs.YtlcbhbahchiofaaGreatDoor
open Go.RowKit Go.IntWalk Nums

set_option maxRecDepth 100000 in
set_option maxHeartbeats 4000000 in
theorem end512_f {B gh gb : Nat} {w0 w : World} {o : Oct} {b : List UInt8} (h : S5 B gh gb w0 w o b) (r v : Nat) (hr : r < 128) :
  Calls Tryz.prog 90 #[.slice (some ⟨gb,0,none⟩) 128 128,.int .i64 (r : Int),.int .u64 (v : Int),.func (.func 69) #[] #[.pointer (some ⟨gh,0,none⟩),.pointer (some ⟨gb,0,none⟩)]] w fun e w' =>
   e = .returned (.tuple #[]) ∧ ∃ b',S5 B gh gb w0 w' (runw s512 128 o (b.take r ++ tailw 128 r (8 * v))) b':=by
 have hlen:=h.len;have h1:=end_one (s:=s512) (o:=o) (v:=8 * v) (n:=128) (by omega) hlen hr;have h2:=end_two (s:=s512) (o:=o) (v:=8 * v) (n:=128) (by omega) hlen hr;have hcl:=clr_set hlen hr;have hS1 : S5 B gh gb w0 (w.setCell ⟨gb,r,none⟩ (.int .u8 128)) o (b.set r 128):=h.setB r 128
 have hsl : (b.set r 128).length = 128:=by rw [List.length_set]; exact hlen
 have hm1:=hS1.m;have hS2:=hS1.setM (c:=clr (b.set r 128) (r + 1)) (by rw [clr_len (by rw [hsl]; omega)]; exact hsl);rw [hcl] at hS2;have hc0:=(h.m.cell r).trans (By_get (by omega));have hf0:=h.m.free r;generalize (b[r]!).toNat = old at *
 have hl1 : (b.take r ++ 128 :: List.replicate (128 - 1 - r) 0).length = 128:=by
  rw [List.length_append,List.length_take,List.length_cons,List.length_replicate]
  omega
 obtain ⟨c1,hc1⟩ : ∃ c,c = b.take r ++ 128 :: List.replicate (128 - 1 - r) 0:=⟨_,rfl⟩;rw [← hc1] at hcl hS2 hl1 h1 h2;have HC:=Lib.hid hcl;have HK:=Lib.hid (And.intro h hS2)
 have hr2 : (r : Int) < 128:=by omega
 have hr3 : (0 : Int) ≤ (r : Int):=by omega
 have hx:=be64_mod (8 * v);have hxe:=be64_len (8 * v);have hxg:=fun i hi=>be64_get (v:=8 * v % 18446744073709551616) (i:=i) hi;rw [hx] at hxg
 have hv8 : IntKind.u64.wrap ((v : Int) * 8) = ((8 * v % 18446744073709551616 : Nat) : Int):=by rw [IntKind.wrap_u64]; omega
 have hvb : 8 * v % 18446744073709551616 < 18446744073709551616:=Nat.mod_lt _ (by decide);generalize be64 (8 * v) = E at *;generalize 8 * v % 18446744073709551616 = y at *;clear hS2 hx h hc1 hcl
 rcases (show r = 127 ∨ r + 1 ≤ 112 ∨ (112 < r + 1 ∧ r < 127) by omega) with rfl | hc | ⟨hc,h127⟩
 ·rw [show ((127 : Nat) : Int) = (127 : Int) from rfl]
  go_enter Tryz.func90,Tryz.ntmps90
  go_wp2_with (refine wpl_clear (.tmp 16) rfl rfl gb 128 0 0 (some ⟨gb,0,none⟩) rfl (fun h=>absurd h (by decide)) (b.set 127 128) 121 hm1 (by rw [hsl]) c1 HC ?_)
  have hS:=HK.out.2;clear HK hm1 hc0 hf0 hS1;refine (take512_f hS).mono ?_
  rintro z w3 ⟨rfl,hS3⟩
  have hm3:=hS3.m;have hS4:=hS3.setM (c:=clr c1 0) (by rw [clr_len (by omega)]; exact hl1)
  have hz4 : clr c1 0 = List.replicate 128 0:=by rw [clr_all,hl1]
  have HF:=Lib.hid (h2 (by omega));rw [hz4] at hS4;have hl : (List.replicate 128 (0 : UInt8)).length = 128:=List.length_replicate;generalize List.replicate 128 (0 : UInt8) = c at *;generalize turnw s512 o c1 = p at *;have HZ:=Lib.hid hz4;have HS:=Lib.hid hS4;clear hS hS3 h1 h2 hS4 hz4
  go_wp2_with (refine wpl_clear (.tmp 28) rfl rfl gb 0 128 128 (some ⟨gb,0,none⟩) rfl (fun _=>rfl) c1 121 hm3 (by rw [hl1]) c HZ ?_)
  clear hm3
  go_loopw [31,8] (fun i u wr=>∃ k : Nat,k ≤ 8 ∧ i = .int .i64 k ∧ u = .int .u64 ((y / 256 ^ k : Nat) : Int) ∧ S5 B gh gb w0 wr p (eig c E 128 k)) (fun i _ _=>8 - (intOf i).toNat)
  case atStart =>
   refine ⟨0,by omega,rfl,by rw [Nat.pow_zero,Nat.div_one],?_⟩;rw [eig_zero hl hxe];exact HS.out
  case round =>
   clear HS;obtain ⟨k,hk,rfl,rfl,hS⟩:=hrel
   by_cases hkl : k < 8
   ·have hN:=hS.setB (127 - k) E[7 - k]!
    have hset:=eig_set hl hxe hkl (by omega);rw [show 128 - 1 - k = 127 - k by omega] at hset;rw [hset] at hN;have hb:=hxg k hkl
    have hdiv : y / 256 ^ (k + 1) = y / 256 ^ k / 256:=by rw [Nat.pow_succ,Nat.div_div_eq_div_mul]
    have hle : y / 256 ^ k < 18446744073709551616:=Nat.lt_of_le_of_lt (Nat.div_le_self _ _) hvb;have c2:=(hS.m.cell (127 - k)).trans (By_get (by rw [eig_len hl hxe (by omega) (by omega)]; omega));have f2:=hS.m.free (127 - k);generalize y / 256 ^ k = z at *
    have q4 : IntKind.u8.wrap (z : Int) = ((E[7 - k]!).toNat : Int):=by
     rw [IntKind.wrap_u8',hb]
     omega
    have q5 : (z : Int) / 256 = ((z / 256 : Nat) : Int):=by omega
    have g5 : (0 : Int) ≤ (k : Int):=by omega
    have HN:=Lib.hid (And.intro hN hdiv);clear hS hN hdiv hb hset hxg;generalize (E[7 - k]!).toNat = x at *;generalize ((eig c E 128 k)[127 - k]!).toNat = old2 at *;generalize z / 256 = z2 at *
    go_wp2
    go_roundw
    case rel =>
     obtain ⟨hN,hdiv⟩:=HN.out;exact ⟨k + 1,by omega,by go_num,by rw [hdiv],hN⟩
    case measure=>simp [intOf]; omega
   ·obtain rfl : k = 8:=by omega
    have HT:=take512_f hS;rw [HF.out] at HT;have HT:=Lib.hid HT;clear hS hxg
    go_wp2_with (fail)
    refine HT.out.mono ?_
    rintro z w5 ⟨rfl,hS5⟩
    go_wp2_with (fail)
    go_end0
    exact ⟨rfl,_,hS5⟩
 ·go_enter Tryz.func90,Tryz.ntmps90
  go_wp2_with (refine wpl_clear (.tmp 16) rfl rfl gb (r + 1) (127 - r) (127 - r) (some ⟨gb,r + 1,none⟩) rfl (fun _=>rfl) (b.set r 128) 121 hm1 (by rw [hsl]; omega) c1 HC ?_)
  have HF:=Lib.hid (h1 (by omega));have HS:=Lib.hid HK.out.2;have hl:=hl1;clear HK h1 h2 hl1 hm1 hc0 hf0 hS1;generalize c1 = c at *
  go_loopw [31,8] (fun i u wr=>∃ k : Nat,k ≤ 8 ∧ i = .int .i64 k ∧ u = .int .u64 ((y / 256 ^ k : Nat) : Int) ∧ S5 B gh gb w0 wr o (eig c E 128 k)) (fun i _ _=>8 - (intOf i).toNat)
  case atStart =>
   refine ⟨0,by omega,rfl,by rw [Nat.pow_zero,Nat.div_one],?_⟩;rw [eig_zero hl hxe];exact HS.out
  case round =>
   clear HS;obtain ⟨k,hk,rfl,rfl,hS⟩:=hrel
   by_cases hkl : k < 8
   ·have hN:=hS.setB (127 - k) E[7 - k]!
    have hset:=eig_set hl hxe hkl (by omega);rw [show 128 - 1 - k = 127 - k by omega] at hset;rw [hset] at hN;have hb:=hxg k hkl
    have hdiv : y / 256 ^ (k + 1) = y / 256 ^ k / 256:=by rw [Nat.pow_succ,Nat.div_div_eq_div_mul]
    have hle : y / 256 ^ k < 18446744073709551616:=Nat.lt_of_le_of_lt (Nat.div_le_self _ _) hvb;have c2:=(hS.m.cell (127 - k)).trans (By_get (by rw [eig_len hl hxe (by omega) (by omega)]; omega));have f2:=hS.m.free (127 - k);generalize y / 256 ^ k = z at *
    have q4 : IntKind.u8.wrap (z : Int) = ((E[7 - k]!).toNat : Int):=by
     rw [IntKind.wrap_u8',hb]
     omega
    have q5 : (z : Int) / 256 = ((z / 256 : Nat) : Int):=by omega
    have g5 : (0 : Int) ≤ (k : Int):=by omega
    have HN:=Lib.hid (And.intro hN hdiv);clear hS hN hdiv hb hset hxg;generalize (E[7 - k]!).toNat = x at *;generalize ((eig c E 128 k)[127 - k]!).toNat = old2 at *;generalize z / 256 = z2 at *
    go_wp2
    go_roundw
    case rel =>
     obtain ⟨hN,hdiv⟩:=HN.out;exact ⟨k + 1,by omega,by go_num,by rw [hdiv],hN⟩
    case measure=>simp [intOf]; omega
   ·obtain rfl : k = 8:=by omega
    have HT:=take512_f hS;rw [HF.out] at HT;have HT:=Lib.hid HT;clear hS hxg
    go_wp2_with (fail)
    refine HT.out.mono ?_
    rintro z w5 ⟨rfl,hS5⟩
    go_wp2_with (fail)
    go_end0
    exact ⟨rfl,_,hS5⟩
 ·go_enter Tryz.func90,Tryz.ntmps90
  go_wp2_with (refine wpl_clear (.tmp 16) rfl rfl gb (r + 1) (127 - r) (127 - r) (some ⟨gb,r + 1,none⟩) rfl (fun _=>rfl) (b.set r 128) 121 hm1 (by rw [hsl]; omega) c1 HC ?_)
  have hS:=HK.out.2;clear HK hm1 hc0 hf0 hS1;refine (take512_f hS).mono ?_
  rintro z w3 ⟨rfl,hS3⟩
  have hm3:=hS3.m;have hS4:=hS3.setM (c:=clr c1 0) (by rw [clr_len (by omega)]; exact hl1)
  have hz4 : clr c1 0 = List.replicate 128 0:=by rw [clr_all,hl1]
  have HF:=Lib.hid (h2 (by omega));rw [hz4] at hS4;have hl : (List.replicate 128 (0 : UInt8)).length = 128:=List.length_replicate;generalize List.replicate 128 (0 : UInt8) = c at *;generalize turnw s512 o c1 = p at *;have HZ:=Lib.hid hz4;have HS:=Lib.hid hS4;clear hS hS3 h1 h2 hS4 hz4
  go_wp2_with (refine wpl_clear (.tmp 28) rfl rfl gb 0 128 128 (some ⟨gb,0,none⟩) rfl (fun _=>rfl) c1 121 hm3 (by rw [hl1]) c HZ ?_)
  clear hm3
  go_loopw [31,8] (fun i u wr=>∃ k : Nat,k ≤ 8 ∧ i = .int .i64 k ∧ u = .int .u64 ((y / 256 ^ k : Nat) : Int) ∧ S5 B gh gb w0 wr p (eig c E 128 k)) (fun i _ _=>8 - (intOf i).toNat)
  case atStart =>
   refine ⟨0,by omega,rfl,by rw [Nat.pow_zero,Nat.div_one],?_⟩;rw [eig_zero hl hxe];exact HS.out
  case round =>
   clear HS;obtain ⟨k,hk,rfl,rfl,hS⟩:=hrel
   by_cases hkl : k < 8
   ·have hN:=hS.setB (127 - k) E[7 - k]!
    have hset:=eig_set hl hxe hkl (by omega);rw [show 128 - 1 - k = 127 - k by omega] at hset;rw [hset] at hN;have hb:=hxg k hkl
    have hdiv : y / 256 ^ (k + 1) = y / 256 ^ k / 256:=by rw [Nat.pow_succ,Nat.div_div_eq_div_mul]
    have hle : y / 256 ^ k < 18446744073709551616:=Nat.lt_of_le_of_lt (Nat.div_le_self _ _) hvb;have c2:=(hS.m.cell (127 - k)).trans (By_get (by rw [eig_len hl hxe (by omega) (by omega)]; omega));have f2:=hS.m.free (127 - k);generalize y / 256 ^ k = z at *
    have q4 : IntKind.u8.wrap (z : Int) = ((E[7 - k]!).toNat : Int):=by
     rw [IntKind.wrap_u8',hb]
     omega
    have q5 : (z : Int) / 256 = ((z / 256 : Nat) : Int):=by omega
    have g5 : (0 : Int) ≤ (k : Int):=by omega
    have HN:=Lib.hid (And.intro hN hdiv);clear hS hN hdiv hb hset hxg;generalize (E[7 - k]!).toNat = x at *;generalize ((eig c E 128 k)[127 - k]!).toNat = old2 at *;generalize z / 256 = z2 at *
    go_wp2
    go_roundw
    case rel =>
     obtain ⟨hN,hdiv⟩:=HN.out;exact ⟨k + 1,by omega,by go_num,by rw [hdiv],hN⟩
    case measure=>simp [intOf]; omega
   ·obtain rfl : k = 8:=by omega
    have HT:=take512_f hS;rw [HF.out] at HT;have HT:=Lib.hid HT;clear hS hxg
    go_wp2_with (fail)
    refine HT.out.mono ?_
    rintro z w5 ⟨rfl,hS5⟩
    go_wp2_with (fail)
    go_end0
    exact ⟨rfl,_,hS5⟩
end Go.Proofs.YtlcbhbahchiofaaGreatDoor
/-
  THE DIGESTS: fill: the parts' bytes, block by block; Sum512.
-/
namespace Nums
theorem cop_take {t r b : List UInt8} {n : Nat} (ht : b.take t.length = t) : (Go.Proofs.YtlcbhbahchiofaaGreatDoor.cop b t.length (r.take (n - t.length))).take (t.length + min r.length (n - t.length)) = t ++ r.take (n - t.length):=by
 unfold Go.Proofs.YtlcbhbahchiofaaGreatDoor.cop
 rw [ht,← List.append_assoc]
 have hl : (t ++ r.take (n - t.length)).length = t.length + min r.length (n - t.length):=by
  rw [List.length_append,List.length_take,Nat.min_comm]
 rw [← hl,List.take_left]
theorem run_full {s : Sha} {n k : Nat} {o : Oct} {a z : List UInt8} (hn : 0 < n) (ha : a.length = k * n) (hz : z.length = n) : turnw s (runw s n o a) z = runw s n o (a ++ z):=by
 rw [runw_append hn k ha];have h:=runw_block (s:=s) (B:=n) (o:=runw s n o a) (b:=z) (l:=[]) hn hz;rw [List.append_nil] at h;have h2:=runw_short (s:=s) (B:=n) (o:=turnw s (runw s n o a) z) (l:=[]) (by simpa using hn);rw [h,h2]
theorem run_end {s : Sha} {n k : Nat} {o : Oct} {a t x : List UInt8} (hn : 0 < n) (ha : a.length = k * n) : runw s n (runw s n o a) (t ++ x) = runw s n o ((a ++ t) ++ x):=by
 rw [List.append_assoc,runw_append hn k ha]
theorem tailw_mod (n r v : Nat) : tailw n r (8 * (v % 18446744073709551616)) = tailw n r (8 * v):=by
 unfold tailw
 have e : be64 (8 * (v % 18446744073709551616)) = be64 (8 * v):=by
  have h1:=Go.Proofs.YtlcbhbahchiofaaGreatDoor.be64_mod (8 * (v % 18446744073709551616));have h2:=Go.Proofs.YtlcbhbahchiofaaGreatDoor.be64_mod (8 * v);rw [← h1,← h2]
  congr 1
  omega
 rw [e]
end Nums
namespace Go.Proofs.YtlcbhbahchiofaaGreatDoor
open Go.RowKit Go.IntWalk Nums

def lenv : Value → Nat
  | .slice _ n _=>n
  | _=>0

structure FS5 (B gh gb : Nat) (w wr : World) (o : Oct) (m : List UInt8) (a t b : List UInt8) (k : Nat) : Prop where
  em : m = a ++ t
  ea : a.length = k * 128
  et : t.length < 128
  es : S5 B gh gb w wr (runw s512 128 o a) b
  eb : b.take t.length = t
theorem flat_take (ls : List (List UInt8)) (k : Nat) (h : k < ls.length) : (ls.take (k + 1)).flatten = (ls.take k).flatten ++ ls[k]:=by
 rw [List.take_succ_eq_append_getElem h,List.flatten_append,List.flatten_cons,List.flatten_nil,List.append_nil]

set_option maxRecDepth 100000 in
set_option maxHeartbeats 4000000 in
theorem fill512_f {B gh gb : Nat} {w : World} {o : Oct} {b : List UInt8} (h : S5 B gh gb w w o b) (A : Option Addr) (ls : List (List UInt8)) (pc : Nat) (hA : Parts w B A ls) (hpc : ls.length ≤ pc) (hpm : pc ≤ 9223372036854775807) :
  Calls Tryz.prog 68 #[.slice (some ⟨gb,0,none⟩) 128 128,.slice A ls.length pc,.func (.func 69) #[] #[.pointer (some ⟨gh,0,none⟩),.pointer (some ⟨gb,0,none⟩)]] w fun e w' =>
   e = .returned (.tuple #[]) ∧ ∃ b',S5 B gh gb w w' (runw s512 128 o (ls.flatten ++ tailw 128 (ls.flatten.length % 128) (8 * ls.flatten.length))) b':=by
 have h0 : FS5 B gh gb w w o (ls.take 0).flatten [] [] b 0:=by
  refine ⟨by simp,by simp,by simp,?_,by simp⟩;have e:=runw_short (s:=s512) (B:=128) (o:=o) (l:=[]) (by simp);rw [e];exact h
 have H0:=Lib.hid h0;have HA:=Lib.hid hA;clear h h0 hA
 go_enter Tryz.func68,Tryz.ntmps68
 go_wp2
 go_loopw [13,6,7] (fun i f z wr=>∃ n : Nat,n ≤ ls.length ∧ i = .int .i64 n ∧ ∃ a t b k,f = .int .i64 ((t : List UInt8).length : Nat) ∧ z = .int .u64 (((ls.take n).flatten.length % 18446744073709551616 : Nat) : Int) ∧ FS5 B gh gb w wr o (ls.take n).flatten a t b k) (fun i _ _ _=>ls.length - (intOf i).toNat)
 case atStart=>exact ⟨0,by omega,rfl,[],[],b,0,rfl,rfl,H0.out⟩
 case round =>
  clear H0;obtain ⟨n,hn,rfl,a,t,b,k,rfl,rfl,hF⟩:=hrel
  by_cases hnl : n < ls.length
  ·obtain ⟨ad,rfl,had,hcell⟩:=HA.out.below hF.es.be (Nat.le_refl _) (by omega)
   obtain ⟨P,c,hx,hsl⟩:=hcell n ls[n] (List.getElem?_eq_getElem hnl);have hfl:=flat_take ls n hnl
   have hsz : IntKind.u64.wrap ((((ls.take n).flatten.length % 18446744073709551616 : Nat) : Int) + (ls[n].length : Int)) = (((ls.take (n + 1)).flatten.length % 18446744073709551616 : Nat) : Int):=by
    rw [hfl,List.length_append,IntKind.wrap_u64]
    omega
   have HL:=Lib.hid hfl;have hl1:=hsl.1;have hl2:=hsl.2.1;have hwn : IntKind.u64.wrap (ls[n].length : Int) = (ls[n].length : Int):=wrapN _ (by omega);have HS:=Lib.hid (And.intro hF hsl);clear hF hsl hcell hfl;obtain ⟨zn,hzn⟩ : ∃ z,(ls.take (n + 1)).flatten.length % 18446744073709551616 = z:=⟨_,rfl⟩;rw [hzn] at hsz;have HZN:=Lib.hid hzn;clear hzn;generalize (ls.take n).flatten.length % 18446744073709551616 = z0 at *;generalize ls[n] = l at *
   go_wp2
   go_loopw [9,6] (fun p f wq=>∃ d r P c a t b k,l = d ++ r ∧ p = .slice P (r : List UInt8).length c ∧ f = .int .i64 ((t : List UInt8).length : Nat) ∧ SL wq 0 B P r c ∧ FS5 B gh gb w wq o ((ls.take n).flatten ++ d) a t b k) (fun p _ _=>lenv p)
   case atStart =>
    obtain ⟨hF,hsl⟩:=HS.out;refine ⟨[],l,P,c,a,t,b,k,rfl,rfl,rfl,hsl,?_⟩;rw [List.append_nil];exact hF
   case round =>
    clear HS hwn hsz hx hl1 hl2;obtain ⟨d,r,P,c,a,t,b,k,hd,rfl,rfl,hsl,hF⟩:=hrel
    by_cases hr : 0 < r.length
    ·skip
     have hm0:=hF.es.m;have hlt:=hF.et;have hz128:=hF.es.len;have hbv:=hsl.2.2.2;have hs1:=hsl.1;have hs2:=hsl.2.1;have hcut:=hsl.cut (k:=min r.length (128 - t.length)) (Nat.min_le_left _ _);have htl:=cop_take (r:=r) (n:=128) hF.eb
     have hzl : (cop b t.length (r.take (128 - t.length))).length = 128:=by
      rw [cop_len (by rw [List.length_take]; omega)];exact hz128
     have hS2:=hF.es.setM hzl;obtain ⟨z',hz'⟩ : ∃ z,cop b t.length (r.take (128 - t.length)) = z:=⟨_,rfl⟩;obtain ⟨m,hm⟩ : ∃ m,min r.length (128 - t.length) = m:=⟨_,rfl⟩;rw [hz'] at hS2 hzl htl;rw [hm] at hcut htl;have HZ:=Lib.hid hz';have HM:=Lib.hid hm;have hrd : (r.drop m).length = r.length - m:=List.length_drop
     have hmr : m ≤ r.length:=by omega
     have hmt : t.length + m ≤ 128:=by omega
     have hm1 : 0 < m:=by omega
     have hq : IntKind.i64.wrap ((t.length : Int) + (m : Int)) = ((t.length + m : Nat) : Int):=by rw [i64_left,wrap64_in _ (by omega)]; omega
     have hsl2 : SL (wr.setRow gb (By z').toArray) 0 B (if c = m then P else P.map (·.add m)) (r.drop m) (c - m):=hcut.below (below_setRow (Below.refl B wr) hF.es.bb _) (Nat.le_refl _)
     have hd2 : l = (d ++ r.take m) ++ r.drop m:=by rw [hd,List.append_assoc,List.take_append_drop]
     have htm : r.take (128 - t.length) = r.take m:=by
      rw [← hm]
      by_cases hh : r.length ≤ 128 - t.length
      ·rw [Nat.min_eq_left hh,List.take_of_length_le hh,List.take_of_length_le (Nat.le_refl _)]
      ·rw [Nat.min_eq_right (by omega)]
     rw [htm] at htl;have hem:=hF.em;have hea:=hF.ea;have HS:=Lib.hid (And.intro hS2 (And.intro hsl2 (And.intro hd2 (And.intro htl (And.intro hem hea)))));clear hF hsl hcut hS2 hsl2 hd hd2 htl htm hm hz' hem hea
     by_cases hf : t.length + m < 128
     ·by_cases hck : c = m
      ·have hck2:=hck.symm
       subst hck2
       go_wp2_with (refine wpl_copy (.tmp 27) (.tmp 28) rfl rfl gb t.length (128 - t.length) (128 - t.length) rfl P r m rfl b 121 hm0 0 B hbv (by rw [hz128]; omega) z' HZ m HM ?_)
       go_roundw
       case rel =>
        obtain ⟨hS2,hsl2,hd2,htl,hem,hea⟩:=HS.out
        first | rw [if_pos rfl] at hsl2 | rw [if_pos trivial] at hsl2
        refine ⟨d ++ r.take m,r.drop m,P,m - m,a,t ++ r.take m,z',k,hd2,by rw [hrd,show r.length - m = 0 by omega,Nat.sub_self],?_,hsl2,?_,hea,?_,hS2,?_⟩
        ·rw [List.length_append,List.length_take,Nat.min_eq_left hmr]
         go_num
        ·rw [← List.append_assoc,hem,List.append_assoc]
        ·rw [List.length_append,List.length_take,Nat.min_eq_left hmr]
         exact hf
        ·rw [List.length_append,List.length_take,Nat.min_eq_left hmr]
         exact htl
       case measure=>simp [lenv]; omega
      ·skip
       go_wp2_with (refine wpl_copy (.tmp 27) (.tmp 28) rfl rfl gb t.length (128 - t.length) (128 - t.length) rfl P r c rfl b 121 hm0 0 B hbv (by rw [hz128]; omega) z' HZ m HM ?_)
       go_roundw
       case rel =>
        obtain ⟨hS2,hsl2,hd2,htl,hem,hea⟩:=HS.out;rw [if_neg hck] at hsl2;refine ⟨d ++ r.take m,r.drop m,(P.map (·.add m)),c - m,a,t ++ r.take m,z',k,hd2,by rw [hrd],?_,hsl2,?_,hea,?_,hS2,?_⟩
        ·rw [List.length_append,List.length_take,Nat.min_eq_left hmr]
         go_num
        ·rw [← List.append_assoc,hem,List.append_assoc]
        ·rw [List.length_append,List.length_take,Nat.min_eq_left hmr]
         exact hf
        ·rw [List.length_append,List.length_take,Nat.min_eq_left hmr]
         exact htl
       case measure=>simp [lenv]; omega
     ·have hf : t.length + m = 128:=by omega
      by_cases hck : c = m
      ·have hck2:=hck.symm
       subst hck2
       go_wp2_with (refine wpl_copy (.tmp 27) (.tmp 28) rfl rfl gb t.length (128 - t.length) (128 - t.length) rfl P r m rfl b 121 hm0 0 B hbv (by rw [hz128]; omega) z' HZ m HM ?_)
       refine (take512_f HS.out.1.rebase).mono ?_
       rintro e w4 ⟨rfl,hS4⟩
       go_wp2_with (fail)
       go_roundw
       case rel =>
        obtain ⟨hS2,hsl2,hd2,htl,hem,hea⟩:=HS.out
        first | rw [if_pos rfl] at hsl2 | rw [if_pos trivial] at hsl2
        have hzz : z' = t ++ r.take m:=by
         rw [← htl,hf,List.take_of_length_le (by omega)]
        have hfull:=run_full (s:=s512) (n:=128) (o:=o) (by decide) hea hzl;rw [hfull] at hS4;refine ⟨d ++ r.take m,r.drop m,P,m - m,a ++ z',[],z',k + 1,hd2,by rw [hrd,show r.length - m = 0 by omega,Nat.sub_self],rfl,?_,?_,?_,by decide,hS4.since hS2.be,rfl⟩
        ·exact hsl2.below hS4.be (Nat.le_refl _)
        ·rw [List.append_nil,hzz,← List.append_assoc,hem,List.append_assoc]
        ·rw [List.length_append,hea,hzl,Nat.add_mul,Nat.one_mul]
       case measure=>simp [lenv]; omega
      ·skip
       go_wp2_with (refine wpl_copy (.tmp 27) (.tmp 28) rfl rfl gb t.length (128 - t.length) (128 - t.length) rfl P r c rfl b 121 hm0 0 B hbv (by rw [hz128]; omega) z' HZ m HM ?_)
       refine (take512_f HS.out.1.rebase).mono ?_
       rintro e w4 ⟨rfl,hS4⟩
       go_wp2_with (fail)
       go_roundw
       case rel =>
        obtain ⟨hS2,hsl2,hd2,htl,hem,hea⟩:=HS.out;rw [if_neg hck] at hsl2
        have hzz : z' = t ++ r.take m:=by
         rw [← htl,hf,List.take_of_length_le (by omega)]
        have hfull:=run_full (s:=s512) (n:=128) (o:=o) (by decide) hea hzl;rw [hfull] at hS4;refine ⟨d ++ r.take m,r.drop m,(P.map (·.add m)),c - m,a ++ z',[],z',k + 1,hd2,by rw [hrd],rfl,?_,?_,?_,by decide,hS4.since hS2.be,rfl⟩
        ·exact hsl2.below hS4.be (Nat.le_refl _)
        ·rw [List.append_nil,hzz,← List.append_assoc,hem,List.append_assoc]
        ·rw [List.length_append,hea,hzl,Nat.add_mul,Nat.one_mul]
       case measure=>simp [lenv]; omega
    ·have hr0 : r = []:=List.eq_nil_of_length_eq_zero (by omega)
     subst hr0;rw [List.append_nil] at hd;subst hd;have HF:=Lib.hid hF;clear hF hsl
     go_wp2
     go_roundw
     case rel =>
      refine ⟨n + 1,by omega,by go_num,a,t,b,k,rfl,?_,?_⟩
      ·rw [HZN.out]
      ·rw [HL.out]
       exact HF.out
     case measure=>simp [intOf]; omega
  ·obtain rfl : n = ls.length:=by omega
   rw [List.take_length] at hF ⊢;have hE:=end512_f hF.es t.length (ls.flatten.length % 18446744073709551616) hF.et;rw [tailw_mod,hF.eb,run_end (by decide) hF.ea,← hF.em] at hE
   have hmod : t.length = ls.flatten.length % 128:=by
    have h1:=hF.ea;have h2:=hF.et;rw [hF.em,List.length_append]
    omega
   have HE:=Lib.hid hE;have HMO:=Lib.hid hmod;clear hE hF hmod;generalize ls.flatten.length % 18446744073709551616 = zz at *
   go_wp2_with (fail)
   refine HE.out.mono ?_
   rintro e w4 ⟨rfl,hS4⟩
   go_wp2_with (fail)
   go_end0
   rw [HMO.out] at hS4;exact ⟨rfl,hS4⟩
end Go.Proofs.YtlcbhbahchiofaaGreatDoor
/-
  THE DIGESTS: Sum512.
-/
namespace Go.Proofs.YtlcbhbahchiofaaGreatDoor
open Go.RowKit Go.IntWalk Nums

theorem own_sum512 : Own 58:=fun _ _=>by go_simp

structure Tsh (w : World) : Prop where
  steps : Ts w
  cell : ∀ i,i < 8 → w.cell? ⟨0,i,none⟩ = some (.int .u64 (sqs[i]! : Nat))
  lt : 0 < w.heap.size
theorem Tsh.below {w w' : World} (h : Tsh w) (hb : Below w.heap.size w w') : Tsh w' :=
 ⟨h.steps.below hb,fun i hi=>(hb.cell (p:=⟨0,i,none⟩) h.lt).trans (h.cell i hi),Nat.lt_of_lt_of_le h.lt hb.size⟩
def start512 : Oct:=⟨sqs[0]!,sqs[1]!,sqs[2]!,sqs[3]!,sqs[4]!,sqs[5]!,sqs[6]!,sqs[7]!⟩
theorem start512_ob : OB 64 start512:=by
 constructor <;> decide
theorem start512_list : start512.list = sqs:=by decide
theorem Tsh.range {w : World} (h : Tsh w) : w.rangeAt 0 0 (Us sqs):=fun j v hv=>by
 rw [Nat.zero_add]
 have hj : j < 8:=by
  have:=(List.getElem?_eq_some_iff.1 hv).1;rw [Us_len] at this;exact this
 rw [h.cell j hj];have h1 : (Us sqs).toArray[j]? = some (.int .u64 (sqs[j]! : Nat)):=Us_at (show j < sqs.length from hj);rw [← h1]
 simpa using hv
def z128 : List UInt8:=List.replicate 128 0
theorem zb128 : (Tryz.prog.info? 121).bind (fun i=>i.zero.map (·.cells)) = some (By z128).toArray:=by kernel_rfl
theorem OB.list_lt {o : Oct} (h : OB 64 o) : ∀ x ∈ o.list,x < 18446744073709551616:=by
 intro x hx
 simp only [Oct.list,List.mem_cons,List.not_mem_nil,or_false] at hx
 rcases hx with rfl | rfl | rfl | rfl | rfl | rfl | rfl | rfl
 ·exact h.a
 ·exact h.b
 ·exact h.c
 ·exact h.d
 ·exact h.e
 ·exact h.f
 ·exact h.g
 ·exact h.h

set_option maxRecDepth 100000 in
set_option maxHeartbeats 2000000 in
theorem sum512_f (A : Option Addr) (ls : List (List UInt8)) (pc : Nat) (w : World) (hT : Tsh w) (hA : Parts w w.heap.size A ls) (hpc : ls.length ≤ pc) (hpm : pc ≤ 9223372036854775807) :
  Calls Tryz.prog 58 #[.slice A ls.length pc] w fun e w'=>e = .returned (.agg (By (digest s512 ls.flatten)).toArray) ∧ Below w.heap.size w w':=by
 have hD : digest s512 ls.flatten = ((runw s512 128 start512 (ls.flatten ++ tailw 128 (ls.flatten.length % 128) (8 * ls.flatten.length))).list.map (layw s512)).flatten:=rfl;rw [hD];clear hD;generalize hR : runw s512 128 start512 (ls.flatten ++ tailw 128 (ls.flatten.length % 128) (8 * ls.flatten.length)) = R at *;have HR:=Lib.hid hR;clear hR
 go_enter Tryz.func58,Tryz.ntmps58
 refine wp_seq_k fun K hK=>?_;refine wp_region_lit ?_;refine wpl_alloc (zs:=(By z64b).toArray) rfl rfl zb64 ?_;refine wpl_nil ?_
 go_simp
 refine hK _ _ ?_;clear hK K;refine wp_at (fun W=>Blk W w.heap.size 43 (By z64b).toArray ∧ Below w.heap.size w W ∧ w.heap.size < W.heap.size) ⟨Blk.new w _ _,(Below.refl _ _).alloc (Nat.le_refl _) _,by rw [World.size_alloc]; omega⟩ ?_
 rintro W ⟨ho,hbe,hsz⟩
 refine wp_seq_k fun K hK=>?_;refine reg_varF 1 3 120 (.tmp 5) z8w rfl rfl rfl rfl rfl rfl rfl (exec_alloc rfl (by kernel_rfl)) ?_;simp only [List.take_succ_cons,List.take_zero];refine b_mid rfl 120 _ rfl 0 0 rfl (Us sqs) _ (fun w1 h=>((hT.below hbe).below h).range) Tryz.underlying120 rfl (size_w8 (Us sqs).toArray rfl) ?_;simp only [Act.put,List.setIfInBounds_toArray,List.set_cons_zero,List.set_cons_succ];refine wpB_nil ⟨(Us sqs).toArray,fun _=>rfl,fun _=>rfl,rfl,size_w8 _ rfl,Us_one _,fun gh W1 hgh hw1 hbh=>?_⟩;simp only [Exit.then,Act.put,List.setIfInBounds_toArray,List.set_cons_zero,List.set_cons_succ];refine hK _ _ ?_;clear hK K;have ho:=hw1.blk ho;have hbe:=below_up hbe hw1;clear hw1;have hng:=hbh.lt;refine wp_seq_k fun K hK=>?_;refine wp_region_lit ?_;refine wpl_alloc (zs:=(By z128).toArray) rfl rfl zb128 ?_;refine wpl_nil ?_
 go_simp
 refine hK _ _ ?_;clear hK K;have ho:=ho.alloc (.cells (By z128).toArray 121);have hbh:=hbh.alloc (.cells (By z128).toArray 121);have hbe:=hbe.alloc hbe.size (.cells (By z128).toArray 121);have hbb:=Blk.new W1 121 (By z128).toArray;generalize W1.alloc (.cells (By z128).toArray 121) = W2 at *;generalize W1.heap.size = gb at *;have hTw:=hT.below hbe;rw [← start512_list] at hbh;have hsgh : w.heap.size < gh:=Nat.lt_of_lt_of_le hsz hgh;have hS : S5 gh gh gb W2 W2 start512 z128:=⟨hbh,hbb,start512_ob,rfl,hTw.steps,Below.refl _ _,Nat.le_refl _,Nat.le_of_lt hng,Nat.ne_of_lt hng,Nat.lt_of_lt_of_le hT.steps.lt (Nat.le_of_lt hsgh)⟩
 have hP : Parts W2 gh A ls:=fun hl=>by
  obtain ⟨ad,e,h1,h2⟩:=(hA.below hbe (Nat.le_refl _)) hl;refine ⟨ad,e,Nat.lt_trans h1 hsgh,fun i l hi=>?_⟩;obtain ⟨A',c',h3,h4⟩:=h2 i l hi;exact ⟨A',c',h3,h4.more (Nat.le_refl _) (Nat.le_of_lt hsgh)⟩
 have HF:=Lib.hid (fill512_f hS A ls pc hP hpc hpm);have hmf : ∀ (fn : Fn) (first cap : Array Value) (w : World),(Instr.makeFunc fn first cap).run Tryz.prog w = .ok (.func fn first cap) w:=fun _ _ _ _=>rfl;have HK:=Lib.hid (And.intro ho hbe);clear hS hP hTw hbb hbh ho hbe hA hT
 go_wp2_with (fail)
 refine HF.out.mono ?_
 rintro e W3 ⟨rfl,b',hS3⟩
 rw [HR.out] at hS3;have kh:=hS3.h;have hb3:=hS3.be;have hzr : (Us R.list).toArray.size = 8:=rfl;have HL:=Lib.hid (fun w1=>lay512_f (l:=R.list) rfl (OB.list_lt hS3.ob) w1);have hko : Blk W3 w.heap.size 43 (By z64b).toArray:=HK.out.1.below hb3 hsgh;have hbe3 : Below w.heap.size w W3:=HK.out.2.trans (hb3.mono (Nat.le_of_lt hsgh));clear HF HK hS3 hb3 hmf
 go_wp2_with (refine wpList_load_row rfl 120 _ rfl gh rfl 120 (Us R.list).toArray (0,0) _ kh Tryz.underlying120 rfl (size_w8 _ hzr) ?_)
 refine (HL.out _).mono ?_
 rintro e W4 ⟨rfl,hw4⟩
 have hko:=hko.later hw4;have hbe4:=below_up hbe3 hw4
 have hz : (By (R.list.map (layw s512)).flatten).toArray.size = 64:=by
  rw [List.size_toArray,By_len,flat_lenB (layw s512) (n:=8) (fun x=>layw_len s512 x) R.list]
  rfl
 clear HL hw4 kh hbe3;obtain ⟨D,hDD⟩ : ∃ D,(R.list.map (layw s512)).flatten = D:=⟨_,rfl⟩;rw [hDD] at hz ⊢;have HDD:=Lib.hid hDD;clear hDD
 go_wp2_with (refine wpList_store_row rfl 43 _ _ rfl w.heap.size rfl (By D).toArray rfl 43 _ hko (size_b64 _ hz) (by rw [hz]; rfl) (By_one _) ?_)
 refine bodyPost_ret (results_cell_row rfl _ _ w.heap.size 43 (By D).toArray (0,0) _ rfl (hko.row _) Tryz.underlying43 rfl (size_b64 _ hz)) rfl ⟨by rw [HDD.out],?_⟩;exact below_setRow hbe4 (Nat.le_refl _) _
end Go.Proofs.YtlcbhbahchiofaaGreatDoor
/-
  PLAIN NUMBERS: L is prime; the base point's order is just L; a clamped number's multiple is no small point. No program is imported.
-/
namespace Nums
theorem prime_1224481 : Prime 1224481:=prime_trial (k:=1107) (by decide) (by decide +kernel) (by decide +kernel)
theorem prime_531581 : Prime 531581:=prime_trial (k:=730) (by decide) (by decide +kernel) (by decide +kernel)
theorem prime_41 : Prime 41:=prime_trial (k:=7) (by decide) (by decide) (by decide +kernel)
theorem prime_2851 : Prime 2851:=prime_trial (k:=54) (by decide) (by decide) (by decide +kernel)
theorem prime_269 : Prime 269:=prime_trial (k:=17) (by decide) (by decide) (by decide +kernel)
theorem prime_7 : Prime 7:=prime_trial (k:=3) (by decide) (by decide) (by decide +kernel)
theorem prime_11 : Prime 11:=prime_trial (k:=4) (by decide) (by decide) (by decide +kernel)
theorem prime_l1 : Prime 1257559732178653:=prime_of (q1:=1224481) (q2:=531581) (a:=2) (k:=51) prime_1224481 prime_531581 (by decide +kernel)
theorem prime_l2 : Prime 4434155615661930479:=prime_of (q1:=1257559732178653) (q2:=41) (a:=3) (k:=62) prime_l1 prime_41 (by decide +kernel)
theorem prime_l3 : Prime 172054593956031949258510691:=prime_of (q1:=4434155615661930479) (q2:=2851) (a:=2) (k:=88) prime_l2 prime_2851 (by decide +kernel)
theorem prime_l4 : Prime 19757330305831588566944191468367130476339:=prime_of (q1:=172054593956031949258510691) (q2:=269) (a:=2) (k:=134) prime_l3 prime_269 (by decide +kernel)
theorem prime_l5 : Prime 276602624281642239937218680557139826668747:=prime_of (q1:=19757330305831588566944191468367130476339) (q2:=7) (a:=2) (k:=138) prime_l4 prime_7 (by decide +kernel)
theorem prime_L : Prime LL:=prime_of (q1:=276602624281642239937218680557139826668747) (q2:=11) (a:=2) (k:=253) prime_l5 prime_11 (by decide +kernel)
theorem base_ne : base ≠ Ed.zero:=fun h=>by
 have h1:=congrArg Ed.Pt.y h;have h2 : (fof bY : F).val = (1 : F).val:=congrArg Fin.val h1;rw [val_one prime_p,fof_val] at h2
 revert h2
 decide
theorem ord_iff (n : Nat) : Ed.mul dd n base = Ed.zero ↔ LL ∣ n:=by
 constructor
 ·intro h
  by_cases hd : LL ∣ n
  ·exact hd
  ·exfalso
   have hf:=fermat prime_L hd;obtain ⟨e,he⟩ : ∃ e,LL - 1 = e + 1:=⟨LL - 2,by decide⟩;rw [he,Nat.pow_succ] at hf;generalize n ^ e = c at hf
   have h1 : n * c = LL * (c * n / LL) + 1:=by
    have:=Nat.div_add_mod (c * n) LL;rw [hf] at this;rw [Nat.mul_comm n c];exact this.symm
   exact base_ne (Ed.zero_of good on_base h order h1)
 ·rintro ⟨c,rfl⟩
  rw [Ed.mul_mul good on_base,order,Ed.mul_zero good]
def clampN (x : Nat) : Nat:=x % 28948022309329048855892746252171976963317496166410141009864396001978282409984 / 8 * 8 + 28948022309329048855892746252171976963317496166410141009864396001978282409984
theorem clamp_ne (x : Nat) : ¬ LL ∣ clampN x:=by
 rintro ⟨c,hc⟩
 obtain ⟨y,hy⟩ : ∃ y,y = x % 28948022309329048855892746252171976963317496166410141009864396001978282409984:=⟨_,rfl⟩
 have hy2 : y < 28948022309329048855892746252171976963317496166410141009864396001978282409984:=by rw [hy]; exact Nat.mod_lt _ (by decide)
 have h0 : clampN x = y / 8 * 8 + 28948022309329048855892746252171976963317496166410141009864396001978282409984:=by rw [hy]; rfl
 rw [h0] at hc
 have h8 : LL * c % 8 = 0:=by rw [← hc]; omega
 have h1 : LL * c < LL * 8:=by
  rw [← hc];refine Nat.lt_of_lt_of_le (m:=57896044618658097711785492504343953926634992332820282019728792003956564819968) ?_ (by decide)
  omega
 have h2 : 0 < LL * c:=by rw [← hc]; omega
 have hc8 : c < 8:=Nat.lt_of_mul_lt_mul_left h1;clear hc h0 hy hy2 h1
 have h5 : LL * c % 8 = 5 * c % 8:=by rw [Nat.mul_mod,show LL % 8 = 5 from by decide,Nat.mul_mod 5 c,show 5 % 8 = 5 from rfl]
 rw [h5] at h8
 have hcz : c = 0:=by omega
 rw [hcz,Nat.mul_zero] at h2;exact absurd h2 (by decide)
theorem clamp_small (x : Nat) : Ed.mul dd 8 (Ed.mul dd (clampN x) base) ≠ Ed.zero:=by
 intro h
 rw [Ed.mul_times good on_base,ord_iff] at h
 rcases prime_L.dvd_mul h with h1 | h1
 ·exact absurd (Nat.le_of_dvd (by decide) h1) (by decide)
 ·exact clamp_ne x h1
theorem sign_right (r k a : Nat) : Ed.add dd (Ed.mul dd ((r + k * a) % LL) base) (Ed.neg (Ed.mul dd k (Ed.mul dd a base))) = Ed.mul dd r base:=by
 have hr:=Ed.on_mul good on_base r;have hk:=Ed.on_mul good on_base (k * a);rw [← Ed.mul_mod good on_base order,Ed.mul_add good on_base,Ed.mul_times good on_base,Ed.add_assoc good hr hk (Ed.on_neg hk),Ed.add_neg good hk,Ed.add_zero good]
end Nums
/-
  PLAIN NUMBERS of the signatures: what a seed's number, key and signatures are, and when one is right. No program is imported.
-/
namespace Nums

def lowB (l : List UInt8) : List UInt8:=l.set 0 (UInt8.ofNat ((l[0]!).toNat / 8 * 8))
def topB (l : List UInt8) : List UInt8:=l.set 31 (UInt8.ofNat ((l[31]!).toNat % 64 + 64))
def clampB (l : List UInt8) : List UInt8:=topB (lowB l)
theorem lowB_len (l : List UInt8) : (lowB l).length = l.length:=List.length_set
theorem topB_len (l : List UInt8) : (topB l).length = l.length:=List.length_set
theorem clampB_len (l : List UInt8) : (clampB l).length = l.length:=by rw [clampB,topB_len,lowB_len]
theorem ofNat_toNat {n : Nat} (h : n < 256) : (UInt8.ofNat n).toNat = n:=by
 rw [UInt8.toNat_ofNat']
 omega
theorem clamp_cut (x b t : Nat) (h : x = b + 28948022309329048855892746252171976963317496166410141009864396001978282409984 * t) (hb : b < 28948022309329048855892746252171976963317496166410141009864396001978282409984) : clampN x = b / 8 * 8 + 28948022309329048855892746252171976963317496166410141009864396001978282409984:=by
 unfold clampN
 rw [h,Nat.add_mul_mod_self_left,Nat.mod_eq_of_lt hb]
theorem le_lowB : ∀ {l : List UInt8},0 < l.length → le (lowB l) = le l / 8 * 8
 | [],h=>absurd h (by simp)
 | x :: l,_=>by
  have hx:=x.toNat_lt;have e : lowB (x :: l) = UInt8.ofNat (x.toNat / 8 * 8) :: l:=rfl;rw [e]
  show (UInt8.ofNat (x.toNat / 8 * 8)).toNat + 256 * le l = (x.toNat + 256 * le l) / 8 * 8
  rw [ofNat_toNat (by omega)]
  omega
theorem le_topB {l : List UInt8} (h : l.length = 32) : ∃ b t,b < 28948022309329048855892746252171976963317496166410141009864396001978282409984 ∧ le l = b + 28948022309329048855892746252171976963317496166410141009864396001978282409984 * t ∧ le (topB l) = b + 28948022309329048855892746252171976963317496166410141009864396001978282409984 ∧ b % 8 = le l % 8:=by
 have hs : l = l.take 31 ++ [l[31]!]:=by
  have h1 : l.drop 31 = [l[31]!]:=by
   rw [List.drop_eq_getElem_cons (by omega),List.drop_eq_nil_of_le (by omega),getElem!_pos l 31 (by omega)]
  rw [← h1,List.take_append_drop]
 have hlen : (l.take 31).length = 31:=by rw [List.length_take]; omega
 have ht : topB l = l.take 31 ++ [UInt8.ofNat ((l[31]!).toNat % 64 + 64)]:=by
  unfold topB
  conv=>lhs; arg 1; rw [hs]
  rw [List.set_append_right _ _ (by rw [hlen]; exact Nat.le_refl _),hlen]
  rfl
 have hx:=(l[31]!).toNat_lt;have hlo:=le_lt (l.take 31);rw [hlen] at hlo
 have e1 : le l = le (l.take 31) + 256 ^ 31 * (l[31]!).toNat:=by
  conv=>lhs; rw [hs]
  rw [le_append,hlen]
  rfl
 have e2 : le (topB l) = le (l.take 31) + 256 ^ 31 * ((l[31]!).toNat % 64 + 64):=by
  rw [ht,le_append,hlen]
  show _ + 256 ^ 31 * ((UInt8.ofNat ((l[31]!).toNat % 64 + 64)).toNat + 256 * 0) = _
  rw [ofNat_toNat (by omega)]
 generalize le (l.take 31) = u at *;generalize (l[31]!).toNat = y at *;refine ⟨u + 256 ^ 31 * (y % 64),y / 64,?_,?_,?_,?_⟩
 ·omega
 ·rw [e1]
  omega
 ·rw [e2]
  omega
 ·rw [e1]
  omega
theorem le_clampB {l : List UInt8} (h : l.length = 32) : le (clampB l) = clampN (le l):=by
 have h1:=le_lowB (l:=l) (by omega);obtain ⟨b,t,hb,e1,e2,e3⟩:=le_topB (l:=lowB l) (by rw [lowB_len,h]);rw [h1] at e1 e3
 have h8 : b % 8 = 0:=by rw [e3]; omega
 obtain ⟨r,hr,hr8⟩ : ∃ r,le l = le l / 8 * 8 + r ∧ r < 8:=⟨le l % 8,by omega,by omega⟩;rw [clampB,e2,clamp_cut (le l) (b + r) t (by omega) (by omega)]
 omega

def sgD (seed : List UInt8) : List UInt8:=digest s512 seed
def sgAB (seed : List UInt8) : List UInt8:=clampB ((sgD seed).take 32)
def sgPre (seed : List UInt8) : List UInt8:=(sgD seed).drop 32
def sgKey (seed : List UInt8) : List UInt8:=encP (Ed.mul dd (le (sgAB seed)) base)
def sgR (seed m : List UInt8) : Nat:=le (digest s512 (sgPre seed ++ m)) % LL
def sgRB (seed m : List UInt8) : List UInt8:=encP (Ed.mul dd (sgR seed m) base)
def sgK (R key m : List UInt8) : Nat:=le (digest s512 (R ++ (key ++ m))) % LL
def sgS (seed m : List UInt8) : Nat:=(sgR seed m + sgK (sgRB seed m) (sgKey seed) m * le (sgAB seed)) % LL
def sgSig (seed m : List UInt8) : List UInt8:=sgRB seed m ++ bytes 32 (sgS seed m)
def Right (key sig m : List UInt8) : Prop:=∃ A,Ed.On dd A ∧ encP A = key ∧ Ed.mul dd 8 A ≠ Ed.zero ∧ le (sig.drop 32) < LL ∧
  encP (Ed.add dd (Ed.mul dd (le (sig.drop 32)) base) (Ed.neg (Ed.mul dd (sgK (sig.take 32) key m) A))) = sig.take 32

theorem digest512_len (m : List UInt8) : (digest s512 m).length = 64:=by
 unfold digest
 have h : ∀ l : List Nat,((l.map (layw s512)).flatten).length = 8 * l.length:=by
  intro l
  induction l with
  | nil=>rfl
  | cons x l ih =>
   rw [List.map_cons,List.flatten_cons,List.length_append,ih,List.length_cons]
   have : (layw s512 x).length = 8:=by
    unfold layw
    rw [List.length_reverse,bytes_len]
    rfl
   omega
 rw [h]
 rfl
theorem sgD_len (seed : List UInt8) : (sgD seed).length = 64:=digest512_len _
theorem sgAB_len (seed : List UInt8) : (sgAB seed).length = 32:=by rw [sgAB,clampB_len,List.length_take,sgD_len]; rfl
theorem sgPre_len (seed : List UInt8) : (sgPre seed).length = 32:=by rw [sgPre,List.length_drop,sgD_len]
theorem sgKey_len (seed : List UInt8) : (sgKey seed).length = 32:=encP_len _
theorem sgRB_len (seed m : List UInt8) : (sgRB seed m).length = 32:=encP_len _
theorem sgSig_len (seed m : List UInt8) : (sgSig seed m).length = 64:=by rw [sgSig,List.length_append,sgRB_len,bytes_len]
theorem sgSig_take (seed m : List UInt8) : (sgSig seed m).take 32 = sgRB seed m:=by rw [sgSig,List.take_append_of_le_length (by rw [sgRB_len]; exact Nat.le_refl _),List.take_of_length_le (by rw [sgRB_len]; exact Nat.le_refl _)]
theorem sgSig_drop (seed m : List UInt8) : (sgSig seed m).drop 32 = bytes 32 (sgS seed m):=by
 rw [sgSig,List.drop_append,sgRB_len,List.drop_of_length_le (by rw [sgRB_len]; exact Nat.le_refl _)]
 rfl
theorem mod_LL_lt (n : Nat) : n % LL < LL:=Nat.mod_lt _ (by decide)
theorem sgS_lt (seed m : List UInt8) : sgS seed m < LL:=mod_LL_lt _
theorem le_bytesL {n : Nat} (h : n < LL) : le (bytes 32 n) = n:=by
 rw [le_bytes,Nat.mod_eq_of_lt (Nat.lt_trans h (by decide))]
theorem le_sgS (seed m : List UInt8) : le ((sgSig seed m).drop 32) = sgS seed m:=by rw [sgSig_drop,le_bytesL (sgS_lt _ _)]
theorem key_small (seed : List UInt8) : Ed.mul dd 8 (Ed.mul dd (le (sgAB seed)) base) ≠ Ed.zero:=by
 have h : le (sgAB seed) = clampN (le ((sgD seed).take 32)):=le_clampB (by rw [List.length_take,sgD_len]; rfl);rw [h];exact clamp_small _
theorem key_ne (seed : List UInt8) : ¬ LL ∣ le (sgAB seed):=by
 have h : le (sgAB seed) = clampN (le ((sgD seed).take 32)):=le_clampB (by rw [List.length_take,sgD_len]; rfl);rw [h];exact clamp_ne _
theorem right_own (seed m : List UInt8) : Right (sgKey seed) (sgSig seed m) m:=by
 refine ⟨_,Ed.on_mul good on_base _,rfl,key_small seed,?_,?_⟩
 ·rw [le_sgS]
  exact sgS_lt _ _
 ·rw [le_sgS,sgSig_take,sgS,sign_right]
  rfl
theorem mul_inj {a b : Nat} (ha : a < LL) (hb : b < LL) (h : Ed.mul dd a base = Ed.mul dd b base) : a = b:=by
 have key : ∀ {a b : Nat},a ≤ b → b < LL → Ed.mul dd a base = Ed.mul dd b base → a = b:=fun {a b} hab hb h=>by
  obtain ⟨c,rfl⟩ : ∃ c,b = a + c:=⟨b - a,by omega⟩;have hA:=Ed.on_mul good on_base a;have hC:=Ed.on_mul good on_base c;rw [Ed.mul_add good on_base] at h
  have h1 : Ed.mul dd c base = Ed.zero:=by
   have h2 : Ed.add dd (Ed.add dd (Ed.mul dd a base) (Ed.mul dd c base)) (Ed.neg (Ed.mul dd a base)) = Ed.add dd (Ed.mul dd a base) (Ed.neg (Ed.mul dd a base)):=by rw [← h]
   rw [Ed.add_neg good hA,Ed.add_comm (Ed.mul dd a base) (Ed.mul dd c base),Ed.add_assoc good hC hA (Ed.on_neg hA),Ed.add_neg good hA,Ed.add_zero good] at h2;exact h2
  rw [ord_iff] at h1;have h3 : c = 0:=Nat.eq_zero_of_dvd_of_lt h1 (by omega)
  omega
 rcases Nat.le_total a b with h1 | h1
 ·exact key h1 hb h
 ·exact (key h1 ha h.symm).symm
theorem add_right {P Q R : Ed.Pt p} (hP : Ed.On dd P) (hQ : Ed.On dd Q) (hR : Ed.On dd R) (h : Ed.add dd P R = Ed.add dd Q R) : P = Q:=by
 have h1 : Ed.add dd (Ed.add dd P R) (Ed.neg R) = Ed.add dd (Ed.add dd Q R) (Ed.neg R):=by rw [h]
 rwa [Ed.add_assoc good hP hR (Ed.on_neg hR),Ed.add_assoc good hQ hR (Ed.on_neg hR),Ed.add_neg good hR,Ed.add_zero good,Ed.add_zero good] at h1
theorem msg_core {a k1 k2 S : Nat} (ha : ¬ LL ∣ a) (h1 : k1 < LL) (h2 : k2 < LL) (h : Ed.add dd (Ed.mul dd S base) (Ed.neg (Ed.mul dd k1 (Ed.mul dd a base))) = Ed.add dd (Ed.mul dd S base) (Ed.neg (Ed.mul dd k2 (Ed.mul dd a base)))) : k1 = k2:=by
 have hK:=Ed.on_mul good on_base a;have hS:=Ed.on_mul good on_base S;have hN1:=Ed.on_mul good hK k1;have hN2:=Ed.on_mul good hK k2;rw [Ed.add_comm (Ed.mul dd S base),Ed.add_comm (Ed.mul dd S base)] at h;have h4:=add_right (Ed.on_neg hN1) (Ed.on_neg hN2) hS h;have h5:=congrArg Ed.neg h4;rw [Ed.neg_neg,Ed.neg_neg,Ed.mul_times good on_base,Ed.mul_times good on_base] at h5
 have key : ∀ {x y : Nat},x ≤ y → y < LL → Ed.mul dd (x * a) base = Ed.mul dd (y * a) base → x = y:=fun {x y} hxy hy h=>by
  rw [Ed.mul_mod good on_base order (x * a),Ed.mul_mod good on_base order (y * a)] at h;have h7:=mul_inj (mod_LL_lt _) (mod_LL_lt _) h
  have h8 : LL ∣ y * a - x * a:=by
   have h10:=Nat.div_add_mod (x * a) LL;have h11:=Nat.div_add_mod (y * a) LL;rw [← h7] at h11;refine ⟨y * a / LL - x * a / LL,?_⟩;rw [Nat.mul_sub];generalize LL * (y * a / LL) = u at *;generalize LL * (x * a / LL) = v at *
   omega
  rw [← Nat.sub_mul] at h8
  rcases prime_L.dvd_mul h8 with h9 | h9
  ·have:=Nat.eq_zero_of_dvd_of_lt h9 (by omega)
   omega
  ·exact absurd h9 ha
 rcases Nat.le_total k1 k2 with h6 | h6
 ·exact key h6 h2 h5
 ·exact (key h6 h1 h5.symm).symm
theorem right_msg {seed s m n : List UInt8} (hs : Right (sgKey seed) s m) (ht : Right (sgKey seed) s n) : sgK (s.take 32) (sgKey seed) m = sgK (s.take 32) (sgKey seed) n:=by
 obtain ⟨A,hA,hk,_,hl,he⟩:=hs;obtain ⟨B,hB,hk2,_,hl2,he2⟩:=ht;have hK:=Ed.on_mul good on_base (le (sgAB seed));have e1 : A = Ed.mul dd (le (sgAB seed)) base:=encP_inj hA hK hk;have e2 : B = Ed.mul dd (le (sgAB seed)) base:=encP_inj hB hK hk2;rw [e1] at he;rw [e2] at he2;have hS:=Ed.on_mul good on_base (le (s.drop 32));exact msg_core (key_ne seed) (mod_LL_lt _) (mod_LL_lt _) (encP_inj (Ed.on_add good hS (Ed.on_neg (Ed.on_mul good hK _))) (Ed.on_add good hS (Ed.on_neg (Ed.on_mul good hK _))) (he.trans he2.symm))
end Nums
/-
  THE PROGRAM'S SIGNATURES: number.
-/
namespace Go.Proofs.YtlcbhbahchiofaaGreatDoor
open Go.RowKit Go.IntWalk Nums

theorem pt_none {w : World} {P : Option Addr} {ls : List (List UInt8)} (h : PT w P ls) (hP : P = none) : ls = []:=by
 cases ls with
 | nil=>rfl
 | cons l ls =>
  obtain ⟨ad,e,_⟩:=h (by simp);rw [hP] at e
  cases e
set_option maxRecDepth 100000 in
set_option maxHeartbeats 1000000 in
theorem number_f {v1 v2 : Value} {l1 l2 : List UInt8} {P : Option Addr} {ls : List (List UInt8)} {pc : Nat} (w : World) (hT : Tsh w) (h1 : SB w v1 l1) (h2 : SB w v2 l2) (hP : PT w P ls) (h0 : P = none → pc = 0) (hls : ls.length ≤ 1000000) :
  Calls Tryz.prog 51 #[v1,v2,.slice P ls.length pc] w fun e w'=>e = .returned (.agg (Us (ws (le (digest s512 (l1 ++ (l2 ++ ls.flatten))) % LL))).toArray) ∧ Below w.heap.size w w':=by
 refine calls_F (vs:=[v1,v2,.slice P ls.length pc]) 16 Tryz.func51 rfl (by rw [Tryz.ntmps51]; rfl) ?_;refine c_seq fun K hK=>?_;refine c_lit ?_;refine l_allocA z4 rfl rfl rfl rfl (by kernel_rfl) fun W1 g1 hw1 hg1 b1=>?_;refine l_nil ?_;refine hK _ _ ?_;clear hK K;replace h1:=h1.later hw1;replace h2:=h2.later hw1;replace hP:=hP.later hw1;replace hT:=hT.below hw1;have hU : Up w W1:=hw1
 have q1 : w.heap.size ≤ g1:=by rw [hg1]; exact Nat.le_refl _
 clear hw1;refine c_seq fun K hK=>?_;refine c_gF 4 ?_;refine g_op rfl ?_;refine f_move v1 rfl rfl rfl rfl rfl ?_;refine g_go ?_;refine g_op rfl ?_;refine f_move v2 rfl rfl rfl rfl rfl ?_;refine g_go ?_;refine g_slices [v1,v2] [l1,l2] W1.heap.size rfl rfl rfl rfl rfl rfl rfl (by decide) (by decide) (fun _ h=>h.size) (fun _ h _=>⟨h1.later h,h2.later h,trivial⟩) fun g2 _ _ _=>?_;refine g_op rfl ?_;refine f_move (.slice P ls.length pc) rfl rfl rfl rfl rfl ?_;refine g_go ?_;refine g_end fun W2 hw2 hF=>?_;have n2:=hF 2 _ rfl;clear hF;refine l_appS (vs:=[v1,v2]) (ls:=ls) (base:=W1.heap.size) rfl rfl rfl rfl rfl rfl (n2.gs (n:=2) rfl (by decide)) hw2 hP (fun e=>⟨h0 e,pt_none hP e⟩) (by simp; omega) hw2.size fun A' c' W3 us hus hgs hgr=>?_;have hU3 : Up W1 W3:=GS.grew (n2.gs (n:=2) rfl (by decide)) hw2 hgr hw2.size;have hall : All2 W3 ([v1,v2] ++ us) ([l1,l2] ++ ls):=All2.app ⟨h1.later hU3,h2.later hU3,trivial⟩ (All2.later hU3 hus);obtain ⟨hPT,hc1,hc2⟩:=hgs.pt hall;rw [hall.len];refine l_assign (.slice A' ([l1,l2] ++ ls).length c') rfl rfl rfl rfl rfl ?_;refine l_nil ?_;refine hK _ _ ?_;clear hK K;replace b1:=b1.later hU3;replace hT:=hT.below hU3;replace hU:=hU.step hU3;refine c_seq fun K hK=>?_;refine c_tF 3 ?_;refine f_move (.slice A' ([l1,l2] ++ ls).length c') rfl rfl rfl rfl rfl ?_;refine f_call #[.slice A' ([l1,l2] ++ ls).length c'] (.agg (By (digest s512 ([l1,l2] ++ ls).flatten)).toArray) rfl rfl rfl own_sum512 (fun w1 h=>sum512_f A' ([l1,l2] ++ ls) c' w1 (hT.below h) (hPT.later h) hc1 hc2) rfl rfl ?_;refine f_call #[.agg (By (digest s512 ([l1,l2] ++ ls).flatten)).toArray] (.agg (Us (ws (le (digest s512 ([l1,l2] ++ ls).flatten) % LL))).toArray) rfl rfl rfl own_wide (fun w1 _=>wide_f (digest512_len _) w1) rfl rfl ?_;refine f_set g1 _ (Us (ws (le (digest s512 ([l1,l2] ++ ls).flatten) % LL))).toArray rfl rfl rfl rfl rfl b1 (size_S _) (by rw [us_size (ws_len _)]; rfl) (Us_oneA _) fun w4 hw4 c4=>?_;refine l_nil ?_;refine hK _ _ ?_;clear hK K;refine c_ret (k_ret_row g1 _ rfl rfl c4 Tryz.underlying87 rfl (size_S _) ⟨?_,up_row (hU.step hw4) q1 _⟩)
 rfl
end Go.Proofs.YtlcbhbahchiofaaGreatDoor
/-
  THE PROGRAM'S SIGNATURES: spread, based, Public.
-/
namespace Go.Proofs.YtlcbhbahchiofaaGreatDoor
open Go.RowKit Go.IntWalk Nums

theorem own_spread : Own 45:=fun _ _=>by go_simp
theorem own_based : Own 46:=fun _ _=>by go_simp
theorem own_number : Own 51:=fun _ _=>by go_simp
theorem own_public : Own 28:=fun _ _=>by go_simp

/-! ### Plain -/
theorem and248 (m : Nat) (h : m < 256) : bits .and .u8 (m : Int) 248 = ((m / 8 * 8 : Nat) : Int):=by
 have key : ∀ m : Nat,m < 256 → bits .and .u8 (m : Int) 248 = ((m / 8 * 8 : Nat) : Int):=by decide +kernel
 exact key m h
theorem or64 (m : Nat) (h : m < 256) : bits .or .u8 ((m % 128 : Nat) : Int) 64 = ((m % 64 + 64 : Nat) : Int):=by
 have key : ∀ m : Nat,m < 256 → bits .or .u8 ((m % 128 : Nat) : Int) 64 = ((m % 64 + 64 : Nat) : Int):=by decide +kernel
 exact key m h
theorem cop_set {d : List UInt8} (h : d.length = 32) {k : Nat} (hk : k < 32) (x : UInt8) : (cop z64 0 d).set k x = cop z64 0 (d.set k x):=by
 simp only [cop,h,List.length_set,List.take_zero,List.nil_append];rw [List.set_append_left _ _ (by omega)]
theorem cop_get {d : List UInt8} (h : d.length = 32) {k : Nat} (hk : k < 32) : (cop z64 0 d)[k]! = d[k]!:=by
 simp only [cop,List.take_zero,List.nil_append];rw [getElem!_pos _ k (by rw [List.length_append]; omega),getElem!_pos _ k (by omega),List.getElem_append_left]

set_option maxRecDepth 100000 in
set_option maxHeartbeats 2000000 in
theorem spread_f {seed : List UInt8} (hs : seed.length = 32) (w : World) (hT : Tsh w) :
  Calls Tryz.prog 45 #[.agg (By seed).toArray] w fun e w'=>e = .returned (.tuple #[.agg (Us (ws (le (sgAB seed) % LL))).toArray,.agg (By (sgPre seed)).toArray]) ∧ Below w.heap.size w w':=by
 have hD:=sgD_len seed
 have hd32 : ((sgD seed).take 32).length = 32:=by rw [List.length_take,hD]; rfl
 refine calls_F (vs:=[.agg (By seed).toArray]) 26 Tryz.func45 rfl (by rw [Tryz.ntmps45]; rfl) ?_;refine c_seq fun K hK=>?_;refine c_lit ?_;refine l_boxA (By seed).toArray rfl rfl rfl rfl rfl fun W1 g1 hw1 hg1 b1=>?_;refine l_allocA z4 rfl rfl rfl rfl (by kernel_rfl) fun W2 g2 hw2 hg2 b2=>?_;refine l_allocA z32 rfl rfl rfl rfl (by kernel_rfl) fun W3 g3 hw3 hg3 b3=>?_;refine l_nil ?_;refine hK _ _ ?_;clear hK K;have l1:=b1.lt;have l2:=b2.lt;have l3:=b3.lt;have s1:=hw1.size;have s2:=hw2.size
 have n12 : g1 ≠ g2:=by omega
 have n23 : g2 ≠ g3:=by omega
 have n13 : g1 ≠ g3:=by omega
 have q2 : w.heap.size ≤ g2:=by omega
 have q3 : w.heap.size ≤ g3:=by omega
 replace b1:=(b1.later hw2).later hw3;replace b2:=b2.later hw3;have hU : Up w W3:=(hw1.step hw2).step hw3;replace hT:=hT.below hU;clear hw1 hw2 hw3 hg1 hg2 hg3 l1 l2 l3 s1 s2;refine c_seq fun K hK=>?_;refine c_gF 4 ?_;refine g_op rfl ?_;refine f_slice32 g1 rfl rfl rfl rfl rfl ?_;refine g_go ?_;refine g_slices [.slice (some ⟨g1,0,none⟩) 32 32] [seed] W3.heap.size rfl rfl rfl rfl rfl rfl rfl (by decide) (by decide) (fun _ h=>h.size) (fun _ h _=>⟨SB.all (b1.later h) hs (by decide),trivial⟩) fun gs _ _ _=>?_;refine g_op rfl ?_
 refine f_call #[.slice (some ⟨gs,0,none⟩) 1 1] (.agg (By (sgD seed)).toArray) rfl rfl rfl own_sum512 (fun w1 h=>by
  have:=sum512_f (some ⟨gs,0,none⟩) [seed] 1 w1 (hT.below h.1) (h.2 1 _ rfl (by kernel_rfl) : NewS _ _ _ _ _).pt (Nat.le_refl _) (by decide)
  rwa [show [seed].flatten = seed from by simp] at this) rfl rfl ?_
 refine g_go ?_;refine g_alloc (By z64).toArray W3.heap.size rfl rfl rfl rfl rfl zero64 (fun _ h=>h.size) (fun g w w' h hr=>⟨h.1,h.2.later hr⟩) fun g4 w4 _ hg4 _=>?_;refine g_end fun W4 hw4 hF=>?_;have b4:=(hF 3 _ rfl).2;clear hF
 have n14 : g1 ≠ g4:=by have:=b1.lt; omega
 have n24 : g2 ≠ g4:=by have:=b2.lt; omega
 have n34 : g3 ≠ g4:=by have:=b3.lt; omega
 have q4 : w.heap.size ≤ g4:=Nat.le_trans hU.size hg4;refine l_set g4 _ (By (sgD seed)).toArray rfl rfl rfl rfl rfl b4 (size_64 hD) (by rw [List.size_toArray,List.size_toArray,By_len,By_len,hD]; rfl) (By_oneA _) ?_;refine l_nil ?_;refine hK _ _ ?_;clear hK K;replace b2:=(b2.later hw4).rowFar n24 (By (sgD seed)).toArray;replace b3:=(b3.later hw4).rowFar n34 (By (sgD seed)).toArray;replace b4:=b4.row (By (sgD seed)).toArray;replace hU:=up_row (hU.step hw4) q4 (By (sgD seed)).toArray;clear hT b1 n12 n13 n14 hg4 hw4;generalize W4.setRow g4 (By (sgD seed)).toArray = W5 at *;refine c_seq fun K hK=>?_;refine c_lit ?_;refine l_allocA (By z64).toArray rfl rfl rfl rfl zero64 fun W6 g5 hw6 hg5 b5=>?_;refine l_nil ?_;refine hK _ _ ?_;clear hK K
 have n25 : g2 ≠ g5:=by have:=b2.lt; omega
 have n35 : g3 ≠ g5:=by have:=b3.lt; omega
 have n45 : g4 ≠ g5:=by have:=b4.lt; omega
 have q5 : w.heap.size ≤ g5:=by rw [hg5]; exact hU.size
 replace b2:=b2.later hw6;replace b3:=b3.later hw6;replace b4:=b4.later hw6;replace hU:=hU.step hw6;clear hw6 hg5
 -- the number's bytes
 refine c_seq fun K hK=>?_;refine c_g 2 (by decide) (by kernel_rfl) (by kernel_rfl) ?_;refine g_op rfl ?_;refine f_slice64l g5 rfl rfl rfl rfl rfl ?_;refine g_go ?_;refine g_op rfl ?_;refine f_slice64l g4 rfl rfl rfl rfl rfl ?_;refine g_go ?_;refine g_end fun W7 hw7 _=>?_;replace b2:=b2.later hw7;replace b3:=b3.later hw7;replace b4:=b4.later hw7;replace b5:=b5.later hw7;replace hU:=hU.step hw7;refine l_copy g5 0 32 64 _ z64 ((sgD seed).take 32) (.slice (some ⟨g4,0,none⟩) 32 64) rfl rfl rfl rfl rfl rfl b5 (SB.arr b4 (by rw [List.drop_zero]) hd32 (by decide) (by decide)) (by rw [hd32]; decide) (by rw [hd32]; exact Nat.le_refl _) (by rw [hd32]; decide) fun b5=>?_;replace b2:=b2.rowFar n25 (By (cop z64 0 ((sgD seed).take 32))).toArray;replace b3:=b3.rowFar n35 (By (cop z64 0 ((sgD seed).take 32))).toArray;replace b4:=b4.rowFar n45 (By (cop z64 0 ((sgD seed).take 32))).toArray;replace hU:=up_row hU q5 (By (cop z64 0 ((sgD seed).take 32))).toArray;generalize W7.setRow g5 (By (cop z64 0 ((sgD seed).take 32))).toArray = W8 at *;refine l_nil ?_;refine hK _ _ ?_;clear hK K hw7;obtain ⟨d,hd⟩ : ∃ d,d = (sgD seed).take 32:=⟨_,rfl⟩;rw [← hd] at b5 hd32;have x0:=(d[0]!).toNat_lt;have c0:=(b5.cell 0).trans (By_get (l:=cop z64 0 d) (j:=0) (by rw [cop_len64 hd32]; decide));rw [cop_get hd32 (by decide)] at c0
 have e0 : ((UInt8.ofNat ((d[0]!).toNat / 8 * 8)).toNat : Int) = (((d[0]!).toNat / 8 * 8 : Nat) : Int):=by rw [ofNat_toNat (by omega)]
 refine c_seq fun K hK=>?_;refine c_tF 4 ?_;refine f_ix _ 0 ⟨g5,0,none⟩ rfl rfl rfl rfl rfl rfl (ix64 _ 0 (by decide)) ?_;refine f_load ⟨g5,0,none⟩ (.int .u8 ((d[0]!).toNat : Int)) (by decide) rfl rfl rfl rfl rfl (fun _ h1=>(h1.cell b5.lt).trans c0) ?_;refine f_andB _ 248 (((d[0]!).toNat / 8 * 8 : Nat) : Int) rfl rfl rfl rfl rfl rfl (and248 _ x0) ?_;refine f_ix _ 0 ⟨g5,0,none⟩ rfl rfl rfl rfl rfl rfl (ix64 _ 0 (by decide)) ?_;refine f_store ⟨g5,0,none⟩ (((d[0]!).toNat / 8 * 8 : Nat) : Int) _ (.inr ⟨rfl,rfl⟩) rfl rfl rfl rfl rfl c0 (b5.free 0) b5.lt fun w9 hw9=>?_;replace b2:=(b2.later hw9).far (p:=⟨g5,0,none⟩) n25 (.int .u8 (((d[0]!).toNat / 8 * 8 : Nat) : Int));replace b3:=(b3.later hw9).far (p:=⟨g5,0,none⟩) n35 (.int .u8 (((d[0]!).toNat / 8 * 8 : Nat) : Int));replace b4:=(b4.later hw9).far (p:=⟨g5,0,none⟩) n45 (.int .u8 (((d[0]!).toNat / 8 * 8 : Nat) : Int));replace b5:=(b5.later hw9).set 0 (.int .u8 (((d[0]!).toNat / 8 * 8 : Nat) : Int));replace hU : Up w _:=(hU.step hw9).setCell (p:=⟨g5,0,none⟩) q5 (.int .u8 (((d[0]!).toNat / 8 * 8 : Nat) : Int));rw [← e0,By_set,cop_set hd32 (by decide)] at b5;rw [← e0] at b2 b3 b4 hU ⊢;have e1 : d.set 0 (UInt8.ofNat ((d[0]!).toNat / 8 * 8)) = lowB d:=rfl;rw [e1] at b5;generalize w9.setCell ⟨g5,0,none⟩ (.int .u8 ((UInt8.ofNat ((d[0]!).toNat / 8 * 8)).toNat : Int)) = W9 at *;refine hK _ _ ?_;clear hK K hw9 c0 x0 e0 e1
 have hl32 : (lowB d).length = 32:=by rw [lowB_len,hd32]
 have x1:=((lowB d)[31]!).toNat_lt;have c1:=(b5.cell 31).trans (By_get (l:=cop z64 0 (lowB d)) (j:=31) (by rw [cop_len64 hl32]; decide));rw [cop_get hl32 (by decide)] at c1
 have e0 : ((UInt8.ofNat (((lowB d)[31]!).toNat % 64 + 64)).toNat : Int) = ((((lowB d)[31]!).toNat % 64 + 64 : Nat) : Int):=by rw [ofNat_toNat (by omega)]
 refine c_seq fun K hK=>?_;refine c_tF 5 ?_;refine f_ix _ 31 ⟨g5,31,none⟩ rfl rfl rfl rfl rfl rfl (ix64 _ 31 (by decide)) ?_;refine f_load ⟨g5,31,none⟩ (.int .u8 (((lowB d)[31]!).toNat : Int)) (by decide) rfl rfl rfl rfl rfl (fun _ h1=>(h1.cell b5.lt).trans c1) ?_;refine f_andB _ 127 ((((lowB d)[31]!).toNat % 128 : Nat) : Int) rfl rfl rfl rfl rfl rfl (low7 _ x1) ?_;refine f_orB _ 64 ((((lowB d)[31]!).toNat % 64 + 64 : Nat) : Int) rfl rfl rfl rfl rfl rfl (or64 _ x1) ?_;refine f_ix _ 31 ⟨g5,31,none⟩ rfl rfl rfl rfl rfl rfl (ix64 _ 31 (by decide)) ?_;refine f_store ⟨g5,31,none⟩ ((((lowB d)[31]!).toNat % 64 + 64 : Nat) : Int) _ (.inr ⟨rfl,rfl⟩) rfl rfl rfl rfl rfl c1 (b5.free 31) b5.lt fun w9 hw9=>?_;replace b2:=(b2.later hw9).far (p:=⟨g5,31,none⟩) n25 (.int .u8 ((((lowB d)[31]!).toNat % 64 + 64 : Nat) : Int));replace b3:=(b3.later hw9).far (p:=⟨g5,31,none⟩) n35 (.int .u8 ((((lowB d)[31]!).toNat % 64 + 64 : Nat) : Int));replace b4:=(b4.later hw9).far (p:=⟨g5,31,none⟩) n45 (.int .u8 ((((lowB d)[31]!).toNat % 64 + 64 : Nat) : Int));replace b5:=(b5.later hw9).set 31 (.int .u8 ((((lowB d)[31]!).toNat % 64 + 64 : Nat) : Int));replace hU : Up w _:=(hU.step hw9).setCell (p:=⟨g5,31,none⟩) q5 (.int .u8 ((((lowB d)[31]!).toNat % 64 + 64 : Nat) : Int));rw [← e0,By_set,cop_set hl32 (by decide)] at b5;rw [← e0] at b2 b3 b4 hU ⊢
 have e1 : (lowB d).set 31 (UInt8.ofNat (((lowB d)[31]!).toNat % 64 + 64)) = sgAB seed:=by rw [hd]; rfl
 rw [e1] at b5;generalize w9.setCell ⟨g5,31,none⟩ (.int .u8 ((UInt8.ofNat (((lowB d)[31]!).toNat % 64 + 64)).toNat : Int)) = W10 at *;refine k_sub (E':=[(2,.pointer (some ⟨g2,0,none⟩)),(3,.pointer (some ⟨g3,0,none⟩)),(4,.pointer (some ⟨g4,0,none⟩)),(5,.pointer (some ⟨g5,0,none⟩))]) ⟨rfl,rfl,rfl,rfl,trivial⟩ ?_;refine hK _ _ ?_;clear hK K hw9 c1 x1 e0 e1 hl32 hd hd32 d;have hA:=sgAB_len seed;have hle:=le_cop hA;have hlen:=cop_len64 hA;have hpl:=sgPre_len seed
 -- what is handed back
 refine c_seq fun K hK=>?_;refine c_gR (Rel:=KeepG g2 87 (Us (ws (le (sgAB seed) % LL))).toArray) (C0:=KeepG g2 87 (Us (ws (le (sgAB seed) % LL))).toArray W10) 6 (fun _ _ h k=>h.trans k) (KeepG.of (Up.drew W10)) (by decide) (by kernel_rfl) (by kernel_rfl) ?_;refine g_op rfl ?_;refine f_b64 g5 hlen rfl rfl rfl rfl rfl (fun _ h=>(h.1.far b5 n25.symm).range) ?_;refine g_go ?_;refine g_op rfl ?_
 refine f_call #[.agg (By (cop z64 0 (sgAB seed))).toArray] (.agg (Us (ws (le (sgAB seed) % LL))).toArray) rfl rfl rfl own_wide (fun w1 _=>by
  have:=wide_f hlen w1
  rwa [hle] at this) rfl rfl ?_
 refine g_go ?_;refine g_op rfl ?_;refine f_slice64h g4 rfl rfl rfl rfl rfl ?_;refine g_go ?_;refine g_op rfl ?_;refine f_arrp (some ⟨g4,32,none⟩) 32 rfl rfl rfl rfl rfl ?_;refine g_go ?_;refine g_op rfl ?_
 refine f_by g4 32 hpl rfl rfl rfl rfl rfl (fun _ h=>by
  have:=(h.1.far b4 n24.symm).part 32 32
  have e : ((By (sgD seed)).drop 32).take 32 = By (sgPre seed):=by
   rw [sgPre,By,By,← List.map_drop,← List.map_take,List.take_of_length_le (by rw [List.length_drop,hD]; decide)]
  rwa [e] at this) ?_
 refine g_go ?_;refine g_store g2 (Us (ws (le (sgAB seed) % LL))).toArray rfl rfl rfl rfl rfl rfl (size_S _) (Us_oneA _) (fun w1 h=>?_) (fun w1 w2 h hr=>hr.self h) ?_
 ·rcases h.here b2.lt with h1 | h1
  ·exact ⟨_,h1.trans b2,by rw [us_size (ws_len _)]; rfl,KeepG.set (h1.trans b2)⟩
  ·exact ⟨_,h1,rfl,KeepG.set h1⟩
 refine g_end fun W11 hw11 hF=>?_;have d2 : Blk W11 g2 87 (Us (ws (le (sgAB seed) % LL))).toArray:=hF 5 _ rfl;have d3:=hw11.far b3 n23.symm;refine l_set g3 _ (By (sgPre seed)).toArray rfl rfl rfl rfl rfl d3 (size_H hpl) (by rw [len_by hpl]; rfl) (By_oneA _) ?_;refine l_nil ?_;refine hK _ _ ?_;clear hK K;have r2:=d2.rowFar n23 (By (sgPre seed)).toArray;have r3:=d3.row (By (sgPre seed)).toArray;have r:=up_row (hw11.up hU q2) q3 (By (sgPre seed)).toArray;refine c_ret fun a ha=>?_;exact bodyPost_ret (results_cells rfl _ _ g2 g3 _ _ _ _ (0,0) (0,0) _ _ (ha.at rfl) (ha.at rfl) r2 r3 Tryz.underlying87 rfl (size_S _) Tryz.underlying45 rfl (size_H hpl)) ha.defers ⟨rfl,r⟩

set_option maxRecDepth 100000 in
set_option maxHeartbeats 1000000 in
theorem based_f {n : Nat} (hn : n < LL) (w : World) (hT : Tw w) :
  Calls Tryz.prog 46 #[.agg (Us (ws n)).toArray] w fun e w'=>e = .returned (.agg (By (encP (Ed.mul dd n base))).toArray) ∧ Below w.heap.size w w':=by
 have hb:=bytes_len 32 n;have hle:=le_bytesL hn;refine calls_F (vs:=[.agg (Us (ws n)).toArray]) 8 Tryz.func46 rfl (by rw [Tryz.ntmps46]; rfl) ?_;refine c_seq fun K hK=>?_;refine c_lit ?_;refine l_boxA (Us (ws n)).toArray rfl rfl rfl rfl rfl fun W1 g1 hw1 hg1 b1=>?_;refine l_allocA z32 rfl rfl rfl rfl (by kernel_rfl) fun W2 g2 hw2 hg2 b2=>?_;refine l_nil ?_;refine hK _ _ ?_;clear hK K;replace b1:=b1.later hw2;have hU : Up w W2:=hw1.step hw2;replace hT:=hT.below hU
 have q2 : w.heap.size ≤ g2:=by rw [hg2]; exact hw1.size
 clear hw1 hw2 hg1 hg2;refine c_seq fun K hK=>?_;refine c_t 5 (by decide) (by kernel_rfl) (tail_ok (by kernel_rfl)) (fun _ _ d _ _ h=>by cases d <;> exact h) ?_;refine f_us #[] (QB · base) rfl rfl rfl own_cbase (fun w1 _=>cbase_f w1) rfl rfl fun r3 v3=>?_;refine f_sc g1 n rfl rfl rfl rfl rfl (fun _ h1=>(h1.blk b1).range) ?_;refine f_call #[.agg (Us (ws n)).toArray] (.agg (By (Nums.bytes 32 n)).toArray) rfl rfl rfl own_schash (fun w1 _=>schash_f n w1) rfl rfl ?_
 refine f_us #[.agg (Us r3).toArray,.agg (By (Nums.bytes 32 n)).toArray] (PB · (Ed.mul dd n base)) rfl rfl rfl own_cmul (fun w1 h1=>by
  have:=cmul_f (.inr v3) hb w1 (hT.below h1)
  rwa [hle] at this) rfl rfl fun r6 v6=>?_
 refine f_call #[.agg (Us r6).toArray] (.agg (By (encP (Ed.mul dd n base))).toArray) rfl rfl rfl own_chash (fun w1 h1=>chash_f v6 w1 (hT.below h1)) rfl rfl ?_;refine f_set g2 _ (By (encP (Ed.mul dd n base))).toArray rfl rfl rfl rfl rfl b2 (size_H (encP_len _)) (by rw [len_by (encP_len _)]; rfl) (By_oneA _) fun w4 hw4 c4=>?_;refine l_nil ?_;refine hK _ _ ?_;clear hK K;exact c_ret (k_ret_row g2 _ rfl rfl c4 Tryz.underlying45 rfl (size_H (encP_len _)) ⟨rfl,up_row (hU.step hw4) q2 _⟩)

structure Ta (w : World) : Prop where
  tw : Tw w
  sh : Tsh w
theorem Ta.below {w w' : World} (h : Ta w) (hb : Below w.heap.size w w') : Ta w':=⟨h.tw.below hb,h.sh.below hb⟩
theorem mul_a (seed : List UInt8) : encP (Ed.mul dd (le (sgAB seed) % LL) base) = sgKey seed:=by rw [mul_ll]; rfl

set_option maxRecDepth 100000 in
set_option maxHeartbeats 2000000 in
theorem public_f {seed : List UInt8} (hs : seed.length = 32) (w : World) (hT : Ta w) :
  Calls Tryz.prog 28 #[.agg (By seed).toArray] w fun e w'=>e = .returned (.agg (By (sgKey seed)).toArray) ∧ Below w.heap.size w w':=by
 refine calls_F (vs:=[.agg (By seed).toArray]) 12 Tryz.func28 rfl (by rw [Tryz.ntmps28]; rfl) ?_;have hU:=Up.refl w;refine c_seq fun K hK=>?_;refine c_lit ?_;refine l_boxA ((By seed).toArray) rfl rfl rfl rfl rfl fun W1 g1 hw1 hg1 b1=>?_;replace hU:=hU.step hw1;clear hw1 hg1;refine l_allocA z32 rfl rfl rfl rfl (by kernel_rfl) fun W2 g2 hw2 hg2 b2=>?_
 have q2 : w.heap.size ≤ g2:=by rw [hg2]; exact hU.size
 replace b1:=b1.later hw2;replace hU:=hU.step hw2;clear hw2 hg2;refine l_nil ?_;refine hK _ _ ?_;clear hK K;refine c_seq fun K hK=>?_;refine c_gF 5 ?_;refine g_op rfl ?_;refine f_by g1 0 hs rfl rfl rfl rfl rfl (fun _ h1=>(h1.1.blk b1).range) ?_;refine g_go ?_;refine g_op rfl ?_;refine f_call #[.agg (By seed).toArray] (.tuple #[.agg (Us (ws (le (sgAB seed) % LL))).toArray,.agg (By (sgPre seed)).toArray]) rfl rfl rfl own_spread (fun w1 h1=>spread_f hs w1 (hT.below (hU.step h1.1)).sh) rfl rfl ?_;refine g_go ?_;refine g_op rfl ?_;refine f_move (.tuple #[.agg (Us (ws (le (sgAB seed) % LL))).toArray,.agg (By (sgPre seed)).toArray]) rfl rfl rfl rfl rfl ?_;refine g_go ?_;refine g_op rfl ?_;refine f_extract (.agg (Us (ws (le (sgAB seed) % LL))).toArray) rfl rfl rfl rfl rfl rfl ?_;refine g_go ?_;refine g_op rfl ?_;refine f_extract (.agg (By (sgPre seed)).toArray) rfl rfl rfl rfl rfl rfl ?_;refine g_go ?_;refine g_end fun W3 hw3 hF3=>?_;clear hF3;replace b2:=b2.later hw3;replace hU:=hU.step hw3;clear hw3;refine l_allocA z4 rfl rfl rfl rfl (by kernel_rfl) fun W4 g4 hw4 hg4 b4=>?_
 have n2_4 : g2 ≠ g4:=by have:=b2.lt; omega
 have q4 : w.heap.size ≤ g4:=by rw [hg4]; exact hU.size
 replace b2:=b2.later hw4;replace hU:=hU.step hw4;clear hw4 hg4;refine l_allocA z32 rfl rfl rfl rfl (by kernel_rfl) fun W5 g5 hw5 hg5 b5=>?_
 have n2_5 : g2 ≠ g5:=by have:=b2.lt; omega
 have n4_5 : g4 ≠ g5:=by have:=b4.lt; omega
 have q5 : w.heap.size ≤ g5:=by rw [hg5]; exact hU.size
 replace b2:=b2.later hw5;replace b4:=b4.later hw5;replace hU:=hU.step hw5;clear hw5 hg5;refine l_set g4 _ ((Us (ws (le (sgAB seed) % LL))).toArray) rfl rfl rfl rfl rfl b4 (size_S _) (by rw [us_size (ws_len _)]; rfl) (Us_oneA _) ?_;replace b2:=b2.rowFar n2_4 ((Us (ws (le (sgAB seed) % LL))).toArray);replace b5:=b5.rowFar n4_5.symm ((Us (ws (le (sgAB seed) % LL))).toArray);replace b4:=b4.row ((Us (ws (le (sgAB seed) % LL))).toArray);replace hU:=up_row hU q4 ((Us (ws (le (sgAB seed) % LL))).toArray);generalize World.setRow _ g4 ((Us (ws (le (sgAB seed) % LL))).toArray) = W6 at *;refine l_set g5 _ ((By (sgPre seed)).toArray) rfl rfl rfl rfl rfl b5 (size_H ((sgPre_len seed))) (by rw [len_by ((sgPre_len seed))]; rfl) (By_oneA _) ?_;replace b2:=b2.rowFar n2_5 ((By (sgPre seed)).toArray);replace b4:=b4.rowFar n4_5 ((By (sgPre seed)).toArray);replace hU:=up_row hU q5 ((By (sgPre seed)).toArray);generalize World.setRow _ g5 ((By (sgPre seed)).toArray) = W7 at *;refine l_nil ?_;refine hK _ _ ?_;clear hK K;refine c_seq fun K hK=>?_;refine c_gF 2 ?_;refine g_op rfl ?_;refine f_sc g4 (le (sgAB seed) % LL) rfl rfl rfl rfl rfl (fun _ h1=>(h1.1.blk b4).range) ?_;refine g_go ?_;refine g_op rfl ?_
 refine f_call #[.agg (Us (ws (le (sgAB seed) % LL))).toArray] (.agg (By (sgKey seed)).toArray) rfl rfl rfl own_based (fun w1 h1=>by
   have:=based_f (ll_mod (le (sgAB seed))) w1 (hT.below (hU.step h1.1)).tw
   rwa [mul_a] at this) rfl rfl ?_
 refine g_go ?_;refine g_end fun W8 hw8 hF8=>?_;clear hF8;replace b2:=b2.later hw8;replace hU:=hU.step hw8;clear hw8;refine l_set g2 _ ((By (sgKey seed)).toArray) rfl rfl rfl rfl rfl b2 (size_H ((sgKey_len _))) (by rw [len_by ((sgKey_len _))]; rfl) (By_oneA _) ?_;replace b2:=b2.row ((By (sgKey seed)).toArray);replace hU:=up_row hU q2 ((By (sgKey seed)).toArray);generalize World.setRow _ g2 ((By (sgKey seed)).toArray) = W9 at *;refine l_nil ?_;refine hK _ _ ?_;clear hK K;exact c_ret (k_ret_row g2 _ rfl rfl b2 Tryz.underlying45 rfl (size_H ((sgKey_len _))) ⟨rfl,hU⟩)
end Go.Proofs.YtlcbhbahchiofaaGreatDoor
/-
  THE PROGRAM'S SIGNATURES: Sign.
-/
namespace Go.Proofs.YtlcbhbahchiofaaGreatDoor
open Go.RowKit Go.IntWalk Nums

theorem own_sign : Own 33:=fun _ _=>by go_simp
theorem sgR_eq {seed m : List UInt8} : le (digest s512 (sgPre seed ++ ([] ++ m))) % LL = sgR seed m:=rfl
theorem sgR_lt (seed m : List UInt8) : sgR seed m < LL:=mod_LL_lt _
theorem sgRB_eq {seed m : List UInt8} : encP (Ed.mul dd (sgR seed m) base) = sgRB seed m:=rfl
theorem sgK_eq {R key m : List UInt8} : le (digest s512 (R ++ (key ++ m))) % LL = sgK R key m:=rfl
theorem sgK_lt (R key m : List UInt8) : sgK R key m < LL:=mod_LL_lt _
theorem sgS_eq {seed m : List UInt8} : (sgR seed m + sgK (sgRB seed m) (sgKey seed) m * (le (sgAB seed) % LL) % LL) % LL = sgS seed m:=by
 rw [sgS,Nat.mul_mod_mod,Nat.add_mod_mod]
theorem sig_cop {seed m : List UInt8} : cop (cop z64 0 (sgRB seed m)) 32 (Nums.bytes 32 (sgS seed m)) = sgSig seed m:=by
 have h1:=sgRB_len seed m;have h2:=bytes_len 32 (sgS seed m)
 have e : cop z64 0 (sgRB seed m) = sgRB seed m ++ List.replicate 32 0:=by
  rw [cop,h1]
  simp [z64]
 rw [e,cop,h2,List.take_append_of_le_length (by rw [h1]; exact Nat.le_refl _),List.take_of_length_le (by rw [h1]; exact Nat.le_refl _),List.drop_of_length_le (by rw [List.length_append,h1,List.length_replicate]; exact Nat.le_refl _),List.append_nil]
 rfl

set_option maxRecDepth 100000 in
set_option maxHeartbeats 2000000 in
theorem sign_f {seed : List UInt8} {P : Option Addr} {ls : List (List UInt8)} {pc : Nat} (hs : seed.length = 32) (w : World) (hT : Ta w) (hP : PT w P ls) (h0 : P = none → pc = 0) (hls : ls.length ≤ 1000000) :
  Calls Tryz.prog 33 #[.agg (By seed).toArray,.slice P ls.length pc] w fun e w'=>e = .returned (.agg (By (sgSig seed ls.flatten)).toArray) ∧ Below w.heap.size w w':=by
 refine calls_F (vs:=[.agg (By seed).toArray,.slice P ls.length pc]) 42 Tryz.func33 rfl (by rw [Tryz.ntmps33]; rfl) ?_;have hU:=Up.refl w;refine c_seq fun K hK=>?_;refine c_lit ?_;refine l_boxA ((By seed).toArray) rfl rfl rfl rfl rfl fun W1 g1 hw1 hg1 b1=>?_;replace hU:=hU.step hw1;clear hw1 hg1;refine l_allocA ((By z64).toArray) rfl rfl rfl rfl zero64 fun W2 g2 hw2 hg2 b2=>?_
 have q2 : w.heap.size ≤ g2:=by rw [hg2]; exact hU.size
 replace b1:=b1.later hw2;replace hU:=hU.step hw2;clear hw2 hg2;refine l_nil ?_;refine hK _ _ ?_;clear hK K;refine c_seq fun K hK=>?_;refine c_gF 5 ?_;refine g_op rfl ?_;refine f_by g1 0 hs rfl rfl rfl rfl rfl (fun _ h1=>(h1.1.blk b1).range) ?_;refine g_go ?_;refine g_op rfl ?_;refine f_call #[.agg (By seed).toArray] (.tuple #[.agg (Us (ws (le (sgAB seed) % LL))).toArray,.agg (By (sgPre seed)).toArray]) rfl rfl rfl own_spread (fun w1 h1=>spread_f hs w1 (hT.below (hU.step h1.1)).sh) rfl rfl ?_;refine g_go ?_;refine g_op rfl ?_;refine f_move (.tuple #[.agg (Us (ws (le (sgAB seed) % LL))).toArray,.agg (By (sgPre seed)).toArray]) rfl rfl rfl rfl rfl ?_;refine g_go ?_;refine g_op rfl ?_;refine f_extract (.agg (Us (ws (le (sgAB seed) % LL))).toArray) rfl rfl rfl rfl rfl rfl ?_;refine g_go ?_;refine g_op rfl ?_;refine f_extract (.agg (By (sgPre seed)).toArray) rfl rfl rfl rfl rfl rfl ?_;refine g_go ?_;refine g_end fun W3 hw3 hF3=>?_;clear hF3;replace b1:=b1.later hw3;replace b2:=b2.later hw3;replace hU:=hU.step hw3;clear hw3;refine l_allocA z4 rfl rfl rfl rfl (by kernel_rfl) fun W4 g4 hw4 hg4 b4=>?_
 have n1_4 : g1 ≠ g4:=by have:=b1.lt; omega
 have n2_4 : g2 ≠ g4:=by have:=b2.lt; omega
 have q4 : w.heap.size ≤ g4:=by rw [hg4]; exact hU.size
 replace b1:=b1.later hw4;replace b2:=b2.later hw4;replace hU:=hU.step hw4;clear hw4 hg4;refine l_allocA z32 rfl rfl rfl rfl (by kernel_rfl) fun W5 g5 hw5 hg5 b5=>?_
 have n1_5 : g1 ≠ g5:=by have:=b1.lt; omega
 have n2_5 : g2 ≠ g5:=by have:=b2.lt; omega
 have n4_5 : g4 ≠ g5:=by have:=b4.lt; omega
 have q5 : w.heap.size ≤ g5:=by rw [hg5]; exact hU.size
 replace b1:=b1.later hw5;replace b2:=b2.later hw5;replace b4:=b4.later hw5;replace hU:=hU.step hw5;clear hw5 hg5;refine l_set g4 _ ((Us (ws (le (sgAB seed) % LL))).toArray) rfl rfl rfl rfl rfl b4 (size_S _) (by rw [us_size (ws_len _)]; rfl) (Us_oneA _) ?_;replace b1:=b1.rowFar n1_4 ((Us (ws (le (sgAB seed) % LL))).toArray);replace b2:=b2.rowFar n2_4 ((Us (ws (le (sgAB seed) % LL))).toArray);replace b5:=b5.rowFar n4_5.symm ((Us (ws (le (sgAB seed) % LL))).toArray);replace b4:=b4.row ((Us (ws (le (sgAB seed) % LL))).toArray);replace hU:=up_row hU q4 ((Us (ws (le (sgAB seed) % LL))).toArray);generalize World.setRow _ g4 ((Us (ws (le (sgAB seed) % LL))).toArray) = W6 at *;refine l_set g5 _ ((By (sgPre seed)).toArray) rfl rfl rfl rfl rfl b5 (size_H ((sgPre_len seed))) (by rw [len_by ((sgPre_len seed))]; rfl) (By_oneA _) ?_;replace b1:=b1.rowFar n1_5 ((By (sgPre seed)).toArray);replace b2:=b2.rowFar n2_5 ((By (sgPre seed)).toArray);replace b4:=b4.rowFar n4_5 ((By (sgPre seed)).toArray);replace b5:=b5.row ((By (sgPre seed)).toArray);replace hU:=up_row hU q5 ((By (sgPre seed)).toArray);generalize World.setRow _ g5 ((By (sgPre seed)).toArray) = W7 at *;refine l_nil ?_;refine hK _ _ ?_;clear hK K;refine c_seq fun K hK=>?_;refine c_gF 3 ?_;refine g_op rfl ?_;refine f_slice32 g5 rfl rfl rfl rfl rfl ?_;refine g_go ?_;refine g_op rfl ?_;refine f_move (.slice P ls.length pc) rfl rfl rfl rfl rfl ?_;refine g_go ?_;refine g_op rfl ?_
 refine f_call #[.slice (some ⟨g5,0,none⟩) 32 32,.slice none 0 0,.slice P ls.length pc] (.agg (Us (ws ((sgR seed ls.flatten)))).toArray) rfl rfl rfl own_number (fun w1 h1=>by
   have:=number_f (P:=P) (ls:=ls) (pc:=pc) w1 (hT.below (hU.step h1.1)).sh (SB.all (b5.later h1.1) ((sgPre_len seed)) (by decide)) (SB.nil _) (hP.later (hU.step h1.1)) h0 hls
   rwa [sgR_eq] at this) rfl rfl ?_
 refine g_go ?_;refine g_end fun W8 hw8 hF8=>?_;clear hF8;replace b1:=b1.later hw8;replace b2:=b2.later hw8;replace b4:=b4.later hw8;replace b5:=b5.later hw8;replace hU:=hU.step hw8;clear hw8;refine l_allocA z4 rfl rfl rfl rfl (by kernel_rfl) fun W9 g9 hw9 hg9 b9=>?_
 have n1_9 : g1 ≠ g9:=by have:=b1.lt; omega
 have n2_9 : g2 ≠ g9:=by have:=b2.lt; omega
 have n4_9 : g4 ≠ g9:=by have:=b4.lt; omega
 have n5_9 : g5 ≠ g9:=by have:=b5.lt; omega
 have q9 : w.heap.size ≤ g9:=by rw [hg9]; exact hU.size
 replace b1:=b1.later hw9;replace b2:=b2.later hw9;replace b4:=b4.later hw9;replace b5:=b5.later hw9;replace hU:=hU.step hw9;clear hw9 hg9;refine l_set g9 _ ((Us (ws ((sgR seed ls.flatten)))).toArray) rfl rfl rfl rfl rfl b9 (size_S _) (by rw [us_size (ws_len _)]; rfl) (Us_oneA _) ?_;replace b1:=b1.rowFar n1_9 ((Us (ws ((sgR seed ls.flatten)))).toArray);replace b2:=b2.rowFar n2_9 ((Us (ws ((sgR seed ls.flatten)))).toArray);replace b4:=b4.rowFar n4_9 ((Us (ws ((sgR seed ls.flatten)))).toArray);replace b5:=b5.rowFar n5_9 ((Us (ws ((sgR seed ls.flatten)))).toArray);replace b9:=b9.row ((Us (ws ((sgR seed ls.flatten)))).toArray);replace hU:=up_row hU q9 ((Us (ws ((sgR seed ls.flatten)))).toArray);generalize World.setRow _ g9 ((Us (ws ((sgR seed ls.flatten)))).toArray) = W10 at *;refine l_nil ?_;refine hK _ _ ?_;clear hK K;refine c_seq fun K hK=>?_;refine c_new 4 [nvH 8,nvH 9] (by decide) (by decide) ⟨⟨rfl,rfl,rfl,rfl,by kernel_rfl⟩,⟨rfl,rfl,rfl,rfl,by kernel_rfl⟩,trivial⟩ (by kernel_rfl) (tail_ok (by kernel_rfl)) (by kernel_rfl) (fun _ _ d _ _ h=>by cases d <;> exact h) ?_;refine f_sc g9 ((sgR seed ls.flatten)) rfl rfl rfl rfl rfl (fun _ h1=>(h1.blk b9).range) ?_
 refine f_call #[.agg (Us (ws ((sgR seed ls.flatten)))).toArray] (.agg (By (sgRB seed ls.flatten)).toArray) rfl rfl rfl own_based (fun w1 h1=>by
   have:=based_f (n:=sgR seed ls.flatten) (sgR_lt _ _) w1 (hT.below (hU.step h1)).tw
   rwa [sgRB_eq] at this) rfl rfl ?_
 refine f_sc g4 (le (sgAB seed) % LL) rfl rfl rfl rfl rfl (fun _ h1=>(h1.blk b4).range) ?_
 refine f_call #[.agg (Us (ws (le (sgAB seed) % LL))).toArray] (.agg (By (sgKey seed)).toArray) rfl rfl rfl own_based (fun w1 h1=>by
   have:=based_f (ll_mod (le (sgAB seed))) w1 (hT.below (hU.step h1)).tw
   rwa [mul_a] at this) rfl rfl ?_
 refine f_new [.tmp 22,.tmp 24] [(By (sgRB seed ls.flatten)).toArray,(By (sgKey seed)).toArray] ⟨rfl,rfl,trivial⟩ (by decide) ⟨⟨rfl,rfl,rfl⟩,⟨rfl,rfl,rfl⟩,rfl⟩ ⟨⟨rfl,(by rw [len_by ((sgRB_len seed ls.flatten))]; rfl),(size_H ((sgRB_len seed ls.flatten))),(By_oneA _)⟩,⟨rfl,(by rw [len_by ((sgKey_len seed))]; rfl),(size_H ((sgKey_len seed))),(By_oneA _)⟩,trivial⟩ fun f11 W11 hg11 hd11 hw11 hb11=>?_;have b1100 : Blk W11 (f11 0) 45 ((By (sgRB seed ls.flatten)).toArray):=hb11.1;have b1101 : Blk W11 (f11 1) 45 ((By (sgKey seed)).toArray):=hb11.2.1;clear hb11;replace b1:=b1.later hw11;replace b2:=b2.later hw11;replace b4:=b4.later hw11;replace b5:=b5.later hw11;replace b9:=b9.later hw11;replace hU:=hU.step hw11;clear hg11 hd11 hw11;generalize hf1100 : f11 0 = g1100 at *;generalize hf1101 : f11 1 = g1101 at *;simp only [ptrs,Nat.reduceAdd,hf1100,hf1101];clear hf1100 hf1101 f11;refine l_nil ?_;refine hK _ _ ?_;clear hK K;refine c_seq fun K hK=>?_;refine c_g 5 (by decide) (by kernel_rfl) (by kernel_rfl) ?_;refine g_op rfl ?_;refine f_slice32 g1100 rfl rfl rfl rfl rfl ?_;refine g_go ?_;refine g_op rfl ?_;refine f_slice32 g1101 rfl rfl rfl rfl rfl ?_;refine g_go ?_;refine g_op rfl ?_;refine f_move (.slice P ls.length pc) rfl rfl rfl rfl rfl ?_;refine g_go ?_;refine g_op rfl ?_
 refine f_call #[.slice (some ⟨g1100,0,none⟩) 32 32,.slice (some ⟨g1101,0,none⟩) 32 32,.slice P ls.length pc] (.agg (Us (ws ((sgK (sgRB seed ls.flatten) (sgKey seed) ls.flatten)))).toArray) rfl rfl rfl own_number (fun w1 h1=>by
   have:=number_f (P:=P) (ls:=ls) (pc:=pc) w1 (hT.below (hU.step h1.1)).sh (SB.all (b1100.later h1.1) ((sgRB_len seed ls.flatten)) (by decide)) (SB.all (b1101.later h1.1) ((sgKey_len seed)) (by decide)) (hP.later (hU.step h1.1)) h0 hls
   rwa [sgK_eq] at this) rfl rfl ?_
 refine g_go ?_;refine g_alloc z4 (W11).heap.size rfl rfl rfl rfl rfl (by kernel_rfl) (fun _ h=>h.size) (fun g w w' h hr=>⟨h.1,h.2.later hr⟩) fun g12 _ _ _ _=>?_;refine g_end fun W13 hw13 hF13=>?_;have b12:=(hF13 4 _ rfl).2;have ge12:=(hF13 4 _ rfl).1
 have n1_12 : g1 ≠ g12:=by have:=b1.lt; omega
 have n2_12 : g2 ≠ g12:=by have:=b2.lt; omega
 have n4_12 : g4 ≠ g12:=by have:=b4.lt; omega
 have n5_12 : g5 ≠ g12:=by have:=b5.lt; omega
 have n9_12 : g9 ≠ g12:=by have:=b9.lt; omega
 have n1100_12 : g1100 ≠ g12:=by have:=b1100.lt; omega
 have n1101_12 : g1101 ≠ g12:=by have:=b1101.lt; omega
 have q12 : w.heap.size ≤ g12:=Nat.le_trans hU.size ge12;clear ge12;clear hF13;replace b1:=b1.later hw13;replace b2:=b2.later hw13;replace b4:=b4.later hw13;replace b5:=b5.later hw13;replace b9:=b9.later hw13;replace b1100:=b1100.later hw13;replace b1101:=b1101.later hw13;replace hU:=hU.step hw13;clear hw13;refine l_set g12 _ ((Us (ws ((sgK (sgRB seed ls.flatten) (sgKey seed) ls.flatten)))).toArray) rfl rfl rfl rfl rfl b12 (size_S _) (by rw [us_size (ws_len _)]; rfl) (Us_oneA _) ?_;replace b1:=b1.rowFar n1_12 ((Us (ws ((sgK (sgRB seed ls.flatten) (sgKey seed) ls.flatten)))).toArray);replace b2:=b2.rowFar n2_12 ((Us (ws ((sgK (sgRB seed ls.flatten) (sgKey seed) ls.flatten)))).toArray);replace b4:=b4.rowFar n4_12 ((Us (ws ((sgK (sgRB seed ls.flatten) (sgKey seed) ls.flatten)))).toArray);replace b5:=b5.rowFar n5_12 ((Us (ws ((sgK (sgRB seed ls.flatten) (sgKey seed) ls.flatten)))).toArray);replace b9:=b9.rowFar n9_12 ((Us (ws ((sgK (sgRB seed ls.flatten) (sgKey seed) ls.flatten)))).toArray);replace b1100:=b1100.rowFar n1100_12 ((Us (ws ((sgK (sgRB seed ls.flatten) (sgKey seed) ls.flatten)))).toArray);replace b1101:=b1101.rowFar n1101_12 ((Us (ws ((sgK (sgRB seed ls.flatten) (sgKey seed) ls.flatten)))).toArray);replace b12:=b12.row ((Us (ws ((sgK (sgRB seed ls.flatten) (sgKey seed) ls.flatten)))).toArray);replace hU:=up_row hU q12 ((Us (ws ((sgK (sgRB seed ls.flatten) (sgKey seed) ls.flatten)))).toArray);generalize World.setRow _ g12 ((Us (ws ((sgK (sgRB seed ls.flatten) (sgKey seed) ls.flatten)))).toArray) = W14 at *;refine l_nil ?_;refine hK _ _ ?_;clear hK K;refine c_seq fun K hK=>?_;refine c_g 7 (by decide) (by kernel_rfl) (by kernel_rfl) ?_;refine g_op rfl ?_;refine f_sc g9 ((sgR seed ls.flatten)) rfl rfl rfl rfl rfl (fun _ h1=>(h1.1.blk b9).range) ?_;refine g_go ?_;refine g_op rfl ?_;refine f_sc g12 ((sgK (sgRB seed ls.flatten) (sgKey seed) ls.flatten)) rfl rfl rfl rfl rfl (fun _ h1=>(h1.1.blk b12).range) ?_;refine g_go ?_;refine g_op rfl ?_;refine f_sc g4 (le (sgAB seed) % LL) rfl rfl rfl rfl rfl (fun _ h1=>(h1.1.blk b4).range) ?_;refine g_go ?_;refine g_op rfl ?_;refine f_call #[.agg (Us (ws ((sgK (sgRB seed ls.flatten) (sgKey seed) ls.flatten)))).toArray,.agg (Us (ws (le (sgAB seed) % LL))).toArray] (.agg (Us (ws ((((sgK (sgRB seed ls.flatten) (sgKey seed) ls.flatten)) * (le (sgAB seed) % LL) % LL)))).toArray) rfl rfl rfl own_scmul (fun w1 h1=>scmul_f (sgK_lt _ _ _) (ll_mod (le (sgAB seed))) w1) rfl rfl ?_;refine g_go ?_;refine g_op rfl ?_
 refine f_call #[.agg (Us (ws ((sgR seed ls.flatten)))).toArray,.agg (Us (ws ((((sgK (sgRB seed ls.flatten) (sgKey seed) ls.flatten)) * (le (sgAB seed) % LL) % LL)))).toArray] (.agg (Us (ws ((sgS seed ls.flatten)))).toArray) rfl rfl rfl own_scadd (fun w1 h1=>by
   have:=scadd_f (x:=(sgR seed ls.flatten)) (y:=(((sgK (sgRB seed ls.flatten) (sgKey seed) ls.flatten)) * (le (sgAB seed) % LL) % LL)) (sgR_lt _ _) (ll_mod (((sgK (sgRB seed ls.flatten) (sgKey seed) ls.flatten)) * (le (sgAB seed) % LL))) w1
   rwa [sgS_eq] at this) rfl rfl ?_
 refine g_go ?_;refine g_op rfl ?_;refine f_call #[.agg (Us (ws ((sgS seed ls.flatten)))).toArray] (.agg (By (Nums.bytes 32 ((sgS seed ls.flatten)))).toArray) rfl rfl rfl own_schash (fun w1 h1=>schash_f ((sgS seed ls.flatten)) w1) rfl rfl ?_;refine g_go ?_;refine g_alloc z32 (W14).heap.size rfl rfl rfl rfl rfl (by kernel_rfl) (fun _ h=>h.size) (fun g w w' h hr=>⟨h.1,h.2.later hr⟩) fun g15 _ _ _ _=>?_;refine g_end fun W16 hw16 hF16=>?_;have b15:=(hF16 6 _ rfl).2;have ge15:=(hF16 6 _ rfl).1
 have n1_15 : g1 ≠ g15:=by have:=b1.lt; omega
 have n2_15 : g2 ≠ g15:=by have:=b2.lt; omega
 have n4_15 : g4 ≠ g15:=by have:=b4.lt; omega
 have n5_15 : g5 ≠ g15:=by have:=b5.lt; omega
 have n9_15 : g9 ≠ g15:=by have:=b9.lt; omega
 have n1100_15 : g1100 ≠ g15:=by have:=b1100.lt; omega
 have n1101_15 : g1101 ≠ g15:=by have:=b1101.lt; omega
 have n12_15 : g12 ≠ g15:=by have:=b12.lt; omega
 have q15 : w.heap.size ≤ g15:=Nat.le_trans hU.size ge15;clear ge15;clear hF16;replace b1:=b1.later hw16;replace b2:=b2.later hw16;replace b4:=b4.later hw16;replace b5:=b5.later hw16;replace b9:=b9.later hw16;replace b1100:=b1100.later hw16;replace b1101:=b1101.later hw16;replace b12:=b12.later hw16;replace hU:=hU.step hw16;clear hw16;refine l_set g15 _ ((By (Nums.bytes 32 ((sgS seed ls.flatten)))).toArray) rfl rfl rfl rfl rfl b15 (size_H ((bytes_len _ _))) (by rw [len_by ((bytes_len _ _))]; rfl) (By_oneA _) ?_;replace b1:=b1.rowFar n1_15 ((By (Nums.bytes 32 ((sgS seed ls.flatten)))).toArray);replace b2:=b2.rowFar n2_15 ((By (Nums.bytes 32 ((sgS seed ls.flatten)))).toArray);replace b4:=b4.rowFar n4_15 ((By (Nums.bytes 32 ((sgS seed ls.flatten)))).toArray);replace b5:=b5.rowFar n5_15 ((By (Nums.bytes 32 ((sgS seed ls.flatten)))).toArray);replace b9:=b9.rowFar n9_15 ((By (Nums.bytes 32 ((sgS seed ls.flatten)))).toArray);replace b1100:=b1100.rowFar n1100_15 ((By (Nums.bytes 32 ((sgS seed ls.flatten)))).toArray);replace b1101:=b1101.rowFar n1101_15 ((By (Nums.bytes 32 ((sgS seed ls.flatten)))).toArray);replace b12:=b12.rowFar n12_15 ((By (Nums.bytes 32 ((sgS seed ls.flatten)))).toArray);replace b15:=b15.row ((By (Nums.bytes 32 ((sgS seed ls.flatten)))).toArray);replace hU:=up_row hU q15 ((By (Nums.bytes 32 ((sgS seed ls.flatten)))).toArray);generalize World.setRow _ g15 ((By (Nums.bytes 32 ((sgS seed ls.flatten)))).toArray) = W17 at *;refine l_nil ?_;refine hK _ _ ?_;clear hK K;refine c_seq fun K hK=>?_;refine c_lit ?_;refine l_allocA ((By z64).toArray) rfl rfl rfl rfl zero64 fun W18 g18 hw18 hg18 b18=>?_
 have n1_18 : g1 ≠ g18:=by have:=b1.lt; omega
 have n2_18 : g2 ≠ g18:=by have:=b2.lt; omega
 have n4_18 : g4 ≠ g18:=by have:=b4.lt; omega
 have n5_18 : g5 ≠ g18:=by have:=b5.lt; omega
 have n9_18 : g9 ≠ g18:=by have:=b9.lt; omega
 have n1100_18 : g1100 ≠ g18:=by have:=b1100.lt; omega
 have n1101_18 : g1101 ≠ g18:=by have:=b1101.lt; omega
 have n12_18 : g12 ≠ g18:=by have:=b12.lt; omega
 have n15_18 : g15 ≠ g18:=by have:=b15.lt; omega
 have q18 : w.heap.size ≤ g18:=by rw [hg18]; exact hU.size
 replace b1:=b1.later hw18;replace b2:=b2.later hw18;replace b4:=b4.later hw18;replace b5:=b5.later hw18;replace b9:=b9.later hw18;replace b1100:=b1100.later hw18;replace b1101:=b1101.later hw18;replace b12:=b12.later hw18;replace b15:=b15.later hw18;replace hU:=hU.step hw18;clear hw18 hg18;refine l_nil ?_;refine hK _ _ ?_;clear hK K;refine c_seq fun K hK=>?_;refine c_g 2 (by decide) (by kernel_rfl) (by kernel_rfl) ?_;refine g_op rfl ?_;refine f_slice64l g18 rfl rfl rfl rfl rfl ?_;refine g_go ?_;refine g_op rfl ?_;refine f_slice32 g1100 rfl rfl rfl rfl rfl ?_;refine g_go ?_;refine g_end fun W19 hw19 hF19=>?_;clear hF19;replace b1:=b1.later hw19;replace b2:=b2.later hw19;replace b4:=b4.later hw19;replace b5:=b5.later hw19;replace b9:=b9.later hw19;replace b1100:=b1100.later hw19;replace b1101:=b1101.later hw19;replace b12:=b12.later hw19;replace b15:=b15.later hw19;replace b18:=b18.later hw19;replace hU:=hU.step hw19;clear hw19;refine l_copy g18 0 32 64 _ z64 (sgRB seed ls.flatten) (.slice (some ⟨g1100,0,none⟩) 32 32) rfl rfl rfl rfl rfl rfl b18 (SB.all (b1100.later (Up.refl _)) ((sgRB_len seed ls.flatten)) (by decide)) (by rw [sgRB_len]; decide) (by rw [sgRB_len]; decide) (by rw [sgRB_len]; decide) fun b18=>?_;replace b1:=b1.rowFar n1_18 (By (cop z64 0 (sgRB seed ls.flatten))).toArray;replace b2:=b2.rowFar n2_18 (By (cop z64 0 (sgRB seed ls.flatten))).toArray;replace b4:=b4.rowFar n4_18 (By (cop z64 0 (sgRB seed ls.flatten))).toArray;replace b5:=b5.rowFar n5_18 (By (cop z64 0 (sgRB seed ls.flatten))).toArray;replace b9:=b9.rowFar n9_18 (By (cop z64 0 (sgRB seed ls.flatten))).toArray;replace b1100:=b1100.rowFar n1100_18 (By (cop z64 0 (sgRB seed ls.flatten))).toArray;replace b1101:=b1101.rowFar n1101_18 (By (cop z64 0 (sgRB seed ls.flatten))).toArray;replace b12:=b12.rowFar n12_18 (By (cop z64 0 (sgRB seed ls.flatten))).toArray;replace b15:=b15.rowFar n15_18 (By (cop z64 0 (sgRB seed ls.flatten))).toArray;replace hU:=up_row hU q18 (By (cop z64 0 (sgRB seed ls.flatten))).toArray;generalize World.setRow _ g18 (By (cop z64 0 (sgRB seed ls.flatten))).toArray = W20 at *;refine l_nil ?_;refine hK _ _ ?_;clear hK K;refine c_seq fun K hK=>?_;refine c_g 2 (by decide) (by kernel_rfl) (by kernel_rfl) ?_;refine g_op rfl ?_;refine f_slice64h g18 rfl rfl rfl rfl rfl ?_;refine g_go ?_;refine g_op rfl ?_;refine f_slice32 g15 rfl rfl rfl rfl rfl ?_;refine g_go ?_;refine g_end fun W21 hw21 hF21=>?_;clear hF21;replace b1:=b1.later hw21;replace b2:=b2.later hw21;replace b4:=b4.later hw21;replace b5:=b5.later hw21;replace b9:=b9.later hw21;replace b1100:=b1100.later hw21;replace b1101:=b1101.later hw21;replace b12:=b12.later hw21;replace b15:=b15.later hw21;replace b18:=b18.later hw21;replace hU:=hU.step hw21;clear hw21;refine l_copy g18 32 32 32 _ (cop z64 0 (sgRB seed ls.flatten)) (Nums.bytes 32 ((sgS seed ls.flatten))) (.slice (some ⟨g15,0,none⟩) 32 32) rfl rfl rfl rfl rfl rfl b18 (SB.all (b15.later (Up.refl _)) ((bytes_len _ _)) (by decide)) (by rw [bytes_len]; decide) (by rw [bytes_len]; decide) (by rw [bytes_len]; rw [cop_len64 (sgRB_len _ _)]; decide) fun b18=>?_
 replace b1:=b1.rowFar n1_18 (By (cop (cop z64 0 (sgRB seed ls.flatten)) 32 (Nums.bytes 32 ((sgS seed ls.flatten))))).toArray;replace b2:=b2.rowFar n2_18 (By (cop (cop z64 0 (sgRB seed ls.flatten)) 32 (Nums.bytes 32 ((sgS seed ls.flatten))))).toArray;replace b4:=b4.rowFar n4_18 (By (cop (cop z64 0 (sgRB seed ls.flatten)) 32 (Nums.bytes 32 ((sgS seed ls.flatten))))).toArray;replace b5:=b5.rowFar n5_18 (By (cop (cop z64 0 (sgRB seed ls.flatten)) 32 (Nums.bytes 32 ((sgS seed ls.flatten))))).toArray;replace b9:=b9.rowFar n9_18 (By (cop (cop z64 0 (sgRB seed ls.flatten)) 32 (Nums.bytes 32 ((sgS seed ls.flatten))))).toArray;replace b1100:=b1100.rowFar n1100_18 (By (cop (cop z64 0 (sgRB seed ls.flatten)) 32 (Nums.bytes 32 ((sgS seed ls.flatten))))).toArray;replace b1101:=b1101.rowFar n1101_18 (By (cop (cop z64 0 (sgRB seed ls.flatten)) 32 (Nums.bytes 32 ((sgS seed ls.flatten))))).toArray;replace b12:=b12.rowFar n12_18 (By (cop (cop z64 0 (sgRB seed ls.flatten)) 32 (Nums.bytes 32 ((sgS seed ls.flatten))))).toArray;replace b15:=b15.rowFar n15_18 (By (cop (cop z64 0 (sgRB seed ls.flatten)) 32 (Nums.bytes 32 ((sgS seed ls.flatten))))).toArray;replace hU:=up_row hU q18 (By (cop (cop z64 0 (sgRB seed ls.flatten)) 32 (Nums.bytes 32 ((sgS seed ls.flatten))))).toArray;rw [sig_cop] at b1 b2 b4 b5 b9 b1100 b1101 b12 b15 b18 hU ⊢;generalize World.setRow _ g18 (By (sgSig seed ls.flatten)).toArray = W22 at *;refine l_nil ?_;refine hK _ _ ?_;clear hK K;refine c_seq fun K hK=>?_;refine c_gF 1 ?_;refine g_op rfl ?_;refine f_b64 g18 ((sgSig_len _ _)) rfl rfl rfl rfl rfl (fun _ h1=>(h1.1.blk b18).range) ?_;refine g_go ?_;refine g_end fun W23 hw23 hF23=>?_;clear hF23;replace b2:=b2.later hw23;replace hU:=hU.step hw23;clear hw23;refine l_set g2 _ ((By (sgSig seed ls.flatten)).toArray) rfl rfl rfl rfl rfl b2 (size_64 ((sgSig_len _ _))) (by rw [List.size_toArray,List.size_toArray,By_len,By_len,((sgSig_len _ _))]; rfl) (By_oneA _) ?_;replace b2:=b2.row ((By (sgSig seed ls.flatten)).toArray);replace hU:=up_row hU q2 ((By (sgSig seed ls.flatten)).toArray);generalize World.setRow _ g2 ((By (sgSig seed ls.flatten)).toArray) = W24 at *;refine l_nil ?_;refine hK _ _ ?_;clear hK K;exact c_ret (k_ret_row g2 _ rfl rfl b2 Tryz.underlying43 rfl (size_64 ((sgSig_len _ _))) ⟨rfl,hU⟩)
end Go.Proofs.YtlcbhbahchiofaaGreatDoor
/-
  PLAIN NUMBERS: rows of digits of 256, and L's. No program is imported.
-/
namespace Nums

def W2 : Nat → Int
  | 0=>1
  | k + 1=>256 * W2 k
end Nums
/-
  THE DOCUMENT'S OWN SCALARS: order, Below.
-/
namespace Go.Proofs.YtlcbhbahchiofaaGreatDoor
open Go.RowKit Go.IntWalk Nums

end Go.Proofs.YtlcbhbahchiofaaGreatDoor
/-
  PLAIN NUMBERS: a number of 33 digits less L, digit by digit. No program is imported.
-/
namespace Nums

end Nums
/-
  THE DOCUMENT'S OWN SCALARS: less.
-/
namespace Go.Proofs.YtlcbhbahchiofaaGreatDoor
open Go.RowKit Go.IntWalk Nums

end Go.Proofs.YtlcbhbahchiofaaGreatDoor
/-
  PLAIN NUMBERS: a number modulo L, bit by bit. No program is imported.
-/
namespace Nums


end Nums
/-
  THE DOCUMENT'S OWN SCALARS: Mod.
-/
namespace Go.Proofs.YtlcbhbahchiofaaGreatDoor
open Go.RowKit Go.IntWalk Nums

end Go.Proofs.YtlcbhbahchiofaaGreatDoor
/-
  PLAIN NUMBERS: sums of bytes. No program is imported.
-/
namespace Nums

theorem le_take {l : List UInt8} {k : Nat} (h : k < l.length) : le (l.take (k + 1)) = le (l.take k) + 256 ^ k * (l[k]!).toNat:=by
 rw [List.take_succ_eq_append_getElem h,le_append,List.length_take,Nat.min_eq_left (by omega),getElem!_pos l k h]
 show _ + _ * (l[k].toNat + 256 * 0) = _
 rw [Nat.mul_zero,Nat.add_zero]
theorem good_iff {b : List UInt8} (hb : b.length = 32) : decide (bytes 32 (le b % LL) = b) = decide (le b < LL):=by
 congr 1
 refine propext ⟨fun h=>?_,fun h=>?_⟩
 ·have h1:=congrArg le h
  rw [le_bytes] at h1;have h2 : le b % LL < LL:=Nat.mod_lt _ (by decide);have h3 : le b % LL % 256 ^ 32 = le b % LL:=Nat.mod_eq_of_lt (Nat.lt_trans h2 (by decide))
  omega
 ·apply le_inj (by rw [bytes_len,hb])
  rw [le_bytes,Nat.mod_eq_of_lt h,Nat.mod_eq_of_lt (Nat.lt_trans h (by decide))]
end Nums
/-
  THE PROGRAM'S SCALARS: New.
-/
namespace Go.Proofs.YtlcbhbahchiofaaGreatDoor
open Go.RowKit Go.IntWalk Nums

theorem own_scnew : Own 87:=fun _ _=>by go_simp

def z64v : Array Value:=(By (List.replicate 64 0)).toArray
section
variable {ops : Array Oper} {C0 : World → Prop} {Q : Act → Prop} {a : Act} {o : Oper} {rest : List Oper}
theorem b_by64 {l : List UInt8} (g : Nat) (hl : l.length = 64) (x : Operand) (hg : Region.wanted o (yielded ops a.tmps) = true) (ho : o.op = .load 43 x) (hx : a.eval x = .pointer (some ⟨g,0,none⟩))
  (hc : ∀ w,C0 w → Blk w g 43 (By l).toArray) (hk : wpB Tryz.prog ops C0 Q rest (a.put o.dst (.agg (By l).toArray))) : wpB Tryz.prog ops C0 Q (o :: rest) a :=
 b_mid hg 43 x ho g 0 hx (By l) _ (fun w h=>(hc w h).range) Tryz.underlying43 rfl (size_w64 (By l).toArray (len_b64 hl)) hk
end

theorem le_zero : ∀ n,le (List.replicate n 0) = 0
 | 0=>rfl
 | n + 1=>by
  show (0 : UInt8).toNat + 256 * le (List.replicate n 0) = 0
  rw [le_zero n]
  rfl
theorem cop_half {b : List UInt8} (hb : b.length = 32) : (cop (List.replicate 64 0) 0 b).length = 64 ∧ le (cop (List.replicate 64 0) 0 b) = le b:=by
 have e : cop (List.replicate 64 0) 0 b = b ++ List.replicate 32 0:=by
  simp [cop,hb]
 rw [e];refine ⟨by simp [hb],?_⟩;rw [le_append,le_zero,Nat.mul_zero,Nat.add_zero]

/-! ### New -/
set_option maxRecDepth 100000 in
set_option maxHeartbeats 1000000 in
theorem scnew_f {b : List UInt8} (hb : b.length = 32) (w : World) :
  Calls Tryz.prog 87 #[.agg (By b).toArray] w fun e w'=>e = .returned (.tuple #[.agg (Us (ws (if le b < LL then le b else 0))).toArray,.bool (decide (le b < LL))]) ∧ Below w.heap.size w w':=by
 obtain ⟨hl,hle⟩:=cop_half hb;have hE:=fun w1=>equal32 (Nums.bytes 32 (le b % LL)) b (bytes_len _ _) hb w1;rw [good_iff hb] at hE;have hW:=fun w1=>wide_f hl w1;rw [hle] at hW;clear hle
 go_enter Tryz.func87,Tryz.ntmps87
 refine wp_seq_k fun K hK=>?_;refine wp_region_lit ?_;refine wpl_box (By b).toArray rfl rfl rfl ?_;refine wpl_alloc (zs:=z4) rfl rfl (by kernel_rfl) ?_;refine wpl_assign rfl rfl ?_;refine wpl_nil ?_
 go_simp
 refine hK _ _ ?_;clear hK K;refine wp_seq_k fun K hK=>?_;refine wp_region_lit ?_;refine wpl_alloc (zs:=z64v) rfl rfl (by kernel_rfl) ?_;refine wpl_nil ?_
 go_simp
 refine hK _ _ ?_;clear hK K;refine wp_at (fun W=>Blk W w.heap.size 45 (By b).toArray ∧ Blk W (w.heap.size + 1) 87 z4 ∧ Blk W (w.heap.size + 1 + 1) 43 z64v ∧ Below w.heap.size w W) ⟨blk3_0 w _ _ _ _,blk3_1 w _ _ _ _,blk3_2 w _ _ _ _,(((Below.refl _ _).alloc (Nat.le_refl _) _).alloc (by simp) _).alloc (by simp; omega) _⟩ ?_
 rintro W ⟨h0,h1,h2,hbe⟩
 refine wp_seq_k fun K hK=>?_;refine reg_copy 2 (.tmp 6) (.tmp 7) rfl rfl rfl (tail_ok (by kernel_rfl)) (fun _ _ d _ _ h=>by cases d <;> exact h) (by kernel_rfl) ?_;simp only [List.take_succ_cons,List.take_zero];refine b_val (v:=.slice (some ⟨w.heap.size + 1 + 1,0,none⟩) 64 64) rfl (fun w1 h1=>by go_simp) ?_;simp only [Act.put,List.setIfInBounds_toArray,List.set_cons_zero,List.set_cons_succ];refine b_val (v:=.slice (some ⟨w.heap.size,0,none⟩) 32 32) rfl (fun w1 h1=>by go_simp) ?_;simp only [Act.put,List.setIfInBounds_toArray,List.set_cons_zero,List.set_cons_succ];refine wpB_nil ⟨w.heap.size + 1 + 1,0,64,64,w.heap.size,32,_,_,_,b,rfl,by rw [hb]; rfl,h2,h0,by omega,by rw [hb,List.length_replicate]; omega,fun W1 hw1=>?_⟩;simp only [Exit.then,Act.put,List.setIfInBounds_toArray,List.set_cons_zero,List.set_cons_succ];refine hK _ _ ?_;clear hK K;have k0:=(hw1.blk h0).rowFar (g':=w.heap.size + 1 + 1) (by omega) (By (cop (List.replicate 64 0) 0 b)).toArray;have k1:=(hw1.blk h1).rowFar (g':=w.heap.size + 1 + 1) (by omega) (By (cop (List.replicate 64 0) 0 b)).toArray;have k2:=(hw1.blk h2).row (By (cop (List.replicate 64 0) 0 b)).toArray;have kbe:=below_setRow (below_up hbe hw1) (g:=w.heap.size + 1 + 1) (by omega) (By (cop (List.replicate 64 0) 0 b)).toArray;clear hw1 h0 h1 h2 hbe;generalize cop (List.replicate 64 0) 0 b = l at *;generalize W1.setRow (w.heap.size + 1 + 1) (By l).toArray = W2 at *;have hz:=len_u4 (ws_len (le b % LL));refine wp_seq_k fun K hK=>?_;refine reg_varF 2 5 87 (.tmp 10) z4 rfl rfl rfl rfl rfl rfl rfl (exec_alloc rfl (by kernel_rfl)) ?_;simp only [List.take_succ_cons,List.take_zero];refine b_by64 (w.heap.size + 1 + 1) hl _ rfl rfl rfl (fun _ h=>h.blk k2) ?_;simp only [Act.put,List.setIfInBounds_toArray,List.set_cons_zero,List.set_cons_succ];refine b_one rfl own_wide (fun w1=>hW w1) rfl rfl ?_;simp only [Act.put,List.setIfInBounds_toArray,List.set_cons_zero,List.set_cons_succ];refine wpB_nil ⟨(Us (ws (le b % LL))).toArray,fun _=>rfl,fun _=>rfl,hz.symm,size_sc _ hz,Us_one _,fun gx W3 hgx hw1 hbx=>?_⟩;simp only [Exit.then,Act.put,List.setIfInBounds_toArray,List.set_cons_zero,List.set_cons_succ];refine hK _ _ ?_;clear hK K;have k0:=hw1.blk k0;have k1:=hw1.blk k1;have kbe:=below_up kbe hw1;clear hw1 k2 hW hl;refine wp_seq_k fun K hK=>?_;refine wp_seq_k fun K2 hK2=>?_;refine reg_q (by kernel_rfl) (tail_ok (by kernel_rfl)) (fun _ _ d _ _ h=>by cases d <;> exact h) ?_;refine b_sc gx (ws_len _) _ rfl rfl rfl (fun _ h=>h.blk hbx) ?_;simp only [Act.put,List.setIfInBounds_toArray,List.set_cons_zero,List.set_cons_succ];refine b_one rfl own_schash (fun w1=>schash_f (le b % LL) w1) rfl rfl ?_;simp only [Act.put,List.setIfInBounds_toArray,List.set_cons_zero,List.set_cons_succ];refine b_by w.heap.size hb _ rfl rfl rfl (fun _ h=>h.blk k0) ?_;simp only [Act.put,List.setIfInBounds_toArray,List.set_cons_zero,List.set_cons_succ]
 refine b_neq (By (Nums.bytes 32 (le b % LL))).toArray (By b).toArray rfl rfl rfl rfl (by kernel_rfl) hE ?_;simp only [Act.put,List.setIfInBounds_toArray,List.set_cons_zero,List.set_cons_succ];refine wpB_nil ?_
 intro W1 hw1
 simp only [Exit.then];refine hK2 _ _ ?_;clear hK2 K2;have hbx:=hw1.blk hbx;have k1:=hw1.blk k1;have kbe:=below_up kbe hw1;clear hw1 k0 hE
 by_cases hq : le b < LL
 ·rw [decide_eq_true hq]
  have hm : le b % LL = le b:=Nat.mod_eq_of_lt hq;rw [hm] at hbx hz;refine wp_cond (t:=false) rfl ?_;rw [if_neg (by decide)];refine wp_skip ?_;simp only [Exit.then];refine hK _ _ ?_;clear hK K;refine wp_seq_k fun K hK=>?_;refine wp_region_lit ?_;refine wpList_load_row rfl 87 _ rfl gx rfl 87 (Us (ws (le b))).toArray (0,0) _ hbx Tryz.underlying87 rfl (size_sc _ hz) ?_;simp only [Act.put,List.setIfInBounds_toArray,List.set_cons_zero,List.set_cons_succ];refine wpList_store_row rfl 87 _ _ rfl (w.heap.size + 1) rfl (Us (ws (le b))).toArray rfl 87 _ k1 (size_sc _ hz) (by rw [hz]; rfl) (Us_one _) ?_;refine wpl_assign rfl rfl ?_;refine wpl_nil ?_;simp only [Exit.then,Act.put,List.setIfInBounds_toArray,List.set_cons_zero,List.set_cons_succ];refine hK _ _ ?_;clear hK K;refine wp_ret ?_;refine bodyPost_ret (results_cell_tmp rfl _ _ (w.heap.size + 1) 87 (Us (ws (le b))).toArray (0,0) _ (.bool true) rfl rfl (k1.row _) Tryz.underlying87 rfl (size_sc _ hz)) rfl ⟨by rw [if_pos hq,decide_eq_true hq],?_⟩;exact below_setRow kbe (by omega) _
 ·rw [decide_eq_false hq]
  refine wp_cond (t:=true) rfl ?_;rw [if_pos rfl];refine wp_seq_k fun K2 hK2=>?_;refine wp_region_lit ?_;refine wpl_build (t:=87) [] z4 rfl rfl rfl (by kernel_rfl) ?_;simp only [Act.put,List.setIfInBounds_toArray,List.set_cons_zero,List.set_cons_succ];refine wpList_store_row rfl 87 _ _ rfl (w.heap.size + 1) rfl z4 rfl 87 _ k1 (size_sc _ rfl) rfl (Us_one _) ?_;refine wpl_assign rfl rfl ?_;refine wpl_nil ?_;simp only [Exit.then,Act.put,List.setIfInBounds_toArray,List.set_cons_zero,List.set_cons_succ];refine hK2 _ _ ?_;clear hK2 K2 hK;refine wp_ret ?_;simp only [Exit.then];refine bodyPost_ret (results_cell_tmp rfl _ _ (w.heap.size + 1) 87 z4 (0,0) _ (.bool false) rfl rfl (k1.row _) Tryz.underlying87 rfl (size_sc _ rfl)) rfl ⟨by rw [if_neg hq]; rfl,?_⟩;exact below_setRow kbe (by omega) _

end Go.Proofs.YtlcbhbahchiofaaGreatDoor
/-
  STEPS AT THE DOCUMENT'S OWN POINTS, over frames by what is known of them.
-/
namespace Go.Proofs.YtlcbhbahchiofaaGreatDoor
open Go.RowKit Go.IntWalk Nums

theorem own_cboth : Own 88:=fun _ _=>by go_simp
end Go.Proofs.YtlcbhbahchiofaaGreatDoor
