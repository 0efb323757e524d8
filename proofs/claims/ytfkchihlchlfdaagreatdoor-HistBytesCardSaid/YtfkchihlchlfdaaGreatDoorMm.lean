import Derived.Test.YtfkchihlchlfdaaGreatDoorMc
import Derived.Test.YtfkchihlchlfdaaGreatDoorMl
import Derived.Test.YtfkchihlchlfdaaGreatDoorMi
import Derived.Test.YtfkchihlchlfdaaGreatDoorMa
import Derived.Deep.AppendLies
import Derived.Test.YtfkchihlchlfdaaGreatDoorMg
import Derived.Deep.OwnRows
import Derived.OwnWalk
import Derived.Test.YtfkchihlchlfdaaGreatDoorMk
import Derived.Test.YtfkchihlchlfdaaGreatDoorMe
import Derived.Lib.SlBytesConst
set_option maxRecDepth 100000
set_option maxHeartbeats 2000000
open Go.Act renaming put->aG
open Go.Addr renaming add_mid->iS
open Go.Ending renaming returned->oB
open Go.Instr renaming indexAt->lN
open Go.Next renaming value->z9
open Go.Region renaming wanted->aN
open Go.Result renaming andThen_ok->aF,ok->Bo
open Go.Sem renaming run_bind->aJ,run_pure->aK
open Go.World renaming setRow->dT
open List renaming setIfInBounds_toArray->aA,set_cons_zero->aB,set_cons_succ->aC,replicate->aE,length_append->aI,append_assoc->aU,getElem?_eq_getElem->aX,length_take->aY,take_succ_cons->a6,size_toArray->a9,length_replicate->bH,mem_singleton->bK,take_zero->bP,append_nil->bV,take_of_length_le->bW,map_cons->cA,map_nil->gB,nil_append->kG,flatten_cons->lY,take_add_one->IX
open Nat renaming le_refl->aH,blt->aQ,mod_eq_of_lt->bR,zero_le->bZ,mod_lt->eJ,add_zero->fN,mul_comm->iH,le_trans->j6,lt_trans->Ab,mul_zero->Ga
open UInt8 renaming ofNat->cR
namespace Go.Proofs.YtfkchihlchlfdaaGreatDoor
open Go.RowKit Go.IntWalk Nums
theorem Cy : Own 52:=λ_ _=>by go_simp
theorem Aq : Own 53:=λ_ _=>by go_simp
theorem xV : Own 63:=λ_ _=>by go_simp
theorem JC : Own 29:=λ_ _=>by go_simp
theorem WK (m : Nat) (h : m < 256) : bits .and .u8 (m : Int) 248 = ((m / 8 * 8 : Nat) : Int):=by
 have key : ∀ m : Nat,m < 256 -> bits .and .u8 (m : Int) 248 = ((m / 8 * 8 : Nat) : Int):=by decide +kernel
 exact key m h
theorem Yw (m : Nat) (h : m < 256) : bits .or .u8 ((m % 128 : Nat) : Int) 64 = ((m % 64 + 64 : Nat) : Int):=by
 have key : ∀ m : Nat,m < 256 -> bits .or .u8 ((m % 128 : Nat) : Int) 64 = ((m % 64 + 64 : Nat) : Int):=by decide +kernel
 exact key m h
theorem LP {d : List UInt8} (h : d.length = 32) {k : Nat} (hk : k < 32) (x : UInt8) : (cop z64 0 d).set k x = cop z64 0 (d.set k x):=by
 simp only [cop,h,List.length_set,bP,kG];rw [List.set_append_left _ _ (by omega)]
theorem LQ {d : List UInt8} (h : d.length = 32) {k : Nat} (hk : k < 32) : (cop z64 0 d)[k]! = d[k]!:=by
 simp only [cop,bP,kG];rw [getElem!_pos _ k (by rw [aI]; omega),getElem!_pos _ k (by omega),List.getElem_append_left]
theorem Gz {seed : List UInt8} (hs : seed.length = 32) (w : World) (hT : Tsh w) :
  Calls Tryz.prog 52 #[.agg (By seed).toArray] w λe w'=>e = .returned (.tuple #[.agg (Us (ws (le (iR seed) % LL))).toArray,.agg (By (jJ seed)).toArray]) /\ Below w.heap.size w w':=by
 have hD:=BJ seed
 have hd32 : ((sgD seed).take 32).length = 32:=by rw [aY,hD]; rfl
 refine fI (vs:=[.agg (By seed).toArray]) 26 Tryz.func52 rfl (by rw [Tryz.ntmps52]; rfl) ?_;refine aO λK hK=>?_;refine eX ?_;refine gR (By seed).toArray rfl rfl rfl rfl rfl λW1 g1 hw1 hg1 b1=>?_;refine cY z4 rfl rfl rfl rfl (by kernel_rfl) λW2 g2 hw2 hg2 b2=>?_;refine cY z32 rfl rfl rfl rfl (by kernel_rfl) λW3 g3 hw3 hg3 b3=>?_;refine bI ?_;refine hK _ _ ?_;clear hK K;have l1:=b1.lt;have l2:=b2.lt;have l3:=b3.lt;have s1:=hw1.size;have s2:=hw2.size
 have n12 : g1 ≠ g2:=by omega
 have n23 : g2 ≠ g3:=by omega
 have n13 : g1 ≠ g3:=by omega
 have q2 : w.heap.size <= g2:=by omega
 have q3 : w.heap.size <= g3:=by omega
 replace b1:=(b1.later hw2).later hw3;replace b2:=b2.later hw3;have hU : Up w W3:=(hw1.step hw2).step hw3;replace hT:=hT.below hU;clear hw1 hw2 hw3 hg1 hg2 hg3 l1 l2 l3 s1 s2;refine aO λK hK=>?_;refine yF 4 ?_;refine cZ rfl ?_;refine mZ g1 rfl rfl rfl rfl rfl ?_;refine c9 ?_;refine vA [.slice (some ⟨g1,0,none⟩) 32 32] [seed] W3.heap.size rfl rfl rfl rfl rfl rfl rfl (by decide) (by decide) (λ_ h=>h.size) (λ_ h _=>⟨SB.all (b1.later h) hs (by decide),trivial⟩) λgs _ _ _=>?_;refine cZ rfl ?_
 refine dN #[.slice (some ⟨gs,0,none⟩) 1 1] (.agg (By (sgD seed)).toArray) rfl rfl rfl Cx (λw1 h=>by
  have:=Gv (some ⟨gs,0,none⟩) [seed] 1 w1 (hT.below h.1) (h.2 1 _ rfl (by kernel_rfl) : zY _ _ _ _ _).pt (aH _) (by decide)
  rwa [show [seed].flatten = seed from by simp] at this) rfl rfl ?_
 refine c9 ?_;refine zK (By z64).toArray W3.heap.size rfl rfl rfl rfl rfl BX (λ_ h=>h.size) (λg w w' h hr=>⟨h.1,h.2.later hr⟩) λg4 w4 _ hg4 _=>?_;refine jT λW4 hw4 hF=>?_;have b4:=(hF 3 _ rfl).2;clear hF
 have n14 : g1 ≠ g4:=by have:=b1.lt; omega
 have n24 : g2 ≠ g4:=by have:=b2.lt; omega
 have n34 : g3 ≠ g4:=by have:=b3.lt; omega
 have q4 : w.heap.size <= g4:=j6 hU.size hg4;refine mY g4 _ (By (sgD seed)).toArray rfl rfl rfl rfl rfl b4 (yR hD) (by rw [a9,a9,cD,cD,hD]; rfl) (kT _) ?_;refine bI ?_;refine hK _ _ ?_;clear hK K;replace b2:=(b2.later hw4).aT n24 (By (sgD seed)).toArray;replace b3:=(b3.later hw4).aT n34 (By (sgD seed)).toArray;replace b4:=b4.row (By (sgD seed)).toArray;replace hU:=cT (hU.step hw4) q4 (By (sgD seed)).toArray;clear hT b1 n12 n13 n14 hg4 hw4;generalize W4.setRow g4 (By (sgD seed)).toArray = W5 at *;refine aO λK hK=>?_;refine eX ?_;refine cY (By z64).toArray rfl rfl rfl rfl BX λW6 g5 hw6 hg5 b5=>?_;refine bI ?_;refine hK _ _ ?_;clear hK K
 have n25 : g2 ≠ g5:=by have:=b2.lt; omega
 have n35 : g3 ≠ g5:=by have:=b3.lt; omega
 have n45 : g4 ≠ g5:=by have:=b4.lt; omega
 have q5 : w.heap.size <= g5:=by rw [hg5]; exact hU.size
 replace b2:=b2.later hw6;replace b3:=b3.later hw6;replace b4:=b4.later hw6;replace hU:=hU.step hw6;clear hw6 hg5
 -- the number's bytes
 refine aO λK hK=>?_;refine c_g 2 (by decide) (by kernel_rfl) (by kernel_rfl) ?_;refine cZ rfl ?_;refine tJ g5 rfl rfl rfl rfl rfl ?_;refine c9 ?_;refine cZ rfl ?_;refine tJ g4 rfl rfl rfl rfl rfl ?_;refine c9 ?_;refine jT λW7 hw7 _=>?_;replace b2:=b2.later hw7;replace b3:=b3.later hw7;replace b4:=b4.later hw7;replace b5:=b5.later hw7;replace hU:=hU.step hw7;refine JS g5 0 32 64 _ z64 ((sgD seed).take 32) (.slice (some ⟨g4,0,none⟩) 32 64) rfl rfl rfl rfl rfl rfl b5 (SB.arr b4 (by rw [List.drop_zero]) hd32 (by decide) (by decide)) (by rw [hd32]; decide) (by rw [hd32]; exact aH _) (by rw [hd32]; decide) λb5=>?_;replace b2:=b2.aT n25 (By (cop z64 0 ((sgD seed).take 32))).toArray;replace b3:=b3.aT n35 (By (cop z64 0 ((sgD seed).take 32))).toArray;replace b4:=b4.aT n45 (By (cop z64 0 ((sgD seed).take 32))).toArray;replace hU:=cT hU q5 (By (cop z64 0 ((sgD seed).take 32))).toArray;generalize W7.setRow g5 (By (cop z64 0 ((sgD seed).take 32))).toArray = W8 at *;refine bI ?_;refine hK _ _ ?_;clear hK K hw7;obtain ⟨d,hd⟩ : ∃ d,d = (sgD seed).take 32:=⟨_,rfl⟩;rw [<-hd] at b5 hd32;have x0:=(d[0]!).toNat_lt;have c0:=(b5.cell 0).trans (gJ (l:=cop z64 0 d) (j:=0) (by rw [wR hd32]; decide));rw [LQ hd32 (by decide)] at c0
 have e0 : ((cR ((d[0]!).toNat / 8 * 8)).toNat : Int) = (((d[0]!).toNat / 8 * 8 : Nat) : Int):=by rw [ofNat_toNat (by omega)]
 refine aO λK hK=>?_;refine lL 4 ?_;refine uE _ 0 ⟨g5,0,none⟩ rfl rfl rfl rfl rfl rfl (Tx _ 0 (by decide)) ?_;refine dA ⟨g5,0,none⟩ (.int .u8 ((d[0]!).toNat : Int)) (by decide) rfl rfl rfl rfl rfl (λ_ h1=>(h1.cell b5.lt).trans c0) ?_;refine FL _ 248 (((d[0]!).toNat / 8 * 8 : Nat) : Int) rfl rfl rfl rfl rfl rfl (WK _ x0) ?_;refine uE _ 0 ⟨g5,0,none⟩ rfl rfl rfl rfl rfl rfl (Tx _ 0 (by decide)) ?_;refine mP ⟨g5,0,none⟩ (((d[0]!).toNat / 8 * 8 : Nat) : Int) _ (.inr ⟨rfl,rfl⟩) rfl rfl rfl rfl rfl c0 (b5.free 0) b5.lt λw9 hw9=>?_;replace b2:=(b2.later hw9).far (p:=⟨g5,0,none⟩) n25 (.int .u8 (((d[0]!).toNat / 8 * 8 : Nat) : Int));replace b3:=(b3.later hw9).far (p:=⟨g5,0,none⟩) n35 (.int .u8 (((d[0]!).toNat / 8 * 8 : Nat) : Int));replace b4:=(b4.later hw9).far (p:=⟨g5,0,none⟩) n45 (.int .u8 (((d[0]!).toNat / 8 * 8 : Nat) : Int));replace b5:=(b5.later hw9).set 0 (.int .u8 (((d[0]!).toNat / 8 * 8 : Nat) : Int));replace hU : Up w _:=(hU.step hw9).setCell (p:=⟨g5,0,none⟩) q5 (.int .u8 (((d[0]!).toNat / 8 * 8 : Nat) : Int));rw [<-e0,rX,LP hd32 (by decide)] at b5;rw [<-e0] at b2 b3 b4 hU ⊢;have e1 : d.set 0 (cR ((d[0]!).toNat / 8 * 8)) = qP d:=rfl;rw [e1] at b5;generalize w9.setCell ⟨g5,0,none⟩ (.int .u8 ((cR ((d[0]!).toNat / 8 * 8)).toNat : Int)) = W9 at *;refine hK _ _ ?_;clear hK K hw9 c0 x0 e0 e1
 have hl32 : (qP d).length = 32:=by rw [CI,hd32]
 have x1:=((qP d)[31]!).toNat_lt;have c1:=(b5.cell 31).trans (gJ (l:=cop z64 0 (qP d)) (j:=31) (by rw [wR hl32]; decide));rw [LQ hl32 (by decide)] at c1
 have e0 : ((cR (((qP d)[31]!).toNat % 64 + 64)).toNat : Int) = ((((qP d)[31]!).toNat % 64 + 64 : Nat) : Int):=by rw [ofNat_toNat (by omega)]
 refine aO λK hK=>?_;refine lL 5 ?_;refine uE _ 31 ⟨g5,31,none⟩ rfl rfl rfl rfl rfl rfl (Tx _ 31 (by decide)) ?_;refine dA ⟨g5,31,none⟩ (.int .u8 (((qP d)[31]!).toNat : Int)) (by decide) rfl rfl rfl rfl rfl (λ_ h1=>(h1.cell b5.lt).trans c1) ?_;refine FL _ 127 ((((qP d)[31]!).toNat % 128 : Nat) : Int) rfl rfl rfl rfl rfl rfl (XE _ x1) ?_;refine LD _ 64 ((((qP d)[31]!).toNat % 64 + 64 : Nat) : Int) rfl rfl rfl rfl rfl rfl (Yw _ x1) ?_;refine uE _ 31 ⟨g5,31,none⟩ rfl rfl rfl rfl rfl rfl (Tx _ 31 (by decide)) ?_;refine mP ⟨g5,31,none⟩ ((((qP d)[31]!).toNat % 64 + 64 : Nat) : Int) _ (.inr ⟨rfl,rfl⟩) rfl rfl rfl rfl rfl c1 (b5.free 31) b5.lt λw9 hw9=>?_;replace b2:=(b2.later hw9).far (p:=⟨g5,31,none⟩) n25 (.int .u8 ((((qP d)[31]!).toNat % 64 + 64 : Nat) : Int));replace b3:=(b3.later hw9).far (p:=⟨g5,31,none⟩) n35 (.int .u8 ((((qP d)[31]!).toNat % 64 + 64 : Nat) : Int));replace b4:=(b4.later hw9).far (p:=⟨g5,31,none⟩) n45 (.int .u8 ((((qP d)[31]!).toNat % 64 + 64 : Nat) : Int));replace b5:=(b5.later hw9).set 31 (.int .u8 ((((qP d)[31]!).toNat % 64 + 64 : Nat) : Int));replace hU : Up w _:=(hU.step hw9).setCell (p:=⟨g5,31,none⟩) q5 (.int .u8 ((((qP d)[31]!).toNat % 64 + 64 : Nat) : Int));rw [<-e0,rX,LP hl32 (by decide)] at b5;rw [<-e0] at b2 b3 b4 hU ⊢
 have e1 : (qP d).set 31 (cR (((qP d)[31]!).toNat % 64 + 64)) = iR seed:=by rw [hd]; rfl
 rw [e1] at b5;generalize w9.setCell ⟨g5,31,none⟩ (.int .u8 ((cR (((qP d)[31]!).toNat % 64 + 64)).toNat : Int)) = W10 at *;refine eC (E':=[(2,.pointer (some ⟨g2,0,none⟩)),(3,.pointer (some ⟨g3,0,none⟩)),(4,.pointer (some ⟨g4,0,none⟩)),(5,.pointer (some ⟨g5,0,none⟩))]) ⟨rfl,rfl,rfl,rfl,trivial⟩ ?_;refine hK _ _ ?_;clear hK K hw9 c1 x1 e0 e1 hl32 hd hd32 d;have hA:=OA seed;have hle:=VU hA;have hlen:=wR hA;have hpl:=pU seed
 -- what is handed back
 refine aO λK hK=>?_;refine Yg (Rel:=mM g2 93 (Us (ws (le (iR seed) % LL))).toArray) (C0:=mM g2 93 (Us (ws (le (iR seed) % LL))).toArray W10) 6 (λ_ _ h k=>h.trans k) (mM.of (Up.drew W10)) (by decide) (by kernel_rfl) (by kernel_rfl) ?_;refine cZ rfl ?_;refine QT g5 hlen rfl rfl rfl rfl rfl (λ_ h=>(h.1.far b5 n25.symm).range) ?_;refine c9 ?_;refine cZ rfl ?_
 refine dN #[.agg (By (cop z64 0 (iR seed))).toArray] (.agg (Us (ws (le (iR seed) % LL))).toArray) rfl rfl rfl Cu (λw1 _=>by
  have:=I3 hlen w1
  rwa [hle] at this) rfl rfl ?_
 refine c9 ?_;refine cZ rfl ?_;refine yC g4 rfl rfl rfl rfl rfl ?_;refine c9 ?_;refine cZ rfl ?_;refine J7 (some ⟨g4,32,none⟩) 32 rfl rfl rfl rfl rfl ?_;refine c9 ?_;refine cZ rfl ?_
 refine uF g4 32 hpl rfl rfl rfl rfl rfl (λ_ h=>by
  have:=(h.1.far b4 n24.symm).part 32 32
  have e : ((By (sgD seed)).drop 32).take 32 = By (jJ seed):=by
   rw [jJ,By,By,<-List.map_drop,<-List.map_take,bW (by rw [List.length_drop,hD]; decide)]
  rwa [e] at this) ?_
 refine c9 ?_;refine TK g2 (Us (ws (le (iR seed) % LL))).toArray rfl rfl rfl rfl rfl rfl (qI _) (bU _) (λw1 h=>?_) (λw1 w2 h hr=>hr.self h) ?_
 ·rcases h.here b2.lt with h1 | h1
  ·exact ⟨_,h1.trans b2,by rw [aV (fA _)]; rfl,mM.set (h1.trans b2)⟩
  ·exact ⟨_,h1,rfl,mM.set h1⟩
 refine jT λW11 hw11 hF=>?_;have d2 : Blk W11 g2 93 (Us (ws (le (iR seed) % LL))).toArray:=hF 5 _ rfl;have d3:=hw11.far b3 n23.symm;refine mY g3 _ (By (jJ seed)).toArray rfl rfl rfl rfl rfl d3 (lQ hpl) (by rw [jQ hpl]; rfl) (kT _) ?_;refine bI ?_;refine hK _ _ ?_;clear hK K;have r2:=d2.aT n23 (By (jJ seed)).toArray;have r3:=d3.row (By (jJ seed)).toArray;have r:=cT (hw11.up hU q2) q3 (By (jJ seed)).toArray;refine gX λa ha=>?_;exact bodyPost_ret (Dx rfl _ _ g2 g3 _ _ _ _ (0,0) (0,0) _ _ (ha.at rfl) (ha.at rfl) r2 r3 Tryz.underlying93 rfl (qI _) Tryz.underlying27 rfl (lQ hpl)) ha.defers ⟨rfl,r⟩
theorem FV {n : Nat} (hn : n < LL) (w : World) (hT : Tw w) :
  Calls Tryz.prog 53 #[.agg (Us (ws n)).toArray] w λe w'=>e = .returned (.agg (By (eV (Ed.mul dd n base))).toArray) /\ Below w.heap.size w w':=by
 have hb:=cP 32 n;have hle:=wJ hn;refine fI (vs:=[.agg (Us (ws n)).toArray]) 8 Tryz.func53 rfl (by rw [Tryz.ntmps53]; rfl) ?_;refine aO λK hK=>?_;refine eX ?_;refine gR (Us (ws n)).toArray rfl rfl rfl rfl rfl λW1 g1 hw1 hg1 b1=>?_;refine cY z32 rfl rfl rfl rfl (by kernel_rfl) λW2 g2 hw2 hg2 b2=>?_;refine bI ?_;refine hK _ _ ?_;clear hK K;replace b1:=b1.later hw2;have hU : Up w W2:=hw1.step hw2;replace hT:=hT.below hU
 have q2 : w.heap.size <= g2:=by rw [hg2]; exact hw1.size
 clear hw1 hw2 hg1 hg2;refine aO λK hK=>?_;refine c_t 5 (by decide) (by kernel_rfl) (cJ (by kernel_rfl)) (λ_ _ d _ _ h=>by cases d <;> exact h) ?_;refine fC #[] (QB · base) rfl rfl rfl Eh (λw1 _=>LX w1) rfl rfl λr3 v3=>?_;refine FK g1 n rfl rfl rfl rfl rfl (λ_ h1=>(h1.blk b1).range) ?_;refine dN #[.agg (Us (ws n)).toArray] (.agg (By (Nums.bytes 32 n)).toArray) rfl rfl rfl qM (λw1 _=>uP n w1) rfl rfl ?_
 refine fC #[.agg (Us r3).toArray,.agg (By (Nums.bytes 32 n)).toArray] (PB · (Ed.mul dd n base)) rfl rfl rfl PF (λw1 h1=>by
  have:=WB (.inr v3) hb w1 (hT.below h1)
  rwa [hle] at this) rfl rfl λr6 v6=>?_
 refine dN #[.agg (Us r6).toArray] (.agg (By (eV (Ed.mul dd n base))).toArray) rfl rfl rfl Eg (λw1 h1=>LU v6 w1 (hT.below h1)) rfl rfl ?_;refine iW g2 _ (By (eV (Ed.mul dd n base))).toArray rfl rfl rfl rfl rfl b2 (lQ (gW _)) (by rw [jQ (gW _)]; rfl) (kT _) λw4 hw4 c4=>?_;refine bI ?_;refine hK _ _ ?_;clear hK K;exact gX (eH g2 _ rfl rfl c4 Tryz.underlying27 rfl (lQ (gW _)) ⟨rfl,cT (hU.step hw4) q2 _⟩)
structure Ta (w : World) : Prop where
  tw : Tw w
  sh : Tsh w
theorem Ta.below {w w' : World} (h : Ta w) (hb : Below w.heap.size w w') : Ta w':=⟨h.tw.below hb,h.sh.below hb⟩
theorem UL (seed : List UInt8) : eV (Ed.mul dd (le (iR seed) % LL) base) = gV seed:=by rw [VO]; rfl
theorem O3 {seed : List UInt8} (hs : seed.length = 32) (w : World) (hT : Ta w) :
  Calls Tryz.prog 29 #[.agg (By seed).toArray] w λe w'=>e = .returned (.agg (By (gV seed)).toArray) /\ Below w.heap.size w w':=by
 refine fI (vs:=[.agg (By seed).toArray]) 12 Tryz.func29 rfl (by rw [Tryz.ntmps29]; rfl) ?_;have hU:=Up.refl w;refine aO λK hK=>?_;refine eX ?_;refine gR ((By seed).toArray) rfl rfl rfl rfl rfl λW1 g1 hw1 hg1 b1=>?_;replace hU:=hU.step hw1;clear hw1 hg1;refine cY z32 rfl rfl rfl rfl (by kernel_rfl) λW2 g2 hw2 hg2 b2=>?_
 have q2 : w.heap.size <= g2:=by rw [hg2]; exact hU.size
 replace b1:=b1.later hw2;replace hU:=hU.step hw2;clear hw2 hg2;refine bI ?_;refine hK _ _ ?_;clear hK K;refine aO λK hK=>?_;refine yF 5 ?_;refine cZ rfl ?_;refine uF g1 0 hs rfl rfl rfl rfl rfl (λ_ h1=>(h1.1.blk b1).range) ?_;refine c9 ?_;refine cZ rfl ?_;refine dN #[.agg (By seed).toArray] (.tuple #[.agg (Us (ws (le (iR seed) % LL))).toArray,.agg (By (jJ seed)).toArray]) rfl rfl rfl Cy (λw1 h1=>Gz hs w1 (hT.below (hU.step h1.1)).sh) rfl rfl ?_;refine c9 ?_;refine cZ rfl ?_;refine aM (.tuple #[.agg (Us (ws (le (iR seed) % LL))).toArray,.agg (By (jJ seed)).toArray]) rfl rfl rfl rfl rfl ?_;refine c9 ?_;refine cZ rfl ?_;refine dY (.agg (Us (ws (le (iR seed) % LL))).toArray) rfl rfl rfl rfl rfl rfl ?_;refine c9 ?_;refine cZ rfl ?_;refine dY (.agg (By (jJ seed)).toArray) rfl rfl rfl rfl rfl rfl ?_;refine c9 ?_;refine jT λW3 hw3 hF3=>?_;clear hF3;replace b2:=b2.later hw3;replace hU:=hU.step hw3;clear hw3;refine cY z4 rfl rfl rfl rfl (by kernel_rfl) λW4 g4 hw4 hg4 b4=>?_
 have n2_4 : g2 ≠ g4:=by have:=b2.lt; omega
 have q4 : w.heap.size <= g4:=by rw [hg4]; exact hU.size
 replace b2:=b2.later hw4;replace hU:=hU.step hw4;clear hw4 hg4;refine cY z32 rfl rfl rfl rfl (by kernel_rfl) λW5 g5 hw5 hg5 b5=>?_
 have n2_5 : g2 ≠ g5:=by have:=b2.lt; omega
 have n4_5 : g4 ≠ g5:=by have:=b4.lt; omega
 have q5 : w.heap.size <= g5:=by rw [hg5]; exact hU.size
 replace b2:=b2.later hw5;replace b4:=b4.later hw5;replace hU:=hU.step hw5;clear hw5 hg5;refine mY g4 _ ((Us (ws (le (iR seed) % LL))).toArray) rfl rfl rfl rfl rfl b4 (qI _) (by rw [aV (fA _)]; rfl) (bU _) ?_;replace b2:=b2.aT n2_4 ((Us (ws (le (iR seed) % LL))).toArray);replace b5:=b5.aT n4_5.symm ((Us (ws (le (iR seed) % LL))).toArray);replace b4:=b4.row ((Us (ws (le (iR seed) % LL))).toArray);replace hU:=cT hU q4 ((Us (ws (le (iR seed) % LL))).toArray);generalize dT _ g4 ((Us (ws (le (iR seed) % LL))).toArray) = W6 at *;refine mY g5 _ ((By (jJ seed)).toArray) rfl rfl rfl rfl rfl b5 (lQ ((pU seed))) (by rw [jQ ((pU seed))]; rfl) (kT _) ?_;replace b2:=b2.aT n2_5 ((By (jJ seed)).toArray);replace b4:=b4.aT n4_5 ((By (jJ seed)).toArray);replace hU:=cT hU q5 ((By (jJ seed)).toArray);generalize dT _ g5 ((By (jJ seed)).toArray) = W7 at *;refine bI ?_;refine hK _ _ ?_;clear hK K;refine aO λK hK=>?_;refine yF 2 ?_;refine cZ rfl ?_;refine FK g4 (le (iR seed) % LL) rfl rfl rfl rfl rfl (λ_ h1=>(h1.1.blk b4).range) ?_;refine c9 ?_;refine cZ rfl ?_
 refine dN #[.agg (Us (ws (le (iR seed) % LL))).toArray] (.agg (By (gV seed)).toArray) rfl rfl rfl Aq (λw1 h1=>by
   have:=FV (Fw (le (iR seed))) w1 (hT.below (hU.step h1.1)).tw
   rwa [UL] at this) rfl rfl ?_
 refine c9 ?_;refine jT λW8 hw8 hF8=>?_;clear hF8;replace b2:=b2.later hw8;replace hU:=hU.step hw8;clear hw8;refine mY g2 _ ((By (gV seed)).toArray) rfl rfl rfl rfl rfl b2 (lQ ((l6 _))) (by rw [jQ ((l6 _))]; rfl) (kT _) ?_;replace b2:=b2.row ((By (gV seed)).toArray);replace hU:=cT hU q2 ((By (gV seed)).toArray);generalize dT _ g2 ((By (gV seed)).toArray) = W9 at *;refine bI ?_;refine hK _ _ ?_;clear hK K;exact gX (eH g2 _ rfl rfl b2 Tryz.underlying27 rfl (lQ ((l6 _))) ⟨rfl,hU⟩)
theorem Py : Own 50:=λ_ _=>by go_simp
theorem Vn {seed m : List UInt8} : le (eO eT (jJ seed ++ ([] ++ m))) % LL = sgR seed m:=rfl
theorem Ox (seed m : List UInt8) : sgR seed m < LL:=At _
theorem Sn {seed m : List UInt8} : eV (Ed.mul dd (sgR seed m) base) = iB seed m:=rfl
theorem Oz {R key m : List UInt8} : le (eO eT (R ++ (key ++ m))) % LL = sgK R key m:=rfl
theorem Oy (R key m : List UInt8) : sgK R key m < LL:=At _
theorem Vm {seed m : List UInt8} : (sgR seed m + sgK (iB seed m) (gV seed) m * (le (iR seed) % LL) % LL) % LL = sgS seed m:=by
 rw [sgS,Nat.mul_mod_mod,Nat.add_mod_mod]
theorem Sm {seed m : List UInt8} : cop (cop z64 0 (iB seed m)) 32 (Nums.bytes 32 (sgS seed m)) = jZ seed m:=by
 have h1:=jI seed m;have h2:=cP 32 (sgS seed m)
 have e : cop z64 0 (iB seed m) = iB seed m ++ aE 32 0:=by
  rw [cop,h1]
  simp [z64]
 rw [e,cop,h2,List.take_append_of_le_length (by rw [h1]; exact aH _),bW (by rw [h1]; exact aH _),List.drop_of_length_le (by rw [aI,h1,bH]; exact aH _),bV]
 rfl
theorem Vk {seed : List UInt8} {P : Option Addr} {ls : List (List UInt8)} {pc : Nat} (hs : seed.length = 32) (w : World) (hT : Ta w) (hP : PT w P ls) (h0 : P = none -> pc = 0) (hls : ls.length <= 1000000) :
  Calls Tryz.prog 50 #[.agg (By seed).toArray,.slice P ls.length pc] w λe w'=>e = .returned (.agg (By (jZ seed ls.flatten)).toArray) /\ Below w.heap.size w w':=by
 refine fI (vs:=[.agg (By seed).toArray,.slice P ls.length pc]) 42 Tryz.func50 rfl (by rw [Tryz.ntmps50]; rfl) ?_;have hU:=Up.refl w;refine aO λK hK=>?_;refine eX ?_;refine gR ((By seed).toArray) rfl rfl rfl rfl rfl λW1 g1 hw1 hg1 b1=>?_;replace hU:=hU.step hw1;clear hw1 hg1;refine cY ((By z64).toArray) rfl rfl rfl rfl BX λW2 g2 hw2 hg2 b2=>?_
 have q2 : w.heap.size <= g2:=by rw [hg2]; exact hU.size
 replace b1:=b1.later hw2;replace hU:=hU.step hw2;clear hw2 hg2;refine bI ?_;refine hK _ _ ?_;clear hK K;refine aO λK hK=>?_;refine yF 5 ?_;refine cZ rfl ?_;refine uF g1 0 hs rfl rfl rfl rfl rfl (λ_ h1=>(h1.1.blk b1).range) ?_;refine c9 ?_;refine cZ rfl ?_;refine dN #[.agg (By seed).toArray] (.tuple #[.agg (Us (ws (le (iR seed) % LL))).toArray,.agg (By (jJ seed)).toArray]) rfl rfl rfl Cy (λw1 h1=>Gz hs w1 (hT.below (hU.step h1.1)).sh) rfl rfl ?_;refine c9 ?_;refine cZ rfl ?_;refine aM (.tuple #[.agg (Us (ws (le (iR seed) % LL))).toArray,.agg (By (jJ seed)).toArray]) rfl rfl rfl rfl rfl ?_;refine c9 ?_;refine cZ rfl ?_;refine dY (.agg (Us (ws (le (iR seed) % LL))).toArray) rfl rfl rfl rfl rfl rfl ?_;refine c9 ?_;refine cZ rfl ?_;refine dY (.agg (By (jJ seed)).toArray) rfl rfl rfl rfl rfl rfl ?_;refine c9 ?_;refine jT λW3 hw3 hF3=>?_;clear hF3;replace b1:=b1.later hw3;replace b2:=b2.later hw3;replace hU:=hU.step hw3;clear hw3;refine cY z4 rfl rfl rfl rfl (by kernel_rfl) λW4 g4 hw4 hg4 b4=>?_
 have n1_4 : g1 ≠ g4:=by have:=b1.lt; omega
 have n2_4 : g2 ≠ g4:=by have:=b2.lt; omega
 have q4 : w.heap.size <= g4:=by rw [hg4]; exact hU.size
 replace b1:=b1.later hw4;replace b2:=b2.later hw4;replace hU:=hU.step hw4;clear hw4 hg4;refine cY z32 rfl rfl rfl rfl (by kernel_rfl) λW5 g5 hw5 hg5 b5=>?_
 have n1_5 : g1 ≠ g5:=by have:=b1.lt; omega
 have n2_5 : g2 ≠ g5:=by have:=b2.lt; omega
 have n4_5 : g4 ≠ g5:=by have:=b4.lt; omega
 have q5 : w.heap.size <= g5:=by rw [hg5]; exact hU.size
 replace b1:=b1.later hw5;replace b2:=b2.later hw5;replace b4:=b4.later hw5;replace hU:=hU.step hw5;clear hw5 hg5;refine mY g4 _ ((Us (ws (le (iR seed) % LL))).toArray) rfl rfl rfl rfl rfl b4 (qI _) (by rw [aV (fA _)]; rfl) (bU _) ?_;replace b1:=b1.aT n1_4 ((Us (ws (le (iR seed) % LL))).toArray);replace b2:=b2.aT n2_4 ((Us (ws (le (iR seed) % LL))).toArray);replace b5:=b5.aT n4_5.symm ((Us (ws (le (iR seed) % LL))).toArray);replace b4:=b4.row ((Us (ws (le (iR seed) % LL))).toArray);replace hU:=cT hU q4 ((Us (ws (le (iR seed) % LL))).toArray);generalize dT _ g4 ((Us (ws (le (iR seed) % LL))).toArray) = W6 at *;refine mY g5 _ ((By (jJ seed)).toArray) rfl rfl rfl rfl rfl b5 (lQ ((pU seed))) (by rw [jQ ((pU seed))]; rfl) (kT _) ?_;replace b1:=b1.aT n1_5 ((By (jJ seed)).toArray);replace b2:=b2.aT n2_5 ((By (jJ seed)).toArray);replace b4:=b4.aT n4_5 ((By (jJ seed)).toArray);replace b5:=b5.row ((By (jJ seed)).toArray);replace hU:=cT hU q5 ((By (jJ seed)).toArray);generalize dT _ g5 ((By (jJ seed)).toArray) = W7 at *;refine bI ?_;refine hK _ _ ?_;clear hK K;refine aO λK hK=>?_;refine yF 3 ?_;refine cZ rfl ?_;refine mZ g5 rfl rfl rfl rfl rfl ?_;refine c9 ?_;refine cZ rfl ?_;refine aM (.slice P ls.length pc) rfl rfl rfl rfl rfl ?_;refine c9 ?_;refine cZ rfl ?_
 refine dN #[.slice (some ⟨g5,0,none⟩) 32 32,.slice none 0 0,.slice P ls.length pc] (.agg (Us (ws ((sgR seed ls.flatten)))).toArray) rfl rfl rfl xV (λw1 h1=>by
   have:=CE (P:=P) (ls:=ls) (pc:=pc) w1 (hT.below (hU.step h1.1)).sh (SB.all (b5.later h1.1) ((pU seed)) (by decide)) (SB.nil _) (hP.later (hU.step h1.1)) h0 hls
   rwa [Vn] at this) rfl rfl ?_
 refine c9 ?_;refine jT λW8 hw8 hF8=>?_;clear hF8;replace b1:=b1.later hw8;replace b2:=b2.later hw8;replace b4:=b4.later hw8;replace b5:=b5.later hw8;replace hU:=hU.step hw8;clear hw8;refine cY z4 rfl rfl rfl rfl (by kernel_rfl) λW9 g9 hw9 hg9 b9=>?_
 have n1_9 : g1 ≠ g9:=by have:=b1.lt; omega
 have n2_9 : g2 ≠ g9:=by have:=b2.lt; omega
 have n4_9 : g4 ≠ g9:=by have:=b4.lt; omega
 have n5_9 : g5 ≠ g9:=by have:=b5.lt; omega
 have q9 : w.heap.size <= g9:=by rw [hg9]; exact hU.size
 replace b1:=b1.later hw9;replace b2:=b2.later hw9;replace b4:=b4.later hw9;replace b5:=b5.later hw9;replace hU:=hU.step hw9;clear hw9 hg9;refine mY g9 _ ((Us (ws ((sgR seed ls.flatten)))).toArray) rfl rfl rfl rfl rfl b9 (qI _) (by rw [aV (fA _)]; rfl) (bU _) ?_;replace b1:=b1.aT n1_9 ((Us (ws ((sgR seed ls.flatten)))).toArray);replace b2:=b2.aT n2_9 ((Us (ws ((sgR seed ls.flatten)))).toArray);replace b4:=b4.aT n4_9 ((Us (ws ((sgR seed ls.flatten)))).toArray);replace b5:=b5.aT n5_9 ((Us (ws ((sgR seed ls.flatten)))).toArray);replace b9:=b9.row ((Us (ws ((sgR seed ls.flatten)))).toArray);replace hU:=cT hU q9 ((Us (ws ((sgR seed ls.flatten)))).toArray);generalize dT _ g9 ((Us (ws ((sgR seed ls.flatten)))).toArray) = W10 at *;refine bI ?_;refine hK _ _ ?_;clear hK K;refine aO λK hK=>?_;refine Bl 4 [nvH 8,nvH 9] (by decide) (by decide) ⟨⟨rfl,rfl,rfl,rfl,by kernel_rfl⟩,⟨rfl,rfl,rfl,rfl,by kernel_rfl⟩,trivial⟩ (by kernel_rfl) (cJ (by kernel_rfl)) (by kernel_rfl) (λ_ _ d _ _ h=>by cases d <;> exact h) ?_;refine FK g9 ((sgR seed ls.flatten)) rfl rfl rfl rfl rfl (λ_ h1=>(h1.blk b9).range) ?_
 refine dN #[.agg (Us (ws ((sgR seed ls.flatten)))).toArray] (.agg (By (iB seed ls.flatten)).toArray) rfl rfl rfl Aq (λw1 h1=>by
   have:=FV (n:=sgR seed ls.flatten) (Ox _ _) w1 (hT.below (hU.step h1)).tw
   rwa [Sn] at this) rfl rfl ?_
 refine FK g4 (le (iR seed) % LL) rfl rfl rfl rfl rfl (λ_ h1=>(h1.blk b4).range) ?_
 refine dN #[.agg (Us (ws (le (iR seed) % LL))).toArray] (.agg (By (gV seed)).toArray) rfl rfl rfl Aq (λw1 h1=>by
   have:=FV (Fw (le (iR seed))) w1 (hT.below (hU.step h1)).tw
   rwa [UL] at this) rfl rfl ?_
 refine o7 [.tmp 22,.tmp 24] [(By (iB seed ls.flatten)).toArray,(By (gV seed)).toArray] ⟨rfl,rfl,trivial⟩ (by decide) ⟨⟨rfl,rfl,rfl⟩,⟨rfl,rfl,rfl⟩,rfl⟩ ⟨⟨rfl,(by rw [jQ ((jI seed ls.flatten))]; rfl),(lQ ((jI seed ls.flatten))),(kT _)⟩,⟨rfl,(by rw [jQ ((l6 seed))]; rfl),(lQ ((l6 seed))),(kT _)⟩,trivial⟩ λf11 W11 hg11 hd11 hw11 hb11=>?_;have b1100 : Blk W11 (f11 0) 27 ((By (iB seed ls.flatten)).toArray):=hb11.1;have b1101 : Blk W11 (f11 1) 27 ((By (gV seed)).toArray):=hb11.2.1;clear hb11;replace b1:=b1.later hw11;replace b2:=b2.later hw11;replace b4:=b4.later hw11;replace b5:=b5.later hw11;replace b9:=b9.later hw11;replace hU:=hU.step hw11;clear hg11 hd11 hw11;generalize hf1100 : f11 0 = g1100 at *;generalize hf1101 : f11 1 = g1101 at *;simp only [l8,Nat.reduceAdd,hf1100,hf1101];clear hf1100 hf1101 f11;refine bI ?_;refine hK _ _ ?_;clear hK K;refine aO λK hK=>?_;refine c_g 5 (by decide) (by kernel_rfl) (by kernel_rfl) ?_;refine cZ rfl ?_;refine mZ g1100 rfl rfl rfl rfl rfl ?_;refine c9 ?_;refine cZ rfl ?_;refine mZ g1101 rfl rfl rfl rfl rfl ?_;refine c9 ?_;refine cZ rfl ?_;refine aM (.slice P ls.length pc) rfl rfl rfl rfl rfl ?_;refine c9 ?_;refine cZ rfl ?_
 refine dN #[.slice (some ⟨g1100,0,none⟩) 32 32,.slice (some ⟨g1101,0,none⟩) 32 32,.slice P ls.length pc] (.agg (Us (ws ((sgK (iB seed ls.flatten) (gV seed) ls.flatten)))).toArray) rfl rfl rfl xV (λw1 h1=>by
   have:=CE (P:=P) (ls:=ls) (pc:=pc) w1 (hT.below (hU.step h1.1)).sh (SB.all (b1100.later h1.1) ((jI seed ls.flatten)) (by decide)) (SB.all (b1101.later h1.1) ((l6 seed)) (by decide)) (hP.later (hU.step h1.1)) h0 hls
   rwa [Oz] at this) rfl rfl ?_
 refine c9 ?_;refine zK z4 (W11).heap.size rfl rfl rfl rfl rfl (by kernel_rfl) (λ_ h=>h.size) (λg w w' h hr=>⟨h.1,h.2.later hr⟩) λg12 _ _ _ _=>?_;refine jT λW13 hw13 hF13=>?_;have b12:=(hF13 4 _ rfl).2;have ge12:=(hF13 4 _ rfl).1
 have n1_12 : g1 ≠ g12:=by have:=b1.lt; omega
 have n2_12 : g2 ≠ g12:=by have:=b2.lt; omega
 have n4_12 : g4 ≠ g12:=by have:=b4.lt; omega
 have n5_12 : g5 ≠ g12:=by have:=b5.lt; omega
 have n9_12 : g9 ≠ g12:=by have:=b9.lt; omega
 have n1100_12 : g1100 ≠ g12:=by have:=b1100.lt; omega
 have n1101_12 : g1101 ≠ g12:=by have:=b1101.lt; omega
 have q12 : w.heap.size <= g12:=j6 hU.size ge12;clear ge12;clear hF13;replace b1:=b1.later hw13;replace b2:=b2.later hw13;replace b4:=b4.later hw13;replace b5:=b5.later hw13;replace b9:=b9.later hw13;replace b1100:=b1100.later hw13;replace b1101:=b1101.later hw13;replace hU:=hU.step hw13;clear hw13;refine mY g12 _ ((Us (ws ((sgK (iB seed ls.flatten) (gV seed) ls.flatten)))).toArray) rfl rfl rfl rfl rfl b12 (qI _) (by rw [aV (fA _)]; rfl) (bU _) ?_;replace b1:=b1.aT n1_12 ((Us (ws ((sgK (iB seed ls.flatten) (gV seed) ls.flatten)))).toArray);replace b2:=b2.aT n2_12 ((Us (ws ((sgK (iB seed ls.flatten) (gV seed) ls.flatten)))).toArray);replace b4:=b4.aT n4_12 ((Us (ws ((sgK (iB seed ls.flatten) (gV seed) ls.flatten)))).toArray);replace b5:=b5.aT n5_12 ((Us (ws ((sgK (iB seed ls.flatten) (gV seed) ls.flatten)))).toArray);replace b9:=b9.aT n9_12 ((Us (ws ((sgK (iB seed ls.flatten) (gV seed) ls.flatten)))).toArray);replace b1100:=b1100.aT n1100_12 ((Us (ws ((sgK (iB seed ls.flatten) (gV seed) ls.flatten)))).toArray);replace b1101:=b1101.aT n1101_12 ((Us (ws ((sgK (iB seed ls.flatten) (gV seed) ls.flatten)))).toArray);replace b12:=b12.row ((Us (ws ((sgK (iB seed ls.flatten) (gV seed) ls.flatten)))).toArray);replace hU:=cT hU q12 ((Us (ws ((sgK (iB seed ls.flatten) (gV seed) ls.flatten)))).toArray);generalize dT _ g12 ((Us (ws ((sgK (iB seed ls.flatten) (gV seed) ls.flatten)))).toArray) = W14 at *;refine bI ?_;refine hK _ _ ?_;clear hK K;refine aO λK hK=>?_;refine c_g 7 (by decide) (by kernel_rfl) (by kernel_rfl) ?_;refine cZ rfl ?_;refine FK g9 ((sgR seed ls.flatten)) rfl rfl rfl rfl rfl (λ_ h1=>(h1.1.blk b9).range) ?_;refine c9 ?_;refine cZ rfl ?_;refine FK g12 ((sgK (iB seed ls.flatten) (gV seed) ls.flatten)) rfl rfl rfl rfl rfl (λ_ h1=>(h1.1.blk b12).range) ?_;refine c9 ?_;refine cZ rfl ?_;refine FK g4 (le (iR seed) % LL) rfl rfl rfl rfl rfl (λ_ h1=>(h1.1.blk b4).range) ?_;refine c9 ?_;refine cZ rfl ?_;refine dN #[.agg (Us (ws ((sgK (iB seed ls.flatten) (gV seed) ls.flatten)))).toArray,.agg (Us (ws (le (iR seed) % LL))).toArray] (.agg (Us (ws ((((sgK (iB seed ls.flatten) (gV seed) ls.flatten)) * (le (iR seed) % LL) % LL)))).toArray) rfl rfl rfl MQ (λw1 h1=>Sp (Oy _ _ _) (Fw (le (iR seed))) w1) rfl rfl ?_;refine c9 ?_;refine cZ rfl ?_
 refine dN #[.agg (Us (ws ((sgR seed ls.flatten)))).toArray,.agg (Us (ws ((((sgK (iB seed ls.flatten) (gV seed) ls.flatten)) * (le (iR seed) % LL) % LL)))).toArray] (.agg (Us (ws ((sgS seed ls.flatten)))).toArray) rfl rfl rfl MR (λw1 h1=>by
   have:=Sr (x:=(sgR seed ls.flatten)) (y:=(((sgK (iB seed ls.flatten) (gV seed) ls.flatten)) * (le (iR seed) % LL) % LL)) (Ox _ _) (Fw (((sgK (iB seed ls.flatten) (gV seed) ls.flatten)) * (le (iR seed) % LL))) w1
   rwa [Vm] at this) rfl rfl ?_
 refine c9 ?_;refine cZ rfl ?_;refine dN #[.agg (Us (ws ((sgS seed ls.flatten)))).toArray] (.agg (By (Nums.bytes 32 ((sgS seed ls.flatten)))).toArray) rfl rfl rfl qM (λw1 h1=>uP ((sgS seed ls.flatten)) w1) rfl rfl ?_;refine c9 ?_;refine zK z32 (W14).heap.size rfl rfl rfl rfl rfl (by kernel_rfl) (λ_ h=>h.size) (λg w w' h hr=>⟨h.1,h.2.later hr⟩) λg15 _ _ _ _=>?_;refine jT λW16 hw16 hF16=>?_;have b15:=(hF16 6 _ rfl).2;have ge15:=(hF16 6 _ rfl).1
 have n1_15 : g1 ≠ g15:=by have:=b1.lt; omega
 have n2_15 : g2 ≠ g15:=by have:=b2.lt; omega
 have n4_15 : g4 ≠ g15:=by have:=b4.lt; omega
 have n5_15 : g5 ≠ g15:=by have:=b5.lt; omega
 have n9_15 : g9 ≠ g15:=by have:=b9.lt; omega
 have n1100_15 : g1100 ≠ g15:=by have:=b1100.lt; omega
 have n1101_15 : g1101 ≠ g15:=by have:=b1101.lt; omega
 have n12_15 : g12 ≠ g15:=by have:=b12.lt; omega
 have q15 : w.heap.size <= g15:=j6 hU.size ge15;clear ge15;clear hF16;replace b1:=b1.later hw16;replace b2:=b2.later hw16;replace b4:=b4.later hw16;replace b5:=b5.later hw16;replace b9:=b9.later hw16;replace b1100:=b1100.later hw16;replace b1101:=b1101.later hw16;replace b12:=b12.later hw16;replace hU:=hU.step hw16;clear hw16;refine mY g15 _ ((By (Nums.bytes 32 ((sgS seed ls.flatten)))).toArray) rfl rfl rfl rfl rfl b15 (lQ ((cP _ _))) (by rw [jQ ((cP _ _))]; rfl) (kT _) ?_;replace b1:=b1.aT n1_15 ((By (Nums.bytes 32 ((sgS seed ls.flatten)))).toArray);replace b2:=b2.aT n2_15 ((By (Nums.bytes 32 ((sgS seed ls.flatten)))).toArray);replace b4:=b4.aT n4_15 ((By (Nums.bytes 32 ((sgS seed ls.flatten)))).toArray);replace b5:=b5.aT n5_15 ((By (Nums.bytes 32 ((sgS seed ls.flatten)))).toArray);replace b9:=b9.aT n9_15 ((By (Nums.bytes 32 ((sgS seed ls.flatten)))).toArray);replace b1100:=b1100.aT n1100_15 ((By (Nums.bytes 32 ((sgS seed ls.flatten)))).toArray);replace b1101:=b1101.aT n1101_15 ((By (Nums.bytes 32 ((sgS seed ls.flatten)))).toArray);replace b12:=b12.aT n12_15 ((By (Nums.bytes 32 ((sgS seed ls.flatten)))).toArray);replace b15:=b15.row ((By (Nums.bytes 32 ((sgS seed ls.flatten)))).toArray);replace hU:=cT hU q15 ((By (Nums.bytes 32 ((sgS seed ls.flatten)))).toArray);generalize dT _ g15 ((By (Nums.bytes 32 ((sgS seed ls.flatten)))).toArray) = W17 at *;refine bI ?_;refine hK _ _ ?_;clear hK K;refine aO λK hK=>?_;refine eX ?_;refine cY ((By z64).toArray) rfl rfl rfl rfl BX λW18 g18 hw18 hg18 b18=>?_
 have n1_18 : g1 ≠ g18:=by have:=b1.lt; omega
 have n2_18 : g2 ≠ g18:=by have:=b2.lt; omega
 have n4_18 : g4 ≠ g18:=by have:=b4.lt; omega
 have n5_18 : g5 ≠ g18:=by have:=b5.lt; omega
 have n9_18 : g9 ≠ g18:=by have:=b9.lt; omega
 have n1100_18 : g1100 ≠ g18:=by have:=b1100.lt; omega
 have n1101_18 : g1101 ≠ g18:=by have:=b1101.lt; omega
 have n12_18 : g12 ≠ g18:=by have:=b12.lt; omega
 have n15_18 : g15 ≠ g18:=by have:=b15.lt; omega
 have q18 : w.heap.size <= g18:=by rw [hg18]; exact hU.size
 replace b1:=b1.later hw18;replace b2:=b2.later hw18;replace b4:=b4.later hw18;replace b5:=b5.later hw18;replace b9:=b9.later hw18;replace b1100:=b1100.later hw18;replace b1101:=b1101.later hw18;replace b12:=b12.later hw18;replace b15:=b15.later hw18;replace hU:=hU.step hw18;clear hw18 hg18;refine bI ?_;refine hK _ _ ?_;clear hK K;refine aO λK hK=>?_;refine c_g 2 (by decide) (by kernel_rfl) (by kernel_rfl) ?_;refine cZ rfl ?_;refine tJ g18 rfl rfl rfl rfl rfl ?_;refine c9 ?_;refine cZ rfl ?_;refine mZ g1100 rfl rfl rfl rfl rfl ?_;refine c9 ?_;refine jT λW19 hw19 hF19=>?_;clear hF19;replace b1:=b1.later hw19;replace b2:=b2.later hw19;replace b4:=b4.later hw19;replace b5:=b5.later hw19;replace b9:=b9.later hw19;replace b1100:=b1100.later hw19;replace b1101:=b1101.later hw19;replace b12:=b12.later hw19;replace b15:=b15.later hw19;replace b18:=b18.later hw19;replace hU:=hU.step hw19;clear hw19;refine JS g18 0 32 64 _ z64 (iB seed ls.flatten) (.slice (some ⟨g1100,0,none⟩) 32 32) rfl rfl rfl rfl rfl rfl b18 (SB.all (b1100.later (Up.refl _)) ((jI seed ls.flatten)) (by decide)) (by rw [jI]; decide) (by rw [jI]; decide) (by rw [jI]; decide) λb18=>?_;replace b1:=b1.aT n1_18 (By (cop z64 0 (iB seed ls.flatten))).toArray;replace b2:=b2.aT n2_18 (By (cop z64 0 (iB seed ls.flatten))).toArray;replace b4:=b4.aT n4_18 (By (cop z64 0 (iB seed ls.flatten))).toArray;replace b5:=b5.aT n5_18 (By (cop z64 0 (iB seed ls.flatten))).toArray;replace b9:=b9.aT n9_18 (By (cop z64 0 (iB seed ls.flatten))).toArray;replace b1100:=b1100.aT n1100_18 (By (cop z64 0 (iB seed ls.flatten))).toArray;replace b1101:=b1101.aT n1101_18 (By (cop z64 0 (iB seed ls.flatten))).toArray;replace b12:=b12.aT n12_18 (By (cop z64 0 (iB seed ls.flatten))).toArray;replace b15:=b15.aT n15_18 (By (cop z64 0 (iB seed ls.flatten))).toArray;replace hU:=cT hU q18 (By (cop z64 0 (iB seed ls.flatten))).toArray;generalize dT _ g18 (By (cop z64 0 (iB seed ls.flatten))).toArray = W20 at *;refine bI ?_;refine hK _ _ ?_;clear hK K;refine aO λK hK=>?_;refine c_g 2 (by decide) (by kernel_rfl) (by kernel_rfl) ?_;refine cZ rfl ?_;refine yC g18 rfl rfl rfl rfl rfl ?_;refine c9 ?_;refine cZ rfl ?_;refine mZ g15 rfl rfl rfl rfl rfl ?_;refine c9 ?_;refine jT λW21 hw21 hF21=>?_;clear hF21;replace b1:=b1.later hw21;replace b2:=b2.later hw21;replace b4:=b4.later hw21;replace b5:=b5.later hw21;replace b9:=b9.later hw21;replace b1100:=b1100.later hw21;replace b1101:=b1101.later hw21;replace b12:=b12.later hw21;replace b15:=b15.later hw21;replace b18:=b18.later hw21;replace hU:=hU.step hw21;clear hw21;refine JS g18 32 32 32 _ (cop z64 0 (iB seed ls.flatten)) (Nums.bytes 32 ((sgS seed ls.flatten))) (.slice (some ⟨g15,0,none⟩) 32 32) rfl rfl rfl rfl rfl rfl b18 (SB.all (b15.later (Up.refl _)) ((cP _ _)) (by decide)) (by rw [cP]; decide) (by rw [cP]; decide) (by rw [cP]; rw [wR (jI _ _)]; decide) λb18=>?_
 replace b1:=b1.aT n1_18 (By (cop (cop z64 0 (iB seed ls.flatten)) 32 (Nums.bytes 32 ((sgS seed ls.flatten))))).toArray;replace b2:=b2.aT n2_18 (By (cop (cop z64 0 (iB seed ls.flatten)) 32 (Nums.bytes 32 ((sgS seed ls.flatten))))).toArray;replace b4:=b4.aT n4_18 (By (cop (cop z64 0 (iB seed ls.flatten)) 32 (Nums.bytes 32 ((sgS seed ls.flatten))))).toArray;replace b5:=b5.aT n5_18 (By (cop (cop z64 0 (iB seed ls.flatten)) 32 (Nums.bytes 32 ((sgS seed ls.flatten))))).toArray;replace b9:=b9.aT n9_18 (By (cop (cop z64 0 (iB seed ls.flatten)) 32 (Nums.bytes 32 ((sgS seed ls.flatten))))).toArray;replace b1100:=b1100.aT n1100_18 (By (cop (cop z64 0 (iB seed ls.flatten)) 32 (Nums.bytes 32 ((sgS seed ls.flatten))))).toArray;replace b1101:=b1101.aT n1101_18 (By (cop (cop z64 0 (iB seed ls.flatten)) 32 (Nums.bytes 32 ((sgS seed ls.flatten))))).toArray;replace b12:=b12.aT n12_18 (By (cop (cop z64 0 (iB seed ls.flatten)) 32 (Nums.bytes 32 ((sgS seed ls.flatten))))).toArray;replace b15:=b15.aT n15_18 (By (cop (cop z64 0 (iB seed ls.flatten)) 32 (Nums.bytes 32 ((sgS seed ls.flatten))))).toArray;replace hU:=cT hU q18 (By (cop (cop z64 0 (iB seed ls.flatten)) 32 (Nums.bytes 32 ((sgS seed ls.flatten))))).toArray;rw [Sm] at b1 b2 b4 b5 b9 b1100 b1101 b12 b15 b18 hU ⊢;generalize dT _ g18 (By (jZ seed ls.flatten)).toArray = W22 at *;refine bI ?_;refine hK _ _ ?_;clear hK K;refine aO λK hK=>?_;refine yF 1 ?_;refine cZ rfl ?_;refine QT g18 ((k9 _ _)) rfl rfl rfl rfl rfl (λ_ h1=>(h1.1.blk b18).range) ?_;refine c9 ?_;refine jT λW23 hw23 hF23=>?_;clear hF23;replace b2:=b2.later hw23;replace hU:=hU.step hw23;clear hw23;refine mY g2 _ ((By (jZ seed ls.flatten)).toArray) rfl rfl rfl rfl rfl b2 (yR ((k9 _ _))) (by rw [a9,a9,cD,cD,((k9 _ _))]; rfl) (kT _) ?_;replace b2:=b2.row ((By (jZ seed ls.flatten)).toArray);replace hU:=cT hU q2 ((By (jZ seed ls.flatten)).toArray);generalize dT _ g2 ((By (jZ seed ls.flatten)).toArray) = W24 at *;refine bI ?_;refine hK _ _ ?_;clear hK K;exact gX (eH g2 _ rfl rfl b2 Tryz.underlying38 rfl (yR ((k9 _ _))) ⟨rfl,hU⟩)
end Go.Proofs.YtfkchihlchlfdaaGreatDoor
namespace Nums
end Nums
namespace Go.Proofs.YtfkchihlchlfdaaGreatDoor
open Go.RowKit Go.IntWalk Nums
end Go.Proofs.YtfkchihlchlfdaaGreatDoor
namespace Nums
end Nums
namespace Go.Proofs.YtfkchihlchlfdaaGreatDoor
open Go.RowKit Go.IntWalk Nums
end Go.Proofs.YtfkchihlchlfdaaGreatDoor
namespace Nums
end Nums
namespace Go.Proofs.YtfkchihlchlfdaaGreatDoor
open Go.RowKit Go.IntWalk Nums
end Go.Proofs.YtfkchihlchlfdaaGreatDoor
namespace Nums
theorem Lk {l : List UInt8} {k : Nat} (h : k < l.length) : le (l.take (k + 1)) = le (l.take k) + 256 ^ k * (l[k]!).toNat:=by
 rw [List.take_succ_eq_append_getElem h,mA,aY,Nat.min_eq_left (by omega),getElem!_pos l k h]
 show _ + _ * (l[k].toNat + 256 * 0) = _
 rw [Ga,fN]
theorem Qv {b : List UInt8} (hb : b.length = 32) : decide (bytes 32 (le b % LL) = b) = decide (le b < LL):=by
 congr 1
 refine propext ⟨λh=>?_,λh=>?_⟩
 ·have h1:=congrArg le h
  rw [o5] at h1;have h2 : le b % LL < LL:=eJ _ (by decide);have h3 : le b % LL % 256 ^ 32 = le b % LL:=bR (Ab h2 (by decide))
  omega
 ·apply x9 (by rw [cP,hb])
  rw [o5,bR h,bR (Ab h (by decide))]
end Nums
namespace Go.Proofs.YtfkchihlchlfdaaGreatDoor
open Go.RowKit Go.IntWalk Nums
theorem MP : Own 75:=λ_ _=>by go_simp
def WV : Array Value:=(By (aE 64 0)).toArray
section
variable {ops : Array Oper} {C0 : World -> Prop} {Q : Act -> Prop} {a : Act} {o : Oper} {rest : List Oper}
theorem WJ {l : List UInt8} (g : Nat) (hl : l.length = 64) (x : Operand) (hg : aN o (yielded ops a.tmps) = true) (ho : o.op = .load 38 x) (hx : a.eval x = .pointer (some ⟨g,0,none⟩))
  (hc : ∀ w,C0 w -> Blk w g 38 (By l).toArray) (hk : wpB Tryz.prog ops C0 Q rest (a.put o.dst (.agg (By l).toArray))) : wpB Tryz.prog ops C0 Q (o :: rest) a :=
 zU hg 38 x ho g 0 hx (By l) _ (λw h=>(hc w h).range) Tryz.underlying38 rfl (Oq (By l).toArray (Lj hl)) hk
end
theorem le_zero : ∀ n,le (aE n 0) = 0
 | 0=>rfl
 | n + 1=>by
  show (0 : UInt8).toNat + 256 * le (aE n 0) = 0
  rw [le_zero n]
  rfl
theorem Rc {b : List UInt8} (hb : b.length = 32) : (cop (aE 64 0) 0 b).length = 64 /\ le (cop (aE 64 0) 0 b) = le b:=by
 have e : cop (aE 64 0) 0 b = b ++ aE 32 0:=by
  simp [cop,hb]
 rw [e];refine ⟨by simp [hb],?_⟩;rw [mA,le_zero,Ga,fN]
theorem So {b : List UInt8} (hb : b.length = 32) (w : World) :
  Calls Tryz.prog 75 #[.agg (By b).toArray] w λe w'=>e = .returned (.tuple #[.agg (Us (ws (if le b < LL then le b else 0))).toArray,.bool (decide (le b < LL))]) /\ Below w.heap.size w w':=by
 obtain ⟨hl,hle⟩:=Rc hb;have hE:=λw1=>BS (Nums.bytes 32 (le b % LL)) b (cP _ _) hb w1;rw [Qv hb] at hE;have hW:=λw1=>I3 hl w1;rw [hle] at hW;clear hle
 go_enter Tryz.func75,Tryz.ntmps75
 refine wp_seq_k λK hK=>?_;refine wp_region_lit ?_;refine kI (By b).toArray rfl rfl rfl ?_;refine dV (zs:=z4) rfl rfl (by kernel_rfl) ?_;refine jN rfl rfl ?_;refine dX ?_
 go_simp
 refine hK _ _ ?_;clear hK K;refine wp_seq_k λK hK=>?_;refine wp_region_lit ?_;refine dV (zs:=WV) rfl rfl (by kernel_rfl) ?_;refine dX ?_
 go_simp
 refine hK _ _ ?_;clear hK K;refine p9 (λW=>Blk W w.heap.size 27 (By b).toArray /\ Blk W (w.heap.size + 1) 93 z4 /\ Blk W (w.heap.size + 1 + 1) 38 WV /\ Below w.heap.size w W) ⟨nK w _ _ _ _,lW w _ _ _ _,mG w _ _ _ _,(((Below.refl _ _).alloc (aH _) _).alloc (by simp) _).alloc (by simp; omega) _⟩ ?_
 rintro W ⟨h0,h1,h2,hbe⟩
 refine wp_seq_k λK hK=>?_;refine OX 2 (.tmp 6) (.tmp 7) rfl rfl rfl (cJ (by kernel_rfl)) (λ_ _ d _ _ h=>by cases d <;> exact h) (by kernel_rfl) ?_;simp only [a6,bP];refine k5 (v:=.slice (some ⟨w.heap.size + 1 + 1,0,none⟩) 64 64) rfl (λw1 h1=>by go_simp) ?_;simp only [aG,aA,aB,aC];refine k5 (v:=.slice (some ⟨w.heap.size,0,none⟩) 32 32) rfl (λw1 h1=>by go_simp) ?_;simp only [aG,aA,aB,aC];refine cQ ⟨w.heap.size + 1 + 1,0,64,64,w.heap.size,32,_,_,_,b,rfl,by rw [hb]; rfl,h2,h0,by omega,by rw [hb,bH]; omega,λW1 hw1=>?_⟩;simp only [Exit.then,aG,aA,aB,aC];refine hK _ _ ?_;clear hK K;have k0:=(hw1.blk h0).aT (g':=w.heap.size + 1 + 1) (by omega) (By (cop (aE 64 0) 0 b)).toArray;have k1:=(hw1.blk h1).aT (g':=w.heap.size + 1 + 1) (by omega) (By (cop (aE 64 0) 0 b)).toArray;have k2:=(hw1.blk h2).row (By (cop (aE 64 0) 0 b)).toArray;have kbe:=below_setRow (bA hbe hw1) (g:=w.heap.size + 1 + 1) (by omega) (By (cop (aE 64 0) 0 b)).toArray;clear hw1 h0 h1 h2 hbe;generalize cop (aE 64 0) 0 b = l at *;generalize W1.setRow (w.heap.size + 1 + 1) (By l).toArray = W2 at *;have hz:=lD (fA (le b % LL));refine wp_seq_k λK hK=>?_;refine sE 2 5 93 (.tmp 10) z4 rfl rfl rfl rfl rfl rfl rfl (dE rfl (by kernel_rfl)) ?_;simp only [a6,bP];refine WJ (w.heap.size + 1 + 1) hl _ rfl rfl rfl (λ_ h=>h.blk k2) ?_;simp only [aG,aA,aB,aC];refine kE rfl Cu (λw1=>hW w1) rfl rfl ?_;simp only [aG,aA,aB,aC];refine cQ ⟨(Us (ws (le b % LL))).toArray,λ_=>rfl,λ_=>rfl,hz.symm,fP _ hz,cO _,λgx W3 hgx hw1 hbx=>?_⟩;simp only [Exit.then,aG,aA,aB,aC];refine hK _ _ ?_;clear hK K;have k0:=hw1.blk k0;have k1:=hw1.blk k1;have kbe:=bA kbe hw1;clear hw1 k2 hW hl;refine wp_seq_k λK hK=>?_;refine wp_seq_k λK2 hK2=>?_;refine yW (by kernel_rfl) (cJ (by kernel_rfl)) (λ_ _ d _ _ h=>by cases d <;> exact h) ?_;refine Rp gx (fA _) _ rfl rfl rfl (λ_ h=>h.blk hbx) ?_;simp only [aG,aA,aB,aC];refine kE rfl qM (λw1=>uP (le b % LL) w1) rfl rfl ?_;simp only [aG,aA,aB,aC];refine YQ w.heap.size hb _ rfl rfl rfl (λ_ h=>h.blk k0) ?_;simp only [aG,aA,aB,aC]
 refine UZ (By (Nums.bytes 32 (le b % LL))).toArray (By b).toArray rfl rfl rfl rfl (by kernel_rfl) hE ?_;simp only [aG,aA,aB,aC];refine cQ ?_
 intro W1 hw1
 simp only [Exit.then];refine hK2 _ _ ?_;clear hK2 K2;have hbx:=hw1.blk hbx;have k1:=hw1.blk k1;have kbe:=bA kbe hw1;clear hw1 k0 hE
 by_cases hq : le b < LL
 ·rw [decide_eq_true hq]
  have hm : le b % LL = le b:=bR hq;rw [hm] at hbx hz;refine wp_cond (t:=false) rfl ?_;rw [if_neg (by decide)];refine wp_skip ?_;simp only [Exit.then];refine hK _ _ ?_;clear hK K;refine wp_seq_k λK hK=>?_;refine wp_region_lit ?_;refine wpList_load_row rfl 93 _ rfl gx rfl 93 (Us (ws (le b))).toArray (0,0) _ hbx Tryz.underlying93 rfl (fP _ hz) ?_;simp only [aG,aA,aB,aC];refine wpList_store_row rfl 93 _ _ rfl (w.heap.size + 1) rfl (Us (ws (le b))).toArray rfl 93 _ k1 (fP _ hz) (by rw [hz]; rfl) (cO _) ?_;refine jN rfl rfl ?_;refine dX ?_;simp only [Exit.then,aG,aA,aB,aC];refine hK _ _ ?_;clear hK K;refine wp_ret ?_;refine bodyPost_ret (results_cell_tmp rfl _ _ (w.heap.size + 1) 93 (Us (ws (le b))).toArray (0,0) _ (.bool true) rfl rfl (k1.row _) Tryz.underlying93 rfl (fP _ hz)) rfl ⟨by rw [if_pos hq,decide_eq_true hq],?_⟩;exact below_setRow kbe (by omega) _
 ·rw [decide_eq_false hq]
  refine wp_cond (t:=true) rfl ?_;rw [if_pos rfl];refine wp_seq_k λK2 hK2=>?_;refine wp_region_lit ?_;refine vQ (t:=93) [] z4 rfl rfl rfl (by kernel_rfl) ?_;simp only [aG,aA,aB,aC];refine wpList_store_row rfl 93 _ _ rfl (w.heap.size + 1) rfl z4 rfl 93 _ k1 (fP _ rfl) rfl (cO _) ?_;refine jN rfl rfl ?_;refine dX ?_;simp only [Exit.then,aG,aA,aB,aC];refine hK2 _ _ ?_;clear hK2 K2 hK;refine wp_ret ?_;simp only [Exit.then];refine bodyPost_ret (results_cell_tmp rfl _ _ (w.heap.size + 1) 93 z4 (0,0) _ (.bool false) rfl rfl (k1.row _) Tryz.underlying93 rfl (fP _ rfl)) rfl ⟨by rw [if_neg hq]; rfl,?_⟩;exact below_setRow kbe (by omega) _
theorem MY : Own 76:=λ_ _=>by go_simp
theorem Jy : Own 55:=λ_ _=>by go_simp
open Classical in
noncomputable def nE (key sig m : List UInt8) : Bool:=decide (U0 key sig m)
open Classical in
theorem MD {key sig m : List UInt8} (h : ¬ ∃ A,Ed.On dd A /\ eV A = key) : nE key sig m = false:=decide_eq_false λ⟨A,h1,h2,_⟩=>h ⟨A,h1,h2⟩
open Classical in
theorem E7 {A : Ed.Pt p} {sig m : List UInt8} (hA : Ed.On dd A) (h : Ed.mul dd 8 A = Ed.zero) : nE (eV A) sig m = false:=decide_eq_false λ⟨B,h1,h2,h3,_⟩=>h3 (by rw [vF h1 hA h2]; exact h)
open Classical in
theorem E8 {key sig m : List UInt8} (h : ¬ le (sig.drop 32) < LL) : nE key sig m = false:=decide_eq_false λ⟨_,_,_,_,h4,_⟩=>h h4
theorem ME {A : Ed.Pt p} {sig m : List UInt8} (hA : Ed.On dd A) (h8 : Ed.mul dd 8 A ≠ Ed.zero) (hS : le (sig.drop 32) < LL) :
  nE (eV A) sig m = decide (eV (Ed.add dd (Ed.mul dd (le (Nums.bytes 32 (le (sig.drop 32)))) base) (Ed.mul dd (le (Nums.bytes 32 (sgK (sig.take 32) (eV A) m))) (Ed.neg A))) = sig.take 32):=by
 rw [wJ hS,wJ (Oy _ _ _),Ed.mul_neg jC hA]
 unfold nE
 rw [decide_eq_decide]
 constructor
 ·rintro ⟨B,h1,h2,_,_,h5⟩
  obtain rfl:=vF h1 hA h2;exact h5
 ·exact λh=>⟨A,hA,rfl,h8,hS,h⟩
theorem Ms {A : Ed.Pt p} (hA : Ed.On dd A) : eV (Ed.mul dd 8 A) = eV Ed.zero ↔ Ed.mul dd 8 A = Ed.zero :=
 ⟨λh=>vF (Ed.kN jC hA 8) Ed.tD h,λh=>by rw [h]⟩
section
variable {ops : Array Oper} {C0 : World -> Prop} {Q : Act -> Prop} {N : Nat} {E : List (Nat × Value)} {o : Oper} {rest : List Oper} {k : Nat}
theorem UU {x y : Operand} {t t' : TypeId} (m n : Int) (q : Bool) (hg : o.guard = none) (hd : o.dst = some k) (hk : aQ k N = true) (ho : o.op = .binOp .neq t x y t') (ht : t = 31) (hx : ev E x = some (.int .i64 m)) (hy : ev E y = some (.int .i64 n))
  (hr : decide (m ≠ n) = q) (hn : bF Tryz.prog ops C0 Q rest N ((k,.bool q) :: E)) : bF Tryz.prog ops C0 Q (o :: rest) N E:=by
 subst ht
 exact dP _ hg hd hk (λa ha w _=>by
  have h1:=ha.eval hx;have h2:=ha.eval hy;subst hr
  unfold execOp
  simp only [ho,h1,h2]
  by_cases e : m = n <;> go_simp) hn
end
theorem N3 {key sig : List UInt8} {P : Option Addr} {ls : List (List UInt8)} {pc : Nat} (hk : key.length = 32) (hs : sig.length = 64) (w : World) (hT : Ta w) (hP : PT w P ls) (h0 : P = none -> pc = 0) (hls : ls.length <= 1000000) :
  Calls Tryz.prog 55 #[.agg (By key).toArray,.agg (By sig).toArray,.slice P ls.length pc] w λe w'=>e = .returned (.bool (nE key sig ls.flatten)) /\ Below w.heap.size w w':=by
 refine fI (vs:=[.agg (By key).toArray,.agg (By sig).toArray,.slice P ls.length pc]) 50 Tryz.func55 rfl (by rw [Tryz.ntmps55]; rfl) ?_;have hU:=Up.refl w;refine aO λK hK=>?_;refine eX ?_;refine gR ((By key).toArray) rfl rfl rfl rfl rfl λW1 g1 hw1 hg1 b1=>?_;replace hU:=hU.step hw1;clear hw1 hg1;refine gR ((By sig).toArray) rfl rfl rfl rfl rfl λW2 g2 hw2 hg2 b2=>?_;replace b1:=b1.later hw2;replace hU:=hU.step hw2;clear hw2 hg2;refine cV (.bool false) rfl rfl rfl rfl rfl ?_;refine bI ?_;refine hK _ _ ?_;clear hK K
 by_cases hA : ∃ A,Ed.On dd A /\ eV A = key
 ·obtain ⟨A,hA,rfl⟩:=hA
  refine aO λK hK=>?_;refine yF 5 ?_;refine cZ rfl ?_;refine uF g1 0 hk rfl rfl rfl rfl rfl (λ_ h1=>(h1.1.blk b1).range) ?_;refine c9 ?_;refine cZ rfl ?_;refine tK #[.agg (By (eV A)).toArray] (λv=>∃ l,QB l A /\ v = .tuple #[.agg (Us l).toArray,.int .i64 0]) rfl rfl rfl Bb (λw1 h1=>T9 hA w1 (hT.below (hU.step h1.1)).tw) rfl rfl ?_
  rintro _ ⟨l,hl,rfl⟩
  refine c9 ?_;refine cZ rfl ?_;refine aM (.tuple #[.agg (Us l).toArray,.int .i64 0]) rfl rfl rfl rfl rfl ?_;refine c9 ?_;refine cZ rfl ?_;refine dY (.agg (Us l).toArray) rfl rfl rfl rfl rfl rfl ?_;refine c9 ?_;refine cZ rfl ?_;refine dY (.int .i64 0) rfl rfl rfl rfl rfl rfl ?_;refine c9 ?_;refine jT λW3 hw3 hF3=>?_;clear hF3;replace b1:=b1.later hw3;replace b2:=b2.later hw3;replace hU:=hU.step hw3;clear hw3;refine cY ((Us pz).toArray) rfl rfl rfl rfl (by kernel_rfl) λW4 g4 hw4 hg4 b4=>?_
  have n1_4 : g1 ≠ g4:=by have:=b1.lt; omega
  have n2_4 : g2 ≠ g4:=by have:=b2.lt; omega
  have q4 : w.heap.size <= g4:=by rw [hg4]; exact hU.size
  replace b1:=b1.later hw4;replace b2:=b2.later hw4;replace hU:=hU.step hw4;clear hw4 hg4;refine mY g4 _ ((Us l).toArray) rfl rfl rfl rfl rfl b4 (dZ hl.len) ((aV fE).trans (aV hl.len).symm) (bU _) ?_;replace b1:=b1.aT n1_4 ((Us l).toArray);replace b2:=b2.aT n2_4 ((Us l).toArray);replace b4:=b4.row ((Us l).toArray);replace hU:=cT hU q4 ((Us l).toArray);generalize dT _ g4 ((Us l).toArray) = W5 at *;refine cV (.int .i64 0) rfl rfl rfl rfl rfl ?_;refine bI ?_;refine hK _ _ ?_;clear hK K;have hsm:=Ms hA;refine aO λK0 hK0=>?_;refine aO λK hK=>?_;refine yF 6 ?_;refine cZ rfl ?_;refine aM (.int .i64 0) rfl rfl rfl rfl rfl ?_;refine c9 ?_;refine cZ rfl ?_;refine UU _ 0 false rfl rfl rfl rfl rfl rfl rfl (by decide) ?_;refine c9 ?_;refine cZ rfl ?_;refine aM (.bool false) rfl rfl rfl rfl rfl ?_;refine c9 ?_;refine Lx rfl rfl rfl rfl ?_;refine cZ rfl ?_;refine rT g4 0 hl.len rfl rfl rfl rfl rfl (λ_ h1=>(h1.1.blk b4).range) ?_;refine c9 ?_;refine Lx rfl rfl rfl rfl ?_;refine cZ rfl ?_;refine dN #[.agg (Us l).toArray] (.bool (decide (eV (Ed.mul dd 8 A) = eV Ed.zero))) rfl rfl rfl JH (λw1 h1=>Q8 (.inr hl) w1 (hT.below (hU.step h1.1)).tw) rfl rfl ?_;refine c9 ?_;refine cZ rfl ?_;refine TT (.bool ((decide (eV (Ed.mul dd 8 A) = eV Ed.zero)))) rfl rfl rfl rfl rfl rfl ?_;refine c9 ?_;refine jT λW6 hw6 hF6=>?_;clear hF6;replace b1:=b1.later hw6;replace b2:=b2.later hw6;replace b4:=b4.later hw6;replace hU:=hU.step hw6;clear hw6;refine bI ?_;refine hK _ _ ?_;clear hK K
  by_cases h8 : Ed.mul dd 8 A = Ed.zero
  ·rw [decide_eq_true (hsm.2 h8)]
   refine cI true rfl ?_;rw [if_pos rfl];refine aO λK hK=>?_;refine eX ?_;refine cV (.bool false) rfl rfl rfl rfl rfl ?_;refine bI ?_;refine hK _ _ ?_;clear hK K;rw [E7 hA h8];exact gX (lT (λa ha=>bodyPost_ret (results_tmp rfl _ _ _) ha.defers ⟨congrArg oB (ha.get 6 _ rfl),hU⟩))
  ·rw [decide_eq_false λh=>h8 (hsm.1 h)]
   refine cI false rfl ?_;rw [if_neg (by decide)];refine fG ?_;refine hK0 _ _ ?_;clear hK0 K0;clear hsm;refine aO λK hK=>?_;refine yF 7 ?_;refine cZ rfl ?_;refine yC g2 rfl rfl rfl rfl rfl ?_;refine c9 ?_;refine cZ rfl ?_;refine J7 (some ⟨g2,32,none⟩) 32 rfl rfl rfl rfl rfl ?_;refine c9 ?_;refine cZ rfl ?_;refine uF g2 32 (Ka hs) rfl rfl rfl rfl rfl (λ_ h1=>OU (h1.1.blk b2) hs) ?_;refine c9 ?_;refine cZ rfl ?_;refine dN #[.agg (By (sig.drop 32)).toArray] (.tuple #[.agg (Us (ws ((if le (sig.drop 32) < LL then le (sig.drop 32) else 0)))).toArray,.bool ((decide (le (sig.drop 32) < LL)))]) rfl rfl rfl MP (λw1 h1=>So (Ka hs) w1) rfl rfl ?_;refine c9 ?_;refine cZ rfl ?_;refine aM (.tuple #[.agg (Us (ws ((if le (sig.drop 32) < LL then le (sig.drop 32) else 0)))).toArray,.bool ((decide (le (sig.drop 32) < LL)))]) rfl rfl rfl rfl rfl ?_;refine c9 ?_;refine cZ rfl ?_;refine dY (.agg (Us (ws ((if le (sig.drop 32) < LL then le (sig.drop 32) else 0)))).toArray) rfl rfl rfl rfl rfl rfl ?_;refine c9 ?_;refine cZ rfl ?_;refine dY (.bool ((decide (le (sig.drop 32) < LL)))) rfl rfl rfl rfl rfl rfl ?_;refine c9 ?_;refine jT λW7 hw7 hF7=>?_;clear hF7;replace b1:=b1.later hw7;replace b2:=b2.later hw7;replace b4:=b4.later hw7;replace hU:=hU.step hw7;clear hw7;refine cY z4 rfl rfl rfl rfl (by kernel_rfl) λW8 g8 hw8 hg8 b8=>?_
   have n1_8 : g1 ≠ g8:=by have:=b1.lt; omega
   have n2_8 : g2 ≠ g8:=by have:=b2.lt; omega
   have n4_8 : g4 ≠ g8:=by have:=b4.lt; omega
   have q8 : w.heap.size <= g8:=by rw [hg8]; exact hU.size
   replace b1:=b1.later hw8;replace b2:=b2.later hw8;replace b4:=b4.later hw8;replace hU:=hU.step hw8;clear hw8 hg8;refine mY g8 _ ((Us (ws ((if le (sig.drop 32) < LL then le (sig.drop 32) else 0)))).toArray) rfl rfl rfl rfl rfl b8 (qI _) (by rw [aV (fA _)]; rfl) (bU _) ?_;replace b1:=b1.aT n1_8 ((Us (ws ((if le (sig.drop 32) < LL then le (sig.drop 32) else 0)))).toArray);replace b2:=b2.aT n2_8 ((Us (ws ((if le (sig.drop 32) < LL then le (sig.drop 32) else 0)))).toArray);replace b4:=b4.aT n4_8 ((Us (ws ((if le (sig.drop 32) < LL then le (sig.drop 32) else 0)))).toArray);replace b8:=b8.row ((Us (ws ((if le (sig.drop 32) < LL then le (sig.drop 32) else 0)))).toArray);replace hU:=cT hU q8 ((Us (ws ((if le (sig.drop 32) < LL then le (sig.drop 32) else 0)))).toArray);generalize dT _ g8 ((Us (ws ((if le (sig.drop 32) < LL then le (sig.drop 32) else 0)))).toArray) = W9 at *;refine cV (.bool ((decide (le (sig.drop 32) < LL)))) rfl rfl rfl rfl rfl ?_;refine bI ?_;refine hK _ _ ?_;clear hK K
   by_cases hS : le (sig.drop 32) < LL
   ·rw [decide_eq_true hS]
    refine aO λK0 hK0=>?_;refine aO λK hK=>?_;refine yF 2 ?_;refine cZ rfl ?_;refine aM (.bool true) rfl rfl rfl rfl rfl ?_;refine c9 ?_;refine cZ rfl ?_;refine EC true false rfl rfl rfl rfl rfl rfl ?_;refine c9 ?_;refine jT λW10 hw10 hF10=>?_;clear hF10;replace b1:=b1.later hw10;replace b2:=b2.later hw10;replace b4:=b4.later hw10;replace b8:=b8.later hw10;replace hU:=hU.step hw10;clear hw10;refine bI ?_;refine hK _ _ ?_;clear hK K;refine cI false rfl ?_;rw [if_neg (by decide)];refine fG ?_;refine hK0 _ _ ?_;clear hK0 K0;rw [if_pos hS] at b8;refine aO λK hK=>?_;refine yF 3 ?_;refine cZ rfl ?_;refine tJ g2 rfl rfl rfl rfl rfl ?_;refine c9 ?_;refine cZ rfl ?_;refine J7 (some ⟨g2,0,none⟩) 64 rfl rfl rfl rfl rfl ?_;refine c9 ?_;refine cZ rfl ?_;refine uF g2 0 (Ah hs) rfl rfl rfl rfl rfl (λ_ h1=>OT (h1.1.blk b2) hs) ?_;refine c9 ?_;refine jT λW11 hw11 hF11=>?_;clear hF11;replace b1:=b1.later hw11;replace b4:=b4.later hw11;replace b8:=b8.later hw11;replace hU:=hU.step hw11;clear hw11;refine cY z32 rfl rfl rfl rfl (by kernel_rfl) λW12 g12 hw12 hg12 b12=>?_
    have n1_12 : g1 ≠ g12:=by have:=b1.lt; omega
    have n4_12 : g4 ≠ g12:=by have:=b4.lt; omega
    have n8_12 : g8 ≠ g12:=by have:=b8.lt; omega
    have q12 : w.heap.size <= g12:=by rw [hg12]; exact hU.size
    replace b1:=b1.later hw12;replace b4:=b4.later hw12;replace b8:=b8.later hw12;replace hU:=hU.step hw12;clear hw12 hg12;refine mY g12 _ ((By (sig.take 32)).toArray) rfl rfl rfl rfl rfl b12 (lQ (Ah hs)) (by rw [jQ (Ah hs)]; rfl) (kT _) ?_;replace b1:=b1.aT n1_12 ((By (sig.take 32)).toArray);replace b4:=b4.aT n4_12 ((By (sig.take 32)).toArray);replace b8:=b8.aT n8_12 ((By (sig.take 32)).toArray);replace b12:=b12.row ((By (sig.take 32)).toArray);replace hU:=cT hU q12 ((By (sig.take 32)).toArray);generalize dT _ g12 ((By (sig.take 32)).toArray) = W13 at *;refine bI ?_;refine hK _ _ ?_;clear hK K;refine aO λK hK=>?_;refine c_g 5 (by decide) (by kernel_rfl) (by kernel_rfl) ?_;refine cZ rfl ?_;refine mZ g12 rfl rfl rfl rfl rfl ?_;refine c9 ?_;refine cZ rfl ?_;refine mZ g1 rfl rfl rfl rfl rfl ?_;refine c9 ?_;refine cZ rfl ?_;refine aM (.slice P ls.length pc) rfl rfl rfl rfl rfl ?_;refine c9 ?_;refine cZ rfl ?_
    refine dN #[.slice (some ⟨g12,0,none⟩) 32 32,.slice (some ⟨g1,0,none⟩) 32 32,.slice P ls.length pc] (.agg (Us (ws ((sgK (sig.take 32) (eV A) ls.flatten)))).toArray) rfl rfl rfl xV (λw1 h1=>by
      have:=CE (P:=P) (ls:=ls) (pc:=pc) w1 (hT.below (hU.step h1.1)).sh (SB.all (b12.later h1.1) (Ah hs) (by decide)) (SB.all (b1.later h1.1) hk (by decide)) (hP.later (hU.step h1.1)) h0 hls
      rwa [Oz] at this) rfl rfl ?_
    refine c9 ?_;refine zK z4 (W13).heap.size rfl rfl rfl rfl rfl (by kernel_rfl) (λ_ h=>h.size) (λg w w' h hr=>⟨h.1,h.2.later hr⟩) λg14 _ _ _ _=>?_;refine jT λW15 hw15 hF15=>?_;have b14:=(hF15 4 _ rfl).2;have ge14:=(hF15 4 _ rfl).1
    have n1_14 : g1 ≠ g14:=by have:=b1.lt; omega
    have n4_14 : g4 ≠ g14:=by have:=b4.lt; omega
    have n8_14 : g8 ≠ g14:=by have:=b8.lt; omega
    have n12_14 : g12 ≠ g14:=by have:=b12.lt; omega
    have q14 : w.heap.size <= g14:=j6 hU.size ge14;clear ge14;clear hF15;replace b1:=b1.later hw15;replace b4:=b4.later hw15;replace b8:=b8.later hw15;replace b12:=b12.later hw15;replace hU:=hU.step hw15;clear hw15;refine mY g14 _ ((Us (ws ((sgK (sig.take 32) (eV A) ls.flatten)))).toArray) rfl rfl rfl rfl rfl b14 (qI _) (by rw [aV (fA _)]; rfl) (bU _) ?_;replace b1:=b1.aT n1_14 ((Us (ws ((sgK (sig.take 32) (eV A) ls.flatten)))).toArray);replace b4:=b4.aT n4_14 ((Us (ws ((sgK (sig.take 32) (eV A) ls.flatten)))).toArray);replace b8:=b8.aT n8_14 ((Us (ws ((sgK (sig.take 32) (eV A) ls.flatten)))).toArray);replace b12:=b12.aT n12_14 ((Us (ws ((sgK (sig.take 32) (eV A) ls.flatten)))).toArray);replace b14:=b14.row ((Us (ws ((sgK (sig.take 32) (eV A) ls.flatten)))).toArray);replace hU:=cT hU q14 ((Us (ws ((sgK (sig.take 32) (eV A) ls.flatten)))).toArray);generalize dT _ g14 ((Us (ws ((sgK (sig.take 32) (eV A) ls.flatten)))).toArray) = W16 at *;refine bI ?_;refine hK _ _ ?_;clear hK K;refine aO λK hK=>?_;refine c_g 11 (by decide) (by kernel_rfl) (by kernel_rfl) ?_;refine cZ rfl ?_;refine FK g8 ((le (sig.drop 32))) rfl rfl rfl rfl rfl (λ_ h1=>(h1.1.blk b8).range) ?_;refine c9 ?_;refine cZ rfl ?_;refine dN #[.agg (Us (ws ((le (sig.drop 32))))).toArray] (.agg (By (Nums.bytes 32 ((le (sig.drop 32))))).toArray) rfl rfl rfl qM (λw1 h1=>uP ((le (sig.drop 32))) w1) rfl rfl ?_;refine c9 ?_;refine cZ rfl ?_;refine rT g4 0 hl.len rfl rfl rfl rfl rfl (λ_ h1=>(h1.1.blk b4).range) ?_;refine c9 ?_;refine cZ rfl ?_;refine fC #[.agg (Us l).toArray] (QB · (Ed.neg A)) rfl rfl rfl PE (λw1 h1=>WA (.inr hl) w1 (hT.below (hU.step h1.1)).tw) rfl rfl λr43 v43=>?_;refine c9 ?_;refine cZ rfl ?_;refine FK g14 ((sgK (sig.take 32) (eV A) ls.flatten)) rfl rfl rfl rfl rfl (λ_ h1=>(h1.1.blk b14).range) ?_;refine c9 ?_;refine cZ rfl ?_;refine dN #[.agg (Us (ws ((sgK (sig.take 32) (eV A) ls.flatten)))).toArray] (.agg (By (Nums.bytes 32 ((sgK (sig.take 32) (eV A) ls.flatten)))).toArray) rfl rfl rfl qM (λw1 h1=>uP ((sgK (sig.take 32) (eV A) ls.flatten)) w1) rfl rfl ?_;refine c9 ?_;refine cZ rfl ?_;refine fC #[.agg (By (Nums.bytes 32 ((le (sig.drop 32))))).toArray,.agg (Us r43).toArray,.agg (By (Nums.bytes 32 ((sgK (sig.take 32) (eV A) ls.flatten)))).toArray] (PB · (Ed.add dd (Ed.mul dd (le (Nums.bytes 32 ((le (sig.drop 32))))) base) (Ed.mul dd (le (Nums.bytes 32 ((sgK (sig.take 32) (eV A) ls.flatten)))) (Ed.neg A)))) rfl rfl rfl MY (λw1 h1=>Uc (cP _ _) (.inr v43) (cP _ _) w1 (hT.below (hU.step h1.1)).tw) rfl rfl λr46 v46=>?_;refine c9 ?_;refine cZ rfl ?_;refine dN #[.agg (Us r46).toArray] (.agg (By (eV (Ed.add dd (Ed.mul dd (le (Nums.bytes 32 ((le (sig.drop 32))))) base) (Ed.mul dd (le (Nums.bytes 32 ((sgK (sig.take 32) (eV A) ls.flatten)))) (Ed.neg A))))).toArray) rfl rfl rfl Eg (λw1 h1=>LU v46 w1 (hT.below (hU.step h1.1)).tw) rfl rfl ?_
    refine c9 ?_;refine cZ rfl ?_;refine uF g12 0 (Ah hs) rfl rfl rfl rfl rfl (λ_ h1=>(h1.1.blk b12).range) ?_;refine c9 ?_;refine cZ rfl ?_;refine XV (eV (Ed.add dd (Ed.mul dd (le (Nums.bytes 32 ((le (sig.drop 32))))) base) (Ed.mul dd (le (Nums.bytes 32 ((sgK (sig.take 32) (eV A) ls.flatten)))) (Ed.neg A)))) (sig.take 32) rfl rfl rfl rfl rfl rfl rfl ((gW _)) (Ah hs) ?_;refine c9 ?_;refine cZ rfl ?_;refine cE (.bool ((decide (eV (Ed.add dd (Ed.mul dd (le (Nums.bytes 32 ((le (sig.drop 32))))) base) (Ed.mul dd (le (Nums.bytes 32 ((sgK (sig.take 32) (eV A) ls.flatten)))) (Ed.neg A))) = sig.take 32)))) rfl rfl rfl rfl rfl ?_;refine c9 ?_;refine jT λW17 hw17 hF17=>?_;clear hF17;replace b1:=b1.later hw17;replace b4:=b4.later hw17;replace hU:=hU.step hw17;clear hw17;refine bI ?_;refine hK _ _ ?_;clear hK K;rw [ME hA h8 hS];exact gX (λa ha=>bodyPost_ret (results_tmp rfl _ _ _) ha.defers ⟨congrArg oB (ha.get 6 _ rfl),hU⟩)
   ·rw [decide_eq_false hS]
    refine aO λK0 hK0=>?_;refine aO λK hK=>?_;refine yF 2 ?_;refine cZ rfl ?_;refine aM (.bool false) rfl rfl rfl rfl rfl ?_;refine c9 ?_;refine cZ rfl ?_;refine EC false true rfl rfl rfl rfl rfl rfl ?_;refine c9 ?_;refine jT λW10 hw10 hF10=>?_;clear hF10;replace b1:=b1.later hw10;replace b4:=b4.later hw10;replace hU:=hU.step hw10;clear hw10;refine bI ?_;refine hK _ _ ?_;clear hK K;refine cI true rfl ?_;rw [if_pos rfl];refine aO λK hK=>?_;refine eX ?_;refine cV (.bool false) rfl rfl rfl rfl rfl ?_;refine bI ?_;refine hK _ _ ?_;clear hK K;rw [E8 hS];exact gX (lT (λa ha=>bodyPost_ret (results_tmp rfl _ _ _) ha.defers ⟨congrArg oB (ha.get 6 _ rfl),hU⟩))
 ·refine aO λK hK=>?_
  refine yF 5 ?_;refine cZ rfl ?_;refine uF g1 0 hk rfl rfl rfl rfl rfl (λ_ h1=>(h1.1.blk b1).range) ?_;refine c9 ?_;refine cZ rfl ?_;refine dN #[.agg (By key).toArray] (.tuple #[.agg (Us pz).toArray,.int .i64 50]) rfl rfl rfl Bb (λw1 h1=>Ua hk hA w1 (hT.below (hU.step h1.1)).tw) rfl rfl ?_;refine c9 ?_;refine cZ rfl ?_;refine aM (.tuple #[.agg (Us pz).toArray,.int .i64 50]) rfl rfl rfl rfl rfl ?_;refine c9 ?_;refine cZ rfl ?_;refine dY (.agg (Us pz).toArray) rfl rfl rfl rfl rfl rfl ?_;refine c9 ?_;refine cZ rfl ?_;refine dY (.int .i64 50) rfl rfl rfl rfl rfl rfl ?_;refine c9 ?_;refine jT λW3 hw3 hF3=>?_;clear hF3;replace hU:=hU.step hw3;clear hw3;refine cY ((Us pz).toArray) rfl rfl rfl rfl (by kernel_rfl) λW4 g4 hw4 hg4 b4=>?_
  have q4 : w.heap.size <= g4:=by rw [hg4]; exact hU.size
  replace hU:=hU.step hw4;clear hw4 hg4;refine mY g4 _ ((Us pz).toArray) rfl rfl rfl rfl rfl b4 (dZ fE) ((aV fE).trans (aV fE).symm) (bU _) ?_;replace hU:=cT hU q4 ((Us pz).toArray);generalize dT _ g4 ((Us pz).toArray) = W5 at *;refine cV (.int .i64 50) rfl rfl rfl rfl rfl ?_;refine bI ?_;refine hK _ _ ?_;clear hK K;refine aO λK0 hK0=>?_;refine aO λK hK=>?_;refine yF 6 ?_;refine cZ rfl ?_;refine aM (.int .i64 50) rfl rfl rfl rfl rfl ?_;refine c9 ?_;refine cZ rfl ?_;refine UU _ 0 true rfl rfl rfl rfl rfl rfl rfl (by decide) ?_;refine c9 ?_;refine cZ rfl ?_;refine aM (.bool true) rfl rfl rfl rfl rfl ?_;refine c9 ?_;refine Qx rfl rfl rfl rfl rfl rfl rfl ?_;refine Qx rfl rfl rfl rfl rfl rfl rfl ?_;refine cZ rfl ?_;refine Wk (.bool true) rfl rfl rfl rfl rfl rfl ?_;refine c9 ?_;refine jT λW6 hw6 hF6=>?_;clear hF6;replace hU:=hU.step hw6;clear hw6;refine bI ?_;refine hK _ _ ?_;clear hK K;refine cI true rfl ?_;rw [if_pos rfl];refine aO λK hK=>?_;refine eX ?_;refine cV (.bool false) rfl rfl rfl rfl rfl ?_;refine bI ?_;refine hK _ _ ?_;clear hK K;rw [MD hA];exact gX (lT (λa ha=>bodyPost_ret (results_tmp rfl _ _ _) ha.defers ⟨congrArg oB (ha.get 6 _ rfl),hU⟩))
theorem Pz : Own 28:=λ_ _=>by go_simp
theorem MV : Own 31:=λ_ _=>by go_simp
theorem Vq {seed b : List UInt8} (t : UInt8) {v : Value} (hs : seed.length = 32) (w : World) (hT : Ta w) (hv : SB w v b) (hb : b.length <= 140737488355312) :
  Calls Tryz.prog 28 #[.agg (By seed).toArray,.int .u8 (t.toNat : Int),v] w λe w'=>e = .returned (.agg (By (jZ seed (msg t b))).toArray) /\ Below w.heap.size w w':=by
 refine fI (vs:=[.agg (By seed).toArray,.int .u8 (t.toNat : Int),v]) 13 Tryz.func28 rfl (by rw [Tryz.ntmps28]; rfl) ?_;have hU:=Up.refl w;refine aO λK hK=>?_;refine eX ?_;refine gR ((By seed).toArray) rfl rfl rfl rfl rfl λW1 g1 hw1 hg1 b1=>?_
 have q1 : w.heap.size <= g1:=by rw [hg1]; exact hU.size
 replace hU:=hU.step hw1;clear hw1 hg1;refine cY ((By z64).toArray) rfl rfl rfl rfl BX λW2 g2 hw2 hg2 b2=>?_
 have n1_2 : g1 ≠ g2:=by have:=b1.lt; omega
 have q2 : w.heap.size <= g2:=by rw [hg2]; exact hU.size
 replace b1:=b1.later hw2;replace hU:=hU.step hw2;clear hw2 hg2;refine bI ?_;refine hK _ _ ?_;clear hK K;refine aO λK hK=>?_;refine c_g 6 (by decide) (by kernel_rfl) (by kernel_rfl) ?_;refine cZ rfl ?_;refine uF g1 0 hs rfl rfl rfl rfl rfl (λ_ h1=>(h1.1.blk b1).range) ?_;refine c9 ?_;refine cZ rfl ?_;refine aM (.int .u8 (t.toNat : Int)) rfl rfl rfl rfl rfl ?_;refine c9 ?_;refine cZ rfl ?_;refine aM (v) rfl rfl rfl rfl rfl ?_;refine c9 ?_;refine JX #[.int .u8 (t.toNat : Int),v] (λu w=>SB w u (msg t b)) rfl rfl rfl rfl (λ_ _ _ h hr=>h.later hr) y9 (λw1 h1 hu=>GA t w1 (hv.later (hU.step h1)) hb) rfl rfl λv10 _ _ _=>?_;refine vA [v10] [msg t b] (W2).heap.size rfl rfl rfl rfl rfl rfl rfl (by decide) (by decide) (λ_ h=>h.size) (λ_ h hu=>⟨(hu 3 _ rfl (by kernel_rfl) : SB _ v10 _),trivial⟩) λgs3 _ _ _=>?_;refine cZ rfl ?_
 refine dN #[.agg (By seed).toArray,.slice (some ⟨gs3,0,none⟩) 1 1] (.agg (By (jZ seed (msg t b))).toArray) rfl rfl rfl Py (λw1 h1=>by
   have:=Vk (seed:=seed) (P:=some ⟨gs3,0,none⟩) (ls:=[msg t b]) (pc:=1) hs w1 (hT.below (hU.step h1.1)) ((h1.2 4 _ rfl (by kernel_rfl) : zY _ _ _ _ _).pt) (λe=>by cases e) (by simp)
   rwa [show [msg t b].flatten = msg t b from by simp] at this) rfl rfl ?_
 refine c9 ?_;refine jT λW4 hw4 hF4=>?_;clear hF4;replace b1:=b1.later hw4;replace b2:=b2.later hw4;replace hU:=hU.step hw4;clear hw4;refine mY g2 _ ((By (jZ seed (msg t b))).toArray) rfl rfl rfl rfl rfl b2 (yR ((k9 _ _))) (by rw [a9,a9,cD,cD,((k9 _ _))]; rfl) (kT _) ?_;replace b1:=b1.aT n1_2 ((By (jZ seed (msg t b))).toArray);replace b2:=b2.row ((By (jZ seed (msg t b))).toArray);replace hU:=cT hU q2 ((By (jZ seed (msg t b))).toArray);generalize dT _ g2 ((By (jZ seed (msg t b))).toArray) = W5 at *;refine bI ?_;refine hK _ _ ?_;clear hK K;exact gX (eH g2 _ rfl rfl b2 Tryz.underlying38 rfl (yR ((k9 _ _))) ⟨rfl,hU⟩)
theorem SZ {key sig b : List UInt8} (t : UInt8) {v : Value} (hk : key.length = 32) (hs : sig.length = 64) (w : World) (hT : Ta w) (hv : SB w v b) (hb : b.length <= 140737488355312) :
  Calls Tryz.prog 31 #[.agg (By key).toArray,.int .u8 (t.toNat : Int),v,.agg (By sig).toArray] w λe w'=>e = .returned (.bool (nE key sig (msg t b))) /\ Below w.heap.size w w':=by
 refine fI (vs:=[.agg (By key).toArray,.int .u8 (t.toNat : Int),v,.agg (By sig).toArray]) 16 Tryz.func31 rfl (by rw [Tryz.ntmps31]; rfl) ?_;have hU:=Up.refl w;refine aO λK hK=>?_;refine eX ?_;refine gR ((By key).toArray) rfl rfl rfl rfl rfl λW1 g1 hw1 hg1 b1=>?_
 have q1 : w.heap.size <= g1:=by rw [hg1]; exact hU.size
 replace hU:=hU.step hw1;clear hw1 hg1;refine gR ((By sig).toArray) rfl rfl rfl rfl rfl λW2 g2 hw2 hg2 b2=>?_
 have n1_2 : g1 ≠ g2:=by have:=b1.lt; omega
 have q2 : w.heap.size <= g2:=by rw [hg2]; exact hU.size
 replace b1:=b1.later hw2;replace hU:=hU.step hw2;clear hw2 hg2;refine cV (.bool false) rfl rfl rfl rfl rfl ?_;refine bI ?_;refine hK _ _ ?_;clear hK K;refine aO λK hK=>?_;refine c_g 8 (by decide) (by kernel_rfl) (by kernel_rfl) ?_;refine cZ rfl ?_;refine uF g1 0 hk rfl rfl rfl rfl rfl (λ_ h1=>(h1.1.blk b1).range) ?_;refine c9 ?_;refine cZ rfl ?_;refine QT g2 hs rfl rfl rfl rfl rfl (λ_ h1=>(h1.1.blk b2).range) ?_;refine c9 ?_;refine cZ rfl ?_;refine aM (.int .u8 (t.toNat : Int)) rfl rfl rfl rfl rfl ?_;refine c9 ?_;refine cZ rfl ?_;refine aM (v) rfl rfl rfl rfl rfl ?_;refine c9 ?_;refine JX #[.int .u8 (t.toNat : Int),v] (λu w=>SB w u (msg t b)) rfl rfl rfl rfl (λ_ _ _ h hr=>h.later hr) y9 (λw1 h1 hu=>GA t w1 (hv.later (hU.step h1)) hb) rfl rfl λv13 _ _ _=>?_;refine vA [v13] [msg t b] (W2).heap.size rfl rfl rfl rfl rfl rfl rfl (by decide) (by decide) (λ_ h=>h.size) (λ_ h hu=>⟨(hu 4 _ rfl (by kernel_rfl) : SB _ v13 _),trivial⟩) λgs3 _ _ _=>?_;refine cZ rfl ?_
 refine dN #[.agg (By key).toArray,.agg (By sig).toArray,.slice (some ⟨gs3,0,none⟩) 1 1] (.bool (nE key sig (msg t b))) rfl rfl rfl Jy (λw1 h1=>by
   have:=N3 (key:=key) (sig:=sig) (P:=some ⟨gs3,0,none⟩) (ls:=[msg t b]) (pc:=1) hk hs w1 (hT.below (hU.step h1.1)) ((h1.2 5 _ rfl (by kernel_rfl) : zY _ _ _ _ _).pt) (λe=>by cases e) (by simp)
   rwa [show [msg t b].flatten = msg t b from by simp] at this) rfl rfl ?_
 refine c9 ?_;refine cZ rfl ?_;refine cE (.bool (nE key sig (msg t b))) rfl rfl rfl rfl rfl ?_;refine c9 ?_;refine jT λW4 hw4 hF4=>?_;clear hF4;replace b1:=b1.later hw4;replace b2:=b2.later hw4;replace hU:=hU.step hw4;clear hw4;refine bI ?_;refine hK _ _ ?_;clear hK K;exact gX (λa ha=>bodyPost_ret (results_tmp rfl _ _ _) ha.defers ⟨congrArg oB (ha.get 8 _ rfl),hU⟩)
def zH : List UInt8:=aE 32 0
def Qm (d k : List UInt8) : List UInt8:=eO cH ([[3],d,k] : List (List UInt8)).flatten
def dH (ks : List (List UInt8)) : List UInt8:=ks.foldl Qm zH
def B7 (ks : List (List UInt8)) : List UInt8:=eO cH ([[2],be8 ks.length,dH ks] : List (List UInt8)).flatten
theorem tL (m : List UInt8) : (eO cH m).length = 32:=xF m
theorem Q6 (ks : List (List UInt8)) : (dH ks).length = 32:=by
 unfold dH
 rw [List.foldl_eq_foldr_reverse]
 cases ks.reverse with
 | nil=>rfl
 | cons k r=>exact tL _
theorem T5 {ks : List (List UInt8)} {i : Nat} {k : List UInt8} (h : ks[i]? = some k) : dH (ks.take (i + 1)) = Qm (dH (ks.take i)) k:=by
 unfold dH
 rw [IX,h,List.foldl_append]
 rfl
def Yx : List UInt8:=[220,72,167,66,174,50,207,214,99,82,55,45,97,32,237,20,214,98,159,193,102,36,107,5,255,139,3,226,56,4,112,31]
theorem Sb : B7 [] ≠ B7 [zH]:=by
 have h1 : dH [zH] = Yx:=by
  show eO cH _ = _
  rw [AJ 2 _ (by decide) (by decide) (by decide +kernel)]
  decide +kernel
 unfold B7
 rw [h1,AJ 1 _ (by decide) (by decide) (by decide +kernel),AJ 1 _ (by decide) (by decide) (by decide +kernel)]
 decide +kernel
structure UV where
  id : List UInt8
  ver : Int
  key : List UInt8
  sig : List UInt8
def UV.parts (u : UV) : List Pt:=[.agg 32 (By u.id).toArray,.one (.v (.int .i64 u.ver)),.agg 32 (By u.key).toArray,.agg 64 (By u.sig).toArray]
abbrev eU (u : UV) : SQ:=.p u.parts
structure UV.Ok (u : UV) : Prop where
  id : u.id.length = 32
  key : u.key.length = 32
  sig : u.sig.length = 64
theorem UV.Ok.oY {u : UV} (h : u.Ok) : OkP u.parts:=λp hp=>by
 simp only [UV.parts,List.mem_cons,List.not_mem_nil,or_false] at hp
 rcases hp with rfl | rfl | rfl | rfl
 ·exact (nJ h.id).1 _ (bK.2 rfl)
 ·exact ⟨trivial,rfl,rfl⟩
 ·exact (nJ h.key).1 _ (bK.2 rfl)
 ·exact (nJ h.sig).1 _ (bK.2 rfl)
theorem Q1 {u : UV} (h : u.Ok) : OkP (eU u).iN /\ (eU u).cl.length = 129:=⟨h.oY,by
 rw [SQ.cl,show (eU u).den.cells = eI u.parts from rfl,Array.length_toList,OkP.size h.oY]
 rfl⟩
def rO (z : Int) : Nat:=(IntKind.u64.wrap z).toNat
theorem KE (z : Int) : rO z < 18446744073709551616:=by
 unfold rO
 rw [Ag]
 omega
theorem KF (z : Int) : IntKind.u64.wrap z = (rO z : Int):=by
 unfold rO
 rw [Ag]
 omega
def lK (v : Int) (k : List UInt8) : List UInt8:=be8 (rO v) ++ k
theorem wU {v : Int} {k : List UInt8} (h : k.length = 32) : (lK v k).length = 40:=by
 unfold lK
 rw [aI,nL,h]
noncomputable def rA (u : UV) : Bool:=decide (1 <= u.ver /\ u.ver <= 64) && nE u.id u.sig (msg 1 (lK u.ver u.key))
noncomputable def mkH (seed : List UInt8) (v : Int) (k : List UInt8) : UV:=⟨gV seed,v,k,jZ seed (msg 1 (lK v k))⟩
theorem VQ (seed : List UInt8) (v : Int) {k : List UInt8} (h : k.length = 32) : (mkH seed v k).Ok:=⟨l6 _,h,k9 _ _⟩
open Classical in
theorem Jq (seed : List UInt8) (m : List UInt8) : nE (gV seed) (jZ seed m) m = true:=by
 unfold nE
 exact decide_eq_true (MC seed m)
theorem Jd (seed : List UInt8) (v : Int) (k : List UInt8) : rA (mkH seed v k) = decide (1 <= v /\ v <= 64):=by
 unfold rA mkH
 dsimp only
 rw [Jq,Bool.and_true]
def sZ (u : UV) : List UInt8:=u.id ++ (lK u.ver u.key ++ u.sig)
def yG (us : List UV) : List UInt8:=be8 us.length ++ (us.map sZ).flatten
theorem N5 {u : UV} (h : u.Ok) : (sZ u).length = 136:=by
 unfold sZ
 rw [aI,aI,wU h.key,h.id,h.sig]
theorem Ca : ∀ {us : List UV},(∀ u ∈ us,u.Ok) -> ((us.map sZ).flatten).length = 136 * us.length
 | [],_=>rfl
 | u :: us,h=>by
  rw [cA,lY,aI,N5 (h u List.mem_cons_self),Ca λx hx=>h x (List.mem_cons_of_mem _ hx),List.length_cons]
  omega
theorem IJ {us : List UV} (h : ∀ u ∈ us,u.Ok) : (yG us).length = 8 + 136 * us.length:=by
 unfold yG
 rw [aI,nL,Ca h]
theorem DV {us : List UV} {i : Nat} {u : UV} (h : us[i]? = some u) : ((us.take (i + 1)).map sZ).flatten = ((us.take i).map sZ).flatten ++ sZ u:=by
 rw [IX,h]
 simp
def D8 (x : List UInt8) : List UInt8:=x ++ aE (32 - x.length) 0
def haO (s : Rds) : List UInt8:=D8 (tkO 32 s)
def haS (s : Rds) : Rds:=tkS 32 s
theorem wK (s : Rds) : (haO s).length = 32:=by
 have:=(xR 32 s).1
 simp [haO,D8]
 omega
theorem Qr {s : Rds} (h : (haS s).2 = 0) : s.2 = 0 /\ s.1 = haO s ++ (haS s).1:=by
 obtain ⟨h1,h2,h3⟩:=I9 h;refine ⟨h1,?_⟩
 have e : haO s = tkO 32 s:=by simp [haO,D8,h2]
 rw [e];exact h3
def upV (s : Rds) : Nat:=nuO (haS s)
def upO (s : Rds) : UV:=⟨haO s,IntKind.i64.wrap (upV s : Int),haO (nuS (haS s)),sgO (haS (nuS (haS s)))⟩
def upS (s : Rds) : Rds:=uD (haS (nuS (haS s)))
theorem N6 (s : Rds) : (upO s).Ok:=⟨wK _,wK _,EW _⟩
def stU (s : Rds) : Nat -> Rds
  | 0=>s
  | i + 1=>upS (stU s i)
theorem Mh {s : Rds} (h : s.2 ≠ 0) : upS s = s:=by
 have h1 : haS s = s:=(qF h).2;have h2 : nuS s = s:=(qF h).2;have h3 : uD s = s:=(qF h).2
 unfold upS
 rw [h1,h2,h1,h3]
theorem Aj {s : Rds} {i : Nat} (h : (stU s i).2 ≠ 0) : ∀ d,stU s (i + d) = stU s i
 | 0=>rfl
 | d + 1=>by
  have h1:=Aj h d
  show upS (stU s (i + d)) = _
  rw [h1,Mh h]
theorem Ol {s : Rds} {n i : Nat} (h : (stU s n).2 = 0) (hi : i <= n) : (stU s i).2 = 0:=by
 by_cases h1 : (stU s i).2 = 0
 ·exact h1
 ·have h2:=Aj h1 (n - i)
  rw [show i + (n - i) = n by omega] at h2;rw [h2] at h;exact absurd h h1
def usI (s : Rds) (n : Nat) : List UV:=(List.range n).map λi=>upO (stU s i)
theorem BG (s : Rds) (n : Nat) : (usI s n).length = n:=by simp [usI]
theorem B9 (s : Rds) (n : Nat) : usI s (n + 1) = usI s n ++ [upO (stU s n)]:=by
 unfold usI
 rw [List.range_succ,List.map_append]
 rfl
def mxI (s : Rds) : Nat -> Nat
  | 0=>0
  | n + 1=>max (mxI s n) (upV (stU s n))
theorem U9 (s : Rds) : upV s < 18446744073709551616:=VI _
theorem U8 {s : Rds} (h : (upS s).2 = 0) : s.2 = 0 /\ s.1 = sZ (upO s) ++ (upS s).1:=by
 obtain ⟨h1,e1⟩:=Vl h;obtain ⟨h2,e2⟩:=Qr h1;obtain ⟨h3,e3⟩:=PO h2;obtain ⟨h4,e4⟩:=Qr h3;refine ⟨h4,?_⟩
 unfold sZ lK rO upO
 dsimp only
 rw [Ma (U9 s),aU,aU,aU]
 show _ = haO s ++ (be8 (nuO (haS s)) ++ (haO (nuS (haS s)) ++ (sgO (haS (nuS (haS s))) ++ (uD (haS (nuS (haS s)))).1)))
 rw [<-e1,<-e2,<-e3];exact e4
theorem Sj {s : Rds} {n : Nat} (h : (stU s n).2 = 0) : s.1 = ((usI s n).map sZ).flatten ++ (stU s n).1:=by
 induction n with
 | zero=>rfl
 | succ n ih =>
  have h2:=ih (Ol h (Nat.le_succ n));obtain ⟨_,g2⟩:=U8 (s:=stU s n) h;rw [B9,List.map_append,List.flatten_append];simp only [cA,gB,lY,List.flatten_nil,bV];rw [aU]
  show s.1 = _ ++ (sZ (upO (stU s n)) ++ (upS (stU s n)).1)
  rw [<-g2];exact h2
def hpS (l : List UInt8) : Rds:=moS 65536 (l,0)
def hpN (l : List UInt8) : Nat:=moO 65536 (l,0)
def hpR (l : List UInt8) : Rds:=stU (hpS l) (hpN l)
def hpE (l : List UInt8) : Nat:=if pR (hpR l) = 0 then (if 64 < mxI (hpS l) (hpN l) then 13 else 0) else pR (hpR l)
def hpU (l : List UInt8) : List UV:=if hpE l = 0 then usI (hpS l) (hpN l) else []
theorem V9 {l : List UInt8} (h : hpE l = 0) : pR (hpR l) = 0 /\ mxI (hpS l) (hpN l) <= 64:=by
 unfold hpE at h
 split at h
 ·rename_i h1
  refine ⟨h1,?_⟩
  split at h
  ·cases h
  ·omega
 ·exact absurd h (by assumption)
theorem TB (l : List UInt8) : (hpU l).length <= 65536:=by
 unfold hpU
 split
 ·rw [BG]
  exact JM _ _
 ·exact bZ _
theorem Yj {l : List UInt8} (h : hpE l = 0) : yG (hpU l) = l:=by
 obtain ⟨h1,_⟩:=V9 h;obtain ⟨h2,h3⟩:=QV h1;have h4:=Sj (s:=hpS l) (n:=hpN l) h2;have h5 : (hpS l).2 = 0:=Ol (i:=0) h2 (bZ _);obtain ⟨_,_,_,h7⟩:=VP h5
 unfold hpU yG
 rw [if_pos h,BG];have h8 : (stU (hpS l) (hpN l)).1 = []:=h3;rw [h8,bV] at h4;rw [<-h4];exact h7.symm
theorem H7 {l : List UInt8} {k : Nat} (hk : k <= hpN l) (h : (stU (hpS l) k).2 ≠ 0 \/ k = hpN l) : pR (stU (hpS l) k) = pR (hpR l) /\ (pR (hpR l) = 0 -> k = hpN l):=by
 rcases h with h | h
 ·have h1:=Aj h (hpN l - k)
  rw [show k + (hpN l - k) = hpN l by omega] at h1;have h2 : hpR l = stU (hpS l) k:=h1;rw [h2];refine ⟨rfl,λh3=>?_⟩;exact absurd (QV h3).1 h
 ·subst h
  exact ⟨rfl,λ_=>rfl⟩
end Go.Proofs.YtfkchihlchlfdaaGreatDoor
namespace Go.Proofs.YtfkchihlchlfdaaGreatDoor
open Go.RowKit Go.IntWalk
section
variable {P : Program} {b : iI} {ops : Array Oper} {Q : Exit -> Act -> World -> Prop} {N : Nat} {E : SE} {L : List LV} {R : List Res} {F M : World -> Prop} {o : Oper} {rest : List Oper} {k : Nat}
theorem rR (v : SV) (hv : v.Ok) (hg : o.guard = none) (hd : o.dst = some k) (hk : aQ k N = true) (h : ∀ (G : Nat -> Nat) (a : Act) (w : World),Fr N (fS G E) a -> (execOp a.eval o).run P w = .ok (.value (v.den G)) w)
  (hn : lS P b ops Q N rest ⟨(k,v) :: E,L,R,F,M⟩) : lS P b ops Q N (o :: rest) ⟨E,L,R,F,M⟩:=λa w ⟨G,S,h1,h2,h3⟩=>by
 refine pE (DB hg) (h G a w h1) ?_;rw [hd];exact hn _ w ⟨G,S,h1.put hk _,h2.cons hv,h3⟩
variable {T' : List Oper} {G : Nat -> Nat} {S : Nat -> Prop} {w0 : World} {grest : List (Nat × Oper)} {i : Nat}
theorem UR (v : SV) (hv : v.Ok) (hg : o.guard = none) (hd : o.dst = some k) (hk : aQ k N = true) (h : ∀ (G : Nat -> Nat) (a : Act) (w : World),Fr N (fS G E) a -> (execOp a.eval o).run P w = .ok (.value (v.den G)) w)
  (hn : gS P b ops Q N T' G w0 grest ((k,v) :: E)) : gS P b ops Q N T' G w0 ((i,o) :: grest) E:=λhE =>
 cZ rfl (λa ha=>k5 (by simp [aN,hg]) (λw _=>h G a w ha) (by
  rw [hd]
  exact c9 (o:=o) (hn (hE.cons hv)) _ (ha.put hk _)))
end
section
variable {N : Nat} {E : SE} {o : Oper} {x y : Operand} {t t' : TypeId}
theorem Sx {n : Nat} {l m : List UInt8} (ho : o.op = .binOp .eql t x y t') (hx : evS E x = some (.q (eY n l))) (hy : evS E y = some (.q (eY n m))) (ht : Tryz.prog.underlying t = some (.array n 5)) (hg : Tryz.prog.eqGuardType Tryz.prog.depth t = false) (hl : l.length = n) (hm : m.length = n) :
  ∀ (G : Nat -> Nat) (a : Act) (w : World),Fr N (fS G E) a -> (execOp a.eval o).run Tryz.prog w = .ok (.value ((SV.b (decide (l = m))).den G)) w:=λG a w ha=>by
 have h1 : a.eval x = .agg (By l).toArray:=ha.eval (cU hx);have h2 : a.eval y = .agg (By m).toArray:=ha.eval (cU hy)
 unfold execOp
 simp only [ho,h1,h2,aJ,run_eqGuard_agg (hm:=hg),aF,binOp,Op.equal,Op.maxDepth,lB 9998 n t l m ht hl hm w,aK]
 rfl
theorem GJ {n : Nat} {l m : List UInt8} (ho : o.op = .binOp .neq t x y t') (hx : evS E x = some (.q (eY n l))) (hy : evS E y = some (.q (eY n m))) (ht : Tryz.prog.underlying t = some (.array n 5)) (hg : Tryz.prog.eqGuardType Tryz.prog.depth t = false) (hl : l.length = n) (hm : m.length = n) :
  ∀ (G : Nat -> Nat) (a : Act) (w : World),Fr N (fS G E) a -> (execOp a.eval o).run Tryz.prog w = .ok (.value ((SV.b (!decide (l = m))).den G)) w:=λG a w ha=>by
 have h1 : a.eval x = .agg (By l).toArray:=ha.eval (cU hx);have h2 : a.eval y = .agg (By m).toArray:=ha.eval (cU hy)
 unfold execOp
 simp only [ho,h1,h2,aJ,run_eqGuard_agg (hm:=hg),aF,binOp,Op.equal,Op.maxDepth,lB 9998 n t l m ht hl hm w,aK]
 rfl
abbrev vS (l : List UInt8) : SV:=.v (.string ⟨l.toArray⟩)
theorem Ci {l m : List UInt8} (ho : o.op = .binOp .neq 9 x y t') (hx : evS E x = some (vS l)) (hy : evS E y = some (vS m)) :
  ∀ (G : Nat -> Nat) (a : Act) (w : World),Fr N (fS G E) a -> (execOp a.eval o).run Tryz.prog w = .ok (.value ((SV.b (!decide (l = m))).den G)) w:=λG a w ha=>by
 have h1 : a.eval x = .string ⟨l.toArray⟩:=ha.eval (cU hx);have h2 : a.eval y = .string ⟨m.toArray⟩:=ha.eval (cU hy)
 unfold execOp
 simp only [ho,h1,h2]
 by_cases e : l = m <;> go_simp <;> first | rfl | (rw [show (l == m) = false from by simpa using e]; rfl)
theorem Sw {p q : Nat} (ho : o.op = .call { callee:=.builtin .min,args:=#[x,y],argTypes:=#[3,3] }) (hx : evS E x = some (.v (.int .i64 (p : Int)))) (hy : evS E y = some (.v (.int .i64 (q : Int)))) :
  ∀ (G : Nat -> Nat) (a : Act) (w : World),Fr N (fS G E) a -> (execOp a.eval o).run Tryz.prog w = .ok (.value ((SV.v (.int .i64 ((min p q : Nat) : Int))).den G)) w:=λG a w ha=>by
 have h1 : a.eval x = .int .i64 (p : Int):=ha.eval (cU hx);have h2 : a.eval y = .int .i64 (q : Int):=ha.eval (cU hy)
 unfold execOp
 simp only [ho];generalize a.eval = ρ at *
 show _ = Bo (z9 (.int .i64 ((min p q : Nat) : Int))) w
 go_simp
 split <;> omega
theorem run_sizeOf {P : Program} {e : TypeId} {k : Nat} (he : (P.info? e).map (·.size) = some k) (w : World) : (sizeOf e).run P w = .ok k w:=by
 cases hq : P.info? e with
 | none=>simp [hq] at he
 | some ie =>
  have hs : ie.size = k:=by simpa [hq] using he
  simp [sizeOf,typeInfo,hq,hs]
theorem vY {A : Option Addr} {n c j sz : Nat} {e : TypeId} (he : (Tryz.prog.info? e).map (·.size) = some sz) (hj : j <= c) (hA : A = none -> c = 0) (ho : o.op = .slice t x none (some y) none) (hu : Tryz.prog.underlying t = some (.slice e)) (hx : evS E x = some (.v (.slice A n c))) (hy : evS E y = some (.v (.int .i64 (j : Int)))) :
  ∀ (G : Nat -> Nat) (a : Act) (w : World),Fr N (fS G E) a -> (execOp a.eval o).run Tryz.prog w = .ok (.value ((SV.v (.slice A j c)).den G)) w:=λG a w ha=>by
 have h1 : a.eval x = .slice A n c:=ha.eval (cU hx);have h2 : a.eval y = .int .i64 (j : Int):=ha.eval (cU hy)
 have h3 : (j : Int) <= (c : Int):=by omega
 have h4 : (0 : Int) <= (j : Int):=by omega
 have h5:=run_sizeOf he w
 unfold execOp
 simp only [ho];generalize a.eval = ρ at *;simp only [Option.map,h1,h2]
 show _ = Bo (z9 (.slice A j c)) w
 cases A with
 | none =>
  have:=hA rfl;obtain rfl : c = 0:=this
  obtain rfl : j = 0:=by omega
  go_simp
 | some ad=>go_simp
end
section
variable {b : iI} {ops : Array Oper} {Q : Exit -> Act -> World -> Prop} {N : Nat} {E : SE} {L : List LV} {R : List Res} {F M : World -> Prop} {o : Oper} {rest : List Oper} {k : Nat}
theorem JQ {x : Operand} {A : Option Addr} {c : Nat} (l : List UInt8) (hg : o.guard = none) (hd : o.dst = some k) (hk : aQ k N = true) (ho : o.op = .convert 23 9 x) (hx : evS E x = some (.v (.slice A l.length c)))
  (h : ∀ G S w,View G S L R F M w -> Rd 1 eB A c l w) (hn : lS Tryz.prog b ops Q N rest ⟨(k,vS l) :: E,L,R,F,M⟩) : lS Tryz.prog b ops Q N (o :: rest) ⟨E,L,R,F,M⟩ :=
 l_f (vS l) trivial (λG S w C0 Q' hv h0 hQ=>QK (.slice A l.length c) l hg hd hk ho (cU hx) (λw' hw'=>by rw [h0 w' hw']; exact (h G S w hv).sb) hQ) (by rw [ho]; rfl) hn
end
theorem Om {f : FuncId} {args : List Value} {F : World -> Prop} [Pst F] (h : Spec f args [] F (one (.v (.bool true)))) {W : World} (hF : F W) : Calls Tryz.prog f args.toArray W λe W'=>e = .returned (.bool true) /\ Below W.heap.size W W' :=
 (h W (λ_=>False) (λ_=>False) (λ_ h=>h) (λ_ h=>h.elim) (Stb.JK hF λ_ _ h=>h.elim id id)).mono λ_ _ ⟨_,_,h1,_,h2,_⟩=>⟨h1,h2.up λ_ _ h=>h⟩
theorem Rd.UI {A : Option Addr} {c : Nat} {l : List UInt8} {W : World} (h : SL W 0 W.heap.size A l c) : Rd 1 eB A c l W:=(Rd.Xu ⟨A,c,rfl,h⟩).2
theorem Mv {P : Program} {t e : TypeId} {n sz : Nat} (ht : P.underlying t = some (.array n e)) (he : (P.info? e).map (·.size) = some sz) (g o : Nat) (K : IntKind) (i : Nat) (hi : i < n) (w : World) :
  (lN t (.pointer (some ⟨g,o,none⟩)) (.int K (i : Int))).run P w = .ok (.pointer (some ⟨g,o + sz * i,none⟩)) w:=by
 cases hq : P.info? e with
 | none=>simp [hq] at he
 | some ie =>
  have hs : ie.size = sz:=by simpa [hq] using he
  have h1 : (i : Int) < (n : Int):=by omega
  have h2 : (0 : Int) <= (i : Int):=by omega
  simp [lN,asIntOf,Instr.sureAddr,run_underlying ht,sizeOf,typeInfo,hq,hs,iS,iH,hi]
section
variable {P : Program} {T : List TyR} {b : iI} {ops : Array Oper} {Q : Exit -> Act -> World -> Prop} {N : Nat} {E : SE} {L : List LV} {R : List Res} {F M : World -> Prop} {o : Oper} {rest : List Oper} {k : Nat} {t e : TypeId} {x y z : Operand} {K : IntKind} {j off n sz g : Nat}
theorem GK (i : Nat) (ho : o.op = .indexAddr t x y) (ht : P.underlying t = some (.array n e)) (he : (P.info? e).map (·.size) = some sz) (hx : evS E x = some (.a j off)) (hy : evS E y = some (.v (.int K (i : Int)))) (hi : i < n) :
  ∀ (G : Nat -> Nat) (a : Act) (w : World),Fr N (fS G E) a -> (execOp a.eval o).run P w = .ok (.value ((SV.a j (off + sz * i)).den G)) w:=λG a w ha=>by
 have e1:=ha.eval (cU hx);have e2:=ha.eval (cU hy)
 unfold execOp
 simp only [ho,e1,e2,SV.den,SQ.den,SC.den,aJ,Mv ht he _ _ _ _ hi,aF,aK]
theorem UM {ps : List Pt} {v : Value} (ps' : List Pt) (hg : o.guard = none) (hd : o.dst = none) (ho : o.op = .store t x z) (hx : evS E x = some (.a j off)) (hz : evS E z = some (.v v)) (hl : tW L j = some ps) (ht : (P.info? t).map (·.size) = some 1) (h1 : v.cells = #[v]) (h2 : v.oneCell' = true) (hlt : off < (eI ps).size) (hp : OkP ps')
  (hs : (eI ps').toList = (eI ps).toList.set off v) (hn : lS P b ops Q N rest ⟨E,y5 L j ps',R,F,M⟩) : lS P b ops Q N (o :: rest) ⟨E,L,R,F,M⟩:=λa w ⟨G,S,f1,f2,f3⟩=>by
 obtain ⟨u,hu,rfl,rfl⟩:=mX hl;have e1:=f1.eval (cU hx);have e2:=f1.eval (cU hz);have hst:=qJ (P:=P) (t:=t) (v:=v) (off:=off) (f3.at u hu) (by rw [ht,h1]; rfl) (by rw [h1]; exact hlt) (by rw [h1]; intro u hu; simp at hu; subst hu; exact h2)
 have e3 : ((eI u.ps).toList.take off ++ v.cells.toList ++ (eI u.ps).toList.drop (off + v.cells.size)).toArray = eI ps':=by
  apply Array.ext'
  rw [hs,List.set_eq_take_append_cons_drop,if_pos (by simpa using hlt),h1]
  simp
 rw [e3] at hst
 refine BZ (w':=w.setRow (G u.j) (eI ps')) (DB hg) (by
  unfold execOp
  simp only [ho,e1,e2,SV.den,SQ.den,SC.den,hst,aJ,aK,aF]) ?_
 rw [hd];exact hn _ _ ⟨G,S,f1,f2,f3.set (x8 hl) hp⟩
end
section
variable {α : Type} {fe : α -> SQ} {l : List α} {P : Program} {T : List TyR} {b : iI} {ops : Array Oper} {Q : Exit -> Act -> World -> Prop} {N : Nat} {E : SE} {L : List LV} {R : List Res} {F M : World -> Prop} {o : Oper} {rest : List Oper} {k : Nat} {t e : TypeId} {x y z : Operand} {A : Option Addr} {lo c sz bs g m : Nat}
theorem Ax {A2 : Option Addr} {n c2 : Nat} (hT : OkT P T) (i : Nat) (m : List α) (hg : o.guard = none) (hd : o.dst = some k) (hk : aQ k N = true) (ho : o.op = .call { callee:=.builtin .append,args:=#[x,y],argTypes:=#[t,t] }) (hs : slS T t = some (e,sz,bs)) (hx : evS E x = some (.v (.slice A n c))) (hy : evS E y = some (.v (.slice A2 m.length c2)))
  (hi : R[i]? = some (gA lo e sz fe A c l)) (hn : n = l.length) (hrd : ∀ G S w,View G S L R F M w -> Rd sz fe A2 c2 m w) (h0 : 0 < sz) (hb : (l.length + m.length) * bs <= 140737488355328) (hm : l.length + m.length <= 9223372036854775807 - 64) (hlo : lo <= b.B.heap.size)
  (hc : ∀ A' c',lS P b ops Q N rest ⟨(k,.v (.slice A' (l ++ m).length c')) :: E,L,R.set i (gA lo e sz fe A' c' (l ++ m)),F,M⟩) : lS P b ops Q N (o :: rest) ⟨E,L,R,F,M⟩:=λa w ⟨G,S,f1,f2,f3⟩=>by
 have hR:=hrd G S w f3.view;obtain ⟨S1,h5,hput⟩:=f3.put hi;have e1:=f1.eval (cU hx);have e2:=f1.eval (cU hy);subst hn
 have key : ∃ A' c' w' S',(Builtin.append_ #[t,t] o.type #[.slice A l.length c,.slice A2 m.length c2]).run P w = .ok (.slice A' (l ++ m).length c') w' /\ Chg S1 w w' /\ (gA lo e sz fe A' c' (l ++ m)).holds w' S' /\ ∀ k,S' k -> k < w.heap.size -> S1 k:=by
  cases hA2 : A2 with
  | none =>
   have hc2:=hR.2.2.1 hA2;have hml : m = []:=List.eq_nil_of_length_eq_zero (by have:=hR.1; omega);subst hml;subst hc2;obtain ⟨ht,ie,zz,hie,hz,hsz,hbs,hzs,_⟩:=xS hT hs;have hr:=run_append_owned_none (P:=P) w lo t o.type e ie sz ht hie _ l.length (gH fe l) h5.2.1;refine ⟨A,c,w,S1,by rw [bV]; exact hr,Chg.refl _ _,by rw [bV]; exact h5,λ_ h _=>h⟩
  | some ad =>
   refine gA.grow hT (d:=c2) (ad:=ad) o.type hs h0 h5 hR.2.2.2.1 (λj v hj=>?_) hb hm (j6 hlo f3.chg.size);have hlen:=sK hR.2.2.2.1;have hjl:=(List.getElem?_eq_some_iff.1 hj).1
   have hml : 0 < m.length:=by
    rcases Nat.eq_zero_or_pos m.length with h | h
    ·rw [hlen,h,Nat.zero_mul] at hjl
     omega
    ·exact h
   obtain ⟨bb,oo,e,_,hcell⟩:=hR.2.2.2.2 hml;rw [hA2] at e
   injection e with e
   subst e
   have hq : j / sz < m.length:=by
    rw [hlen] at hjl;exact Nat.div_lt_of_lt_mul (by rwa [iH] at hjl)
   obtain ⟨B,Z,h9,h10,_⟩:=Bi hR.2.2.2.1 (aX hq);have hmod:=Nat.div_add_mod j sz;have hlt:=eJ j h0;have hcl:=(hR.2.2.2.1 _ (List.getElem_mem hq)).2
   have hv : (fe m[j / sz]).cl[j % sz]? = some v:=by
    rw [h9,List.getElem?_append_right (by omega),h10,List.getElem?_append_left (by omega)] at hj
    rwa [show j - sz * (j / sz) = j % sz by omega] at hj
   have:=hcell (j / sz) _ (aX hq) (j % sz) v hv;rw [iS]
   rwa [Nat.add_assoc,hmod] at this
 obtain ⟨A',c',w',S',hr,hch,ho',hS'⟩:=key;obtain ⟨S'',h6⟩:=hput _ _ _ hch ho' hS'
 refine pE (v:=.slice A' (l ++ m).length c') (w':=w') (DB hg) (by
  unfold execOp
  simp only [ho,resolve,invoke,builtin,aJ,aK,aF,List.map_toArray,cA,gB,e1,e2,SV.den,SQ.den,SC.den,hr]) ?_
 rw [hd];exact hc A' c' _ _ ⟨G,S'',f1.put hk _,f2.cons trivial,h6⟩
end
theorem Ky {m r : Int} (h : m = r) (h1 : 0 <= r) (h2 : r < 18446744073709551616) : IntKind.u64.wrap m = r:=by
 subst h
 show m % 18446744073709551616 = m
 omega
end Go.Proofs.YtfkchihlchlfdaaGreatDoor
