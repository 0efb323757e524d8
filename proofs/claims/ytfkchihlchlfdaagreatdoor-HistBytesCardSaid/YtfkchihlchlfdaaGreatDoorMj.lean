import Derived.Test.YtfkchihlchlfdaaGreatDoorMi
import Derived.Test.YtfkchihlchlfdaaGreatDoorMa
import Derived.Test.YtfkchihlchlfdaaGreatDoorMg
import Derived.Great.BuildSlice
set_option maxRecDepth 100000
set_option maxHeartbeats 4000000
open Array renaming range->BE
open Go.Instr renaming fill->gN,fieldAt->kA,indexAt->lN,buildSlice->nN
open Go.Result renaming andThen_ok->aF
open Go.Sem renaming run_bind->aJ,run_pure->aK
open List renaming replicate->aE,length_append->aI,append_assoc->aU,getElem?_eq_getElem->aX,length_take->aY,size_toArray->a9,length_replicate->bH,append_nil->bV,take_of_length_le->bW,map_cons->cA,take_append_drop->dR,map_toArray->dW,length_set->eP,map_nil->gB,mem_of_getElem?->gK,mem_map->gP,nil_append->kG,flatten_cons->lY,drop_eq_getElem_cons->mK,drop_zero->qX,getElem_mem->yJ
open Nat renaming le_refl->aH,blt->aQ,mod_eq_of_lt->bR,zero_le->bZ,zero_add->cK,min_eq_left->cW,pow_succ->dD,pow_zero->mS,pow_add->pL,add_comm->uB,add_mul_div_left->DN,reduceAdd->F9,pow_pos->NK
open Ne renaming symm->lZ
open Option.some renaming injEq->bG
open UInt8 renaming ofNat->cR
namespace Go.Proofs.YtfkchihlchlfdaaGreatDoor
open Go.RowKit Go.IntWalk Nums
theorem LM {A : Ed.Pt p} (hon : Ed.On dd A) {i : Nat} : Ed.mul dd (2 ^ (i + 1)) A = Ed.add dd (Ed.mul dd (2 ^ i) A) (Ed.mul dd (2 ^ i) A):=by
 rw [dD,Nat.mul_two,Ed.mul_add jC hon]
def DC (n : Nat) (A : Ed.Pt p) (i : Nat) (l : List Nat) : Prop:=∃ X Y Z T x y z t,l = pc X Y Z T /\ EB X x /\ EB Y y /\ EB Z z /\ EB T t /\ Ed.Rep x y z (Ed.mul dd (2 ^ i) A) /\ (i = 0 \/ i = n -> t * z = x * y)
theorem DC.start {n : Nat} {A : Ed.Pt p} {l : List Nat} (h : QB l A) : DC n A 0 l:=by
 obtain ⟨⟨X,Y,Z,T,x,y,z,t,e,hX,hY,hZ,hT,hR,ht⟩,_⟩:=h;exact ⟨X,Y,Z,T,x,y,z,t,e,hX,hY,hZ,hT,by rw [mS,Ed.Hs jC]; exact hR,λ_=>ht⟩
theorem DC.len {n i : Nat} {A : Ed.Pt p} {l : List Nat} (h : DC n A i l) : l.length = 20:=by
 obtain ⟨X,Y,Z,T,x,y,z,t,rfl,hX,hY,hZ,hT,_⟩:=h;exact lC hX.len hY.len hZ.len hT.len
theorem DC.fin {n : Nat} {A : Ed.Pt p} {l : List Nat} (h : DC n A n l) (hon : Ed.On dd A) : QB l (Ed.mul dd (2 ^ n) A):=by
 obtain ⟨X,Y,Z,T,x,y,z,t,e,hX,hY,hZ,hT,hR,ht⟩:=h;exact ⟨⟨X,Y,Z,T,x,y,z,t,e,hX,hY,hZ,hT,hR,ht (.inr rfl)⟩,Ed.kN jC hon _⟩
def DF (n g1 g2 : Nat) (s : Nat × List Nat) : List (Nat × Value):=[(1,.int .i64 (n : Int)),(2,.pointer (some ⟨g1,0,none⟩)),(4,.pointer (some ⟨g2,0,none⟩)),(18,.int .i64 (n : Int)),(19,.int .i64 (s.1 : Int))]
def DR (w : World) (n g1 g2 : Nat) (A : Ed.Pt p) (s : Nat × List Nat) (W : World) : Prop:=s.1 <= n /\ DC n A s.1 s.2 /\ Up w W /\ Tw W /\ Blk W g1 118 (Us s.2).toArray /\ Blk W g2 118 (Us pz).toArray
theorem wQ {l : List Nat} {A : Ed.Pt p} (hP : PB l A) (n : Nat) (hn : n < 4294967296) (w : World) (hT : Tw w) :
  Calls Tryz.prog 98 #[.agg (Us l).toArray,.int .i64 (n : Int)] w λe w'=>∃ r,PB r (Ed.mul dd (2 ^ n) A) /\ e = .returned (.agg (Us r).toArray) /\ Below w.heap.size w w':=by
 refine fI (vs:=[.agg (Us l).toArray,.int .i64 (n : Int)]) 76 Tryz.func98 rfl (by rw [Tryz.ntmps98]; rfl) ?_;have hw0:=hT.lt;have hl:=hP.len;refine aO λK hK=>?_;refine eX ?_;refine gR ((Us l).toArray) rfl rfl rfl rfl rfl λW1 g1 hw1 hg1 b1=>?_
 have q1 : w.heap.size <= g1:=by rw [hg1]; exact aH _
 clear hg1;replace hT:=hT.below hw1;have hU : Up w _:=hw1;refine cY ((Us pz).toArray) rfl rfl rfl rfl (by kernel_rfl) λW2 g2 hw2 hg2 b2=>?_
 have q2 : w.heap.size <= g2:=by rw [hg2]; exact hU.size
 have n1_2 : g1 ≠ g2:=by have:=b1.lt; omega
 clear hg2;replace b1:=b1.later hw2;replace hT:=hT.below hw2;replace hU:=hU.step hw2;refine bI ?_;refine hK _ _ ?_;clear hK K;refine aO λK0 hK0=>?_;refine aO λK hK=>?_
 rcases hP with ⟨rfl,rfl⟩ | hQ
 ·refine dG ?_
  refine rT g1 0 hl rfl rfl rfl rfl rfl (λ_ h1=>(h1.blk b1).range) ?_;refine g7 [] (Us pz).toArray rfl rfl rfl rfl rfl tO ?_;refine Nq (Us pz).toArray (Us pz).toArray rfl rfl rfl rfl rfl rfl (by kernel_rfl) UW ?_;refine bN λw9 hw9=>hK _ _ ?_;clear hK K;replace b1:=b1.later hw9;replace b2:=b2.later hw9;replace hT:=hT.below hw9;replace hU:=hU.step hw9;refine cI true rfl ?_;rw [if_pos rfl];refine aO λK2 hK2=>?_;refine lL 1 ?_;refine rT g1 0 hl rfl rfl rfl rfl rfl (λ_ h1=>(h1.blk b1).range) ?_;refine iW g2 _ ((Us pz).toArray) rfl rfl rfl rfl rfl b2 (dZ fE) ((aV fE).trans (aV fE).symm) (bU _) λw3 hw3 c3=>?_;replace b1:=(b1.later hw3).aT n1_2 ((Us pz).toArray);replace b2:=c3;replace hT:=(hT.below hw3).row (g:=g2) (by have:=hw0; omega) ((Us pz).toArray);replace hU:=cT (hU.step hw3) q2 ((Us pz).toArray);clear hw3 c3;generalize w3.setRow g2 ((Us pz).toArray) = W3 at *;refine bI ?_;refine hK2 _ _ ?_;clear hK2 K2;refine gX (lT (eH g2 _ rfl rfl b2 Tryz.underlying118 rfl (dZ fE) ⟨_,.inl ⟨rfl,Ed.mul_zero jC _⟩,rfl,hU⟩))
 ·have hon:=hQ.on
  refine dG ?_;refine rT g1 0 hl rfl rfl rfl rfl rfl (λ_ h1=>(h1.blk b1).range) ?_;refine g7 [] (Us pz).toArray rfl rfl rfl rfl rfl tO ?_;refine Nq (Us l).toArray (Us pz).toArray rfl rfl rfl rfl rfl rfl (by kernel_rfl) (UK hQ) ?_;refine bN λw9 hw9=>hK _ _ ?_;clear hK K;replace b1:=b1.later hw9;replace b2:=b2.later hw9;replace hT:=hT.below hw9;replace hU:=hU.step hw9;refine cI false rfl ?_;rw [if_neg (by decide)];refine fG ?_;refine hK0 _ _ ?_;clear hK0 K0;refine aO λK1 hK1=>?_;refine aO λK hK=>?_;refine dG ?_;refine aM (.int .i64 (n : Int)) rfl rfl rfl rfl rfl ?_;refine aM (.int .i64 0) rfl rfl rfl rfl rfl ?_;refine bN λw10 hw10=>?_;replace b1:=b1.later hw10;replace b2:=b2.later hw10;replace hT:=hT.below hw10;replace hU:=hU.step hw10;refine eC (E':=DF n g1 g2 (0,l)) ⟨rfl,rfl,rfl,rfl,rfl,trivial⟩ ?_;refine hK _ _ ?_;clear hK K;refine dS ?_;refine kQ (m:=λs : Nat × List Nat=>n - s.1) (F:=DF n g1 g2) (R:=DR w n g1 g2 A) ?_ (0,l) ⟨bZ _,DC.start hQ,hU,hT,b1,b2⟩;clear hU hT b1 b2 hw10 w10 hQ
  rintro ⟨i,m⟩ V0 ⟨hi,hD,hU,hT,b1,b2⟩
  simp only at hi hD b1;refine aO λK hK=>?_;refine dG ?_
  by_cases hin : i < n
  ·refine fZ (i : Int) (n : Int) true rfl rfl rfl rfl rfl rfl (decide_eq_true (by omega)) ?_
   refine bN λw11 hw11=>hK _ _ ?_;clear hK K;replace b1:=b1.later hw11;replace b2:=b2.later hw11;replace hT:=hT.below hw11;replace hU:=hU.step hw11;refine aO λK hK=>?_;refine cI true rfl ?_;refine fG ?_;refine hK _ _ ?_;clear hK K;refine aO λK3 hK3=>?_;refine dS ?_;refine aO λK hK=>?_;refine dG ?_;refine aM (.int .i64 (i : Int)) rfl rfl rfl rfl rfl ?_;refine cE (.int .i64 (i : Int)) rfl rfl rfl rfl rfl ?_;refine bN λw12 hw12=>hK _ _ ?_;clear hK K;replace b1:=b1.later hw12;replace b2:=b2.later hw12;replace hT:=hT.below hw12;replace hU:=hU.step hw12;obtain ⟨X1,Y1,Z1,T1,x1,y1,z1,t1,rfl,hX1,hY1,hZ1,hT1,hR1,ht1⟩:=hD;refine aO λK hK=>?_;refine Bl 20 [nvE 6,nvE 7,nvE 8,nvE 9] (by decide) (by decide) ⟨⟨rfl,rfl,rfl,rfl,by kernel_rfl⟩,⟨rfl,rfl,rfl,rfl,by kernel_rfl⟩,⟨rfl,rfl,rfl,rfl,by kernel_rfl⟩,⟨rfl,rfl,rfl,rfl,by kernel_rfl⟩,trivial⟩ (by kernel_rfl) (Gt 8 (by kernel_rfl)) (by kernel_rfl) (λ_ _ d _ _ h=>by cases d <;> exact h) ?_;refine gI g1 0 0 rfl rfl rfl rfl rfl (λw1=>FO _ w1) ?_;refine dU g1 0 hX1.len rfl rfl rfl rfl rfl (λ_ h1=>(h1.blk b1).cx) ?_;refine gI g1 0 0 rfl rfl rfl rfl rfl (λw1=>FO _ w1) ?_;refine dU g1 0 hX1.len rfl rfl rfl rfl rfl (λ_ h1=>(h1.blk b1).cx) ?_;refine fC #[.agg (Us X1).toArray,.agg (Us X1).toArray] (EB · (x1 * x1)) rfl rfl rfl bO (λw1 h1=>dF hX1 hX1 w1) rfl rfl λr26 v26=>?_;refine gI g1 0 5 rfl rfl rfl rfl rfl (λw1=>DH _ w1) ?_;refine dU g1 5 hY1.len rfl rfl rfl rfl rfl (λ_ h1=>(h1.blk b1).cy hX1.len) ?_;refine gI g1 0 5 rfl rfl rfl rfl rfl (λw1=>DH _ w1) ?_;refine dU g1 5 hY1.len rfl rfl rfl rfl rfl (λ_ h1=>(h1.blk b1).cy hX1.len) ?_;refine fC #[.agg (Us Y1).toArray,.agg (Us Y1).toArray] (EB · (y1 * y1)) rfl rfl rfl bO (λw1 h1=>dF hY1 hY1 w1) rfl rfl λr31 v31=>?_;refine gI g1 0 10 rfl rfl rfl rfl rfl (λw1=>Iw _ w1) ?_;refine dU g1 10 hZ1.len rfl rfl rfl rfl rfl (λ_ h1=>(h1.blk b1).cz hX1.len hY1.len) ?_;refine gI g1 0 10 rfl rfl rfl rfl rfl (λw1=>Iw _ w1) ?_;refine dU g1 10 hZ1.len rfl rfl rfl rfl rfl (λ_ h1=>(h1.blk b1).cz hX1.len hY1.len) ?_;refine fC #[.agg (Us Z1).toArray,.agg (Us Z1).toArray] (EB · (z1 * z1)) rfl rfl rfl bO (λw1 h1=>dF hZ1 hZ1 w1) rfl rfl λr36 v36=>?_;refine gI g1 0 0 rfl rfl rfl rfl rfl (λw1=>FO _ w1) ?_;refine dU g1 0 hX1.len rfl rfl rfl rfl rfl (λ_ h1=>(h1.blk b1).cx) ?_;refine gI g1 0 5 rfl rfl rfl rfl rfl (λw1=>DH _ w1) ?_;refine dU g1 5 hY1.len rfl rfl rfl rfl rfl (λ_ h1=>(h1.blk b1).cy hX1.len) ?_;refine fC #[.agg (Us X1).toArray,.agg (Us Y1).toArray] (EB · (x1 * y1)) rfl rfl rfl bO (λw1 h1=>dF hX1 hY1 w1) rfl rfl λr41 v41=>?_;refine o7 [.tmp 26,.tmp 31,.tmp 36,.tmp 41] [(Us r26).toArray,(Us r31).toArray,(Us r36).toArray,(Us r41).toArray] ⟨rfl,rfl,rfl,rfl,trivial⟩ (by decide) ⟨⟨rfl,rfl,rfl⟩,⟨rfl,rfl,rfl⟩,⟨rfl,rfl,rfl⟩,⟨rfl,rfl,rfl⟩,rfl⟩ ⟨⟨rfl,(aV gE).trans (aV v26.len).symm,gG v26.len,bU _⟩,⟨rfl,(aV gE).trans (aV v31.len).symm,gG v31.len,bU _⟩,⟨rfl,(aV gE).trans (aV v36.len).symm,gG v36.len,bU _⟩,⟨rfl,(aV gE).trans (aV v41.len).symm,gG v41.len,bU _⟩,trivial⟩ λf13 W13 hg13 hd13 hw13 hb13=>?_
   have b1300 : Blk W13 (f13 0) 116 ((Us r26).toArray):=hb13.1;have b1301 : Blk W13 (f13 1) 116 ((Us r31).toArray):=hb13.2.1;have b1302 : Blk W13 (f13 2) 116 ((Us r36).toArray):=hb13.2.2.1;have b1303 : Blk W13 (f13 3) 116 ((Us r41).toArray):=hb13.2.2.2.1;clear hb13;replace b1:=b1.later hw13;replace b2:=b2.later hw13;replace hT:=hT.below hw13;replace hU:=hU.step hw13;clear hg13 hd13 hw13;generalize hf1300 : f13 0 = g1300 at *;generalize hf1301 : f13 1 = g1301 at *;generalize hf1302 : f13 2 = g1302 at *;generalize hf1303 : f13 3 = g1303 at *;simp only [l8,F9,hf1300,hf1301,hf1302,hf1303];clear hf1300 hf1301 hf1302 hf1303 f13;refine bI ?_;refine eC (E':=[(1,.int .i64 (n : Int)),(2,.pointer (some ⟨g1,0,none⟩)),(4,.pointer (some ⟨g2,0,none⟩)),(18,.int .i64 (n : Int)),(19,.int .i64 (i : Int)),(5,.int .i64 (i : Int)),(6,.pointer (some ⟨g1300,0,none⟩)),(7,.pointer (some ⟨g1301,0,none⟩)),(8,.pointer (some ⟨g1302,0,none⟩)),(9,.pointer (some ⟨g1303,0,none⟩))]) ⟨rfl,rfl,rfl,rfl,rfl,rfl,rfl,rfl,rfl,rfl,trivial⟩ ?_;refine hK _ _ ?_;clear hK K;refine aO λK hK=>?_;refine Bl 9 [nvE 10,nvE 11,nvE 12] (by decide) (by decide) ⟨⟨rfl,rfl,rfl,rfl,by kernel_rfl⟩,⟨rfl,rfl,rfl,rfl,by kernel_rfl⟩,⟨rfl,rfl,rfl,rfl,by kernel_rfl⟩,trivial⟩ (by kernel_rfl) (cJ (by kernel_rfl)) (by kernel_rfl) (λ_ _ d _ _ h=>by cases d <;> exact h) ?_;refine dU g1303 0 v41.len rfl rfl rfl rfl rfl (λ_ h1=>(h1.blk b1303).range) ?_;refine dU g1303 0 v41.len rfl rfl rfl rfl rfl (λ_ h1=>(h1.blk b1303).range) ?_;refine fC #[.agg (Us r41).toArray,.agg (Us r41).toArray] (EB · ((x1 * y1) + (x1 * y1))) rfl rfl rfl lA (λw1 h1=>oU v41 v41 w1) rfl rfl λr44 v44=>?_;refine dU g1301 0 v31.len rfl rfl rfl rfl rfl (λ_ h1=>(h1.blk b1301).range) ?_;refine dU g1300 0 v26.len rfl rfl rfl rfl rfl (λ_ h1=>(h1.blk b1300).range) ?_;refine fC #[.agg (Us r31).toArray,.agg (Us r26).toArray] (EB · ((y1 * y1) - (x1 * x1))) rfl rfl rfl jF (λw1 h1=>mQ v31 v26 w1 (hT.below h1)) rfl rfl λr47 v47=>?_;refine dU g1301 0 v31.len rfl rfl rfl rfl rfl (λ_ h1=>(h1.blk b1301).range) ?_;refine dU g1300 0 v26.len rfl rfl rfl rfl rfl (λ_ h1=>(h1.blk b1300).range) ?_;refine fC #[.agg (Us r31).toArray,.agg (Us r26).toArray] (EB · ((y1 * y1) + (x1 * x1))) rfl rfl rfl lA (λw1 h1=>oU v31 v26 w1) rfl rfl λr50 v50=>?_;refine o7 [.tmp 44,.tmp 47,.tmp 50] [(Us r44).toArray,(Us r47).toArray,(Us r50).toArray] ⟨rfl,rfl,rfl,trivial⟩ (by decide) ⟨⟨rfl,rfl,rfl⟩,⟨rfl,rfl,rfl⟩,⟨rfl,rfl,rfl⟩,rfl⟩ ⟨⟨rfl,(aV gE).trans (aV v44.len).symm,gG v44.len,bU _⟩,⟨rfl,(aV gE).trans (aV v47.len).symm,gG v47.len,bU _⟩,⟨rfl,(aV gE).trans (aV v50.len).symm,gG v50.len,bU _⟩,trivial⟩ λf14 W14 hg14 hd14 hw14 hb14=>?_
   have b1400 : Blk W14 (f14 0) 116 ((Us r44).toArray):=hb14.1;have b1401 : Blk W14 (f14 1) 116 ((Us r47).toArray):=hb14.2.1;have b1402 : Blk W14 (f14 2) 116 ((Us r50).toArray):=hb14.2.2.1;clear hb14
   have n1_1400 : g1 ≠ f14 0:=by have:=b1.lt; have:=hg14 0 (by decide); omega
   have n1_1402 : g1 ≠ f14 2:=by have:=b1.lt; have:=hg14 2 (by decide); omega
   replace b1:=b1.later hw14;replace b2:=b2.later hw14;replace b1302:=b1302.later hw14;replace hT:=hT.below hw14;replace hU:=hU.step hw14;clear hg14 hd14 hw14;generalize hf1400 : f14 0 = g1400 at *;generalize hf1401 : f14 1 = g1401 at *;generalize hf1402 : f14 2 = g1402 at *;simp only [l8,F9,hf1400,hf1401,hf1402];clear hf1400 hf1401 hf1402 f14;refine bI ?_;refine eC (E':=[(1,.int .i64 (n : Int)),(2,.pointer (some ⟨g1,0,none⟩)),(4,.pointer (some ⟨g2,0,none⟩)),(18,.int .i64 (n : Int)),(19,.int .i64 (i : Int)),(5,.int .i64 (i : Int)),(8,.pointer (some ⟨g1302,0,none⟩)),(10,.pointer (some ⟨g1400,0,none⟩)),(11,.pointer (some ⟨g1401,0,none⟩)),(12,.pointer (some ⟨g1402,0,none⟩))]) ⟨rfl,rfl,rfl,rfl,rfl,rfl,rfl,rfl,rfl,rfl,trivial⟩ ?_;refine hK _ _ ?_;clear hK K;refine aO λK hK=>?_;refine Bl 5 [nvE 13] (by decide) (by decide) ⟨⟨rfl,rfl,rfl,rfl,by kernel_rfl⟩,trivial⟩ (by kernel_rfl) (cJ (by kernel_rfl)) (by kernel_rfl) (λ_ _ d _ _ h=>by cases d <;> exact h) ?_;refine dU g1302 0 v36.len rfl rfl rfl rfl rfl (λ_ h1=>(h1.blk b1302).range) ?_;refine dU g1302 0 v36.len rfl rfl rfl rfl rfl (λ_ h1=>(h1.blk b1302).range) ?_;refine fC #[.agg (Us r36).toArray,.agg (Us r36).toArray] (EB · ((z1 * z1) + (z1 * z1))) rfl rfl rfl lA (λw1 h1=>oU v36 v36 w1) rfl rfl λr53 v53=>?_;refine dU g1401 0 v47.len rfl rfl rfl rfl rfl (λ_ h1=>(h1.blk b1401).range) ?_;refine fC #[.agg (Us r53).toArray,.agg (Us r47).toArray] (EB · (((z1 * z1) + (z1 * z1)) - ((y1 * y1) - (x1 * x1)))) rfl rfl rfl jF (λw1 h1=>mQ v53 v47 w1 (hT.below h1)) rfl rfl λr55 v55=>?_;refine o7 [.tmp 55] [(Us r55).toArray] ⟨rfl,trivial⟩ (by decide) ⟨⟨rfl,rfl,rfl⟩,rfl⟩ ⟨⟨rfl,(aV gE).trans (aV v55.len).symm,gG v55.len,bU _⟩,trivial⟩ λf15 W15 hg15 hd15 hw15 hb15=>?_;have b1500 : Blk W15 (f15 0) 116 ((Us r55).toArray):=hb15.1;clear hb15;replace b1:=b1.later hw15;replace b2:=b2.later hw15;replace b1400:=b1400.later hw15;replace b1401:=b1401.later hw15;replace b1402:=b1402.later hw15;replace hT:=hT.below hw15;replace hU:=hU.step hw15;clear hg15 hd15 hw15;generalize hf1500 : f15 0 = g1500 at *;simp only [l8,hf1500];clear hf1500 f15;refine bI ?_;refine eC (E':=[(1,.int .i64 (n : Int)),(2,.pointer (some ⟨g1,0,none⟩)),(4,.pointer (some ⟨g2,0,none⟩)),(18,.int .i64 (n : Int)),(19,.int .i64 (i : Int)),(5,.int .i64 (i : Int)),(10,.pointer (some ⟨g1400,0,none⟩)),(11,.pointer (some ⟨g1401,0,none⟩)),(12,.pointer (some ⟨g1402,0,none⟩)),(13,.pointer (some ⟨g1500,0,none⟩))]) ⟨rfl,rfl,rfl,rfl,rfl,rfl,rfl,rfl,rfl,rfl,trivial⟩ ?_;refine hK _ _ ?_;clear hK K;refine aO λK hK=>?_;refine c_t 10 (by decide) (by kernel_rfl) (cJ (by kernel_rfl)) (λ_ _ d _ _ h=>by cases d <;> exact h) ?_;refine dU g1400 0 v44.len rfl rfl rfl rfl rfl (λ_ h1=>(h1.blk b1400).range) ?_
   refine dU g1500 0 v55.len rfl rfl rfl rfl rfl (λ_ h1=>(h1.blk b1500).range) ?_;refine fC #[.agg (Us r44).toArray,.agg (Us r55).toArray] (EB · (((x1 * y1) + (x1 * y1)) * (((z1 * z1) + (z1 * z1)) - ((y1 * y1) - (x1 * x1))))) rfl rfl rfl bO (λw1 h1=>dF v44 v55 w1) rfl rfl λr58 v58=>?_;refine dU g1401 0 v47.len rfl rfl rfl rfl rfl (λ_ h1=>(h1.blk b1401).range) ?_;refine dU g1402 0 v50.len rfl rfl rfl rfl rfl (λ_ h1=>(h1.blk b1402).range) ?_;refine fC #[.agg (Us r47).toArray,.agg (Us r50).toArray] (EB · (((y1 * y1) - (x1 * x1)) * ((y1 * y1) + (x1 * x1)))) rfl rfl rfl bO (λw1 h1=>dF v47 v50 w1) rfl rfl λr61 v61=>?_;refine dU g1500 0 v55.len rfl rfl rfl rfl rfl (λ_ h1=>(h1.blk b1500).range) ?_;refine dU g1401 0 v47.len rfl rfl rfl rfl rfl (λ_ h1=>(h1.blk b1401).range) ?_;refine fC #[.agg (Us r55).toArray,.agg (Us r47).toArray] (EB · ((((z1 * z1) + (z1 * z1)) - ((y1 * y1) - (x1 * x1))) * ((y1 * y1) - (x1 * x1)))) rfl rfl rfl bO (λw1 h1=>dF v55 v47 w1) rfl rfl λr64 v64=>?_;refine g7 [(0,.agg (Us r58).toArray),(1,.agg (Us r61).toArray),(2,.agg (Us r64).toArray)] (Us (pc r58 r61 r64 zl)).toArray rfl rfl rfl rfl rfl (Ug v58.len v61.len v64.len) ?_;refine iW g1 _ ((Us (pc r58 r61 r64 zl)).toArray) rfl rfl rfl rfl rfl b1 (dZ (lC v58.len v61.len v64.len gE)) ((aV (lC hX1.len hY1.len hZ1.len hT1.len)).trans (aV (lC v58.len v61.len v64.len gE)).symm) (bU _) λw16 hw16 c16=>?_;replace b2:=(b2.later hw16).aT (lZ n1_2) ((Us (pc r58 r61 r64 zl)).toArray);replace b1400:=(b1400.later hw16).aT (lZ n1_1400) ((Us (pc r58 r61 r64 zl)).toArray);replace b1402:=(b1402.later hw16).aT (lZ n1_1402) ((Us (pc r58 r61 r64 zl)).toArray);replace b1:=c16;replace hT:=(hT.below hw16).row (g:=g1) (by have:=hw0; omega) ((Us (pc r58 r61 r64 zl)).toArray);replace hU:=cT (hU.step hw16) q1 ((Us (pc r58 r61 r64 zl)).toArray);clear hw16 c16;generalize w16.setRow g1 ((Us (pc r58 r61 r64 zl)).toArray) = W16 at *;refine bI ?_;refine hK _ _ ?_;clear hK K;have hE:=Ed.Rep.dbl jC (Ed.kN jC hon (2 ^ i)) hR1 rfl rfl rfl rfl rfl rfl rfl rfl;rw [<-LM hon] at hE;refine aO λK hK=>?_;refine dG ?_;refine aM (.int .i64 (i : Int)) rfl rfl rfl rfl rfl ?_;refine aM (.int .i64 (n : Int)) rfl rfl rfl rfl rfl ?_;refine pG (n : Int) (1 : Int) ((n - 1 : Nat) : Int) rfl rfl rfl rfl rfl rfl (Xf n 1 (by omega) (by omega)) ?_
   by_cases hlast : i = n - 1
   ·refine QS (i : Int) ((n - 1 : Nat) : Int) true rfl rfl rfl rfl rfl rfl (decide_eq_true (by omega)) ?_
    refine bN λw18 hw18=>hK _ _ ?_;clear hK K;replace b1:=b1.later hw18;replace b2:=b2.later hw18;replace b1400:=b1400.later hw18;replace b1402:=b1402.later hw18;replace hT:=hT.below hw18;replace hU:=hU.step hw18;refine cI true rfl ?_;refine lL 4 ?_;refine dU g1400 0 v44.len rfl rfl rfl rfl rfl (λ_ h1=>(h1.blk b1400).range) ?_;refine dU g1402 0 v50.len rfl rfl rfl rfl rfl (λ_ h1=>(h1.blk b1402).range) ?_;refine fC #[.agg (Us r44).toArray,.agg (Us r50).toArray] (EB · (((x1 * y1) + (x1 * y1)) * ((y1 * y1) + (x1 * x1)))) rfl rfl rfl bO (λw1 h1=>dF v44 v50 w1) rfl rfl λr72 v72=>?_;refine gI g1 0 15 rfl rfl rfl rfl rfl (λw1=>Ra _ w1) ?_;refine vE λw19 hw19=>?_;replace b1:=b1.later hw19;replace b2:=b2.later hw19;replace hT:=hT.below hw19;replace hU:=hU.step hw19
    have c1 : Blk w19 g1 118 ((Us r58 ++ (Us r61 ++ Us r64)) ++ (Us zl ++ [])).toArray:=by simpa [Bm] using b1
    refine Qg g1 15 _ (Us zl) [] (Us r72) rfl rfl rfl rfl rfl c1 (by simp [dB,v58.len,v61.len,v64.len]) (by rw [dB,dB,v72.len]; rfl) (Ot v72.len) (cO _) λW' hO c2=>?_
    have e2 : ((Us r58 ++ (Us r61 ++ Us r64)) ++ (Us r72 ++ [])).toArray = (Us (pc r58 r61 r64 r72)).toArray:=by simp [Bm]
    rw [e2] at c2;replace b2:=hO.blk _ _ _ (lZ n1_2) b2;replace hT:=hT.only hO (by omega);replace hU:=hO.up _ q1 hU;clear b1;have b1:=c2;refine bI ?_;refine hK3 _ _ ?_;clear hK3 K3;refine dG ?_;refine iP (i : Int) 1 ((i + 1 : Nat) : Int) rfl rfl rfl rfl rfl rfl (DI i 1 (by omega)) ?_;refine aM (.int .i64 ((i + 1 : Nat) : Int)) rfl rfl rfl rfl rfl ?_;refine bN λw20 hw20=>?_;replace b1:=b1.later hw20;replace b2:=b2.later hw20;replace hT:=hT.below hw20;replace hU:=hU.step hw20;exact gT (m:=λs : Nat × List Nat=>n - s.1) (F:=DF n g1 g2) (R:=DR w n g1 g2 A) (s:=(i,_)) (i + 1,pc r58 r61 r64 r72) ⟨rfl,rfl,rfl,rfl,rfl,trivial⟩ ⟨hin,⟨_,_,_,_,_,_,_,_,rfl,v58,v61,v64,v72,hE.1,λ_=>hE.2⟩,hU,hT,b1,b2⟩ (by show n - (i + 1) < n - i; omega)
   ·refine QS (i : Int) ((n - 1 : Nat) : Int) false rfl rfl rfl rfl rfl rfl (decide_eq_false (by omega)) ?_
    refine bN λw18 hw18=>hK _ _ ?_;clear hK K;replace b1:=b1.later hw18;replace b2:=b2.later hw18;replace hT:=hT.below hw18;replace hU:=hU.step hw18;refine cI false rfl ?_;refine fG ?_;refine hK3 _ _ ?_;clear hK3 K3;refine dG ?_;refine iP (i : Int) 1 ((i + 1 : Nat) : Int) rfl rfl rfl rfl rfl rfl (DI i 1 (by omega)) ?_;refine aM (.int .i64 ((i + 1 : Nat) : Int)) rfl rfl rfl rfl rfl ?_;refine bN λw20 hw20=>?_;replace b1:=b1.later hw20;replace b2:=b2.later hw20;replace hT:=hT.below hw20;replace hU:=hU.step hw20;exact gT (m:=λs : Nat × List Nat=>n - s.1) (F:=DF n g1 g2) (R:=DR w n g1 g2 A) (s:=(i,_)) (i + 1,pc r58 r61 r64 zl) ⟨rfl,rfl,rfl,rfl,rfl,trivial⟩ ⟨hin,⟨_,_,_,_,_,_,_,_,rfl,v58,v61,v64,mR,hE.1,λh=>by omega⟩,hU,hT,b1,b2⟩ (by show n - (i + 1) < n - i; omega)
  ·refine fZ (i : Int) (n : Int) false rfl rfl rfl rfl rfl rfl (decide_eq_false (by omega)) ?_
   refine bN λw11 hw11=>hK _ _ ?_;clear hK K;replace b1:=b1.later hw11;replace b2:=b2.later hw11;replace hT:=hT.below hw11;replace hU:=hU.step hw11;refine aO λK hK=>?_;refine cI false rfl ?_;refine kR ?_
   show kF K1 76 _ _
   refine hK1 _ _ ?_;clear hK1 K1 hK K
   obtain rfl : i = n:=by omega
   have hml:=hD.len;refine aO λK hK=>?_;refine lL 1 ?_;refine rT g1 0 hml rfl rfl rfl rfl rfl (λ_ h1=>(h1.blk b1).range) ?_;refine iW g2 _ ((Us m).toArray) rfl rfl rfl rfl rfl b2 (dZ hml) ((aV fE).trans (aV hml).symm) (bU _) λw31 hw31 c31=>?_;replace b2:=c31;replace hT:=(hT.below hw31).row (g:=g2) (by have:=hw0; omega) ((Us m).toArray);replace hU:=cT (hU.step hw31) q2 ((Us m).toArray);clear hw31 c31;generalize w31.setRow g2 ((Us m).toArray) = W31 at *;refine bI ?_;refine hK _ _ ?_;clear hK K;refine gX (eH g2 _ rfl rfl b2 Tryz.underlying118 rfl (dZ hml) ⟨_,.inr (hD.fin hon),rfl,hU⟩)
section
variable {ops : Array Oper} {C0 : World -> Prop} {Q : Act -> Prop} {a : Act} {o : Oper} {rest : List Oper}
theorem eqd (x y : F) (w : World) : (Op.equalIn 10000 27 (.agg (By (enc x)).toArray) (.agg (By (enc y)).toArray)).run Tryz.prog w = .ok (decide (x = y)) w:=by
 rw [BS _ _ (lI _) (lI _)]
 congr 1
 exact decide_eq_decide.2 ⟨TZ,congrArg enc⟩
end
theorem VV {n : List UInt8} (i : Nat) (hi : i / 8 < n.length) : (n[i / 8]!).toNat / 2 ^ (i % 8) % 2 = le n / 2 ^ i % 2:=by
 have e1 : n = n.take (i / 8) ++ (n[i / 8]! :: n.drop (i / 8 + 1)):=by
  conv=>lhs; rw [<-dR (i / 8) n]
  rw [mK hi,getElem!_pos n (i / 8) hi]
 have e2 : le n = le (n.take (i / 8)) + 256 ^ (i / 8) * ((n[i / 8]!).toNat + 256 * le (n.drop (i / 8 + 1))):=by
  conv=>lhs; rw [e1]
  rw [mA,aY,cW (by omega)]
  rfl
 have h1:=Be (n.take (i / 8));rw [aY,cW (by omega)] at h1
 have e3 : (2 : Nat) ^ i = 256 ^ (i / 8) * 2 ^ (i % 8):=by
  rw [show (256 : Nat) = 2 ^ 8 by decide,<-Nat.pow_mul,<-pL]
  congr 1
  omega
 rw [e2,e3,<-Nat.div_div_eq_div_mul,DN _ _ (by exact NK (by decide)),Nat.div_eq_of_lt h1,cK];have h8 : i % 8 < 8:=Nat.mod_lt _ (by decide);generalize (n[i / 8]!).toNat = c;generalize le (n.drop (i / 8 + 1)) = d;generalize i % 8 = k at *
 have e4 : (256 : Nat) = 2 ^ k * 2 ^ (8 - k):=by
  rw [<-pL,show k + (8 - k) = 8 by omega]
 rw [e4,Nat.mul_assoc,DN _ _ (NK (by decide))]
 have e5 : 2 ^ (8 - k) * d = 2 * (2 ^ (7 - k) * d):=by
  rw [show 8 - k = (7 - k) + 1 by omega,dD]
  grind only
 rw [e5]
 omega
def sO (b : List UInt8) : List UInt8:=b.set 31 (cR ((b[31]!).toNat % 128))
theorem Iv {b : List UInt8} (hb : b.length = 32) : (sO b).length = 32:=by rw [sO,eP,hb]
theorem Fy {b : List UInt8} (hb : b.length = 32) : le b = le (sO b) + 57896044618658097711785492504343953926634992332820282019728792003956564819968 * ((b[31]!).toNat / 128) /\ le (sO b) < 57896044618658097711785492504343953926634992332820282019728792003956564819968:=by
 have h1:=le_top hb;have h2:=Ll hb;have h3:=UA hb (cR ((b[31]!).toNat % 128));rw [UInt8.toNat_ofNat_of_lt' (by show _ < 256; omega)] at h3
 unfold sO
 omega
theorem Ng {b : List UInt8} (hb : b.length = 32) : qT (sO b) = decide (le (sO b) < p):=by
 have h:=(Fy hb).2;have hl:=Iv hb;have h128:=(KJ hl).2 h
 unfold qT
 rw [bR h,decide_eq_true h128,Bool.true_and]
 congr 1
 refine propext ⟨λe=>?_,λe=>?_⟩
 ·rw [<-e,yA]
  exact (fof _).isLt
 ·exact (Wu hl (x:=fof (le (sO b))) (by rw [wL,bR e])).symm
theorem PQ {b : List UInt8} (hb : b.length = 32) (h : ¬ le (sO b) < p) : ¬ ∃ A,Ed.On dd A /\ eV A = b:=by
 rintro ⟨A,_,rfl⟩
 have h1:=Fy hb;rw [tF] at h1
 unfold AH at h1
 have h2:=A.y.isLt;have h3:=Pu
 omega
section
variable {ops : Array Oper} {C0 : World -> Prop} {Q : Act -> Prop} {N : Nat} {E : List (Nat × Value)} {o : Oper} {rest : List Oper} {k : Nat}
theorem uF {x : Operand} {l : List UInt8} (b off : Nat) (hl : l.length = 32) (hg : o.guard = none) (hd : o.dst = some k) (hk : aQ k N = true) (ho : o.op = .load 27 x) (hx : ev E x = some (.pointer (some ⟨b,off,none⟩)))
  (hc : ∀ w,C0 w -> w.rangeAt b off (By l)) (hn : bF Tryz.prog ops C0 Q rest N ((k,.agg (By l).toArray) :: E)) : bF Tryz.prog ops C0 Q (o :: rest) N E :=
 Bj b off (By l) _ hg hd hk ho hx hc Tryz.underlying27 rfl (by have:=fL (By l).toArray (jQ hl); simpa using this) hn
theorem LD {x y : Operand} {t : TypeId} (m n r : Int) (hg : o.guard = none) (hd : o.dst = some k) (hk : aQ k N = true) (ho : o.op = .binOp .or 5 x y t) (hx : ev E x = some (.int .u8 m)) (hy : ev E y = some (.int .u8 n))
  (hr : bits .or .u8 m n = r) (hn : bF Tryz.prog ops C0 Q rest N ((k,.int .u8 r) :: E)) : bF Tryz.prog ops C0 Q (o :: rest) N E :=
 dP _ hg hd hk (λa ha w _=>by
  have h1:=ha.eval hx;have h2:=ha.eval hy
  unfold execOp
  simp only [ho,h1,h2]
  go_simp) hn
theorem FL {x y : Operand} {t : TypeId} (m n r : Int) (hg : o.guard = none) (hd : o.dst = some k) (hk : aQ k N = true) (ho : o.op = .binOp .and 5 x y t) (hx : ev E x = some (.int .u8 m)) (hy : ev E y = some (.int .u8 n))
  (hr : bits .and .u8 m n = r) (hn : bF Tryz.prog ops C0 Q rest N ((k,.int .u8 r) :: E)) : bF Tryz.prog ops C0 Q (o :: rest) N E :=
 dP _ hg hd hk (λa ha w _=>by
  have h1:=ha.eval hx;have h2:=ha.eval hy
  unfold execOp
  simp only [ho,h1,h2]
  go_simp) hn
theorem QL {x y : Operand} {t : TypeId} (K : IntKind) (hK : K = .i64 \/ K = .u64) (m : Int) (n : Nat) (r : Int) (h8 : n <= 8) (hg : o.guard = none) (hd : o.dst = some k) (hk : aQ k N = true) (ho : o.op = .binOp .shr 5 x y t) (hx : ev E x = some (.int .u8 m)) (hy : ev E y = some (.int K (n : Int)))
  (hr : m / 2 ^ n = r) (hn : bF Tryz.prog ops C0 Q rest N ((k,.int .u8 r) :: E)) : bF Tryz.prog ops C0 Q (o :: rest) N E :=
 dP _ hg hd hk (λa ha w _=>by
  have h1:=ha.eval hx;have h2:=ha.eval hy
  have h3 : (n : Int) <= 8:=by omega
  have h4 : (0 : Int) <= n:=by omega
  unfold execOp
  simp only [ho,h1,h2]
  rcases hK with rfl | rfl <;> go_simp) hn
theorem QM {x y : Operand} {t : TypeId} (m : Int) (n : Nat) (r : Int) (h8 : n <= 8) (hg : o.guard = none) (hd : o.dst = some k) (hk : aQ k N = true) (ho : o.op = .binOp .shl 5 x y t) (hx : ev E x = some (.int .u8 m)) (hy : ev E y = some (.int .i64 (n : Int)))
  (hr : IntKind.u8.wrap (m * 2 ^ n) = r) (hn : bF Tryz.prog ops C0 Q rest N ((k,.int .u8 r) :: E)) : bF Tryz.prog ops C0 Q (o :: rest) N E :=
 dP _ hg hd hk (λa ha w _=>by
  have h1:=ha.eval hx;have h2:=ha.eval hy
  have h3 : (n : Int) <= 8:=by omega
  have h4 : (0 : Int) <= n:=by omega
  unfold execOp
  simp only [ho,h1,h2]
  go_simp) hn
theorem J6 {x y : Operand} {t : TypeId} (m n : Int) (q : Bool) (hg : o.guard = none) (hd : o.dst = some k) (hk : aQ k N = true) (ho : o.op = .binOp .eql 5 x y t) (hx : ev E x = some (.int .u8 m)) (hy : ev E y = some (.int .u8 n))
  (hr : decide (m = n) = q) (hn : bF Tryz.prog ops C0 Q rest N ((k,.bool q) :: E)) : bF Tryz.prog ops C0 Q (o :: rest) N E :=
 dP _ hg hd hk (λa ha w _=>by
  have h1:=ha.eval hx;have h2:=ha.eval hy;subst hr
  unfold execOp
  simp only [ho,h1,h2]
  by_cases e : m = n <;> go_simp) hn
theorem QR {x y : Operand} {t : TypeId} (m n : Int) (q : Bool) (hg : o.guard = none) (hd : o.dst = some k) (hk : aQ k N = true) (ho : o.op = .binOp .gtr 5 x y t) (hx : ev E x = some (.int .u8 m)) (hy : ev E y = some (.int .u8 n))
  (hr : decide (n < m) = q) (hn : bF Tryz.prog ops C0 Q rest N ((k,.bool q) :: E)) : bF Tryz.prog ops C0 Q (o :: rest) N E :=
 dP _ hg hd hk (λa ha w _=>by
  have h1:=ha.eval hx;have h2:=ha.eval hy;subst hr
  unfold execOp
  simp only [ho,h1,h2]
  go_simp) hn
theorem Wj {x y : Operand} {t : TypeId} (m n r : Int) (hz : n ≠ 0) (hg : o.guard = none) (hd : o.dst = some k) (hk : aQ k N = true) (ho : o.op = .binOp .quo 5 x y t) (hx : ev E x = some (.int .u8 m)) (hy : ev E y = some (.int .u8 n))
  (hr : IntKind.u8.wrap (m.tdiv n) = r) (hn : bF Tryz.prog ops C0 Q rest N ((k,.int .u8 r) :: E)) : bF Tryz.prog ops C0 Q (o :: rest) N E :=
 dP _ hg hd hk (λa ha w _=>by
  have h1:=ha.eval hx;have h2:=ha.eval hy;subst hr
  unfold execOp
  simp only [ho,h1,h2]
  go_simp) hn
theorem Wi {x y : Operand} {t : TypeId} (m n r : Int) (hz : n ≠ 0) (hg : o.guard = none) (hd : o.dst = some k) (hk : aQ k N = true) (ho : o.op = .binOp .quo 3 x y t) (hx : ev E x = some (.int .i64 m)) (hy : ev E y = some (.int .i64 n))
  (hr : IntKind.i64.wrap (m.tdiv n) = r) (hn : bF Tryz.prog ops C0 Q rest N ((k,.int .i64 r) :: E)) : bF Tryz.prog ops C0 Q (o :: rest) N E :=
 dP _ hg hd hk (λa ha w _=>by
  have h1:=ha.eval hx;have h2:=ha.eval hy;subst hr
  unfold execOp
  simp only [ho,h1,h2]
  go_simp) hn
theorem EC {x : Operand} {t : TypeId} (q r : Bool) (hg : o.guard = none) (hd : o.dst = some k) (hk : aQ k N = true) (ho : o.op = .unOp .not t x) (hx : ev E x = some (.bool q)) (hr : (!q) = r) (hn : bF Tryz.prog ops C0 Q rest N ((k,.bool r) :: E)) : bF Tryz.prog ops C0 Q (o :: rest) N E :=
 dP _ hg hd hk (λa ha w _=>by
  have h1:=ha.eval hx;subst hr
  unfold execOp
  simp only [ho,h1]
  go_simp) hn
theorem J5 {x y : Operand} {t : TypeId} (m n q : Bool) (hg : o.guard = none) (hd : o.dst = some k) (hk : aQ k N = true) (ho : o.op = .binOp .neq 4 x y t) (hx : ev E x = some (.bool m)) (hy : ev E y = some (.bool n))
  (hr : (m != n) = q) (hn : bF Tryz.prog ops C0 Q rest N ((k,.bool q) :: E)) : bF Tryz.prog ops C0 Q (o :: rest) N E :=
 dP _ hg hd hk (λa ha w _=>by
  have h1:=ha.eval hx;have h2:=ha.eval hy;subst hr
  unfold execOp
  simp only [ho,h1,h2]
  cases m <;> cases n <;> go_simp) hn
end
theorem ixH (b i : Nat) (h : i < 32) (w : World) : (lN 27 (.pointer (some ⟨b,0,none⟩)) (.int .i64 (i : Int))).run Tryz.prog w = .ok (.pointer (some ⟨b,i,none⟩)) w:=by
 have h3 : (i : Int) < 32:=by omega
 have h4 : (0 : Int) <= i:=by omega
 go_simp
def nvH (t : Nat) : NV:=⟨t,27,z32⟩
theorem lQ {l : List UInt8} (h : l.length = 32) : (Tryz.prog.info? 27).map (·.size) = some (By l).toArray.size:=fL _ (jQ h)
theorem kT (l : List UInt8) : ∀ v ∈ (By l).toArray.toList,v.oneCell' = true:=λv hv=>kU l v (by simpa using hv)
theorem PE : Own 77:=λ_ _=>by go_simp
theorem qR {P : Program} {fn : Func} {R : Ending -> World -> Prop} {N : Nat} {E : List (Nat × Value)} {w : World} {q q2 : Tmp} {ty t : TypeId} {d : TypeDesc} {v : Value} (g : Nat) (cs : Array Value) (hr : fn.results = #[.cell q ty,.tmp q2]) (hq : look E q = some (.pointer (some ⟨g,0,none⟩))) (hv : look E q2 = some v) (hb : Blk w g t cs)
  (hu : P.underlying ty = some d) (hd : (match d with | .struct _ | .array _ _=>true | _=>false) = true) (hi : (P.info? ty).map (·.size) = some cs.size) (h : R (.returned (.tuple #[.agg cs,v])) w) : kF (bodyPost P fn R .ret) N E w:=λ_ ha =>
 bodyPost_ret (results_cell_tmp hr _ _ g t cs (0,0) d v (ha.at hq) (ha.at hv) hb hu hd hi) ha.defers h
theorem PB.yz {l : List Nat} {A : Ed.Pt p} (h : PB l A) : ∃ X Y Z T x y z t,l = pc X Y Z T /\ EB X x /\ EB Y y /\ EB Z z /\ EB T t /\ (y = z ↔ A = Ed.zero):=by
 rcases h with ⟨rfl,rfl⟩ | ⟨⟨X,Y,Z,T,x,y,z,t,rfl,hX,hY,hZ,hT,hR,_⟩,hon⟩
 ·exact ⟨zl,zl,zl,zl,0,0,0,0,rfl,mR,mR,mR,mR,by simp⟩
 ·exact ⟨X,Y,Z,T,x,y,z,t,rfl,hX,hY,hZ,hT,hR.WX jC hon⟩
theorem xX {x y : F} : Ed.On dd ⟨x,y⟩ ↔ (y * y * dd + 1) * x * x = y * y - 1:=by
 show y*y - x*x = 1 + dd*x*x*y*y ↔ _
 constructor <;> intro h <;> grind only
theorem UY {b : List UInt8} {A : Ed.Pt p} {y : F} {s : Nat} (hle : le b = y.val + 57896044618658097711785492504343953926634992332820282019728792003956564819968 * s) (h : eV A = b) : A.y = y /\ A.x.val % 2 = s:=by
 rw [<-h,tF] at hle
 unfold AH at hle
 have h1:=y.isLt;have h2:=A.y.isLt;have h3:=Pu;exact ⟨Fin.ext (by omega),by omega⟩
theorem LK {b : List UInt8} (hb : b.length = 32) {x y : F} {s : Nat} (hle : le b = y.val + 57896044618658097711785492504343953926634992332820282019728792003956564819968 * s) (hs : x.val % 2 = s) : eV ⟨x,y⟩ = b:=by
 apply x9 (by rw [gW,hb])
 rw [tF,hle]
 unfold AH
 rw [hs]
theorem YO (m : Nat) (h : m < 128) : bits .or .u8 (m : Int) 128 = ((m + 128 : Nat) : Int):=by
 have key : ∀ m : Nat,m < 128 -> bits .or .u8 (m : Int) 128 = ((m + 128 : Nat) : Int)   := by decide +kernel
 exact key m h
theorem XE (m : Nat) (h : m < 256) : bits .and .u8 (m : Int) 127 = ((m % 128 : Nat) : Int):=by
 have key : ∀ m : Nat,m < 256 -> bits .and .u8 (m : Int) 127 = ((m % 128 : Nat) : Int)   := by decide +kernel
 exact key m h
def Ds (l : List Nat) : List Value:=l.map λx : Nat=>.int .u8 (x : Int)
theorem AO (l : List Nat) : (Ds l).length = l.length:=by simp [Ds]
theorem Kq {l : List Nat} {j : Nat} (h : j < l.length) : (Ds l).toArray[j]? = some (.int .u8 (l[j]! : Nat)):=by simp [Ds,h]
theorem RO (l : List Nat) (k x : Nat) : (Ds l).toArray.setIfInBounds k (.int .u8 (x : Int)) = (Ds (l.set k x)).toArray:=by simp [Ds,List.map_set]
theorem RP (l : List Nat) : ∀ u ∈ Ds l,u.oneCell' = true:=by
 intro u hu
 obtain ⟨x,_,rfl⟩:=gP.1 hu
 rfl
theorem Ux (l : List Nat) : ∀ v ∈ (Ds l).toArray.toList,v.oneCell' = true:=λv hv=>RP l v (by simpa using hv)
theorem F3 {l : List Nat} {n : Nat} (h : l.length = n) : (Ds l).toArray.size = n:=by rw [a9,AO,h]
theorem KM {l : List Nat} (h : l.length = 256) : (Tryz.prog.info? 139).map (·.size) = some (Ds l).toArray.size:=by
 rw [F3 h]
 kernel_rfl
theorem ixD (b i : Nat) (h : i < 256) (w : World) : (lN 139 (.pointer (some ⟨b,0,none⟩)) (.int .i64 (i : Int))).run Tryz.prog w = .ok (.pointer (some ⟨b,i,none⟩)) w:=by
 have h3 : (i : Int) < 256:=by omega
 have h4 : (0 : Int) <= i:=by omega
 go_simp
theorem JP (m : Nat) (h : m < 256) : bits .and .u8 (m : Int) 1 = ((m % 2 : Nat) : Int):=by
 have key : ∀ m : Nat,m < 256 -> bits .and .u8 (m : Int) 1 = ((m % 2 : Nat) : Int):=by decide +kernel
 exact key m h
theorem Xh (k : Nat) (h : k < 4) : IntKind.u8.wrap (1 * 2 ^ k) = ((2 ^ k : Nat) : Int):=by
 have hk : k = 0 \/ k = 1 \/ k = 2 \/ k = 3:=by omega
 rcases hk with rfl | rfl | rfl | rfl <;> decide
theorem orK (k x : Nat) (hk : k < 4) (hx : x < 2 ^ k) : bits .or .u8 (x : Nat) ((2 ^ k : Nat) : Int) = ((x + 2 ^ k : Nat) : Int):=by
 have k0 : ∀ x : Nat,x < 1 -> bits .or .u8 (x : Int) 1 = ((x + 1 : Nat) : Int):=by decide +kernel
 have k1 : ∀ x : Nat,x < 2 -> bits .or .u8 (x : Int) 2 = ((x + 2 : Nat) : Int):=by decide +kernel
 have k2 : ∀ x : Nat,x < 4 -> bits .or .u8 (x : Int) 4 = ((x + 4 : Nat) : Int):=by decide +kernel
 have k3 : ∀ x : Nat,x < 8 -> bits .or .u8 (x : Int) 8 = ((x + 8 : Nat) : Int):=by decide +kernel
 have hk' : k = 0 \/ k = 1 \/ k = 2 \/ k = 3:=by omega
 rcases hk' with rfl | rfl | rfl | rfl
 ·exact k0 x hx
 ·exact k1 x hx
 ·exact k2 x hx
 ·exact k3 x hx
theorem Wx {N i : Nat} {f : Int} {d : List Nat} (h : DG N i f d) (hf : ¬ f + 4 <= (i : Int)) : ∃ m : Nat,f = m:=by
 rcases h.last with h | ⟨m,h,_⟩
 ·exact absurd h (by omega)
 ·exact ⟨m,h⟩
def GF (g1 g2 g3 : Nat) (s : Nat × Int × List Nat) : List (Nat × Value):=[(1,.pointer (some ⟨g1,0,none⟩)),(2,.pointer (some ⟨g2,0,none⟩)),(3,.pointer (some ⟨g3,0,none⟩)),(4,.int .i64 s.2.1),(6,.int .i64 (s.1 : Int))]
def GR (w : World) (b : List UInt8) (g1 g2 g3 : Nat) (s : Nat × Int × List Nat) (W : World) : Prop :=
  s.1 <= 256 /\ DG (le b) s.1 s.2.1 s.2.2 /\ Up w W /\ Blk W g1 27 (By b).toArray /\ Blk W g2 139 (Ds (aE 256 0)).toArray /\ Blk W g3 139 (Ds s.2.2).toArray
theorem Q4 {b : List UInt8} (hb : b.length = 32) (w : World) :
  Calls Tryz.prog 105 #[.agg (By b).toArray] w λe w'=>∃ d : List Nat,d.length = 256 /\ nQ d = le b /\ (∀ j,j < 256 -> d[j]! = 0 \/ (d[j]! % 2 = 1 /\ d[j]! < 16)) /\ e = .returned (.agg (Ds d).toArray) /\ Below w.heap.size w w':=by
 refine fI (vs:=[.agg (By b).toArray]) 34 Tryz.func105 rfl (by rw [Tryz.ntmps105]; rfl) ?_;refine aO λK hK=>?_;refine eX ?_;refine gR ((By b).toArray) rfl rfl rfl rfl rfl λW1 g1 hw1 hg1 b1=>?_;clear hg1;have hU : Up w _:=hw1;refine cY ((Ds (aE 256 0)).toArray) rfl rfl rfl rfl (by kernel_rfl) λW2 g2 hw2 hg2 b2=>?_
 have q2 : w.heap.size <= g2:=by rw [hg2]; exact hU.size
 clear hg2;replace b1:=b1.later hw2;replace hU:=hU.step hw2;refine bI ?_;refine hK _ _ ?_;clear hK K;refine aO λK hK=>?_;refine eX ?_;refine cY ((Ds (aE 256 0)).toArray) rfl rfl rfl rfl (by kernel_rfl) λW3 g3 hw3 hg3 b3=>?_
 have q3 : w.heap.size <= g3:=by rw [hg3]; exact hU.size
 have n1_3 : g1 ≠ g3:=by have:=b1.lt; omega
 have n2_3 : g2 ≠ g3:=by have:=b2.lt; omega
 clear hg3;replace b1:=b1.later hw3;replace b2:=b2.later hw3;replace hU:=hU.step hw3;refine bI ?_;refine hK _ _ ?_;clear hK K;refine aO λK hK=>?_;refine eX ?_;refine cV (.int .i64 (-4)) rfl rfl rfl rfl rfl ?_;refine bI ?_;refine hK _ _ ?_;clear hK K;refine aO λK1 hK1=>?_;refine aO λK hK=>?_;refine dG ?_;refine aM (.int .i64 0) rfl rfl rfl rfl rfl ?_;refine bN λw10 hw10=>?_;replace b1:=b1.later hw10;replace b2:=b2.later hw10;replace b3:=b3.later hw10;replace hU:=hU.step hw10;refine eC (E':=GF g1 g2 g3 (0, -4,aE 256 0)) ⟨rfl,rfl,rfl,rfl,rfl,trivial⟩ ?_;refine hK _ _ ?_;clear hK K;refine dS ?_;refine kQ (m:=λs : Nat × Int × List Nat=>256 - s.1) (F:=GF g1 g2 g3) (R:=GR w b g1 g2 g3) ?_ (0, -4,aE 256 0) ⟨bZ _,DG.start _,hU,b1,b2,b3⟩;clear hU b1 b2 b3 hw10 w10
 rintro ⟨i,f,d⟩ V0 ⟨hi,hD,hU,b1,b2,b3⟩
 simp only at hi hD b3;refine aO λK hK=>?_;refine dG ?_
 by_cases hin : i < 256
 ·refine fZ (i : Int) 256 true rfl rfl rfl rfl rfl rfl (decide_eq_true (by omega)) ?_
  refine bN λw11 hw11=>hK _ _ ?_;clear hK K;replace b1:=b1.later hw11;replace b2:=b2.later hw11;replace b3:=b3.later hw11;replace hU:=hU.step hw11;refine aO λK hK=>?_;refine cI true rfl ?_;refine fG ?_;refine hK _ _ ?_;clear hK K;refine aO λK3 hK3=>?_;refine dS ?_;refine aO λK hK=>?_;refine dG ?_;refine aM (.int .i64 (i : Int)) rfl rfl rfl rfl rfl ?_;refine cE (.int .i64 (i : Int)) rfl rfl rfl rfl rfl ?_;refine bN λw12 hw12=>hK _ _ ?_;clear hK K;replace b1:=b1.later hw12;replace b2:=b2.later hw12;replace b3:=b3.later hw12;replace hU:=hU.step hw12;refine aO λK4 hK4=>?_;refine aO λK hK=>?_;have cb:=(b1.cell (i / 8)).trans (gJ (l:=b) (j:=i / 8) (by omega));have hbit:=VV (n:=b) i (by omega);have hbl:=(b[i / 8]!).toNat_lt;generalize (b[i / 8]!).toNat = c at *;have hsh : c / 2 ^ (i % 8) < 256:=Nat.lt_of_le_of_lt (Nat.div_le_self _ _) hbl
  have e8 : IntKind.i64.wrap ((i : Int).tdiv 8) = ((i / 8 : Nat) : Int):=by rw [Int.tdiv_eq_ediv_of_nonneg (by omega),i64_left,wrap64_in _ (by omega)]; omega
  have r8 : (i : Int).tmod 8 = ((i % 8 : Nat) : Int):=by rw [Int.tmod_eq_emod_of_nonneg (by omega)]; omega
  have hsr : (c : Int) / 2 ^ (i % 8) = ((c / 2 ^ (i % 8) : Nat) : Int):=by simp
  have i8 : i / 8 < 32:=by omega
  have j8 : i % 8 <= 8:=by omega
  generalize c / 2 ^ (i % 8) = s at *;generalize i / 8 = i1 at *;generalize i % 8 = i2 at *;refine dG ?_;refine aM (.int .i64 (i : Int)) rfl rfl rfl rfl rfl ?_;refine Wi (i : Int) 8 (i1 : Int) (by decide) rfl rfl rfl rfl rfl rfl e8 ?_;refine uE _ (i1 : Int) ⟨g1,i1,none⟩ rfl rfl rfl rfl rfl rfl (ixH _ i1 i8) ?_;refine dA ⟨g1,i1,none⟩ (.int .u8 (c : Int)) (by decide) rfl rfl rfl rfl rfl (λ_ h1=>(h1.cell b1.lt).trans cb) ?_;refine aM (.int .i64 (i : Int)) rfl rfl rfl rfl rfl ?_;refine QN (i : Int) 8 (i2 : Int) (by decide) rfl rfl rfl rfl rfl rfl r8 ?_;refine QL .i64 (.inl rfl) (c : Int) i2 (s : Int) j8 rfl rfl rfl rfl rfl rfl hsr ?_;refine FL (s : Int) 1 ((s % 2 : Nat) : Int) rfl rfl rfl rfl rfl rfl (JP s hsh) ?_
  by_cases hz : s % 2 = 0
  ·refine J6 ((s % 2 : Nat) : Int) 0 true rfl rfl rfl rfl rfl rfl (decide_eq_true (by omega)) ?_
   refine bN λw13 hw13=>hK _ _ ?_;clear hK K;replace b1:=b1.later hw13;replace b2:=b2.later hw13;replace b3:=b3.later hw13;replace hU:=hU.step hw13;refine cI true rfl ?_;refine kR ?_
   show kF K3 34 _ _
   refine hK3 _ _ ?_
   skip
   refine dG ?_;refine iP (i : Int) 1 ((i + 1 : Nat) : Int) rfl rfl rfl rfl rfl rfl (DI i 1 (by omega)) ?_;refine aM (.int .i64 ((i + 1 : Nat) : Int)) rfl rfl rfl rfl rfl ?_;refine bN λw20 hw20=>?_;replace b1:=b1.later hw20;replace b2:=b2.later hw20;replace b3:=b3.later hw20;replace hU:=hU.step hw20;exact gT (m:=λs : Nat × Int × List Nat=>256 - s.1) (F:=GF g1 g2 g3) (R:=GR w b g1 g2 g3) (s:=(i,_,_)) (i + 1,f,d) ⟨rfl,rfl,rfl,rfl,rfl,trivial⟩ ⟨hin,hD.zero (by omega),hU,b1,b2,b3⟩ (by show 256 - (i + 1) < 256 - i; omega)
  ·refine J6 ((s % 2 : Nat) : Int) 0 false rfl rfl rfl rfl rfl rfl (decide_eq_false (by omega)) ?_
   refine bN λw13 hw13=>hK _ _ ?_;clear hK K;replace b1:=b1.later hw13;replace b2:=b2.later hw13;replace b3:=b3.later hw13;replace hU:=hU.step hw13;refine cI false rfl ?_;refine fG ?_;refine hK4 _ _ ?_;clear hK4 K4;refine aO λK4 hK4=>?_;refine aO λK hK=>?_;refine dG ?_
   have hb1 : le b / 2 ^ i % 2 = 1:=by omega
   have hf4 : IntKind.i64.wrap (f + 4) = f + 4:=by rcases hD.last with h | ⟨m,h,hm,_⟩ <;> rw [i64_left,wrap64_in _ (by omega)]
   refine aM (.int .i64 (i : Int)) rfl rfl rfl rfl rfl ?_;refine aM (.int .i64 f) rfl rfl rfl rfl rfl ?_;refine iP f 4 (f + 4) rfl rfl rfl rfl rfl rfl hf4 ?_
   by_cases hge : f + 4 <= (i : Int)
   ·refine AG (i : Int) (f + 4) true rfl rfl rfl rfl rfl rfl (decide_eq_true (by omega)) ?_
    refine bN λw14 hw14=>hK _ _ ?_;clear hK K;replace b1:=b1.later hw14;replace b2:=b2.later hw14;replace b3:=b3.later hw14;replace hU:=hU.step hw14;refine cI true rfl ?_;refine dG ?_;refine aM (.int .i64 (i : Int)) rfl rfl rfl rfl rfl ?_;refine cE (.int .i64 (i : Int)) rfl rfl rfl rfl rfl ?_;refine bN λw15 hw15=>?_;replace b1:=b1.later hw15;replace b2:=b2.later hw15;replace b3:=b3.later hw15;replace hU:=hU.step hw15;refine hK4 _ _ ?_;clear hK4 K4;have hd0:=hD.hi i (aH _) hin;have cd:=(b3.cell i).trans (Kq (l:=d) (j:=i) (by rw [hD.len]; exact hin));refine c_t 9 (by decide) (by kernel_rfl) (cJ (by kernel_rfl)) (λ_ _ d _ _ h=>by cases d <;> exact h) ?_;refine aM (.int .i64 (i : Int)) rfl rfl rfl rfl rfl ?_;refine uE _ (i : Int) ⟨g3,i,none⟩ rfl rfl rfl rfl rfl rfl (ixD _ i (by omega)) ?_;refine dA ⟨g3,i,none⟩ (.int .u8 (d[i]! : Nat)) (by decide) rfl rfl rfl rfl rfl (λ_ h1=>(h1.cell b3.lt).trans cd) ?_;refine aM (.int .i64 (i : Int)) rfl rfl rfl rfl rfl ?_;refine aM (.int .i64 (i : Int)) rfl rfl rfl rfl rfl ?_;refine pG (i : Int) (i : Int) ((0 : Nat) : Int) rfl rfl rfl rfl rfl rfl (by rw [i64_left,wrap64_in _ (by omega)]; omega) ?_;refine QM 1 (0) ((2 ^ (0) : Nat) : Int) (by omega) rfl rfl rfl rfl rfl rfl (Xh _ (by omega)) ?_;refine LD (d[i]! : Nat) ((2 ^ (0) : Nat) : Int) ((1 : Nat) : Int) rfl rfl rfl rfl rfl rfl (by rw [hd0]; decide) ?_;refine uE _ (i : Int) ⟨g3,i,none⟩ rfl rfl rfl rfl rfl rfl (ixD _ i (by omega)) ?_;refine mP ⟨g3,i,none⟩ ((1 : Nat) : Int) _ (.inr ⟨rfl,rfl⟩) rfl rfl rfl rfl rfl cd (b3.free i) b3.lt λw16 hw16=>?_;replace b1:=b1.later hw16;replace b2:=b2.later hw16;replace b3:=b3.later hw16;replace hU:=hU.step hw16;replace b1:=b1.far (p:=⟨g3,i,none⟩) n1_3 (.int .u8 ((1 : Nat) : Int));replace b2:=b2.far (p:=⟨g3,i,none⟩) n2_3 (.int .u8 ((1 : Nat) : Int));replace b3:=b3.set i (.int .u8 ((1 : Nat) : Int));rw [RO] at b3;replace hU : Up w _:=hU.setCell (p:=⟨g3,i,none⟩) q3 (.int .u8 ((1 : Nat) : Int));generalize w16.setCell ⟨g3,i,none⟩ (.int .u8 ((1 : Nat) : Int)) = W16 at *;clear cd;refine hK3 _ _ ?_
    skip
    refine dG ?_;refine iP (i : Int) 1 ((i + 1 : Nat) : Int) rfl rfl rfl rfl rfl rfl (DI i 1 (by omega)) ?_;refine aM (.int .i64 ((i + 1 : Nat) : Int)) rfl rfl rfl rfl rfl ?_;refine bN λw20 hw20=>?_;replace b1:=b1.later hw20;replace b2:=b2.later hw20;replace b3:=b3.later hw20;replace hU:=hU.step hw20;exact gT (m:=λs : Nat × Int × List Nat=>256 - s.1) (F:=GF g1 g2 g3) (R:=GR w b g1 g2 g3) (s:=(i,_,_)) (i + 1,(i : Int),d.set i (1)) ⟨rfl,rfl,rfl,rfl,rfl,trivial⟩ ⟨hin,hD.fresh hin hb1,hU,b1,b2,b3⟩ (by show 256 - (i + 1) < 256 - i; omega)
   ·obtain ⟨m,rfl⟩:=Wx hD hge
    obtain ⟨hmi,hdm,hD2⟩:=hD.more hin hb1 (by omega);refine AG (i : Int) ((m : Int) + 4) false rfl rfl rfl rfl rfl rfl (decide_eq_false (by omega)) ?_;refine bN λw14 hw14=>hK _ _ ?_;clear hK K;replace b1:=b1.later hw14;replace b2:=b2.later hw14;replace b3:=b3.later hw14;replace hU:=hU.step hw14;refine cI false rfl ?_;refine fG ?_;refine hK4 _ _ ?_;clear hK4 K4;have cd:=(b3.cell m).trans (Kq (l:=d) (j:=m) (by rw [hD.len]; omega));refine c_t 9 (by decide) (by kernel_rfl) (cJ (by kernel_rfl)) (λ_ _ d _ _ h=>by cases d <;> exact h) ?_;refine aM (.int .i64 (m : Int)) rfl rfl rfl rfl rfl ?_;refine uE _ (m : Int) ⟨g3,m,none⟩ rfl rfl rfl rfl rfl rfl (ixD _ m (by omega)) ?_;refine dA ⟨g3,m,none⟩ (.int .u8 (d[m]! : Nat)) (by decide) rfl rfl rfl rfl rfl (λ_ h1=>(h1.cell b3.lt).trans cd) ?_;refine aM (.int .i64 (i : Int)) rfl rfl rfl rfl rfl ?_;refine aM (.int .i64 (m : Int)) rfl rfl rfl rfl rfl ?_;refine pG (i : Int) (m : Int) ((i - m : Nat) : Int) rfl rfl rfl rfl rfl rfl (Xf i m (by omega) (by omega)) ?_;refine QM 1 (i - m) ((2 ^ (i - m) : Nat) : Int) (by omega) rfl rfl rfl rfl rfl rfl (Xh _ (by omega)) ?_;refine LD (d[m]! : Nat) ((2 ^ (i - m) : Nat) : Int) ((d[m]! + 2 ^ (i - m) : Nat) : Int) rfl rfl rfl rfl rfl rfl (orK _ _ (by omega) hdm) ?_;refine uE _ (m : Int) ⟨g3,m,none⟩ rfl rfl rfl rfl rfl rfl (ixD _ m (by omega)) ?_;refine mP ⟨g3,m,none⟩ ((d[m]! + 2 ^ (i - m) : Nat) : Int) _ (.inr ⟨rfl,rfl⟩) rfl rfl rfl rfl rfl cd (b3.free m) b3.lt λw16 hw16=>?_;replace b1:=b1.later hw16;replace b2:=b2.later hw16;replace b3:=b3.later hw16;replace hU:=hU.step hw16;replace b1:=b1.far (p:=⟨g3,m,none⟩) n1_3 (.int .u8 ((d[m]! + 2 ^ (i - m) : Nat) : Int));replace b2:=b2.far (p:=⟨g3,m,none⟩) n2_3 (.int .u8 ((d[m]! + 2 ^ (i - m) : Nat) : Int));replace b3:=b3.set m (.int .u8 ((d[m]! + 2 ^ (i - m) : Nat) : Int));rw [RO] at b3;replace hU : Up w _:=hU.setCell (p:=⟨g3,m,none⟩) q3 (.int .u8 ((d[m]! + 2 ^ (i - m) : Nat) : Int));generalize w16.setCell ⟨g3,m,none⟩ (.int .u8 ((d[m]! + 2 ^ (i - m) : Nat) : Int)) = W16 at *;clear cd;refine hK3 _ _ ?_
    skip
    refine dG ?_;refine iP (i : Int) 1 ((i + 1 : Nat) : Int) rfl rfl rfl rfl rfl rfl (DI i 1 (by omega)) ?_;refine aM (.int .i64 ((i + 1 : Nat) : Int)) rfl rfl rfl rfl rfl ?_;refine bN λw20 hw20=>?_;replace b1:=b1.later hw20;replace b2:=b2.later hw20;replace b3:=b3.later hw20;replace hU:=hU.step hw20;exact gT (m:=λs : Nat × Int × List Nat=>256 - s.1) (F:=GF g1 g2 g3) (R:=GR w b g1 g2 g3) (s:=(i,_,_)) (i + 1,(m : Int),d.set m (d[m]! + 2 ^ (i - m))) ⟨rfl,rfl,rfl,rfl,rfl,trivial⟩ ⟨hin,hD2,hU,b1,b2,b3⟩ (by show 256 - (i + 1) < 256 - i; omega)
 ·refine fZ (i : Int) 256 false rfl rfl rfl rfl rfl rfl (decide_eq_false (by omega)) ?_
  refine bN λw11 hw11=>hK _ _ ?_;clear hK K;replace b2:=b2.later hw11;replace b3:=b3.later hw11;replace hU:=hU.step hw11;refine aO λK hK=>?_;refine cI false rfl ?_;refine kR ?_
  show kF K1 34 _ _
  refine hK1 _ _ ?_;clear hK1 K1 hK K
  obtain rfl : i = 256:=by omega
  have hsum : nQ d = le b:=by have h1:=Be b; rw [hb,show (256 : Nat) ^ 32 = 2 ^ 256 from by decide] at h1; rw [hD.sum,bR h1]
  refine aO λK hK=>?_;refine lL 1 ?_;refine Bj g3 0 (Ds d) _ rfl rfl rfl rfl rfl (λ_ h1=>(h1.blk b3).range) Tryz.underlying139 rfl (by rw [AO,hD.len]; kernel_rfl) ?_;refine iW g2 _ ((Ds d).toArray) rfl rfl rfl rfl rfl b2 (KM hD.len) ((F3 bH).trans (F3 hD.len).symm) (Ux _) λw31 hw31 c31=>?_;replace b2:=c31;replace hU:=cT (hU.step hw31) q2 ((Ds d).toArray);clear hw31 c31;generalize w31.setRow g2 ((Ds d).toArray) = W31 at *;refine bI ?_;refine hK _ _ ?_;clear hK K;refine gX (eH g2 _ rfl rfl b2 Tryz.underlying139 rfl (KM hD.len) ⟨d,hD.len,hsum,hD.odd,rfl,hU⟩)
theorem JG : Own 105:=λ_ _=>by go_simp
structure M8 (M : List (List Nat)) : Prop where
  len : M.length = 8
  each : ∀ j,j < 8 -> M[j]!.length = 20
theorem EZ {M : List (List Nat)} {j : Nat} {v : List Nat} (h : j < M.length) : (M.set j v)[j]! = v:=by
 rw [getElem!_pos _ j (by simpa using h)]
 simp
theorem KP {M : List (List Nat)} {j k : Nat} {v : List Nat} (h : j ≠ k) : (M.set j v)[k]! = M[k]!:=by
 simp only [List.getElem!_eq_getElem?_getD,List.getElem?_set_ne h]
theorem M8.set {M : List (List Nat)} (h : M8 M) (i : Nat) {v : List Nat} (hv : v.length = 20) : M8 (M.set i v) where
 len:=by rw [eP,h.len]
 each:=λj hj=>by
  by_cases e : i = j
  ·subst e
   rw [EZ (by rw [h.len]; exact hj)];exact hv
  ·rw [KP e]
   exact h.each j hj
theorem SG (n j : Nat) (l : List Nat) (h : j < n) : (aE n l)[j]! = l:=by
 rw [getElem!_pos _ j (by simpa using h)]
 simp
theorem RH : M8 (aE 8 pz):=⟨bH,λj hj=>by rw [SG 8 j pz hj]; rfl⟩
theorem Ia {n : Nat} : ∀ (M : List (List Nat)),(∀ x ∈ M,x.length = n) -> M.flatten.length = n * M.length
 | [],_=>by simp
 | x :: M,h=>by
  rw [lY,aI,h x (by simp),Ia M λy hy=>h y (by simp [hy]),List.length_cons,Nat.mul_succ,uB]
theorem M8.mem {M : List (List Nat)} (h : M8 M) : ∀ x ∈ M,x.length = 20:=λx hx=>by
 obtain ⟨j,hj,rfl⟩:=List.getElem_of_mem hx;have:=h.each j (by rw [<-h.len]; exact hj)
 rwa [getElem!_pos M j hj] at this
theorem vT {M : List (List Nat)} (h : M8 M) {i : Nat} (hi : i <= 8) : (M.take i).flatten.length = 20 * i:=by
 rw [Ia (n:=20) _ λx hx=>h.mem x (List.mem_of_mem_take hx),aY,h.len,cW hi]
def kL (M : List (List Nat)) (d : List Nat) : List Value:=Us M.flatten ++ Ds d
def qK : Array Value:=(Us (aE 160 0) ++ Ds (aE 256 0)).toArray
theorem pV : qK.size = 416:=by rw [qK,a9,aI,dB,AO,bH,bH]
theorem uR {M : List (List Nat)} {d : List Nat} (h : M8 M) (hd : d.length = 256) : (kL M d).length = 416:=by
 have:=vT h (aH 8);rw [bW (by rw [h.len]; exact aH _)] at this;rw [kL,aI,dB,AO,hd,this]
theorem Al {M : List (List Nat)} {d : List Nat} (h : M8 M) (hd : d.length = 256) : (kL M d).toArray.size = 416:=by rw [a9,uR h hd]
theorem yQ {M : List (List Nat)} {d : List Nat} (h : M8 M) (hd : d.length = 256) : (Tryz.prog.info? 141).map (·.size) = some (kL M d).toArray.size:=by
 rw [Al h hd]
 kernel_rfl
theorem GL (M : List (List Nat)) (d : List Nat) : ∀ v ∈ (kL M d).toArray.toList,v.oneCell' = true:=λv hv=>by
 simp only [kL,List.mem_append] at hv;exact hv.elim (cO _ v) (RP _ v)
theorem Am {M : List (List Nat)} {d : List Nat} (h : M8 M) {i : Nat} (hi : i < 8) : kL M d = Us (M.take i).flatten ++ (Us M[i]! ++ (Us (M.drop (i + 1)).flatten ++ Ds d)):=by
 have hl : i < M.length:=by rw [h.len]; exact hi
 have e : M = M.take i ++ (M[i]! :: M.drop (i + 1)):=by rw [getElem!_pos M i hl,<-mK hl,dR]
 have e2 : M.flatten = (M.take i).flatten ++ (M[i]! ++ (M.drop (i + 1)).flatten):=by
  conv=>lhs; rw [e]
  rw [List.flatten_append,lY]
 rw [kL,e2,RD,RD,aU,aU]
theorem Sz {M : List (List Nat)} {d v : List Nat} (h : M8 M) {i : Nat} (hi : i < 8) (hv : v.length = 20) : Us (M.take i).flatten ++ (Us v ++ (Us (M.drop (i + 1)).flatten ++ Ds d)) = kL (M.set i v) d:=by
 rw [Am (h.set i hv) hi,EZ (by rw [h.len]; exact hi),List.take_set_of_le (aH _),List.drop_set_of_lt (by omega)]
theorem L5 : (aE 8 pz).flatten = aE 160 0:=by decide +kernel
theorem Ny {d : List Nat} (hd : d.length = 256) : Tryz.prog.built 141 [(1,.agg (Ds d).toArray)] = some (kL (aE 8 pz) d).toArray:=by
 rw [Dc (t:=141) (z:=qK) (pl:=[(0,160),(160,256)]) (by kernel_rfl)]
 have e : qK = (Us (aE 8 pz).flatten ++ (Ds (aE 256 0) ++ [])).toArray:=by rw [bV,L5,qK]
 rw [e,lV (#[(0,160),(160,256)][·]?) 1 256 (Us (aE 8 pz).flatten) (Ds (aE 256 0)) [] (Ds d) [] (by rw [dB,L5,bH]; rfl) (by rw [AO,hd]) (by rw [AO,bH]),bV,gN,kL]
def nvR (t : Nat) : NV:=⟨t,141,qK⟩
theorem Ya (b o : Nat) (w : World) : (kA 141 (.pointer (some ⟨b,o,none⟩)) 0).run Tryz.prog w = .ok (.pointer (some ⟨b,o,none⟩)) w:=by go_simp
theorem YJ (b o : Nat) (w : World) : (kA 141 (.pointer (some ⟨b,o,none⟩)) 1).run Tryz.prog w = .ok (.pointer (some ⟨b,o + 160,none⟩)) w:=by go_simp
theorem ixA (b o i : Nat) (h : i < 8) (w : World) : (lN 138 (.pointer (some ⟨b,o,none⟩)) (.int .i64 (i : Int))).run Tryz.prog w = .ok (.pointer (some ⟨b,o + 20 * i,none⟩)) w:=by
 have h3 : (i : Int) < 8:=by omega
 have h4 : (0 : Int) <= i:=by omega
 go_simp
structure RS where
  M : List (List Nat)
  d : List Nat
  A : Ed.Pt p
structure RS.Ok (r : RS) : Prop where
  m8 : M8 r.M
  ms : ∀ j,j < 8 -> AB r.M[j]! (Ed.mul dd (2 * j + 1) r.A)
  dl : r.d.length = 256
  odd : ∀ j,j < 256 -> r.d[j]! = 0 \/ (r.d[j]! % 2 = 1 /\ r.d[j]! < 16)
  on : Ed.On dd r.A
def WF (g1 g3 gk g6 : Nat) (s : Nat × List Nat × List (List Nat)) : List (Nat × Value):=[(2,.pointer (some ⟨g1,0,none⟩)),(4,.pointer (some ⟨g3,0,none⟩)),(5,.pointer (some ⟨gk,0,none⟩)),(6,.pointer (some ⟨g6,0,none⟩)),(14,.int .i64 (s.1 : Int))]
def WR (w : World) (g1 g3 gk g6 : Nat) (d two : List Nat) (A : Ed.Pt p) (s : Nat × List Nat × List (List Nat)) (W : World) : Prop :=
  s.1 <= 8 /\ PB s.2.1 (Ed.mul dd (2 * s.1 + 1) A) /\ M8 s.2.2 /\ (∀ j,j < s.1 -> AB s.2.2[j]! (Ed.mul dd (2 * j + 1) A)) /\ Up w W /\ Tw W /\ Blk W g1 118 (Us s.2.1).toArray /\ Blk W g3 141 qK /\
    Blk W gk 141 (kL s.2.2 d).toArray /\ Blk W g6 137 (Us two).toArray
theorem OP {l : List Nat} {A : Ed.Pt p} {b : List UInt8} (hP : PB l A) (hb : b.length = 32) (w : World) (hT : Tw w) :
  Calls Tryz.prog 87 #[.agg (Us l).toArray,.agg (By b).toArray] w λe w'=>∃ r : RS,r.Ok /\ r.A = A /\ nQ r.d = le b /\ e = .returned (.agg (kL r.M r.d).toArray) /\ Below w.heap.size w w':=by
 refine fI (vs:=[.agg (Us l).toArray,.agg (By b).toArray]) 27 Tryz.func87 rfl (by rw [Tryz.ntmps87]; rfl) ?_;have hw0:=hT.lt;refine aO λK hK=>?_;refine eX ?_;refine gR ((Us l).toArray) rfl rfl rfl rfl rfl λW1 g1 hw1 hg1 b1=>?_
 have q1 : w.heap.size <= g1:=by rw [hg1]; exact aH _
 clear hg1;replace hT:=hT.below hw1;have hU : Up w _:=hw1;refine gR ((By b).toArray) rfl rfl rfl rfl rfl λW2 g2 hw2 hg2 b2=>?_;clear hg2;replace b1:=b1.later hw2;replace hT:=hT.below hw2;replace hU:=hU.step hw2;refine cY qK rfl rfl rfl rfl (by kernel_rfl) λW3 g3 hw3 hg3 b3=>?_
 have q3 : w.heap.size <= g3:=by rw [hg3]; exact hU.size
 have n1_3 : g1 ≠ g3:=by have:=b1.lt; omega
 clear hg3;replace b1:=b1.later hw3;replace b2:=b2.later hw3;replace hT:=hT.below hw3;replace hU:=hU.step hw3;refine bI ?_;refine hK _ _ ?_;clear hK K;refine aO λK hK=>?_;refine tN 3 [nvR 5] (by decide) ⟨⟨rfl,rfl,rfl,rfl,by kernel_rfl⟩,trivial⟩ ?_;refine uF g2 0 hb rfl rfl rfl rfl rfl (λ_ h1=>(h1.blk b2).range) ?_;refine tK #[.agg (By b).toArray] (λv=>∃ d : List Nat,d.length = 256 /\ nQ d = le b /\ (∀ j,j < 256 -> d[j]! = 0 \/ (d[j]! % 2 = 1 /\ d[j]! < 16)) /\ v = .agg (Ds d).toArray) rfl rfl rfl JG (λw1 _=>(Q4 hb w1).mono λe w' ⟨d,h1,h2,h3,h4,h5⟩=>⟨_,h4,⟨d,h1,h2,h3,rfl⟩,h5⟩) rfl rfl ?_
 rintro _ ⟨d,hdl,hds,hdo,rfl⟩
 refine g7 [(1,.agg (Ds d).toArray)] (kL (aE 8 pz) d).toArray rfl rfl rfl rfl rfl (Ny hdl) ?_;refine o7 [.tmp 10] [(kL (aE 8 pz) d).toArray] ⟨rfl,trivial⟩ (by decide) ⟨⟨rfl,rfl,rfl⟩,rfl⟩ ⟨⟨rfl,pV.trans (Al RH hdl).symm,yQ RH hdl,GL _ _⟩,trivial⟩ λf4 W4 hg4 hd4 hw4 hb4=>?_;have b400 : Blk W4 (f4 0) 141 ((kL (aE 8 pz) d).toArray):=hb4.1;clear hb4;have q400 : w.heap.size <= f4 0:=Nat.le_trans hU.size (hg4 0 (by decide))
 have n1_400 : g1 ≠ f4 0:=by have:=b1.lt; have:=hg4 0 (by decide); omega
 have n3_400 : g3 ≠ f4 0:=by have:=b3.lt; have:=hg4 0 (by decide); omega
 replace b1:=b1.later hw4;replace b2:=b2.later hw4;replace b3:=b3.later hw4;replace hT:=hT.below hw4;replace hU:=hU.step hw4;clear hg4 hd4 hw4;generalize hf400 : f4 0 = g400 at *;simp only [l8,hf400];clear hf400 f4;refine bI ?_;refine eC (E':=[(2,.pointer (some ⟨g1,0,none⟩)),(3,.pointer (some ⟨g2,0,none⟩)),(4,.pointer (some ⟨g3,0,none⟩)),(5,.pointer (some ⟨g400,0,none⟩))]) ⟨rfl,rfl,rfl,rfl,trivial⟩ ?_;refine hK _ _ ?_;clear hK K;refine aO λK hK=>?_;refine tN 3 [nvA 6] (by decide) ⟨⟨rfl,rfl,rfl,rfl,by kernel_rfl⟩,trivial⟩ ?_;refine rT g1 0 hP.len rfl rfl rfl rfl rfl (λ_ h1=>(h1.blk b1).range) ?_;refine fC #[.agg (Us l).toArray,.int .i64 1] (PB · (Ed.mul dd 2 A)) rfl rfl rfl rD (λw1 h1=>wQ hP 1 (by decide) w1 (hT.below h1)) rfl rfl λr12 v12=>?_;refine fC #[.agg (Us r12).toArray] (AB · (Ed.mul dd 2 A)) rfl rfl rfl CC (λw1 h1=>IM v12 w1 (hT.below h1)) rfl rfl λr13 v13=>?_;refine o7 [.tmp 13] [(Us r13).toArray] ⟨rfl,trivial⟩ (by decide) ⟨⟨rfl,rfl,rfl⟩,rfl⟩ ⟨⟨rfl,rfl |>.trans (aV v13.len).symm,Jb v13.len,bU _⟩,trivial⟩ λf5 W5 hg5 hd5 hw5 hb5=>?_;have b500 : Blk W5 (f5 0) 137 ((Us r13).toArray):=hb5.1;clear hb5
 have n1_500 : g1 ≠ f5 0:=by have:=b1.lt; have:=hg5 0 (by decide); omega
 have n400_500 : g400 ≠ f5 0:=by have:=b400.lt; have:=hg5 0 (by decide); omega
 replace b1:=b1.later hw5;replace b2:=b2.later hw5;replace b3:=b3.later hw5;replace b400:=b400.later hw5;replace hT:=hT.below hw5;replace hU:=hU.step hw5;clear hg5 hd5 hw5;generalize hf500 : f5 0 = g500 at *;simp only [l8,hf500];clear hf500 f5;refine bI ?_;refine eC (E':=[(2,.pointer (some ⟨g1,0,none⟩)),(4,.pointer (some ⟨g3,0,none⟩)),(5,.pointer (some ⟨g400,0,none⟩)),(6,.pointer (some ⟨g500,0,none⟩))]) ⟨rfl,rfl,rfl,rfl,trivial⟩ ?_;refine hK _ _ ?_;clear hK K;refine aO λK1 hK1=>?_;refine aO λK hK=>?_;refine dG ?_;refine aM (.int .i64 0) rfl rfl rfl rfl rfl ?_;refine bN λw10 hw10=>?_;replace b1:=b1.later hw10;replace b2:=b2.later hw10;replace b3:=b3.later hw10;replace b400:=b400.later hw10;replace b500:=b500.later hw10;replace hT:=hT.below hw10;replace hU:=hU.step hw10;refine eC (E':=WF g1 g3 g400 g500 (0,l,aE 8 pz)) ⟨rfl,rfl,rfl,rfl,rfl,trivial⟩ ?_;refine hK _ _ ?_;clear hK K;refine dS ?_;have hon:=hP.on;refine kQ (m:=λs : Nat × List Nat × List (List Nat)=>8 - s.1) (F:=WF g1 g3 g400 g500) (R:=WR w g1 g3 g400 g500 d r13 A) ?_ (0,l,aE 8 pz) ⟨bZ _,by rw [Nat.mul_zero,cK,Ed.Hs jC]; exact hP,RH,λ_ h=>absurd h (by omega),hU,hT,b1,b3,b400,b500⟩;clear hU hT b1 b2 b3 b400 b500 hw10 w10
 rintro ⟨i,m,M⟩ V0 ⟨hi,hPm,hM,hA,hU,hT,b1,b3,b400,b500⟩
 simp only at hi hPm hM hA b1 b400;refine aO λK hK=>?_;refine dG ?_
 by_cases hin : i < 8
 ·refine fZ (i : Int) 8 true rfl rfl rfl rfl rfl rfl (decide_eq_true (by omega)) ?_
  refine bN λw11 hw11=>hK _ _ ?_;clear hK K;replace b1:=b1.later hw11;replace b3:=b3.later hw11;replace b400:=b400.later hw11;replace b500:=b500.later hw11;replace hT:=hT.below hw11;replace hU:=hU.step hw11;refine aO λK hK=>?_;refine cI true rfl ?_;refine fG ?_;refine hK _ _ ?_;clear hK K;refine aO λK3 hK3=>?_;refine dS ?_;refine aO λK hK=>?_;refine dG ?_;refine aM (.int .i64 (i : Int)) rfl rfl rfl rfl rfl ?_;refine cE (.int .i64 (i : Int)) rfl rfl rfl rfl rfl ?_;refine bN λw12 hw12=>hK _ _ ?_;clear hK K;replace b1:=b1.later hw12;replace b3:=b3.later hw12;replace b400:=b400.later hw12;replace b500:=b500.later hw12;replace hT:=hT.below hw12;replace hU:=hU.step hw12;refine aO λK hK=>?_;refine lL 5 ?_;refine aM (.int .i64 (i : Int)) rfl rfl rfl rfl rfl ?_;refine rT g1 0 hPm.len rfl rfl rfl rfl rfl (λ_ h1=>(h1.blk b1).range) ?_;refine fC #[.agg (Us m).toArray] (AB · (Ed.mul dd (2 * i + 1) A)) rfl rfl rfl CC (λw1 h1=>IM hPm w1 (hT.below h1)) rfl rfl λr19 v19=>?_;refine gI g400 0 0 rfl rfl rfl rfl rfl (λw1=>Ya _ 0 w1) ?_;refine uE _ (i : Int) ⟨g400,0 + 20 * i,none⟩ rfl rfl rfl rfl rfl rfl (ixA _ 0 i hin) ?_;refine vE λw13 hw13=>?_;replace b1:=b1.later hw13;replace b3:=b3.later hw13;replace b400:=b400.later hw13;replace b500:=b500.later hw13;replace hT:=hT.below hw13;replace hU:=hU.step hw13
  have c1 : Blk w13 g400 141 (Us (M.take i).flatten ++ (Us M[i]! ++ (Us (M.drop (i + 1)).flatten ++ Ds d))).toArray:=by rw [<-Am hM hin]; exact b400
  refine Qg g400 (0 + 20 * i) _ (Us M[i]!) _ (Us r19) rfl rfl rfl rfl rfl c1 (by rw [dB,vT hM (by omega)]; omega) (by rw [dB,dB,hM.each i hin,v19.len]) (by rw [dB,v19.len]; kernel_rfl) (cO _) λW' hO c2=>?_;rw [Sz hM hin v19.len] at c2;have hM2:=hM.set i v19.len
  have hA2 : ∀ j,j < i + 1 -> AB (M.set i r19)[j]! (Ed.mul dd (2 * j + 1) A):=λj hj=>by
   by_cases e : i = j
   ·subst e
    rw [EZ (by rw [hM.len]; exact hin)];exact v19
   ·rw [KP e]
    exact hA j (by omega)
  replace b1:=hO.blk _ _ _ n1_400 b1;replace b3:=hO.blk _ _ _ n3_400 b3;replace b500:=hO.blk _ _ _ (lZ n400_500) b500;replace hT:=hT.only hO (by omega);replace hU:=hO.up _ q400 hU;clear b400 c1;have b400:=c2;clear c2 hO;refine bI ?_;refine hK _ _ ?_;clear hK K;refine lL 3 ?_;refine rT g1 0 hPm.len rfl rfl rfl rfl rfl (λ_ h1=>(h1.blk b1).range) ?_;refine XW g500 0 v13.len rfl rfl rfl rfl rfl (λ_ h1=>(h1.blk b500).range) ?_;refine fC #[.agg (Us m).toArray,.agg (Us r13).toArray] (QB · (Ed.add dd (Ed.mul dd (2 * i + 1) A) (Ed.mul dd 2 A))) rfl rfl rfl He (λw1 h1=>LN hPm v13 w1 (hT.below h1)) rfl rfl λr24 v24=>?_;refine iW g1 _ ((Us r24).toArray) rfl rfl rfl rfl rfl b1 (dZ v24.len) ((aV hPm.len).trans (aV v24.len).symm) (bU _) λw21 hw21 c21=>?_;replace b3:=(b3.later hw21).aT (lZ n1_3) ((Us r24).toArray);replace b400:=(b400.later hw21).aT (lZ n1_400) ((Us r24).toArray);replace b500:=(b500.later hw21).aT (lZ n1_500) ((Us r24).toArray);replace b1:=c21;replace hT:=(hT.below hw21).row (g:=g1) (by have:=hw0; omega) ((Us r24).toArray);replace hU:=cT (hU.step hw21) q1 ((Us r24).toArray);clear hw21 c21;generalize w21.setRow g1 ((Us r24).toArray) = W21 at *;refine bI ?_;rw [<-Ed.mul_add jC hon,show 2 * i + 1 + 2 = 2 * (i + 1) + 1 from by omega] at v24;refine hK3 _ _ ?_;refine dG ?_;refine iP (i : Int) 1 ((i + 1 : Nat) : Int) rfl rfl rfl rfl rfl rfl (DI i 1 (by omega)) ?_;refine aM (.int .i64 ((i + 1 : Nat) : Int)) rfl rfl rfl rfl rfl ?_;refine bN λw40 hw40=>?_;replace b1:=b1.later hw40;replace b3:=b3.later hw40;replace b400:=b400.later hw40;replace b500:=b500.later hw40;replace hT:=hT.below hw40;replace hU:=hU.step hw40;exact gT (m:=λs : Nat × List Nat × List (List Nat)=>8 - s.1) (F:=WF g1 g3 g400 g500) (R:=WR w g1 g3 g400 g500 d r13 A) (s:=(i,m,M)) (i + 1,r24,M.set i r19) ⟨rfl,rfl,rfl,rfl,rfl,trivial⟩ ⟨hin,.inr v24,hM2,hA2,hU,hT,b1,b3,b400,b500⟩ (by show 8 - (i + 1) < 8 - i; omega)
 ·refine fZ (i : Int) 8 false rfl rfl rfl rfl rfl rfl (decide_eq_false (by omega)) ?_
  refine bN λw11 hw11=>hK _ _ ?_;clear hK K;replace b3:=b3.later hw11;replace b400:=b400.later hw11;replace hT:=hT.below hw11;replace hU:=hU.step hw11;refine aO λK hK=>?_;refine cI false rfl ?_;refine kR ?_
  show kF K1 27 _ _
  refine hK1 _ _ ?_;clear hK1 K1 hK K
  obtain rfl : i = 8:=by omega
  refine aO λK hK=>?_;refine lL 1 ?_;refine Bj g400 0 (kL M d) _ rfl rfl rfl rfl rfl (λ_ h1=>(h1.blk b400).range) Tryz.underlying141 rfl (by have:=yQ hM hdl; simpa using this) ?_;refine iW g3 _ ((kL M d).toArray) rfl rfl rfl rfl rfl b3 (yQ hM hdl) (pV.trans (Al hM hdl).symm) (GL _ _) λw51 hw51 c51=>?_;replace b3:=c51;replace hT:=(hT.below hw51).row (g:=g3) (by have:=hw0; omega) ((kL M d).toArray);replace hU:=cT (hU.step hw51) q3 ((kL M d).toArray);clear hw51 c51;generalize w51.setRow g3 ((kL M d).toArray) = W51 at *;refine bI ?_;refine hK _ _ ?_;clear hK K;refine gX (eH g3 _ rfl rfl b3 Tryz.underlying141 rfl (yQ hM hdl) ⟨⟨M,d,A⟩,⟨hM,hA,hdl,hdo,hon⟩,rfl,hds,rfl,hU⟩)
def lH (rs : List RS) : List Value:=(rs.map λr=>kL r.M r.d).flatten
theorem CY (r : RS) (rs : List RS) : lH (r :: rs) = kL r.M r.d ++ lH rs:=by simp [lH]
theorem CZ : ∀ {rs : List RS} {j : Nat} {r : RS},(∀ r ∈ rs,r.Ok) -> rs[j]? = some r -> ∃ A Z,lH rs = A ++ (kL r.M r.d ++ Z) /\ A.length = 416 * j
 | [],j,r,_,hj=>by simp at hj
 | s :: rs,0,r,h,hj=>by
  simp only [List.getElem?_cons_zero,bG] at hj;subst hj;exact ⟨[],lH rs,by rw [CY]; rfl,rfl⟩
 | s :: rs,j + 1,r,h,hj=>by
  obtain ⟨A,Z,e,hA⟩:=CZ (rs:=rs) (j:=j) (r:=r) (λs hs=>h s (by simp [hs])) (by simpa using hj);refine ⟨kL s.M s.d ++ A,Z,by rw [CY,e,aU],?_⟩;rw [aI,uR (h s (by simp)).m8 (h s (by simp)).dl,hA]
  omega
section
variable {w : World} {g t : Nat} {rs : List RS} {j : Nat} {r : RS}
theorem OO (hb : Blk w g t (lH rs).toArray) (h : ∀ r ∈ rs,r.Ok) (hj : rs[j]? = some r) {m : Nat} (hm : m < 256) : w.cell? ⟨g,416 * j + 160 + m,none⟩ = some (.int .u8 (r.d[m]! : Nat)):=by
 have hr:=h r (gK hj);obtain ⟨A,Z,e,hA⟩:=CZ h hj;have hM:=vT hr.m8 (aH 8);rw [bW (by rw [hr.m8.len]; exact aH _)] at hM
 have e2 : lH rs = (A ++ Us r.M.flatten) ++ (Ds r.d ++ Z):=by rw [e,kL]; simp
 rw [e2] at hb;have h2:=Blk.M2 hb (off:=416 * j + 160) (by simp [dB,hA,hM]) m (.int .u8 (r.d[m]! : Nat)) (by have:=Kq (l:=r.d) (j:=m) (by rw [hr.dl]; exact hm); simpa using this);exact h2
theorem Sy (hb : Blk w g t (lH rs).toArray) (h : ∀ r ∈ rs,r.Ok) (hj : rs[j]? = some r) {i : Nat} (hi : i < 8) : w.rangeAt g (416 * j + 20 * i) (Us r.M[i]!):=by
 have hr:=h r (gK hj);obtain ⟨A,Z,e,hA⟩:=CZ h hj
 have e2 : lH rs = (A ++ Us (r.M.take i).flatten) ++ (Us r.M[i]! ++ (Us (r.M.drop (i + 1)).flatten ++ Ds r.d ++ Z)):=by rw [e,Am hr.m8 hi]; simp
 rw [e2] at hb;exact Blk.M2 hb (by simp [dB,hA,vT hr.m8 (Nat.le_of_lt hi)])
end
theorem UN (b n c j : Nat) (h : j < n) (w : World) : (lN 153 (.slice (some ⟨b,0,none⟩) n c) (.int .i64 (j : Int))).run Tryz.prog w = .ok (.pointer (some ⟨b,416 * j,none⟩)) w:=by
 have h3 : (j : Int) < (n : Int):=by omega
 have h4 : (0 : Int) <= j:=by omega
 go_simp
theorem YD (b o i : Nat) (h : i < 256) (w : World) : (lN 139 (.pointer (some ⟨b,o,none⟩)) (.int .i64 (i : Int))).run Tryz.prog w = .ok (.pointer (some ⟨b,o + i,none⟩)) w:=by
 have h3 : (i : Int) < 256:=by omega
 have h4 : (0 : Int) <= i:=by omega
 go_simp
theorem YE (b o i : Nat) (h : i < 8) (w : World) : (lN 138 (.pointer (some ⟨b,o,none⟩)) (.int .u8 (i : Int))).run Tryz.prog w = .ok (.pointer (some ⟨b,o + 20 * i,none⟩)) w:=by
 have h3 : (i : Int) < 8:=by omega
 have h4 : (0 : Int) <= i:=by omega
 go_simp
theorem Yv (v : Nat) (h : v < 16) : IntKind.u8.wrap ((v : Int).tdiv 2) = ((v / 2 : Nat) : Int):=by
 have key : ∀ v : Nat,v < 16 -> IntKind.u8.wrap ((v : Int).tdiv 2) = ((v / 2 : Nat) : Int):=by decide +kernel
 exact key v h
section
variable {ops : Array Oper} {C0 : World -> Prop} {Q : Act -> Prop} {N : Nat} {E : List (Nat × Value)} {o : Oper} {rest : List Oper} {k : Nat}
theorem XT {t : TypeId} {x y : Operand} (p i : Value) (q : Addr) (hg : o.guard = none) (hd : o.dst = some k) (hk : aQ k N = true) (ho : o.op = .indexAddr t x y) (hx : ev E x = some p) (hy : ev E y = some i)
  (hr : ∀ w,(lN t p i).run Tryz.prog w = .ok (.pointer (some q)) w) (hn : bF Tryz.prog ops C0 Q rest N ((k,.pointer (some q)) :: E)) : bF Tryz.prog ops C0 Q (o :: rest) N E :=
 dP _ hg hd hk (λa ha w _=>by
  have h1:=ha.eval hx;have h2:=ha.eval hy
  unfold execOp
  simp only [ho,h1,h2,aJ,hr,aF,aK]) hn
theorem Wn {x : Operand} (p : Option Addr) (n c : Nat) (hg : o.guard = none) (hd : o.dst = some k) (hk : aQ k N = true) (ho : o.op = .call { callee:=.builtin .len,args:=#[x],argTypes:=#[153] }) (hx : ev E x = some (.slice p n c))
  (hn : bF Tryz.prog ops C0 Q rest N ((k,.int .i64 (n : Int)) :: E)) : bF Tryz.prog ops C0 Q (o :: rest) N E :=
 dP _ hg hd hk (λa ha w _=>by
  have h1:=ha.eval hx
  unfold execOp
  simp only [ho,resolve,invoke,builtin,aJ,aK,aF,dW,cA,gB,h1]
  go_simp) hn
end
section
variable {ops : Array Oper} {Q : Exit -> Act -> World -> Prop} {N : Nat} {E : List (Nat × Value)} {w : World} {o : Oper} {rest : List Oper} {k : Nat}
theorem Lo {f : FuncId} {xs : Array Operand} {ats : Array TypeId} (args : Array Value) {R : Ending -> World -> Prop} (hg : o.guard = none) (hd : o.dst = some k) (hk : aQ k N = true)
  (hf : Own f) (hc : Calls Tryz.prog f args w R) (ho : o.op = .call { callee:=.value (.func f),args:=xs,argTypes:=ats }) (hx : xs.toList.map (ev E) = args.toList.map some)
  (hn : ∀ e w',R e w' -> ∃ v,e = .returned v /\ lF Tryz.prog ops Q rest N ((k,v) :: E) w') : lF Tryz.prog ops Q (o :: rest) N E w:=λa ha=>by
 have hr:=kD (a:=a) hf ho w;rw [oZ (ha.Im _ _ hx)] at hr
 unfold wpList
 rw [if_pos (by simp [Region.wanted,hg])];refine .inl ?_
 unfold Oper.wp
 rw [hr];simp only [Oper.upon,hd]
 exact hc.mono λe w' he=>by
  obtain ⟨v,rfl,h1⟩:=hn e w' he;exact h1 _ (ha.put hk v)
end
theorem Fh : Own 87:=λ_ _=>by go_simp
theorem Ea : Own 86:=λ_ _=>by go_simp
theorem Eh : Own 70:=λ_ _=>by go_simp
def dOf (rs : List RS) (j : Nat) : List Nat:=(rs[j]?.map RS.d).getD []
theorem Q5 {rs : List RS} {j : Nat} {r : RS} (h : rs[j]? = some r) : dOf rs j = r.d:=by rw [dOf,h]; rfl
theorem UG {rs : List RS} (h : ∀ r ∈ rs,r.Ok) : ∀ A ∈ rs.map RS.A,Ed.On dd A:=λA hA=>by
 obtain ⟨r,hr,rfl⟩:=gP.1 hA;exact (h r hr).on
def zV (rs : List RS) (k : Nat) : Ed.Pt p:=Ed.tot dd (rs.map RS.A) 0 λm=>nQ ((dOf rs m).drop k)
def part (rs : List RS) (k j : Nat) : Ed.Pt p:=Ed.tot dd (rs.map RS.A) 0 λm=>if m < j then nQ ((dOf rs m).drop k) else 2 * nQ ((dOf rs m).drop (k + 1))
theorem Nz {rs : List RS} (h : ∀ r ∈ rs,r.Ok) : zV rs 256 = Ed.zero:=by
 refine Ed.Gn jC λj _ hj=>?_;rw [List.length_map,cK] at hj;rw [Q5 (aX hj),List.drop_of_length_le (by rw [(h _ (yJ hj)).dl]; exact aH _)]
 rfl
theorem MI {rs : List RS} (h : ∀ r ∈ rs,r.Ok) (k : Nat) : part rs k 0 = Ed.add dd (zV rs (k + 1)) (zV rs (k + 1)):=by
 rw [zV,<-Ed.KI jC (UG h)];exact Ed.vR λj _ _=>if_neg (by omega)
theorem Pp {rs : List RS} (k : Nat) : part rs k rs.length = zV rs k :=
 Ed.vR λj _ hj=>if_pos (by simpa using hj)
theorem D6 {rs : List RS} (h : ∀ r ∈ rs,r.Ok) {k j : Nat} {r : RS} (hj : rs[j]? = some r) (hk : k < 256) : part rs k (j + 1) = Ed.add dd (part rs k j) (Ed.mul dd r.d[k]! r.A):=by
 refine Ed.Gp jC (UG h) 0 j r.d[k]! _ _ r.A (by rw [List.getElem?_map,hj]; rfl) ?_ λm hm=>?_
 ·simp only [cK]
  rw [if_pos (by omega),if_neg (by omega),Q5 hj,Mp (by rw [(h r (gK hj)).dl]; exact hk),uB]
 ·simp only [cK] at hm
  by_cases e : m < j
  ·rw [if_pos (by omega),if_pos e]
  ·rw [if_neg (by omega),if_neg e]
theorem MJ {rs : List RS} (h : ∀ r ∈ rs,r.Ok) {k j : Nat} {r : RS} (hj : rs[j]? = some r) (hk : k < 256) (h0 : r.d[k]! = 0) : part rs k (j + 1) = part rs k j:=by
 rw [D6 h hj hk,h0,Ed.zF,Ed.add_zero jC]
def TF (gs n c0 g1 g2 : Nat) (s : Nat × Nat × List Nat) : List (Nat × Value):=[(0,.slice (some ⟨gs,0,none⟩) n c0),(2,.pointer (some ⟨g1,0,none⟩)),(3,.pointer (some ⟨g2,0,none⟩)),(4,.int .i64 (s.2.1 : Int)),(8,.int .i64 (s.1 : Int))]
def TR (w : World) (gs t g1 g2 : Nat) (rs : List RS) (s : Nat × Nat × List Nat) (W : World) : Prop :=
  s.1 <= 256 /\ s.2.1 <= s.1 /\ (∃ P,PB s.2.2 P /\ Ed.mul dd (2 ^ s.2.1) P = zV rs (256 - s.1)) /\ Up w W /\ Tw W /\ Blk W gs t (lH rs).toArray /\ Blk W g1 118 (Us pz).toArray /\ Blk W g2 118 (Us s.2.2).toArray
def IF (gs n c0 g1 g2 i : Nat) (s : Nat × Nat × List Nat) : List (Nat × Value):=[(0,.slice (some ⟨gs,0,none⟩) n c0),(2,.pointer (some ⟨g1,0,none⟩)),(3,.pointer (some ⟨g2,0,none⟩)),(4,.int .i64 (s.2.1 : Int)),(8,.int .i64 (i : Int)),(5,.int .i64 (i : Int)),(14,.int .i64 (n : Int)),(15,.int .i64 (s.1 : Int))]
def IR (w : World) (gs t g1 g2 : Nat) (rs : List RS) (i k : Nat) (s : Nat × Nat × List Nat) (W : World) : Prop :=
  s.1 <= rs.length /\ s.2.1 <= i + 1 /\ (∃ P,PB s.2.2 P /\ Ed.mul dd (2 ^ s.2.1) P = part rs k s.1) /\ Up w W /\ Tw W /\ Blk W gs t (lH rs).toArray /\ Blk W g1 118 (Us pz).toArray /\ Blk W g2 118 (Us s.2.2).toArray
theorem KH {rs : List RS} {gs t c0 : Nat} (hok : ∀ r ∈ rs,r.Ok) (hlen : rs.length < 4294967296) (w : World) (hT : Tw w) (hb : Blk w gs t (lH rs).toArray) :
  Calls Tryz.prog 86 #[.slice (some ⟨gs,0,none⟩) rs.length c0] w λe w'=>∃ r,PB r (zV rs 0) /\ e = .returned (.agg (Us r).toArray) /\ Below w.heap.size w w':=by
 refine fI (vs:=[.slice (some ⟨gs,0,none⟩) rs.length c0]) 45 Tryz.func86 rfl (by rw [Tryz.ntmps86]; rfl) ?_;have hw0:=hT.lt;have hgl:=hb.lt;refine aO λK hK=>?_;refine eX ?_;refine cY ((Us pz).toArray) rfl rfl rfl rfl (by kernel_rfl) λW1 g1 hw1 hg1 b1=>?_
 have q1 : w.heap.size <= g1:=by rw [hg1]; exact aH _
 clear hg1;replace hT:=hT.below hw1;have hU : Up w _:=hw1;replace hb:=hb.later hU;refine bI ?_;refine hK _ _ ?_;clear hK K;refine aO λK hK=>?_;refine eX ?_;refine cY ((Us pz).toArray) rfl rfl rfl rfl (by kernel_rfl) λW2 g2 hw2 hg2 b2=>?_
 have q2 : w.heap.size <= g2:=by rw [hg2]; exact hU.size
 have n1_2 : g1 ≠ g2:=by have:=b1.lt; omega
 clear hg2;replace b1:=b1.later hw2;replace hT:=hT.below hw2;replace hU:=hU.step hw2;replace hb:=hb.later hw2;refine bI ?_;refine hK _ _ ?_;clear hK K;refine aO λK hK=>?_;refine eX ?_;refine cV (.int .i64 0) rfl rfl rfl rfl rfl ?_;refine bI ?_;refine hK _ _ ?_;clear hK K
 have hne1 : gs ≠ g1:=by omega
 have hne2 : gs ≠ g2:=by omega
 refine aO λK1 hK1=>?_;refine aO λK hK=>?_;refine dG ?_;refine aM (.int .i64 0) rfl rfl rfl rfl rfl ?_;refine bN λw10 hw10=>?_;replace b1:=b1.later hw10;replace b2:=b2.later hw10;replace hT:=hT.below hw10;replace hU:=hU.step hw10;replace hb:=hb.later hw10;refine eC (E':=TF gs rs.length c0 g1 g2 (0,0,pz)) ⟨rfl,rfl,rfl,rfl,rfl,trivial⟩ ?_;refine hK _ _ ?_;clear hK K;refine dS ?_;refine kQ (m:=λs : Nat × Nat × List Nat=>256 - s.1) (F:=TF gs rs.length c0 g1 g2) (R:=TR w gs t g1 g2 rs) ?_ (0,0,pz) ⟨bZ _,aH _,⟨Ed.zero,.inl ⟨rfl,rfl⟩,by rw [mS,Ed.mul_zero jC]; exact (Nz hok).symm⟩,hU,hT,hb,b1,b2⟩;clear hU hT hb b1 b2 hw10 w10
 rintro ⟨i,c,m⟩ V0 ⟨hi,hc,⟨P,hP,hsum⟩,hU,hT,hb,b1,b2⟩
 simp only at hi hc hP hsum b2;refine aO λK hK=>?_;refine dG ?_
 by_cases hin : i < 256
 ·obtain ⟨k,hk⟩ : ∃ k,k = 255 - i:=⟨_,rfl⟩
  have hk1 : 256 - i = k + 1:=by omega
  rw [hk1] at hsum;refine fZ (i : Int) 256 true rfl rfl rfl rfl rfl rfl (decide_eq_true (by omega)) ?_;refine bN λw11 hw11=>hK _ _ ?_;clear hK K;replace b1:=b1.later hw11;replace b2:=b2.later hw11;replace hT:=hT.below hw11;replace hU:=hU.step hw11;replace hb:=hb.later hw11;refine aO λK hK=>?_;refine cI true rfl ?_;refine fG ?_;refine hK _ _ ?_;clear hK K;refine aO λK3 hK3=>?_;refine dS ?_;refine aO λK hK=>?_;refine dG ?_;refine aM (.int .i64 (i : Int)) rfl rfl rfl rfl rfl ?_;refine cE (.int .i64 (i : Int)) rfl rfl rfl rfl rfl ?_;refine bN λw12 hw12=>hK _ _ ?_;clear hK K;replace b1:=b1.later hw12;replace b2:=b2.later hw12;replace hT:=hT.below hw12;replace hU:=hU.step hw12;replace hb:=hb.later hw12;refine aO λK hK=>?_;refine dG ?_;refine aM (.int .i64 (c : Int)) rfl rfl rfl rfl rfl ?_;refine iP (c : Int) 1 ((c + 1 : Nat) : Int) rfl rfl rfl rfl rfl rfl (DI c 1 (by omega)) ?_;refine cE (.int .i64 ((c + 1 : Nat) : Int)) rfl rfl rfl rfl rfl ?_;refine bN λw13 hw13=>hK _ _ ?_;clear hK K;replace b1:=b1.later hw13;replace b2:=b2.later hw13;replace hT:=hT.below hw13;replace hU:=hU.step hw13;replace hb:=hb.later hw13;refine aO λK hK=>?_;refine dG ?_;refine aM (.slice (some ⟨gs,0,none⟩) rs.length c0) rfl rfl rfl rfl rfl ?_;refine Wn _ rs.length c0 rfl rfl rfl rfl rfl ?_;refine aM (.int .i64 0) rfl rfl rfl rfl rfl ?_;refine bN λw14 hw14=>?_;replace b1:=b1.later hw14;replace b2:=b2.later hw14;replace hT:=hT.below hw14;replace hU:=hU.step hw14;replace hb:=hb.later hw14;refine eC (E':=IF gs rs.length c0 g1 g2 i (0,c + 1,m)) ⟨rfl,rfl,rfl,rfl,rfl,rfl,rfl,rfl,trivial⟩ ?_;refine hK _ _ ?_;clear hK K;refine dS ?_
  have hs0 : Ed.mul dd (2 ^ (c + 1)) P = part rs k 0:=by rw [LM hP.on,hsum,<-MI hok]
  refine kQ (m:=λs : Nat × Nat × List Nat=>rs.length - s.1) (F:=IF gs rs.length c0 g1 g2 i) (R:=IR w gs t g1 g2 rs i k) ?_ (0,c + 1,m) ⟨bZ _,by show c + 1 <= i + 1; omega,⟨P,hP,hs0⟩,hU,hT,hb,b1,b2⟩;clear hU hT hb b1 b2 hw14 w14 hP hsum hs0
  rintro ⟨j,c,m⟩ V1 ⟨hj,hc,⟨P,hP,hsum⟩,hU,hT,hb,b1,b2⟩
  simp only at hj hc hP hsum b2;refine aO λK hK=>?_;refine dG ?_
  by_cases hjn : j < rs.length
  ·refine fZ (j : Int) (rs.length : Int) true rfl rfl rfl rfl rfl rfl (decide_eq_true (by omega)) ?_
   refine bN λw11 hw11=>hK _ _ ?_;clear hK K;replace b1:=b1.later hw11;replace b2:=b2.later hw11;replace hT:=hT.below hw11;replace hU:=hU.step hw11;replace hb:=hb.later hw11;refine aO λK hK=>?_;refine cI true rfl ?_;refine fG ?_;refine hK _ _ ?_;clear hK K;refine aO λK5 hK5=>?_;refine dS ?_;refine aO λK hK=>?_;refine dG ?_;refine aM (.int .i64 (j : Int)) rfl rfl rfl rfl rfl ?_;refine cE (.int .i64 (j : Int)) rfl rfl rfl rfl rfl ?_;refine bN λw12 hw12=>hK _ _ ?_;clear hK K;replace b1:=b1.later hw12;replace b2:=b2.later hw12;replace hT:=hT.below hw12;replace hU:=hU.step hw12;replace hb:=hb.later hw12;have hr : rs[j]? = some rs[j]:=aX hjn;have hrok:=hok _ (yJ hjn);generalize rs[j] = r at hr hrok;have cd:=OO hb hok hr (m:=k) (by omega);have hodd:=hrok.odd k (by omega);have hstep:=D6 hok hr (k:=k) (by omega);have hsame:=MJ hok hr (k:=k) (by omega);generalize r.d[k]! = v at *;refine aO λK hK=>?_;refine dG ?_;refine aM (.slice (some ⟨gs,0,none⟩) rs.length c0) rfl rfl rfl rfl rfl ?_;refine aM (.int .i64 (j : Int)) rfl rfl rfl rfl rfl ?_;refine aM (.int .i64 (i : Int)) rfl rfl rfl rfl rfl ?_;refine pG 255 (i : Int) (k : Int) rfl rfl rfl rfl rfl rfl (by rw [i64_left,wrap64_in _ (by omega)]; omega) ?_;refine uE _ (j : Int) ⟨gs,416 * j,none⟩ rfl rfl rfl rfl rfl rfl (UN _ _ _ j hjn) ?_;refine gI gs (416 * j) (416 * j + 160) rfl rfl rfl rfl rfl (λw1=>YJ _ _ w1) ?_;refine uE _ (k : Int) ⟨gs,416 * j + 160 + k,none⟩ rfl rfl rfl rfl rfl rfl (YD _ _ k (by omega)) ?_;refine dA ⟨gs,416 * j + 160 + k,none⟩ (.int .u8 (v : Int)) (by decide) rfl rfl rfl rfl rfl (λ_ h1=>(h1.cell hb.lt).trans cd) ?_;refine cE (.int .u8 (v : Int)) rfl rfl rfl rfl rfl ?_;refine bN λw13 hw13=>hK _ _ ?_;clear hK K;replace b1:=b1.later hw13;replace b2:=b2.later hw13;replace hT:=hT.below hw13;replace hU:=hU.step hw13;replace hb:=hb.later hw13;refine aO λK hK=>?_;refine dG ?_;refine aM (.int .u8 (v : Int)) rfl rfl rfl rfl rfl ?_
   by_cases hv : 0 < v
   ·refine QR (v : Int) 0 true rfl rfl rfl rfl rfl rfl (decide_eq_true (by omega)) ?_
    refine bN λw14 hw14=>hK _ _ ?_;clear hK K;replace b1:=b1.later hw14;replace b2:=b2.later hw14;replace hT:=hT.below hw14;replace hU:=hU.step hw14;replace hb:=hb.later hw14;refine cI true rfl ?_;refine aO λK hK=>?_
    have hvo : v % 2 = 1 /\ v < 16:=by omega
    have hmu:=hrok.ms (v / 2) (by omega);rw [show 2 * (v / 2) + 1 = v from by omega] at hmu;have hmr:=Sy (i:=v / 2) hb hok hr (by omega);have hml:=hmu.len;refine c_t 12 (by decide) (by kernel_rfl) (cJ (by kernel_rfl)) (λ_ _ d _ _ h=>by cases d <;> exact h) ?_;refine rT g2 0 hP.len rfl rfl rfl rfl rfl (λ_ h1=>(h1.blk b2).range) ?_;refine aM (.int .i64 (c : Int)) rfl rfl rfl rfl rfl ?_;refine fC #[.agg (Us m).toArray,.int .i64 (c : Int)] (PB · (Ed.mul dd (2 ^ c) P)) rfl rfl rfl rD (λw1 h1=>wQ hP c (by omega) w1 (hT.below h1)) rfl rfl λr30 v30=>?_;refine aM (.slice (some ⟨gs,0,none⟩) rs.length c0) rfl rfl rfl rfl rfl ?_;refine aM (.int .i64 (j : Int)) rfl rfl rfl rfl rfl ?_;refine aM (.int .u8 (v : Int)) rfl rfl rfl rfl rfl ?_;refine Wj (v : Int) 2 ((v / 2 : Nat) : Int) (by decide) rfl rfl rfl rfl rfl rfl (Yv v hvo.2) ?_;refine uE _ (j : Int) ⟨gs,416 * j,none⟩ rfl rfl rfl rfl rfl rfl (UN _ _ _ j hjn) ?_;refine gI gs (416 * j) (416 * j) rfl rfl rfl rfl rfl (λw1=>Ya _ _ w1) ?_;refine XT _ (.int .u8 ((v / 2 : Nat) : Int)) ⟨gs,416 * j + 20 * (v / 2),none⟩ rfl rfl rfl rfl rfl rfl (YE _ _ (v / 2) (by omega)) ?_;refine XW gs (416 * j + 20 * (v / 2)) hml rfl rfl rfl rfl rfl (λ_ h1 q u hu=>(h1.cell hb.lt).trans (hmr q u hu)) ?_;refine fC #[.agg (Us r30).toArray,.agg (Us r.M[v / 2]!).toArray] (QB · (Ed.add dd (Ed.mul dd (2 ^ c) P) (Ed.mul dd v r.A))) rfl rfl rfl He (λw1 h1=>LN v30 hmu w1 (hT.below h1)) rfl rfl λr39 v39=>?_;refine iW g2 _ ((Us r39).toArray) rfl rfl rfl rfl rfl b2 (dZ v39.len) ((aV hP.len).trans (aV v39.len).symm) (bU _) λw61 hw61 c61=>?_;replace hb:=(hb.later hw61).aT hne2 (Us r39).toArray;replace b1:=(b1.later hw61).aT n1_2 ((Us r39).toArray);replace b2:=c61;replace hT:=(hT.below hw61).row (g:=g2) (by have:=hw0; omega) ((Us r39).toArray);replace hU:=cT (hU.step hw61) q2 ((Us r39).toArray);clear hw61 c61;generalize w61.setRow g2 ((Us r39).toArray) = W61 at *;rw [hsum,<-hstep] at v39;refine bI ?_;refine hK _ _ ?_;clear hK K;refine dG ?_;refine cE (.int .i64 0) rfl rfl rfl rfl rfl ?_;refine bN λw18 hw18=>?_;replace b1:=b1.later hw18;replace b2:=b2.later hw18;replace hT:=hT.below hw18;replace hU:=hU.step hw18;replace hb:=hb.later hw18;refine hK5 _ _ ?_;refine dG ?_;refine iP (j : Int) 1 ((j + 1 : Nat) : Int) rfl rfl rfl rfl rfl rfl (DI j 1 (by omega)) ?_;refine aM (.int .i64 ((j + 1 : Nat) : Int)) rfl rfl rfl rfl rfl ?_;refine bN λw20 hw20=>?_;replace b1:=b1.later hw20;replace b2:=b2.later hw20;replace hT:=hT.below hw20;replace hU:=hU.step hw20;replace hb:=hb.later hw20;exact gT (m:=λs : Nat × Nat × List Nat=>rs.length - s.1) (F:=IF gs rs.length c0 g1 g2 i) (R:=IR w gs t g1 g2 rs i k) (s:=(j,_,_)) (j + 1,0,r39) ⟨rfl,rfl,rfl,rfl,rfl,rfl,rfl,rfl,trivial⟩ ⟨hjn,bZ _,⟨_,.inr v39,by rw [mS,Ed.Hs jC]⟩,hU,hT,hb,b1,b2⟩ (by show rs.length - (j + 1) < rs.length - j; omega)
   ·refine QR (v : Int) 0 false rfl rfl rfl rfl rfl rfl (decide_eq_false (by omega)) ?_
    refine bN λw14 hw14=>hK _ _ ?_;clear hK K;replace b1:=b1.later hw14;replace b2:=b2.later hw14;replace hT:=hT.below hw14;replace hU:=hU.step hw14;replace hb:=hb.later hw14;refine cI false rfl ?_;refine fG ?_;rw [<-hsame (by omega)] at hsum;refine hK5 _ _ ?_;refine dG ?_;refine iP (j : Int) 1 ((j + 1 : Nat) : Int) rfl rfl rfl rfl rfl rfl (DI j 1 (by omega)) ?_;refine aM (.int .i64 ((j + 1 : Nat) : Int)) rfl rfl rfl rfl rfl ?_;refine bN λw20 hw20=>?_;replace b1:=b1.later hw20;replace b2:=b2.later hw20;replace hT:=hT.below hw20;replace hU:=hU.step hw20;replace hb:=hb.later hw20;exact gT (m:=λs : Nat × Nat × List Nat=>rs.length - s.1) (F:=IF gs rs.length c0 g1 g2 i) (R:=IR w gs t g1 g2 rs i k) (s:=(j,_,_)) (j + 1,c,m) ⟨rfl,rfl,rfl,rfl,rfl,rfl,rfl,rfl,trivial⟩ ⟨hjn,hc,⟨P,hP,hsum⟩,hU,hT,hb,b1,b2⟩ (by show rs.length - (j + 1) < rs.length - j; omega)
  ·refine fZ (j : Int) (rs.length : Int) false rfl rfl rfl rfl rfl rfl (decide_eq_false (by omega)) ?_
   refine bN λw11 hw11=>hK _ _ ?_;clear hK K;replace b1:=b1.later hw11;replace b2:=b2.later hw11;replace hT:=hT.below hw11;replace hU:=hU.step hw11;replace hb:=hb.later hw11;refine aO λK hK=>?_;refine cI false rfl ?_;refine kR ?_
   show kF K3 45 _ _
   refine hK3 _ _ ?_
   obtain rfl : j = rs.length:=by omega
   rw [Pp] at hsum;refine dG ?_;refine iP (i : Int) 1 ((i + 1 : Nat) : Int) rfl rfl rfl rfl rfl rfl (DI i 1 (by omega)) ?_;refine aM (.int .i64 ((i + 1 : Nat) : Int)) rfl rfl rfl rfl rfl ?_;refine bN λw20 hw20=>?_;replace b1:=b1.later hw20;replace b2:=b2.later hw20;replace hT:=hT.below hw20;replace hU:=hU.step hw20;replace hb:=hb.later hw20;exact gT (m:=λs : Nat × Nat × List Nat=>256 - s.1) (F:=TF gs rs.length c0 g1 g2) (R:=TR w gs t g1 g2 rs) (s:=(i,_,_)) (i + 1,c,m) ⟨rfl,rfl,rfl,rfl,rfl,trivial⟩ ⟨hin,hc,⟨P,hP,by rw [hsum]; congr 1; omega⟩,hU,hT,hb,b1,b2⟩ (by show 256 - (i + 1) < 256 - i; omega)
 ·refine fZ (i : Int) 256 false rfl rfl rfl rfl rfl rfl (decide_eq_false (by omega)) ?_
  refine bN λw11 hw11=>hK _ _ ?_;clear hK K;replace b1:=b1.later hw11;replace b2:=b2.later hw11;replace hT:=hT.below hw11;replace hU:=hU.step hw11;replace hb:=hb.later hw11;refine aO λK hK=>?_;refine cI false rfl ?_;refine kR ?_
  show kF K1 45 _ _
  refine hK1 _ _ ?_;clear hK1 K1 hK K
  obtain rfl : i = 256:=by omega
  refine aO λK hK=>?_;refine lL 3 ?_;refine rT g2 0 hP.len rfl rfl rfl rfl rfl (λ_ h1=>(h1.blk b2).range) ?_;refine aM (.int .i64 (c : Int)) rfl rfl rfl rfl rfl ?_;refine fC #[.agg (Us m).toArray,.int .i64 (c : Int)] (PB · (Ed.mul dd (2 ^ c) P)) rfl rfl rfl rD (λw1 h1=>wQ hP c (by omega) w1 (hT.below h1)) rfl rfl λr30 v30=>?_;refine iW g1 _ ((Us r30).toArray) rfl rfl rfl rfl rfl b1 (dZ v30.len) ((aV fE).trans (aV v30.len).symm) (bU _) λw81 hw81 c81=>?_;replace b1:=c81;replace hT:=(hT.below hw81).row (g:=g1) (by have:=hw0; omega) ((Us r30).toArray);replace hU:=cT (hU.step hw81) q1 ((Us r30).toArray);clear hw81 c81;generalize w81.setRow g1 ((Us r30).toArray) = W81 at *;rw [hsum,Nat.sub_self] at v30;refine bI ?_;refine hK _ _ ?_;clear hK K;refine gX (eH g1 _ rfl rfl b1 Tryz.underlying118 rfl (dZ v30.len) ⟨_,v30,rfl,hU⟩)
theorem Qo : (Tryz.prog.info? 141).map (λi=>(i.zero,i.size)) = some (some (.agg qK),416):=by kernel_rfl
theorem u5 : ∃ i,Tryz.prog.info? 141 = some i /\ i.zero = some (.agg qK) /\ i.size = 416:=by
 have h:=Qo
 cases hi : Tryz.prog.info? 141 with
 | none=>rw [hi] at h; cases h
 | some i =>
  rw [hi] at h;simp only [Option.map_some,bG,Prod.mk.injEq] at h;exact ⟨i,rfl,h.1,h.2⟩
theorem SN (z : Array Value) (n : Nat) (hn : z.size = n) : ((BE (1 * n)).map (λx=>z[x % z.size]!)) = ([] ++ (z.toList ++ [])).toArray:=by
 apply Array.ext
 ·simp [hn]
 ·intro i h1 h2
  simp only [kG,bV,a9,Array.length_toList] at h2
  simp [bR h2,h2]
theorem SM (z : Array Value) (n : Nat) (hn : z.size = n) : ((BE (2 * n)).map (λx=>z[x % z.size]!)) = ([] ++ (z.toList ++ (z.toList ++ []))).toArray:=by
 apply Array.ext
 ·simp [hn]
  omega
 ·intro i h1 h2
  simp only [Array.size_map,Array.size_range] at h1;simp only [Array.getElem_map,Array.getElem_range,kG,bV,List.getElem_toArray]
  by_cases hi : i < z.size
  ·rw [bR hi,List.getElem_append_left (by simpa using hi)]
   simp [hi]
  ·have h3 : i % z.size = i - z.size:=by rw [Nat.mod_eq_sub_mod (by omega),bR (by omega)]
   have h4 : i - z.size < z.size:=by omega
   rw [h3,List.getElem_append_right (by simpa using hi)]
   simp [h4]
theorem GD {r : RS} (h : r.Ok) (w : World) : (nN 153 1 #[(0,.agg (kL r.M r.d).toArray)]).run Tryz.prog w = .ok (.slice (some ⟨w.heap.size,0,none⟩) 1 1) (w.alloc (.cells (lH [r]).toArray 141)):=by
 obtain ⟨i,hi,hz,hs⟩:=u5;have hl:=uR h.m8 h.dl;refine run_buildSlice w 153 141 1 _ _ i (.agg qK) Tryz.underlying153 hi hz (by rw [hs]; decide) (by rw [hs]; decide) ?_;rw [hs]
 show gN _ ((BE (1 * 416)).map (λx=>qK[x % qK.size]!)) [(0,.agg (kL r.M r.d).toArray)] = _
 rw [SN qK 416 pV,lV (λi=>some (i * 416,416)) 0 416 [] qK.toList [] (kL r.M r.d) [] rfl hl (by have:=pV; simpa using this),gN]
 simp [lH]
theorem GC {r s : RS} (h : r.Ok) (h2 : s.Ok) (w : World) : (nN 153 2 #[(0,.agg (kL r.M r.d).toArray),(1,.agg (kL s.M s.d).toArray)]).run Tryz.prog w = .ok (.slice (some ⟨w.heap.size,0,none⟩) 2 2) (w.alloc (.cells (lH [r,s]).toArray 141)):=by
 obtain ⟨i,hi,hz,hs⟩:=u5;have hl:=uR h.m8 h.dl;have hl2:=uR h2.m8 h2.dl
 have hz0 : qK.toList.length = 416:=by have:=pV; simpa using this
 refine run_buildSlice w 153 141 2 _ _ i (.agg qK) Tryz.underlying153 hi hz (by rw [hs]; decide) (by rw [hs]; decide) ?_;rw [hs]
 show gN _ ((BE (2 * 416)).map (λx=>qK[x % qK.size]!)) [(0,.agg (kL r.M r.d).toArray),(1,.agg (kL s.M s.d).toArray)] = _
 rw [SM qK 416 pV,lV (λi=>some (i * 416,416)) 0 416 [] qK.toList (qK.toList ++ []) (kL r.M r.d) _ rfl hl hz0,kG,lV (λi=>some (i * 416,416)) 1 416 (kL r.M r.d) qK.toList [] (kL s.M s.d) [] (by rw [hl]) hl2 hz0,gN]
 simp [lH]
theorem WN (r : RS) : zV [r] 0 = Ed.mul dd (nQ r.d) r.A:=by
 show Ed.add dd (Ed.mul dd (nQ (r.d.drop 0)) r.A) Ed.zero = _
 rw [Ed.add_zero jC,qX]
theorem WM (r s : RS) : zV [r,s] 0 = Ed.add dd (Ed.mul dd (nQ r.d) r.A) (Ed.mul dd (nQ s.d) s.A):=by
 show Ed.add dd (Ed.mul dd (nQ (r.d.drop 0)) r.A) (Ed.add dd (Ed.mul dd (nQ (s.d.drop 0)) s.A) Ed.zero) = _
 rw [Ed.add_zero jC,qX,qX]
theorem WB {l : List Nat} {A : Ed.Pt p} {b : List UInt8} (hP : PB l A) (hb : b.length = 32) (w : World) (hT : Tw w) :
  Calls Tryz.prog 71 #[.agg (Us l).toArray,.agg (By b).toArray] w λe w'=>∃ r,PB r (Ed.mul dd (le b) A) /\ e = .returned (.agg (Us r).toArray) /\ Below w.heap.size w w':=by
 refine fI (vs:=[.agg (Us l).toArray,.agg (By b).toArray]) 10 Tryz.func71 rfl (by rw [Tryz.ntmps71]; rfl) ?_;have hw0:=hT.lt;refine aO λK hK=>?_;refine eX ?_;refine gR ((Us l).toArray) rfl rfl rfl rfl rfl λW1 g1 hw1 hg1 b1=>?_;clear hg1;replace hT:=hT.below hw1;have hU : Up w _:=hw1;refine gR ((By b).toArray) rfl rfl rfl rfl rfl λW2 g2 hw2 hg2 b2=>?_;clear hg2;replace b1:=b1.later hw2;replace hT:=hT.below hw2;replace hU:=hU.step hw2;refine cY ((Us pz).toArray) rfl rfl rfl rfl (by kernel_rfl) λW3 g3 hw3 hg3 b3=>?_
 have q3 : w.heap.size <= g3:=by rw [hg3]; exact hU.size
 clear hg3;replace b1:=b1.later hw3;replace b2:=b2.later hw3;replace hT:=hT.below hw3;replace hU:=hU.step hw3;refine bI ?_;refine hK _ _ ?_;clear hK K;refine aO λK hK=>?_;refine lL 3 ?_;refine rT g1 0 hP.len rfl rfl rfl rfl rfl (λ_ h1=>(h1.blk b1).range) ?_;refine uF g2 0 hb rfl rfl rfl rfl rfl (λ_ h1=>(h1.blk b2).range) ?_;refine tK #[.agg (Us l).toArray,.agg (By b).toArray] (λv=>∃ r : RS,r.Ok /\ r.A = A /\ nQ r.d = le b /\ v = .agg (kL r.M r.d).toArray) rfl rfl rfl Fh (λw1 h1=>(OP hP hb w1 (hT.below h1)).mono λe w' ⟨r,h1,h2,h3,h4,h5⟩=>⟨_,h4,⟨r,h1,h2,h3,rfl⟩,h5⟩) rfl rfl ?_
 rintro _ ⟨r,or,ar,sr,rfl⟩
 refine vE λw4 hw4=>?_;replace b3:=b3.later hw4;replace hT:=hT.below hw4;replace hU:=hU.step hw4;refine nZ (w':=w4.alloc (.cells (lH [r]).toArray 141)) (.slice (some ⟨w4.heap.size,0,none⟩) 1 1) rfl rfl rfl (λa ha=>by have h:=(GD or w4); unfold execOp; simp only [dW,cA,gB,ha.eval (x:=.tmp 7) rfl,aJ,h,aF,aK]) ?_;have hbs:=Blk.new w4 141 (lH [r]).toArray;have hal : Up w4 (w4.alloc (.cells (lH [r]).toArray 141)):=(Up.refl _).alloc _;replace b3:=b3.later hal;replace hT:=hT.below hal;replace hU:=hU.step hal;generalize w4.alloc (.cells (lH [r]).toArray 141) = W4 at *;generalize w4.heap.size = gs at *;refine Lo #[.slice (some ⟨gs,0,none⟩) 1 1] rfl rfl rfl Ea (KH (rs:=[r]) (c0:=1) (by simpa using or) (by simp) W4 hT hbs) rfl rfl ?_
 rintro e V ⟨u,hu,rfl,hV⟩
 refine ⟨_,rfl,?_⟩;replace b3:=b3.later hV;replace hT:=hT.below hV;replace hU:=hU.step hV;rw [WN,ar,sr] at hu;refine mY g3 _ (Us u).toArray rfl rfl rfl rfl rfl b3 (dZ hu.len) (aV fE |>.trans (aV hu.len).symm) (bU _) ?_;replace b3:=b3.row (Us u).toArray;replace hU:=cT hU q3 (Us u).toArray;refine bI ?_;refine hK _ _ ?_;refine gX (eH g3 _ rfl rfl b3 Tryz.underlying118 rfl (dZ hu.len) ⟨_,hu,rfl,hU⟩)
theorem Uc {l : List Nat} {A : Ed.Pt p} {n m : List UInt8} (hn : n.length = 32) (hP : PB l A) (hm : m.length = 32) (w : World) (hT : Tw w) :
  Calls Tryz.prog 76 #[.agg (By n).toArray,.agg (Us l).toArray,.agg (By m).toArray] w λe w'=>∃ r,PB r (Ed.add dd (Ed.mul dd (le n) base) (Ed.mul dd (le m) A)) /\ e = .returned (.agg (Us r).toArray) /\ Below w.heap.size w w':=by
 refine fI (vs:=[.agg (By n).toArray,.agg (Us l).toArray,.agg (By m).toArray]) 15 Tryz.func76 rfl (by rw [Tryz.ntmps76]; rfl) ?_;have hw0:=hT.lt;refine aO λK hK=>?_;refine eX ?_;refine gR ((By n).toArray) rfl rfl rfl rfl rfl λW1 g1 hw1 hg1 b1=>?_;clear hg1;replace hT:=hT.below hw1;have hU : Up w _:=hw1;refine gR ((Us l).toArray) rfl rfl rfl rfl rfl λW2 g2 hw2 hg2 b2=>?_;clear hg2;replace b1:=b1.later hw2;replace hT:=hT.below hw2;replace hU:=hU.step hw2;refine gR ((By m).toArray) rfl rfl rfl rfl rfl λW3 g3 hw3 hg3 b3=>?_;clear hg3;replace b1:=b1.later hw3;replace b2:=b2.later hw3;replace hT:=hT.below hw3;replace hU:=hU.step hw3;refine cY ((Us pz).toArray) rfl rfl rfl rfl (by kernel_rfl) λW4 g4 hw4 hg4 b4=>?_
 have q4 : w.heap.size <= g4:=by rw [hg4]; exact hU.size
 clear hg4;replace b1:=b1.later hw4;replace b2:=b2.later hw4;replace b3:=b3.later hw4;replace hT:=hT.below hw4;replace hU:=hU.step hw4;refine bI ?_;refine hK _ _ ?_;clear hK K;refine aO λK hK=>?_;refine c_t 6 (by decide) (by kernel_rfl) (cJ (by kernel_rfl)) (λ_ _ d _ _ h=>by cases d <;> exact h) ?_;refine fC #[] (QB · base) rfl rfl rfl Eh (λw1 h1=>LX w1) rfl rfl λr7 v7=>?_;refine uF g1 0 hn rfl rfl rfl rfl rfl (λ_ h1=>(h1.blk b1).range) ?_;refine tK #[.agg (Us r7).toArray,.agg (By n).toArray] (λv=>∃ r : RS,r.Ok /\ r.A = base /\ nQ r.d = le n /\ v = .agg (kL r.M r.d).toArray) rfl rfl rfl Fh (λw1 h1=>(OP (.inr v7) hn w1 (hT.below h1)).mono λe w' ⟨r,h1,h2,h3,h4,h5⟩=>⟨_,h4,⟨r,h1,h2,h3,rfl⟩,h5⟩) rfl rfl ?_
 rintro _ ⟨r,or,ar,sr,rfl⟩
 refine rT g2 0 hP.len rfl rfl rfl rfl rfl (λ_ h1=>(h1.blk b2).range) ?_;refine uF g3 0 hm rfl rfl rfl rfl rfl (λ_ h1=>(h1.blk b3).range) ?_;refine tK #[.agg (Us l).toArray,.agg (By m).toArray] (λv=>∃ r : RS,r.Ok /\ r.A = A /\ nQ r.d = le m /\ v = .agg (kL r.M r.d).toArray) rfl rfl rfl Fh (λw1 h1=>(OP hP hm w1 (hT.below h1)).mono λe w' ⟨r,h1,h2,h3,h4,h5⟩=>⟨_,h4,⟨r,h1,h2,h3,rfl⟩,h5⟩) rfl rfl ?_
 rintro _ ⟨q,oq,aq,sq,rfl⟩
 refine vE λw5 hw5=>?_;replace b4:=b4.later hw5;replace hT:=hT.below hw5;replace hU:=hU.step hw5;refine nZ (w':=w5.alloc (.cells (lH [r,q]).toArray 141)) (.slice (some ⟨w5.heap.size,0,none⟩) 2 2) rfl rfl rfl (λa ha=>by have h:=(GC or oq w5); unfold execOp; simp only [dW,cA,gB,ha.eval (x:=.tmp 9) rfl,ha.eval (x:=.tmp 12) rfl,aJ,h,aF,aK]) ?_;have hbs:=Blk.new w5 141 (lH [r,q]).toArray;have hal : Up w5 (w5.alloc (.cells (lH [r,q]).toArray 141)):=(Up.refl _).alloc _;replace b4:=b4.later hal;replace hT:=hT.below hal;replace hU:=hU.step hal;generalize w5.alloc (.cells (lH [r,q]).toArray 141) = W5 at *;generalize w5.heap.size = gs at *;refine Lo #[.slice (some ⟨gs,0,none⟩) 2 2] rfl rfl rfl Ea (KH (rs:=[r,q]) (c0:=2) (by intro x hx; simp only [List.mem_cons,List.not_mem_nil,or_false] at hx; rcases hx with rfl | rfl; exact or; exact oq) (by simp) W5 hT hbs) rfl rfl ?_
 rintro e V ⟨u,hu,rfl,hV⟩
 refine ⟨_,rfl,?_⟩;replace b4:=b4.later hV;replace hT:=hT.below hV;replace hU:=hU.step hV;rw [WM,ar,sr,aq,sq] at hu;refine mY g4 _ (Us u).toArray rfl rfl rfl rfl rfl b4 (dZ hu.len) (aV fE |>.trans (aV hu.len).symm) (bU _) ?_;replace b4:=b4.row (Us u).toArray;replace hU:=cT hU q4 (Us u).toArray;refine bI ?_;refine hK _ _ ?_;refine gX (eH g4 _ rfl rfl b4 Tryz.underlying118 rfl (dZ hu.len) ⟨_,hu,rfl,hU⟩)
end Go.Proofs.YtfkchihlchlfdaaGreatDoor
