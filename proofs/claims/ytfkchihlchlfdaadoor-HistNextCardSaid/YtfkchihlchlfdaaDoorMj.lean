import Derived.Test.YtfkchihlchlfdaaDoorMi
import Derived.Test.YtfkchihlchlfdaaDoorMa
import Derived.Test.YtfkchihlchlfdaaDoorMb
import Derived.Test.YtfkchihlchlfdaaDoorMg
set_option maxRecDepth 100000
set_option maxHeartbeats 1000000
open Go.Instr renaming fieldAt->jO,indexAt->mL
open List renaming replicate->aD,length_append->aO,append_assoc->aU,length_take->aZ,size_toArray->bA,length_replicate->bM,append_nil->cD,length_set->eP,take_append_drop->fQ,drop_eq_getElem_cons->lX,flatten_cons->o6
open Nat renaming le_refl->aF,blt->aQ,mod_eq_of_lt->bS,min_eq_left->cO,zero_add->cW,zero_le->dC,pow_succ->dE,pow_add->o5,reduceAdd->tJ,add_mul_div_left->C2,pow_pos->Mh
open Ne renaming symm->jK
open UInt8 renaming ofNat->aX
namespace Go.Proofs.YtfkchihlchlfdaaDoor
open Go.RowKit Go.IntWalk Nums
theorem Gr {n : Nat} [NeZero n] (t z : Fin n) : (0 - t) * z = 0 - t * z:=by grind only
theorem NP {n : Nat} [NeZero n] (x y : Fin n) : (0 - x) * y = 0 - x * y:=Gr x y
theorem _root_.Nums.Ed.Rep.VM {n : Nat} [NeZero n] {X Y Z : Fin n} {P : Ed.Pt n} (r : Ed.Rep X Y Z P) : Ed.Rep (0 - X) Y Z (Ed.neg P):=by
 have h:=r.neg
 have e : -X = 0 - X:=by grind only
 rwa [e] at h
theorem yH {l : List Nat} {A : Ed.Pt p} (hP : PB l A) (w : World) :
  Calls Tryd.prog 71 #[.agg (Us l).toArray] w λe w'=>∃ r,QB r A /\ e = .returned (.agg (Us r).toArray) /\ Below w.heap.size w w':=by
 refine e9 (vs:=[.agg (Us l).toArray]) 10 Tryd.func71 rfl (by rw [Tryd.ntmps71]; rfl) ?_;have hl:=hP.len;refine aM λK hK=>?_;refine eQ ?_;refine gB ((Us l).toArray) rfl rfl rfl rfl rfl λW1 g1 hw1 hg1 b1=>?_;clear hg1;have hU : Up w _:=hw1;refine cT ((Us pz).toArray) rfl rfl rfl rfl (by kernel_rfl) λW2 g2 hw2 hg2 b2=>?_
 have q2 : w.heap.size <= g2:=by rw [hg2]; exact hU.size
 have n1_2 : g1 ≠ g2:=by have:=b1.lt; omega
 clear hg2;replace b1:=b1.later hw2;replace hU:=hU.step hw2;refine bG ?_;refine hK _ _ ?_;clear hK K;refine aM λK0 hK0=>?_;refine aM λK hK=>?_
 rcases hP with ⟨rfl,rfl⟩ | hQ
 ·refine dB ?_
  refine rD g1 0 hl rfl rfl rfl rfl rfl (λ_ h1=>(h1.blk b1).range) ?_;refine gO [] (Us pz).toArray rfl rfl rfl rfl rfl sZ ?_;refine LZ (Us pz).toArray (Us pz).toArray rfl rfl rfl rfl rfl rfl (by kernel_rfl) Sc ?_;refine bI λw9 hw9=>hK _ _ ?_;clear hK K;replace b1:=b1.later hw9;replace b2:=b2.later hw9;replace hU:=hU.step hw9;refine cB true rfl ?_;rw [if_pos rfl];refine aM λK2 hK2=>?_;refine k8 3 ?_;refine gO [] (Us zl).toArray rfl rfl rfl rfl rfl iZ ?_;refine eV #[.int .u64 1] (EB · 1) rfl rfl rfl zQ (λw1 _=>BB w1) rfl rfl λr7 v7=>?_;refine eV #[.agg (Us zl).toArray,.agg (Us r7).toArray] (QB · ⟨0,1⟩) rfl rfl rfl Ev (λw1 h1=>Ry mC v7 Ed.sS w1) rfl rfl λr8 v8=>?_;refine iC g2 _ ((Us r8).toArray) rfl rfl rfl rfl rfl b2 (dR v8.len) ((aT eX).trans (aT v8.len).symm) (bP _) λw3 hw3 c3=>?_;replace b1:=(b1.later hw3).aR n1_2 ((Us r8).toArray);replace b2:=c3;replace hU:=cM (hU.step hw3) q2 ((Us r8).toArray);clear hw3 c3;generalize w3.setRow g2 ((Us r8).toArray) = W3 at *;refine bG ?_;refine hK2 _ _ ?_;clear hK2 K2;refine gI (lG (eC g2 _ rfl rfl b2 Tryd.underlying77 rfl (dR v8.len) ⟨_,v8,rfl,hU⟩))
 ·refine dB ?_
  refine rD g1 0 hl rfl rfl rfl rfl rfl (λ_ h1=>(h1.blk b1).range) ?_;refine gO [] (Us pz).toArray rfl rfl rfl rfl rfl sZ ?_;refine LZ (Us l).toArray (Us pz).toArray rfl rfl rfl rfl rfl rfl (by kernel_rfl) (RT hQ) ?_;refine bI λw9 hw9=>hK _ _ ?_;clear hK K;replace b1:=b1.later hw9;replace b2:=b2.later hw9;replace hU:=hU.step hw9;refine cB false rfl ?_;rw [if_neg (by decide)];refine eZ ?_;refine hK0 _ _ ?_;clear hK0 K0;refine aM λK hK=>?_;refine k8 1 ?_;refine rD g1 0 hl rfl rfl rfl rfl rfl (λ_ h1=>(h1.blk b1).range) ?_;refine iC g2 _ ((Us l).toArray) rfl rfl rfl rfl rfl b2 (dR hl) ((aT eX).trans (aT hl).symm) (bP _) λw3 hw3 c3=>?_;replace b2:=c3;replace hU:=cM (hU.step hw3) q2 ((Us l).toArray);clear hw3 c3;generalize w3.setRow g2 ((Us l).toArray) = W3 at *;refine bG ?_;refine hK _ _ ?_;clear hK K;refine gI (eC g2 _ rfl rfl b2 Tryd.underlying77 rfl (dR hl) ⟨_,hQ,rfl,hU⟩)
theorem Hl {l : List Nat} {A : Ed.Pt p} (hP : PB l A) (w : World) (hT : Tw w) :
  Calls Tryd.prog 89 #[.agg (Us l).toArray] w λe w'=>∃ r,AB r A /\ e = .returned (.agg (Us r).toArray) /\ Below w.heap.size w w':=by
 refine e9 (vs:=[.agg (Us l).toArray]) 28 Tryd.func89 rfl (by rw [Tryd.ntmps89]; rfl) ?_;have hw0:=hT.lt;refine aM λK hK=>?_;refine eQ ?_;refine gB ((Us l).toArray) rfl rfl rfl rfl rfl λW1 g1 hw1 hg1 b1=>?_
 have q1 : w.heap.size <= g1:=by rw [hg1]; exact aF _
 clear hg1;replace hT:=hT.below hw1;have hU : Up w _:=hw1;refine cT ((Us pz).toArray) rfl rfl rfl rfl (by kernel_rfl) λW2 g2 hw2 hg2 b2=>?_
 have q2 : w.heap.size <= g2:=by rw [hg2]; exact hU.size
 have n1_2 : g1 ≠ g2:=by have:=b1.lt; omega
 clear hg2;replace b1:=b1.later hw2;replace hT:=hT.below hw2;replace hU:=hU.step hw2;refine bG ?_;refine hK _ _ ?_;clear hK K;refine aM λK hK=>?_;refine k8 2 ?_;refine rD g1 0 hP.len rfl rfl rfl rfl rfl (λ_ h1=>(h1.blk b1).range) ?_;refine eV #[.agg (Us l).toArray] (QB · A) rfl rfl rfl sR (λw1 h1=>yH hP w1) rfl rfl λr4 v4=>?_;refine iC g1 _ ((Us r4).toArray) rfl rfl rfl rfl rfl b1 (dR v4.len) ((aT hP.len).trans (aT v4.len).symm) (bP _) λw3 hw3 c3=>?_;replace b2:=(b2.later hw3).aR (jK n1_2) ((Us r4).toArray);replace b1:=c3;replace hT:=(hT.below hw3).row (g:=g1) (by have:=hw0; omega) ((Us r4).toArray);replace hU:=cM (hU.step hw3) q1 ((Us r4).toArray);clear hw3 c3;generalize w3.setRow g1 ((Us r4).toArray) = W3 at *;obtain ⟨⟨X1,Y1,Z1,T1,x1,y1,z1,t1,rfl,hX1,hY1,hZ1,hT1,hR1,ht1⟩,hon1⟩:=v4;refine bG ?_;refine hK _ _ ?_;clear hK K;refine aM λK hK=>?_;refine c_t 23 (by decide) (by kernel_rfl) (cC (by kernel_rfl)) (λ_ _ d _ _ h=>by cases d <;> exact h) ?_;refine fT g1 0 5 rfl rfl rfl rfl rfl (λw1=>CV _ w1) ?_;refine dL g1 5 hY1.len rfl rfl rfl rfl rfl (λ_ h1=>(h1.blk b1).cy hX1.len) ?_;refine fT g1 0 0 rfl rfl rfl rfl rfl (λw1=>EY _ w1) ?_;refine dL g1 0 hX1.len rfl rfl rfl rfl rfl (λ_ h1=>(h1.blk b1).cx) ?_;refine eV #[.agg (Us Y1).toArray,.agg (Us X1).toArray] (EB · (y1 + x1)) rfl rfl rfl kN (λw1 h1=>oB hY1 hX1 w1) rfl rfl λr9 v9=>?_;refine fT g1 0 5 rfl rfl rfl rfl rfl (λw1=>CV _ w1) ?_;refine dL g1 5 hY1.len rfl rfl rfl rfl rfl (λ_ h1=>(h1.blk b1).cy hX1.len) ?_;refine fT g1 0 0 rfl rfl rfl rfl rfl (λw1=>EY _ w1) ?_;refine dL g1 0 hX1.len rfl rfl rfl rfl rfl (λ_ h1=>(h1.blk b1).cx) ?_;refine eV #[.agg (Us Y1).toArray,.agg (Us X1).toArray] (EB · (y1 - x1)) rfl rfl rfl iO (λw1 h1=>mB hY1 hX1 w1 (hT.below h1)) rfl rfl λr14 v14=>?_;refine fT g1 0 10 rfl rfl rfl rfl rfl (λw1=>G9 _ w1) ?_;refine dL g1 10 hZ1.len rfl rfl rfl rfl rfl (λ_ h1=>(h1.blk b1).cz hX1.len hY1.len) ?_;refine fT g1 0 10 rfl rfl rfl rfl rfl (λw1=>G9 _ w1) ?_;refine dL g1 10 hZ1.len rfl rfl rfl rfl rfl (λ_ h1=>(h1.blk b1).cz hX1.len hY1.len) ?_;refine eV #[.agg (Us Z1).toArray,.agg (Us Z1).toArray] (EB · (z1 + z1)) rfl rfl rfl kN (λw1 h1=>oB hZ1 hZ1 w1) rfl rfl λr19 v19=>?_;refine fT g1 0 15 rfl rfl rfl rfl rfl (λw1=>OY _ w1) ?_;refine dL g1 15 hT1.len rfl rfl rfl rfl rfl (λ_ h1=>(h1.blk b1).ct hX1.len hY1.len hZ1.len) ?_;refine fT g1 0 15 rfl rfl rfl rfl rfl (λw1=>OY _ w1) ?_;refine dL g1 15 hT1.len rfl rfl rfl rfl rfl (λ_ h1=>(h1.blk b1).ct hX1.len hY1.len hZ1.len) ?_;refine eV #[.agg (Us T1).toArray,.agg (Us T1).toArray] (EB · (t1 + t1)) rfl rfl rfl kN (λw1 h1=>oB hT1 hT1 w1) rfl rfl λr24 v24=>?_;refine eV #[] (EB · dd) rfl rfl rfl BT (λw1 h1=>GX w1) rfl rfl λr25 v25=>?_
 refine eV #[.agg (Us r24).toArray,.agg (Us r25).toArray] (EB · ((t1 + t1) * dd)) rfl rfl rfl bK (λw1 h1=>dA v24 v25 w1) rfl rfl λr26 v26=>?_;refine gO [(0,.agg (Us r9).toArray),(1,.agg (Us r14).toArray),(2,.agg (Us r19).toArray),(3,.agg (Us r26).toArray)] (Us (pc r9 r14 r19 r26)).toArray rfl rfl rfl rfl rfl (Rq v9.len v14.len v19.len v26.len) ?_;refine iC g2 _ ((Us (pc r9 r14 r19 r26)).toArray) rfl rfl rfl rfl rfl b2 (HV (kP v9.len v14.len v19.len v26.len)) ((aT eX).trans (aT (kP v9.len v14.len v19.len v26.len)).symm) (bP _) λw4 hw4 c4=>?_;replace b2:=c4;replace hT:=(hT.below hw4).row (g:=g2) (by have:=hw0; omega) ((Us (pc r9 r14 r19 r26)).toArray);replace hU:=cM (hU.step hw4) q2 ((Us (pc r9 r14 r19 r26)).toArray);clear hw4 c4;generalize w4.setRow g2 ((Us (pc r9 r14 r19 r26)).toArray) = W4 at *;refine bG ?_;refine hK _ _ ?_;clear hK K;refine gI (eC g2 _ rfl rfl b2 Tryd.underlying112 rfl (HV (kP v9.len v14.len v19.len v26.len)) ⟨_,⟨⟨_,_,_,_,x1,y1,z1,t1,rfl,v9,v14,v19,v26,hR1,ht1⟩,hon1⟩,rfl,hU⟩)
theorem Kx {l m : List Nat} {A B : Ed.Pt p} (hP : PB l A) (hM : AB m B) (w : World) (hT : Tw w) :
  Calls Tryd.prog 87 #[.agg (Us l).toArray,.agg (Us m).toArray] w λe w'=>∃ r,QB r (Ed.add dd A B) /\ e = .returned (.agg (Us r).toArray) /\ Below w.heap.size w w':=by
 refine e9 (vs:=[.agg (Us l).toArray,.agg (Us m).toArray]) 66 Tryd.func87 rfl (by rw [Tryd.ntmps87]; rfl) ?_;have hw0:=hT.lt;have hml:=hM.len;obtain ⟨⟨U,V,Z2,T2,x2,y2,z2,t2,rfl,hU2,hV2,hZ2,hT2,hR2,ht2⟩,hon2⟩:=hM;refine aM λK hK=>?_;refine eQ ?_;refine gB ((Us l).toArray) rfl rfl rfl rfl rfl λW1 g1 hw1 hg1 b1=>?_
 have q1 : w.heap.size <= g1:=by rw [hg1]; exact aF _
 clear hg1;replace hT:=hT.below hw1;have hU : Up w _:=hw1;refine gB ((Us (pc U V Z2 T2)).toArray) rfl rfl rfl rfl rfl λW2 g2 hw2 hg2 b2=>?_
 have n1_2 : g1 ≠ g2:=by have:=b1.lt; omega
 clear hg2;replace b1:=b1.later hw2;replace hT:=hT.below hw2;replace hU:=hU.step hw2;refine cT ((Us pz).toArray) rfl rfl rfl rfl (by kernel_rfl) λW3 g3 hw3 hg3 b3=>?_
 have q3 : w.heap.size <= g3:=by rw [hg3]; exact hU.size
 have n1_3 : g1 ≠ g3:=by have:=b1.lt; omega
 clear hg3;replace b1:=b1.later hw3;replace b2:=b2.later hw3;replace hT:=hT.below hw3;replace hU:=hU.step hw3;refine bG ?_;refine hK _ _ ?_;clear hK K;refine aM λK hK=>?_;refine k8 2 ?_;refine rD g1 0 hP.len rfl rfl rfl rfl rfl (λ_ h1=>(h1.blk b1).range) ?_;refine eV #[.agg (Us l).toArray] (QB · A) rfl rfl rfl sR (λw1 h1=>yH hP w1) rfl rfl λr14 v14=>?_;refine iC g1 _ ((Us r14).toArray) rfl rfl rfl rfl rfl b1 (dR v14.len) ((aT hP.len).trans (aT v14.len).symm) (bP _) λw4 hw4 c4=>?_;replace b2:=(b2.later hw4).aR (jK n1_2) ((Us r14).toArray);replace b3:=(b3.later hw4).aR (jK n1_3) ((Us r14).toArray);replace b1:=c4;replace hT:=(hT.below hw4).row (g:=g1) (by have:=hw0; omega) ((Us r14).toArray);replace hU:=cM (hU.step hw4) q1 ((Us r14).toArray);clear hw4 c4;generalize w4.setRow g1 ((Us r14).toArray) = W4 at *;obtain ⟨⟨X1,Y1,Z1,T1,x1,y1,z1,t1,rfl,hX1,hY1,hZ1,hT1,hR1,ht1⟩,hon1⟩:=v14;refine bG ?_;refine hK _ _ ?_;clear hK K;refine aM λK hK=>?_;refine AQ 16 [nvE 5,nvE 6] (by decide) (by decide) ⟨⟨rfl,rfl,rfl,rfl,by kernel_rfl⟩,⟨rfl,rfl,rfl,rfl,by kernel_rfl⟩,trivial⟩ (by kernel_rfl) (cC (by kernel_rfl)) (by kernel_rfl) (λ_ _ d _ _ h=>by cases d <;> exact h) ?_;refine fT g1 0 5 rfl rfl rfl rfl rfl (λw1=>CV _ w1) ?_;refine dL g1 5 hY1.len rfl rfl rfl rfl rfl (λ_ h1=>(h1.blk b1).cy hX1.len) ?_;refine fT g1 0 0 rfl rfl rfl rfl rfl (λw1=>EY _ w1) ?_;refine dL g1 0 hX1.len rfl rfl rfl rfl rfl (λ_ h1=>(h1.blk b1).cx) ?_;refine eV #[.agg (Us Y1).toArray,.agg (Us X1).toArray] (EB · (y1 - x1)) rfl rfl rfl iO (λw1 h1=>mB hY1 hX1 w1 (hT.below h1)) rfl rfl λr19 v19=>?_;refine fT g2 0 5 rfl rfl rfl rfl rfl (λw1=>VW _ w1) ?_;refine dL g2 5 hV2.len rfl rfl rfl rfl rfl (λ_ h1=>(h1.blk b2).cy hU2.len) ?_;refine eV #[.agg (Us r19).toArray,.agg (Us V).toArray] (EB · ((y1 - x1) * (y2 - x2))) rfl rfl rfl bK (λw1 h1=>dA v19 hV2 w1) rfl rfl λr22 v22=>?_;refine fT g1 0 5 rfl rfl rfl rfl rfl (λw1=>CV _ w1) ?_;refine dL g1 5 hY1.len rfl rfl rfl rfl rfl (λ_ h1=>(h1.blk b1).cy hX1.len) ?_;refine fT g1 0 0 rfl rfl rfl rfl rfl (λw1=>EY _ w1) ?_;refine dL g1 0 hX1.len rfl rfl rfl rfl rfl (λ_ h1=>(h1.blk b1).cx) ?_;refine eV #[.agg (Us Y1).toArray,.agg (Us X1).toArray] (EB · (y1 + x1)) rfl rfl rfl kN (λw1 h1=>oB hY1 hX1 w1) rfl rfl λr27 v27=>?_;refine fT g2 0 0 rfl rfl rfl rfl rfl (λw1=>VX _ w1) ?_;refine dL g2 0 hU2.len rfl rfl rfl rfl rfl (λ_ h1=>(h1.blk b2).cx) ?_;refine eV #[.agg (Us r27).toArray,.agg (Us U).toArray] (EB · ((y1 + x1) * (y2 + x2))) rfl rfl rfl bK (λw1 h1=>dA v27 hU2 w1) rfl rfl λr30 v30=>?_;refine oL [.tmp 22,.tmp 30] [(Us r22).toArray,(Us r30).toArray] ⟨rfl,rfl,trivial⟩ (by decide) ⟨⟨rfl,rfl,rfl⟩,⟨rfl,rfl,rfl⟩,rfl⟩ ⟨⟨rfl,(aT fR).trans (aT v22.len).symm,fS v22.len,bP _⟩,⟨rfl,(aT fR).trans (aT v30.len).symm,fS v30.len,bP _⟩,trivial⟩ λf5 W5 hg5 hd5 hw5 hb5=>?_
 have b500 : Blk W5 (f5 0) 75 ((Us r22).toArray):=hb5.1;have b501 : Blk W5 (f5 1) 75 ((Us r30).toArray):=hb5.2.1;clear hb5;replace b1:=b1.later hw5;replace b2:=b2.later hw5;replace b3:=b3.later hw5;replace hT:=hT.below hw5;replace hU:=hU.step hw5;clear hg5 hd5 hw5;generalize hf500 : f5 0 = g500 at *;generalize hf501 : f5 1 = g501 at *;simp only [lO,tJ,hf500,hf501];clear hf500 hf501 f5;refine bG ?_;refine dT (E':=[(2,.pointer (some ⟨g1,0,none⟩)),(3,.pointer (some ⟨g2,0,none⟩)),(4,.pointer (some ⟨g3,0,none⟩)),(5,.pointer (some ⟨g500,0,none⟩)),(6,.pointer (some ⟨g501,0,none⟩))]) ⟨rfl,rfl,rfl,rfl,rfl,trivial⟩ ?_;refine hK _ _ ?_;clear hK K;refine aM λK hK=>?_;refine AQ 10 [nvE 7,nvE 8] (by decide) (by decide) ⟨⟨rfl,rfl,rfl,rfl,by kernel_rfl⟩,⟨rfl,rfl,rfl,rfl,by kernel_rfl⟩,trivial⟩ (by kernel_rfl) (cC (by kernel_rfl)) (by kernel_rfl) (λ_ _ d _ _ h=>by cases d <;> exact h) ?_;refine fT g1 0 10 rfl rfl rfl rfl rfl (λw1=>G9 _ w1) ?_;refine dL g1 10 hZ1.len rfl rfl rfl rfl rfl (λ_ h1=>(h1.blk b1).cz hX1.len hY1.len) ?_;refine fT g2 0 10 rfl rfl rfl rfl rfl (λw1=>VV _ w1) ?_;refine dL g2 10 hZ2.len rfl rfl rfl rfl rfl (λ_ h1=>(h1.blk b2).cz hU2.len hV2.len) ?_;refine eV #[.agg (Us Z1).toArray,.agg (Us Z2).toArray] (EB · (z1 * (z2 + z2))) rfl rfl rfl bK (λw1 h1=>dA hZ1 hZ2 w1) rfl rfl λr35 v35=>?_;refine fT g1 0 15 rfl rfl rfl rfl rfl (λw1=>OY _ w1) ?_;refine dL g1 15 hT1.len rfl rfl rfl rfl rfl (λ_ h1=>(h1.blk b1).ct hX1.len hY1.len hZ1.len) ?_;refine fT g2 0 15 rfl rfl rfl rfl rfl (λw1=>VU _ w1) ?_;refine dL g2 15 hT2.len rfl rfl rfl rfl rfl (λ_ h1=>(h1.blk b2).ct hU2.len hV2.len hZ2.len) ?_;refine eV #[.agg (Us T1).toArray,.agg (Us T2).toArray] (EB · (t1 * ((t2 + t2) * dd))) rfl rfl rfl bK (λw1 h1=>dA hT1 hT2 w1) rfl rfl λr40 v40=>?_;refine oL [.tmp 35,.tmp 40] [(Us r35).toArray,(Us r40).toArray] ⟨rfl,rfl,trivial⟩ (by decide) ⟨⟨rfl,rfl,rfl⟩,⟨rfl,rfl,rfl⟩,rfl⟩ ⟨⟨rfl,(aT fR).trans (aT v35.len).symm,fS v35.len,bP _⟩,⟨rfl,(aT fR).trans (aT v40.len).symm,fS v40.len,bP _⟩,trivial⟩ λf6 W6 hg6 hd6 hw6 hb6=>?_;have b600 : Blk W6 (f6 0) 75 ((Us r35).toArray):=hb6.1;have b601 : Blk W6 (f6 1) 75 ((Us r40).toArray):=hb6.2.1;clear hb6;replace b3:=b3.later hw6;replace b500:=b500.later hw6;replace b501:=b501.later hw6;replace hT:=hT.below hw6;replace hU:=hU.step hw6;clear hg6 hd6 hw6;generalize hf600 : f6 0 = g600 at *;generalize hf601 : f6 1 = g601 at *;simp only [lO,tJ,hf600,hf601];clear hf600 hf601 f6;refine bG ?_;refine dT (E':=[(4,.pointer (some ⟨g3,0,none⟩)),(5,.pointer (some ⟨g500,0,none⟩)),(6,.pointer (some ⟨g501,0,none⟩)),(7,.pointer (some ⟨g600,0,none⟩)),(8,.pointer (some ⟨g601,0,none⟩))]) ⟨rfl,rfl,rfl,rfl,rfl,trivial⟩ ?_
 refine hK _ _ ?_;clear hK K;refine aM λK hK=>?_;refine AQ 12 [nvE 9,nvE 10,nvE 11,nvE 12] (by decide) (by decide) ⟨⟨rfl,rfl,rfl,rfl,by kernel_rfl⟩,⟨rfl,rfl,rfl,rfl,by kernel_rfl⟩,⟨rfl,rfl,rfl,rfl,by kernel_rfl⟩,⟨rfl,rfl,rfl,rfl,by kernel_rfl⟩,trivial⟩ (by kernel_rfl) (cC (by kernel_rfl)) (by kernel_rfl) (λ_ _ d _ _ h=>by cases d <;> exact h) ?_;refine dL g501 0 v30.len rfl rfl rfl rfl rfl (λ_ h1=>(h1.blk b501).range) ?_;refine dL g500 0 v22.len rfl rfl rfl rfl rfl (λ_ h1=>(h1.blk b500).range) ?_;refine eV #[.agg (Us r30).toArray,.agg (Us r22).toArray] (EB · (((y1 + x1) * (y2 + x2)) - ((y1 - x1) * (y2 - x2)))) rfl rfl rfl iO (λw1 h1=>mB v30 v22 w1 (hT.below h1)) rfl rfl λr43 v43=>?_;refine dL g600 0 v35.len rfl rfl rfl rfl rfl (λ_ h1=>(h1.blk b600).range) ?_;refine dL g601 0 v40.len rfl rfl rfl rfl rfl (λ_ h1=>(h1.blk b601).range) ?_;refine eV #[.agg (Us r35).toArray,.agg (Us r40).toArray] (EB · ((z1 * (z2 + z2)) - (t1 * ((t2 + t2) * dd)))) rfl rfl rfl iO (λw1 h1=>mB v35 v40 w1 (hT.below h1)) rfl rfl λr46 v46=>?_;refine dL g600 0 v35.len rfl rfl rfl rfl rfl (λ_ h1=>(h1.blk b600).range) ?_;refine dL g601 0 v40.len rfl rfl rfl rfl rfl (λ_ h1=>(h1.blk b601).range) ?_;refine eV #[.agg (Us r35).toArray,.agg (Us r40).toArray] (EB · ((z1 * (z2 + z2)) + (t1 * ((t2 + t2) * dd)))) rfl rfl rfl kN (λw1 h1=>oB v35 v40 w1) rfl rfl λr49 v49=>?_;refine dL g501 0 v30.len rfl rfl rfl rfl rfl (λ_ h1=>(h1.blk b501).range) ?_;refine dL g500 0 v22.len rfl rfl rfl rfl rfl (λ_ h1=>(h1.blk b500).range) ?_;refine eV #[.agg (Us r30).toArray,.agg (Us r22).toArray] (EB · (((y1 + x1) * (y2 + x2)) + ((y1 - x1) * (y2 - x2)))) rfl rfl rfl kN (λw1 h1=>oB v30 v22 w1) rfl rfl λr52 v52=>?_;refine oL [.tmp 43,.tmp 46,.tmp 49,.tmp 52] [(Us r43).toArray,(Us r46).toArray,(Us r49).toArray,(Us r52).toArray] ⟨rfl,rfl,rfl,rfl,trivial⟩ (by decide) ⟨⟨rfl,rfl,rfl⟩,⟨rfl,rfl,rfl⟩,⟨rfl,rfl,rfl⟩,⟨rfl,rfl,rfl⟩,rfl⟩ ⟨⟨rfl,(aT fR).trans (aT v43.len).symm,fS v43.len,bP _⟩,⟨rfl,(aT fR).trans (aT v46.len).symm,fS v46.len,bP _⟩,⟨rfl,(aT fR).trans (aT v49.len).symm,fS v49.len,bP _⟩,⟨rfl,(aT fR).trans (aT v52.len).symm,fS v52.len,bP _⟩,trivial⟩ λf7 W7 hg7 hd7 hw7 hb7=>?_;have b700 : Blk W7 (f7 0) 75 ((Us r43).toArray):=hb7.1;have b701 : Blk W7 (f7 1) 75 ((Us r46).toArray):=hb7.2.1;have b702 : Blk W7 (f7 2) 75 ((Us r49).toArray):=hb7.2.2.1;have b703 : Blk W7 (f7 3) 75 ((Us r52).toArray):=hb7.2.2.2.1;clear hb7;replace b3:=b3.later hw7;replace hT:=hT.below hw7;replace hU:=hU.step hw7;clear hg7 hd7 hw7;generalize hf700 : f7 0 = g700 at *;generalize hf701 : f7 1 = g701 at *;generalize hf702 : f7 2 = g702 at *
 generalize hf703 : f7 3 = g703 at *;simp only [lO,tJ,hf700,hf701,hf702,hf703];clear hf700 hf701 hf702 hf703 f7;refine bG ?_;refine dT (E':=[(4,.pointer (some ⟨g3,0,none⟩)),(9,.pointer (some ⟨g700,0,none⟩)),(10,.pointer (some ⟨g701,0,none⟩)),(11,.pointer (some ⟨g702,0,none⟩)),(12,.pointer (some ⟨g703,0,none⟩))]) ⟨rfl,rfl,rfl,rfl,rfl,trivial⟩ ?_;refine hK _ _ ?_;clear hK K;refine aM λK hK=>?_;refine c_t 13 (by decide) (by kernel_rfl) (cC (by kernel_rfl)) (λ_ _ d _ _ h=>by cases d <;> exact h) ?_;refine dL g700 0 v43.len rfl rfl rfl rfl rfl (λ_ h1=>(h1.blk b700).range) ?_;refine dL g701 0 v46.len rfl rfl rfl rfl rfl (λ_ h1=>(h1.blk b701).range) ?_;refine eV #[.agg (Us r43).toArray,.agg (Us r46).toArray] (EB · ((((y1 + x1) * (y2 + x2)) - ((y1 - x1) * (y2 - x2))) * ((z1 * (z2 + z2)) - (t1 * ((t2 + t2) * dd))))) rfl rfl rfl bK (λw1 h1=>dA v43 v46 w1) rfl rfl λr55 v55=>?_;refine dL g702 0 v49.len rfl rfl rfl rfl rfl (λ_ h1=>(h1.blk b702).range) ?_;refine dL g703 0 v52.len rfl rfl rfl rfl rfl (λ_ h1=>(h1.blk b703).range) ?_;refine eV #[.agg (Us r49).toArray,.agg (Us r52).toArray] (EB · (((z1 * (z2 + z2)) + (t1 * ((t2 + t2) * dd))) * (((y1 + x1) * (y2 + x2)) + ((y1 - x1) * (y2 - x2))))) rfl rfl rfl bK (λw1 h1=>dA v49 v52 w1) rfl rfl λr58 v58=>?_;refine dL g701 0 v46.len rfl rfl rfl rfl rfl (λ_ h1=>(h1.blk b701).range) ?_;refine dL g702 0 v49.len rfl rfl rfl rfl rfl (λ_ h1=>(h1.blk b702).range) ?_;refine eV #[.agg (Us r46).toArray,.agg (Us r49).toArray] (EB · (((z1 * (z2 + z2)) - (t1 * ((t2 + t2) * dd))) * ((z1 * (z2 + z2)) + (t1 * ((t2 + t2) * dd))))) rfl rfl rfl bK (λw1 h1=>dA v46 v49 w1) rfl rfl λr61 v61=>?_;refine dL g700 0 v43.len rfl rfl rfl rfl rfl (λ_ h1=>(h1.blk b700).range) ?_;refine dL g703 0 v52.len rfl rfl rfl rfl rfl (λ_ h1=>(h1.blk b703).range) ?_;refine eV #[.agg (Us r43).toArray,.agg (Us r52).toArray] (EB · ((((y1 + x1) * (y2 + x2)) - ((y1 - x1) * (y2 - x2))) * (((y1 + x1) * (y2 + x2)) + ((y1 - x1) * (y2 - x2))))) rfl rfl rfl bK (λw1 h1=>dA v43 v52 w1) rfl rfl λr64 v64=>?_;refine gO [(0,.agg (Us r55).toArray),(1,.agg (Us r58).toArray),(2,.agg (Us r61).toArray),(3,.agg (Us r64).toArray)] (Us (pc r55 r58 r61 r64)).toArray rfl rfl rfl rfl rfl (E0 v55.len v58.len v61.len v64.len) ?_;refine iC g3 _ ((Us (pc r55 r58 r61 r64)).toArray) rfl rfl rfl rfl rfl b3 (dR (kP v55.len v58.len v61.len v64.len)) ((aT eX).trans (aT (kP v55.len v58.len v61.len v64.len)).symm) (bP _) λw8 hw8 c8=>?_;replace b3:=c8;replace hT:=(hT.below hw8).row (g:=g3) (by have:=hw0; omega) ((Us (pc r55 r58 r61 r64)).toArray);replace hU:=cM (hU.step hw8) q3 ((Us (pc r55 r58 r61 r64)).toArray);clear hw8 c8;generalize w8.setRow g3 ((Us (pc r55 r58 r61 r64)).toArray) = W8 at *;refine bG ?_
 refine hK _ _ ?_;clear hK K;have hE:=Ed.Rep.plus iL hon1 hon2 hR1 ht1 hR2 ht2 rfl rfl rfl rfl rfl rfl rfl rfl;refine gI (eC g3 _ rfl rfl b3 Tryd.underlying77 rfl (dR (kP v55.len v58.len v61.len v64.len)) ⟨_,⟨⟨_,_,_,_,_,_,_,_,rfl,v55,v58,v61,v64,hE.1,hE.2⟩,Ed.pW iL hon1 hon2⟩,rfl,hU⟩)
theorem TU {l : List Nat} {A : Ed.Pt p} (hP : PB l A) (w : World) (hT : Tw w) :
  Calls Tryd.prog 42 #[.agg (Us l).toArray] w λe w'=>∃ r,QB r (Ed.neg A) /\ e = .returned (.agg (Us r).toArray) /\ Below w.heap.size w w':=by
 refine e9 (vs:=[.agg (Us l).toArray]) 18 Tryd.func42 rfl (by rw [Tryd.ntmps42]; rfl) ?_;have hw0:=hT.lt;refine aM λK hK=>?_;refine eQ ?_;refine gB ((Us l).toArray) rfl rfl rfl rfl rfl λW1 g1 hw1 hg1 b1=>?_
 have q1 : w.heap.size <= g1:=by rw [hg1]; exact aF _
 clear hg1;replace hT:=hT.below hw1;have hU : Up w _:=hw1;refine cT ((Us pz).toArray) rfl rfl rfl rfl (by kernel_rfl) λW2 g2 hw2 hg2 b2=>?_
 have q2 : w.heap.size <= g2:=by rw [hg2]; exact hU.size
 have n1_2 : g1 ≠ g2:=by have:=b1.lt; omega
 clear hg2;replace b1:=b1.later hw2;replace hT:=hT.below hw2;replace hU:=hU.step hw2;refine bG ?_;refine hK _ _ ?_;clear hK K;refine aM λK hK=>?_;refine k8 2 ?_;refine rD g1 0 hP.len rfl rfl rfl rfl rfl (λ_ h1=>(h1.blk b1).range) ?_;refine eV #[.agg (Us l).toArray] (QB · A) rfl rfl rfl sR (λw1 h1=>yH hP w1) rfl rfl λr4 v4=>?_;refine iC g1 _ ((Us r4).toArray) rfl rfl rfl rfl rfl b1 (dR v4.len) ((aT hP.len).trans (aT v4.len).symm) (bP _) λw3 hw3 c3=>?_;replace b2:=(b2.later hw3).aR (jK n1_2) ((Us r4).toArray);replace b1:=c3;replace hT:=(hT.below hw3).row (g:=g1) (by have:=hw0; omega) ((Us r4).toArray);replace hU:=cM (hU.step hw3) q1 ((Us r4).toArray);clear hw3 c3;generalize w3.setRow g1 ((Us r4).toArray) = W3 at *;obtain ⟨⟨X1,Y1,Z1,T1,x1,y1,z1,t1,rfl,hX1,hY1,hZ1,hT1,hR1,ht1⟩,hon1⟩:=v4;refine bG ?_;refine hK _ _ ?_;clear hK K;refine aM λK hK=>?_;refine c_t 13 (by decide) (by kernel_rfl) (cC (by kernel_rfl)) (λ_ _ d _ _ h=>by cases d <;> exact h) ?_;refine gO [] (Us zl).toArray rfl rfl rfl rfl rfl iZ ?_;refine fT g1 0 0 rfl rfl rfl rfl rfl (λw1=>EY _ w1) ?_;refine dL g1 0 hX1.len rfl rfl rfl rfl rfl (λ_ h1=>(h1.blk b1).cx) ?_;refine eV #[.agg (Us zl).toArray,.agg (Us X1).toArray] (EB · (0 - x1)) rfl rfl rfl iO (λw1 h1=>mB mC hX1 w1 (hT.below h1)) rfl rfl λr8 v8=>?_;refine fT g1 0 5 rfl rfl rfl rfl rfl (λw1=>CV _ w1) ?_;refine dL g1 5 hY1.len rfl rfl rfl rfl rfl (λ_ h1=>(h1.blk b1).cy hX1.len) ?_;refine fT g1 0 10 rfl rfl rfl rfl rfl (λw1=>G9 _ w1) ?_;refine dL g1 10 hZ1.len rfl rfl rfl rfl rfl (λ_ h1=>(h1.blk b1).cz hX1.len hY1.len) ?_;refine gO [] (Us zl).toArray rfl rfl rfl rfl rfl iZ ?_;refine fT g1 0 15 rfl rfl rfl rfl rfl (λw1=>OY _ w1) ?_;refine dL g1 15 hT1.len rfl rfl rfl rfl rfl (λ_ h1=>(h1.blk b1).ct hX1.len hY1.len hZ1.len) ?_;refine eV #[.agg (Us zl).toArray,.agg (Us T1).toArray] (EB · (0 - t1)) rfl rfl rfl iO (λw1 h1=>mB mC hT1 w1 (hT.below h1)) rfl rfl λr16 v16=>?_;refine gO [(0,.agg (Us r8).toArray),(1,.agg (Us Y1).toArray),(2,.agg (Us Z1).toArray),(3,.agg (Us r16).toArray)] (Us (pc r8 Y1 Z1 r16)).toArray rfl rfl rfl rfl rfl (E0 v8.len hY1.len hZ1.len v16.len) ?_;refine iC g2 _ ((Us (pc r8 Y1 Z1 r16)).toArray) rfl rfl rfl rfl rfl b2 (dR (kP v8.len hY1.len hZ1.len v16.len)) ((aT eX).trans (aT (kP v8.len hY1.len hZ1.len v16.len)).symm) (bP _) λw4 hw4 c4=>?_;replace b2:=c4;replace hT:=(hT.below hw4).row (g:=g2) (by have:=hw0; omega) ((Us (pc r8 Y1 Z1 r16)).toArray);replace hU:=cM (hU.step hw4) q2 ((Us (pc r8 Y1 Z1 r16)).toArray);clear hw4 c4;generalize w4.setRow g2 ((Us (pc r8 Y1 Z1 r16)).toArray) = W4 at *;refine bG ?_;refine hK _ _ ?_;clear hK K;refine gI (eC g2 _ rfl rfl b2 Tryd.underlying77 rfl (dR (kP v8.len hY1.len hZ1.len v16.len)) ⟨_,⟨⟨_,_,_,_,_,_,_,_,rfl,v8,hY1,hZ1,v16,Ed.Rep.VM hR1,by rw [Gr,NP,ht1]⟩,Ed.tZ hon1⟩,rfl,hU⟩)
theorem Kv {A : Ed.Pt p} (hon : Ed.On dd A) {i : Nat} : Ed.mul dd (2 ^ (i + 1)) A = Ed.add dd (Ed.mul dd (2 ^ i) A) (Ed.mul dd (2 ^ i) A):=by
 rw [dE,Nat.mul_two,Ed.mul_add iL hon]
def DC (n : Nat) (A : Ed.Pt p) (i : Nat) (l : List Nat) : Prop:=∃ X Y Z T x y z t,l = pc X Y Z T /\ EB X x /\ EB Y y /\ EB Z z /\ EB T t /\ Ed.Rep x y z (Ed.mul dd (2 ^ i) A) /\ (i = 0 \/ i = n -> t * z = x * y)
theorem DC.start {n : Nat} {A : Ed.Pt p} {l : List Nat} (h : QB l A) : DC n A 0 l:=by
 obtain ⟨⟨X,Y,Z,T,x,y,z,t,e,hX,hY,hZ,hT,hR,ht⟩,_⟩:=h;exact ⟨X,Y,Z,T,x,y,z,t,e,hX,hY,hZ,hT,by rw [Nat.pow_zero,Ed.Gs iL]; exact hR,λ_=>ht⟩
theorem DC.len {n i : Nat} {A : Ed.Pt p} {l : List Nat} (h : DC n A i l) : l.length = 20:=by
 obtain ⟨X,Y,Z,T,x,y,z,t,rfl,hX,hY,hZ,hT,_⟩:=h;exact kP hX.len hY.len hZ.len hT.len
theorem DC.fin {n : Nat} {A : Ed.Pt p} {l : List Nat} (h : DC n A n l) (hon : Ed.On dd A) : QB l (Ed.mul dd (2 ^ n) A):=by
 obtain ⟨X,Y,Z,T,x,y,z,t,e,hX,hY,hZ,hT,hR,ht⟩:=h;exact ⟨⟨X,Y,Z,T,x,y,z,t,e,hX,hY,hZ,hT,hR,ht (.inr rfl)⟩,Ed.j9 iL hon _⟩
def DF (n g1 g2 : Nat) (s : Nat × List Nat) : List (Nat × Value):=[(1,.int .i64 (n : Int)),(2,.pointer (some ⟨g1,0,none⟩)),(4,.pointer (some ⟨g2,0,none⟩)),(18,.int .i64 (n : Int)),(19,.int .i64 (s.1 : Int))]
def DR (w : World) (n g1 g2 : Nat) (A : Ed.Pt p) (s : Nat × List Nat) (W : World) : Prop:=s.1 <= n /\ DC n A s.1 s.2 /\ Up w W /\ Tw W /\ Blk W g1 77 (Us s.2).toArray /\ Blk W g2 77 (Us pz).toArray
theorem vR {l : List Nat} {A : Ed.Pt p} (hP : PB l A) (n : Nat) (hn : n < 4294967296) (w : World) (hT : Tw w) :
  Calls Tryd.prog 67 #[.agg (Us l).toArray,.int .i64 (n : Int)] w λe w'=>∃ r,PB r (Ed.mul dd (2 ^ n) A) /\ e = .returned (.agg (Us r).toArray) /\ Below w.heap.size w w':=by
 refine e9 (vs:=[.agg (Us l).toArray,.int .i64 (n : Int)]) 76 Tryd.func67 rfl (by rw [Tryd.ntmps67]; rfl) ?_;have hw0:=hT.lt;have hl:=hP.len;refine aM λK hK=>?_;refine eQ ?_;refine gB ((Us l).toArray) rfl rfl rfl rfl rfl λW1 g1 hw1 hg1 b1=>?_
 have q1 : w.heap.size <= g1:=by rw [hg1]; exact aF _
 clear hg1;replace hT:=hT.below hw1;have hU : Up w _:=hw1;refine cT ((Us pz).toArray) rfl rfl rfl rfl (by kernel_rfl) λW2 g2 hw2 hg2 b2=>?_
 have q2 : w.heap.size <= g2:=by rw [hg2]; exact hU.size
 have n1_2 : g1 ≠ g2:=by have:=b1.lt; omega
 clear hg2;replace b1:=b1.later hw2;replace hT:=hT.below hw2;replace hU:=hU.step hw2;refine bG ?_;refine hK _ _ ?_;clear hK K;refine aM λK0 hK0=>?_;refine aM λK hK=>?_
 rcases hP with ⟨rfl,rfl⟩ | hQ
 ·refine dB ?_
  refine rD g1 0 hl rfl rfl rfl rfl rfl (λ_ h1=>(h1.blk b1).range) ?_;refine gO [] (Us pz).toArray rfl rfl rfl rfl rfl sZ ?_;refine LZ (Us pz).toArray (Us pz).toArray rfl rfl rfl rfl rfl rfl (by kernel_rfl) Sc ?_;refine bI λw9 hw9=>hK _ _ ?_;clear hK K;replace b1:=b1.later hw9;replace b2:=b2.later hw9;replace hT:=hT.below hw9;replace hU:=hU.step hw9;refine cB true rfl ?_;rw [if_pos rfl];refine aM λK2 hK2=>?_;refine k8 1 ?_;refine rD g1 0 hl rfl rfl rfl rfl rfl (λ_ h1=>(h1.blk b1).range) ?_;refine iC g2 _ ((Us pz).toArray) rfl rfl rfl rfl rfl b2 (dR eX) ((aT eX).trans (aT eX).symm) (bP _) λw3 hw3 c3=>?_;replace b1:=(b1.later hw3).aR n1_2 ((Us pz).toArray);replace b2:=c3;replace hT:=(hT.below hw3).row (g:=g2) (by have:=hw0; omega) ((Us pz).toArray);replace hU:=cM (hU.step hw3) q2 ((Us pz).toArray);clear hw3 c3;generalize w3.setRow g2 ((Us pz).toArray) = W3 at *;refine bG ?_;refine hK2 _ _ ?_;clear hK2 K2;refine gI (lG (eC g2 _ rfl rfl b2 Tryd.underlying77 rfl (dR eX) ⟨_,.inl ⟨rfl,Ed.mul_zero iL _⟩,rfl,hU⟩))
 ·have hon:=hQ.on
  refine dB ?_;refine rD g1 0 hl rfl rfl rfl rfl rfl (λ_ h1=>(h1.blk b1).range) ?_;refine gO [] (Us pz).toArray rfl rfl rfl rfl rfl sZ ?_;refine LZ (Us l).toArray (Us pz).toArray rfl rfl rfl rfl rfl rfl (by kernel_rfl) (RT hQ) ?_;refine bI λw9 hw9=>hK _ _ ?_;clear hK K;replace b1:=b1.later hw9;replace b2:=b2.later hw9;replace hT:=hT.below hw9;replace hU:=hU.step hw9;refine cB false rfl ?_;rw [if_neg (by decide)];refine eZ ?_;refine hK0 _ _ ?_;clear hK0 K0;refine aM λK1 hK1=>?_;refine aM λK hK=>?_;refine dB ?_;refine aK (.int .i64 (n : Int)) rfl rfl rfl rfl rfl ?_;refine aK (.int .i64 0) rfl rfl rfl rfl rfl ?_;refine bI λw10 hw10=>?_;replace b1:=b1.later hw10;replace b2:=b2.later hw10;replace hT:=hT.below hw10;replace hU:=hU.step hw10;refine dT (E':=DF n g1 g2 (0,l)) ⟨rfl,rfl,rfl,rfl,rfl,trivial⟩ ?_;refine hK _ _ ?_;clear hK K;refine dK ?_;refine kB (m:=λs : Nat × List Nat=>n - s.1) (F:=DF n g1 g2) (R:=DR w n g1 g2 A) ?_ (0,l) ⟨dC _,DC.start hQ,hU,hT,b1,b2⟩;clear hU hT b1 b2 hw10 w10 hQ
  rintro ⟨i,m⟩ V0 ⟨hi,hD,hU,hT,b1,b2⟩
  simp only at hi hD b1;refine aM λK hK=>?_;refine dB ?_
  by_cases hin : i < n
  ·refine fN (i : Int) (n : Int) true rfl rfl rfl rfl rfl rfl (decide_eq_true (by omega)) ?_
   refine bI λw11 hw11=>hK _ _ ?_;clear hK K;replace b1:=b1.later hw11;replace b2:=b2.later hw11;replace hT:=hT.below hw11;replace hU:=hU.step hw11;refine aM λK hK=>?_;refine cB true rfl ?_;refine eZ ?_;refine hK _ _ ?_;clear hK K;refine aM λK3 hK3=>?_;refine dK ?_;refine aM λK hK=>?_;refine dB ?_;refine aK (.int .i64 (i : Int)) rfl rfl rfl rfl rfl ?_;refine bU (.int .i64 (i : Int)) rfl rfl rfl rfl rfl ?_;refine bI λw12 hw12=>hK _ _ ?_;clear hK K;replace b1:=b1.later hw12;replace b2:=b2.later hw12;replace hT:=hT.below hw12;replace hU:=hU.step hw12;obtain ⟨X1,Y1,Z1,T1,x1,y1,z1,t1,rfl,hX1,hY1,hZ1,hT1,hR1,ht1⟩:=hD;refine aM λK hK=>?_;refine AQ 20 [nvE 6,nvE 7,nvE 8,nvE 9] (by decide) (by decide) ⟨⟨rfl,rfl,rfl,rfl,by kernel_rfl⟩,⟨rfl,rfl,rfl,rfl,by kernel_rfl⟩,⟨rfl,rfl,rfl,rfl,by kernel_rfl⟩,⟨rfl,rfl,rfl,rfl,by kernel_rfl⟩,trivial⟩ (by kernel_rfl) (Fx 8 (by kernel_rfl)) (by kernel_rfl) (λ_ _ d _ _ h=>by cases d <;> exact h) ?_;refine fT g1 0 0 rfl rfl rfl rfl rfl (λw1=>EY _ w1) ?_;refine dL g1 0 hX1.len rfl rfl rfl rfl rfl (λ_ h1=>(h1.blk b1).cx) ?_;refine fT g1 0 0 rfl rfl rfl rfl rfl (λw1=>EY _ w1) ?_;refine dL g1 0 hX1.len rfl rfl rfl rfl rfl (λ_ h1=>(h1.blk b1).cx) ?_;refine eV #[.agg (Us X1).toArray,.agg (Us X1).toArray] (EB · (x1 * x1)) rfl rfl rfl bK (λw1 h1=>dA hX1 hX1 w1) rfl rfl λr26 v26=>?_;refine fT g1 0 5 rfl rfl rfl rfl rfl (λw1=>CV _ w1) ?_;refine dL g1 5 hY1.len rfl rfl rfl rfl rfl (λ_ h1=>(h1.blk b1).cy hX1.len) ?_;refine fT g1 0 5 rfl rfl rfl rfl rfl (λw1=>CV _ w1) ?_;refine dL g1 5 hY1.len rfl rfl rfl rfl rfl (λ_ h1=>(h1.blk b1).cy hX1.len) ?_;refine eV #[.agg (Us Y1).toArray,.agg (Us Y1).toArray] (EB · (y1 * y1)) rfl rfl rfl bK (λw1 h1=>dA hY1 hY1 w1) rfl rfl λr31 v31=>?_;refine fT g1 0 10 rfl rfl rfl rfl rfl (λw1=>G9 _ w1) ?_;refine dL g1 10 hZ1.len rfl rfl rfl rfl rfl (λ_ h1=>(h1.blk b1).cz hX1.len hY1.len) ?_;refine fT g1 0 10 rfl rfl rfl rfl rfl (λw1=>G9 _ w1) ?_;refine dL g1 10 hZ1.len rfl rfl rfl rfl rfl (λ_ h1=>(h1.blk b1).cz hX1.len hY1.len) ?_;refine eV #[.agg (Us Z1).toArray,.agg (Us Z1).toArray] (EB · (z1 * z1)) rfl rfl rfl bK (λw1 h1=>dA hZ1 hZ1 w1) rfl rfl λr36 v36=>?_;refine fT g1 0 0 rfl rfl rfl rfl rfl (λw1=>EY _ w1) ?_;refine dL g1 0 hX1.len rfl rfl rfl rfl rfl (λ_ h1=>(h1.blk b1).cx) ?_;refine fT g1 0 5 rfl rfl rfl rfl rfl (λw1=>CV _ w1) ?_;refine dL g1 5 hY1.len rfl rfl rfl rfl rfl (λ_ h1=>(h1.blk b1).cy hX1.len) ?_;refine eV #[.agg (Us X1).toArray,.agg (Us Y1).toArray] (EB · (x1 * y1)) rfl rfl rfl bK (λw1 h1=>dA hX1 hY1 w1) rfl rfl λr41 v41=>?_;refine oL [.tmp 26,.tmp 31,.tmp 36,.tmp 41] [(Us r26).toArray,(Us r31).toArray,(Us r36).toArray,(Us r41).toArray] ⟨rfl,rfl,rfl,rfl,trivial⟩ (by decide) ⟨⟨rfl,rfl,rfl⟩,⟨rfl,rfl,rfl⟩,⟨rfl,rfl,rfl⟩,⟨rfl,rfl,rfl⟩,rfl⟩ ⟨⟨rfl,(aT fR).trans (aT v26.len).symm,fS v26.len,bP _⟩,⟨rfl,(aT fR).trans (aT v31.len).symm,fS v31.len,bP _⟩,⟨rfl,(aT fR).trans (aT v36.len).symm,fS v36.len,bP _⟩,⟨rfl,(aT fR).trans (aT v41.len).symm,fS v41.len,bP _⟩,trivial⟩ λf13 W13 hg13 hd13 hw13 hb13=>?_
   have b1300 : Blk W13 (f13 0) 75 ((Us r26).toArray):=hb13.1;have b1301 : Blk W13 (f13 1) 75 ((Us r31).toArray):=hb13.2.1;have b1302 : Blk W13 (f13 2) 75 ((Us r36).toArray):=hb13.2.2.1;have b1303 : Blk W13 (f13 3) 75 ((Us r41).toArray):=hb13.2.2.2.1;clear hb13;replace b1:=b1.later hw13;replace b2:=b2.later hw13;replace hT:=hT.below hw13;replace hU:=hU.step hw13;clear hg13 hd13 hw13;generalize hf1300 : f13 0 = g1300 at *;generalize hf1301 : f13 1 = g1301 at *;generalize hf1302 : f13 2 = g1302 at *;generalize hf1303 : f13 3 = g1303 at *;simp only [lO,tJ,hf1300,hf1301,hf1302,hf1303];clear hf1300 hf1301 hf1302 hf1303 f13;refine bG ?_;refine dT (E':=[(1,.int .i64 (n : Int)),(2,.pointer (some ⟨g1,0,none⟩)),(4,.pointer (some ⟨g2,0,none⟩)),(18,.int .i64 (n : Int)),(19,.int .i64 (i : Int)),(5,.int .i64 (i : Int)),(6,.pointer (some ⟨g1300,0,none⟩)),(7,.pointer (some ⟨g1301,0,none⟩)),(8,.pointer (some ⟨g1302,0,none⟩)),(9,.pointer (some ⟨g1303,0,none⟩))]) ⟨rfl,rfl,rfl,rfl,rfl,rfl,rfl,rfl,rfl,rfl,trivial⟩ ?_;refine hK _ _ ?_;clear hK K;refine aM λK hK=>?_;refine AQ 9 [nvE 10,nvE 11,nvE 12] (by decide) (by decide) ⟨⟨rfl,rfl,rfl,rfl,by kernel_rfl⟩,⟨rfl,rfl,rfl,rfl,by kernel_rfl⟩,⟨rfl,rfl,rfl,rfl,by kernel_rfl⟩,trivial⟩ (by kernel_rfl) (cC (by kernel_rfl)) (by kernel_rfl) (λ_ _ d _ _ h=>by cases d <;> exact h) ?_;refine dL g1303 0 v41.len rfl rfl rfl rfl rfl (λ_ h1=>(h1.blk b1303).range) ?_;refine dL g1303 0 v41.len rfl rfl rfl rfl rfl (λ_ h1=>(h1.blk b1303).range) ?_;refine eV #[.agg (Us r41).toArray,.agg (Us r41).toArray] (EB · ((x1 * y1) + (x1 * y1))) rfl rfl rfl kN (λw1 h1=>oB v41 v41 w1) rfl rfl λr44 v44=>?_;refine dL g1301 0 v31.len rfl rfl rfl rfl rfl (λ_ h1=>(h1.blk b1301).range) ?_;refine dL g1300 0 v26.len rfl rfl rfl rfl rfl (λ_ h1=>(h1.blk b1300).range) ?_;refine eV #[.agg (Us r31).toArray,.agg (Us r26).toArray] (EB · ((y1 * y1) - (x1 * x1))) rfl rfl rfl iO (λw1 h1=>mB v31 v26 w1 (hT.below h1)) rfl rfl λr47 v47=>?_;refine dL g1301 0 v31.len rfl rfl rfl rfl rfl (λ_ h1=>(h1.blk b1301).range) ?_;refine dL g1300 0 v26.len rfl rfl rfl rfl rfl (λ_ h1=>(h1.blk b1300).range) ?_;refine eV #[.agg (Us r31).toArray,.agg (Us r26).toArray] (EB · ((y1 * y1) + (x1 * x1))) rfl rfl rfl kN (λw1 h1=>oB v31 v26 w1) rfl rfl λr50 v50=>?_;refine oL [.tmp 44,.tmp 47,.tmp 50] [(Us r44).toArray,(Us r47).toArray,(Us r50).toArray] ⟨rfl,rfl,rfl,trivial⟩ (by decide) ⟨⟨rfl,rfl,rfl⟩,⟨rfl,rfl,rfl⟩,⟨rfl,rfl,rfl⟩,rfl⟩ ⟨⟨rfl,(aT fR).trans (aT v44.len).symm,fS v44.len,bP _⟩,⟨rfl,(aT fR).trans (aT v47.len).symm,fS v47.len,bP _⟩,⟨rfl,(aT fR).trans (aT v50.len).symm,fS v50.len,bP _⟩,trivial⟩ λf14 W14 hg14 hd14 hw14 hb14=>?_
   have b1400 : Blk W14 (f14 0) 75 ((Us r44).toArray):=hb14.1;have b1401 : Blk W14 (f14 1) 75 ((Us r47).toArray):=hb14.2.1;have b1402 : Blk W14 (f14 2) 75 ((Us r50).toArray):=hb14.2.2.1;clear hb14
   have n1_1400 : g1 ≠ f14 0:=by have:=b1.lt; have:=hg14 0 (by decide); omega
   have n1_1402 : g1 ≠ f14 2:=by have:=b1.lt; have:=hg14 2 (by decide); omega
   replace b1:=b1.later hw14;replace b2:=b2.later hw14;replace b1302:=b1302.later hw14;replace hT:=hT.below hw14;replace hU:=hU.step hw14;clear hg14 hd14 hw14;generalize hf1400 : f14 0 = g1400 at *;generalize hf1401 : f14 1 = g1401 at *;generalize hf1402 : f14 2 = g1402 at *;simp only [lO,tJ,hf1400,hf1401,hf1402];clear hf1400 hf1401 hf1402 f14;refine bG ?_;refine dT (E':=[(1,.int .i64 (n : Int)),(2,.pointer (some ⟨g1,0,none⟩)),(4,.pointer (some ⟨g2,0,none⟩)),(18,.int .i64 (n : Int)),(19,.int .i64 (i : Int)),(5,.int .i64 (i : Int)),(8,.pointer (some ⟨g1302,0,none⟩)),(10,.pointer (some ⟨g1400,0,none⟩)),(11,.pointer (some ⟨g1401,0,none⟩)),(12,.pointer (some ⟨g1402,0,none⟩))]) ⟨rfl,rfl,rfl,rfl,rfl,rfl,rfl,rfl,rfl,rfl,trivial⟩ ?_;refine hK _ _ ?_;clear hK K;refine aM λK hK=>?_;refine AQ 5 [nvE 13] (by decide) (by decide) ⟨⟨rfl,rfl,rfl,rfl,by kernel_rfl⟩,trivial⟩ (by kernel_rfl) (cC (by kernel_rfl)) (by kernel_rfl) (λ_ _ d _ _ h=>by cases d <;> exact h) ?_;refine dL g1302 0 v36.len rfl rfl rfl rfl rfl (λ_ h1=>(h1.blk b1302).range) ?_;refine dL g1302 0 v36.len rfl rfl rfl rfl rfl (λ_ h1=>(h1.blk b1302).range) ?_;refine eV #[.agg (Us r36).toArray,.agg (Us r36).toArray] (EB · ((z1 * z1) + (z1 * z1))) rfl rfl rfl kN (λw1 h1=>oB v36 v36 w1) rfl rfl λr53 v53=>?_;refine dL g1401 0 v47.len rfl rfl rfl rfl rfl (λ_ h1=>(h1.blk b1401).range) ?_;refine eV #[.agg (Us r53).toArray,.agg (Us r47).toArray] (EB · (((z1 * z1) + (z1 * z1)) - ((y1 * y1) - (x1 * x1)))) rfl rfl rfl iO (λw1 h1=>mB v53 v47 w1 (hT.below h1)) rfl rfl λr55 v55=>?_;refine oL [.tmp 55] [(Us r55).toArray] ⟨rfl,trivial⟩ (by decide) ⟨⟨rfl,rfl,rfl⟩,rfl⟩ ⟨⟨rfl,(aT fR).trans (aT v55.len).symm,fS v55.len,bP _⟩,trivial⟩ λf15 W15 hg15 hd15 hw15 hb15=>?_;have b1500 : Blk W15 (f15 0) 75 ((Us r55).toArray):=hb15.1;clear hb15;replace b1:=b1.later hw15;replace b2:=b2.later hw15;replace b1400:=b1400.later hw15;replace b1401:=b1401.later hw15;replace b1402:=b1402.later hw15;replace hT:=hT.below hw15;replace hU:=hU.step hw15;clear hg15 hd15 hw15;generalize hf1500 : f15 0 = g1500 at *;simp only [lO,hf1500];clear hf1500 f15;refine bG ?_;refine dT (E':=[(1,.int .i64 (n : Int)),(2,.pointer (some ⟨g1,0,none⟩)),(4,.pointer (some ⟨g2,0,none⟩)),(18,.int .i64 (n : Int)),(19,.int .i64 (i : Int)),(5,.int .i64 (i : Int)),(10,.pointer (some ⟨g1400,0,none⟩)),(11,.pointer (some ⟨g1401,0,none⟩)),(12,.pointer (some ⟨g1402,0,none⟩)),(13,.pointer (some ⟨g1500,0,none⟩))]) ⟨rfl,rfl,rfl,rfl,rfl,rfl,rfl,rfl,rfl,rfl,trivial⟩ ?_;refine hK _ _ ?_;clear hK K;refine aM λK hK=>?_;refine c_t 10 (by decide) (by kernel_rfl) (cC (by kernel_rfl)) (λ_ _ d _ _ h=>by cases d <;> exact h) ?_;refine dL g1400 0 v44.len rfl rfl rfl rfl rfl (λ_ h1=>(h1.blk b1400).range) ?_
   refine dL g1500 0 v55.len rfl rfl rfl rfl rfl (λ_ h1=>(h1.blk b1500).range) ?_;refine eV #[.agg (Us r44).toArray,.agg (Us r55).toArray] (EB · (((x1 * y1) + (x1 * y1)) * (((z1 * z1) + (z1 * z1)) - ((y1 * y1) - (x1 * x1))))) rfl rfl rfl bK (λw1 h1=>dA v44 v55 w1) rfl rfl λr58 v58=>?_;refine dL g1401 0 v47.len rfl rfl rfl rfl rfl (λ_ h1=>(h1.blk b1401).range) ?_;refine dL g1402 0 v50.len rfl rfl rfl rfl rfl (λ_ h1=>(h1.blk b1402).range) ?_;refine eV #[.agg (Us r47).toArray,.agg (Us r50).toArray] (EB · (((y1 * y1) - (x1 * x1)) * ((y1 * y1) + (x1 * x1)))) rfl rfl rfl bK (λw1 h1=>dA v47 v50 w1) rfl rfl λr61 v61=>?_;refine dL g1500 0 v55.len rfl rfl rfl rfl rfl (λ_ h1=>(h1.blk b1500).range) ?_;refine dL g1401 0 v47.len rfl rfl rfl rfl rfl (λ_ h1=>(h1.blk b1401).range) ?_;refine eV #[.agg (Us r55).toArray,.agg (Us r47).toArray] (EB · ((((z1 * z1) + (z1 * z1)) - ((y1 * y1) - (x1 * x1))) * ((y1 * y1) - (x1 * x1)))) rfl rfl rfl bK (λw1 h1=>dA v55 v47 w1) rfl rfl λr64 v64=>?_;refine gO [(0,.agg (Us r58).toArray),(1,.agg (Us r61).toArray),(2,.agg (Us r64).toArray)] (Us (pc r58 r61 r64 zl)).toArray rfl rfl rfl rfl rfl (Rp v58.len v61.len v64.len) ?_;refine iC g1 _ ((Us (pc r58 r61 r64 zl)).toArray) rfl rfl rfl rfl rfl b1 (dR (kP v58.len v61.len v64.len fR)) ((aT (kP hX1.len hY1.len hZ1.len hT1.len)).trans (aT (kP v58.len v61.len v64.len fR)).symm) (bP _) λw16 hw16 c16=>?_;replace b2:=(b2.later hw16).aR (jK n1_2) ((Us (pc r58 r61 r64 zl)).toArray);replace b1400:=(b1400.later hw16).aR (jK n1_1400) ((Us (pc r58 r61 r64 zl)).toArray);replace b1402:=(b1402.later hw16).aR (jK n1_1402) ((Us (pc r58 r61 r64 zl)).toArray);replace b1:=c16;replace hT:=(hT.below hw16).row (g:=g1) (by have:=hw0; omega) ((Us (pc r58 r61 r64 zl)).toArray);replace hU:=cM (hU.step hw16) q1 ((Us (pc r58 r61 r64 zl)).toArray);clear hw16 c16;generalize w16.setRow g1 ((Us (pc r58 r61 r64 zl)).toArray) = W16 at *;refine bG ?_;refine hK _ _ ?_;clear hK K;have hE:=Ed.Rep.dbl iL (Ed.j9 iL hon (2 ^ i)) hR1 rfl rfl rfl rfl rfl rfl rfl rfl;rw [<-Kv hon] at hE;refine aM λK hK=>?_;refine dB ?_;refine aK (.int .i64 (i : Int)) rfl rfl rfl rfl rfl ?_;refine aK (.int .i64 (n : Int)) rfl rfl rfl rfl rfl ?_;refine oS (n : Int) (1 : Int) ((n - 1 : Nat) : Int) rfl rfl rfl rfl rfl rfl (Um n 1 (by omega) (by omega)) ?_
   by_cases hlast : i = n - 1
   ·refine OJ (i : Int) ((n - 1 : Nat) : Int) true rfl rfl rfl rfl rfl rfl (decide_eq_true (by omega)) ?_
    refine bI λw18 hw18=>hK _ _ ?_;clear hK K;replace b1:=b1.later hw18;replace b2:=b2.later hw18;replace b1400:=b1400.later hw18;replace b1402:=b1402.later hw18;replace hT:=hT.below hw18;replace hU:=hU.step hw18;refine cB true rfl ?_;refine k8 4 ?_;refine dL g1400 0 v44.len rfl rfl rfl rfl rfl (λ_ h1=>(h1.blk b1400).range) ?_;refine dL g1402 0 v50.len rfl rfl rfl rfl rfl (λ_ h1=>(h1.blk b1402).range) ?_;refine eV #[.agg (Us r44).toArray,.agg (Us r50).toArray] (EB · (((x1 * y1) + (x1 * y1)) * ((y1 * y1) + (x1 * x1)))) rfl rfl rfl bK (λw1 h1=>dA v44 v50 w1) rfl rfl λr72 v72=>?_;refine fT g1 0 15 rfl rfl rfl rfl rfl (λw1=>OY _ w1) ?_;refine uJ λw19 hw19=>?_;replace b1:=b1.later hw19;replace b2:=b2.later hw19;replace hT:=hT.below hw19;replace hU:=hU.step hw19
    have c1 : Blk w19 g1 77 ((Us r58 ++ (Us r61 ++ Us r64)) ++ (Us zl ++ [])).toArray:=by simpa [AR] using b1
    refine N7 g1 15 _ (Us zl) [] (Us r72) rfl rfl rfl rfl rfl c1 (by simp [cY,v58.len,v61.len,v64.len]) (by rw [cY,cY,v72.len]; rfl) (MI v72.len) (cJ _) λW' hO c2=>?_
    have e2 : ((Us r58 ++ (Us r61 ++ Us r64)) ++ (Us r72 ++ [])).toArray = (Us (pc r58 r61 r64 r72)).toArray:=by simp [AR]
    rw [e2] at c2;replace b2:=hO.blk _ _ _ (jK n1_2) b2;replace hT:=hT.only hO (by omega);replace hU:=hO.up _ q1 hU;clear b1;have b1:=c2;refine bG ?_;refine hK3 _ _ ?_;clear hK3 K3;refine dB ?_;refine gW (i : Int) 1 ((i + 1 : Nat) : Int) rfl rfl rfl rfl rfl rfl (CW i 1 (by omega)) ?_;refine aK (.int .i64 ((i + 1 : Nat) : Int)) rfl rfl rfl rfl rfl ?_;refine bI λw20 hw20=>?_;replace b1:=b1.later hw20;replace b2:=b2.later hw20;replace hT:=hT.below hw20;replace hU:=hU.step hw20;exact gD (m:=λs : Nat × List Nat=>n - s.1) (F:=DF n g1 g2) (R:=DR w n g1 g2 A) (s:=(i,_)) (i + 1,pc r58 r61 r64 r72) ⟨rfl,rfl,rfl,rfl,rfl,trivial⟩ ⟨hin,⟨_,_,_,_,_,_,_,_,rfl,v58,v61,v64,v72,hE.1,λ_=>hE.2⟩,hU,hT,b1,b2⟩ (by show n - (i + 1) < n - i; omega)
   ·refine OJ (i : Int) ((n - 1 : Nat) : Int) false rfl rfl rfl rfl rfl rfl (decide_eq_false (by omega)) ?_
    refine bI λw18 hw18=>hK _ _ ?_;clear hK K;replace b1:=b1.later hw18;replace b2:=b2.later hw18;replace hT:=hT.below hw18;replace hU:=hU.step hw18;refine cB false rfl ?_;refine eZ ?_;refine hK3 _ _ ?_;clear hK3 K3;refine dB ?_;refine gW (i : Int) 1 ((i + 1 : Nat) : Int) rfl rfl rfl rfl rfl rfl (CW i 1 (by omega)) ?_;refine aK (.int .i64 ((i + 1 : Nat) : Int)) rfl rfl rfl rfl rfl ?_;refine bI λw20 hw20=>?_;replace b1:=b1.later hw20;replace b2:=b2.later hw20;replace hT:=hT.below hw20;replace hU:=hU.step hw20;exact gD (m:=λs : Nat × List Nat=>n - s.1) (F:=DF n g1 g2) (R:=DR w n g1 g2 A) (s:=(i,_)) (i + 1,pc r58 r61 r64 zl) ⟨rfl,rfl,rfl,rfl,rfl,trivial⟩ ⟨hin,⟨_,_,_,_,_,_,_,_,rfl,v58,v61,v64,mC,hE.1,λh=>by omega⟩,hU,hT,b1,b2⟩ (by show n - (i + 1) < n - i; omega)
  ·refine fN (i : Int) (n : Int) false rfl rfl rfl rfl rfl rfl (decide_eq_false (by omega)) ?_
   refine bI λw11 hw11=>hK _ _ ?_;clear hK K;replace b1:=b1.later hw11;replace b2:=b2.later hw11;replace hT:=hT.below hw11;replace hU:=hU.step hw11;refine aM λK hK=>?_;refine cB false rfl ?_;refine kC ?_
   show kF K1 76 _ _
   refine hK1 _ _ ?_;clear hK1 K1 hK K
   obtain rfl : i = n:=by omega
   have hml:=hD.len;refine aM λK hK=>?_;refine k8 1 ?_;refine rD g1 0 hml rfl rfl rfl rfl rfl (λ_ h1=>(h1.blk b1).range) ?_;refine iC g2 _ ((Us m).toArray) rfl rfl rfl rfl rfl b2 (dR hml) ((aT eX).trans (aT hml).symm) (bP _) λw31 hw31 c31=>?_;replace b2:=c31;replace hT:=(hT.below hw31).row (g:=g2) (by have:=hw0; omega) ((Us m).toArray);replace hU:=cM (hU.step hw31) q2 ((Us m).toArray);clear hw31 c31;generalize w31.setRow g2 ((Us m).toArray) = W31 at *;refine bG ?_;refine hK _ _ ?_;clear hK K;refine gI (eC g2 _ rfl rfl b2 Tryd.underlying77 rfl (dR hml) ⟨_,.inr (hD.fin hon),rfl,hU⟩)
section
variable {ops : Array Oper} {C0 : World -> Prop} {Q : Act -> Prop} {a : Act} {o : Oper} {rest : List Oper}
theorem eqd (x y : F) (w : World) : (Op.equalIn 10000 24 (.agg (By (enc x)).toArray) (.agg (By (enc y)).toArray)).run Tryd.prog w = .ok (decide (x = y)) w:=by
 rw [Bn _ _ (kW _) (kW _)]
 congr 1
 exact decide_eq_decide.2 ⟨Ra,congrArg enc⟩
end
theorem Tf {n : List UInt8} (i : Nat) (hi : i / 8 < n.length) : (n[i / 8]!).toNat / 2 ^ (i % 8) % 2 = le n / 2 ^ i % 2:=by
 have e1 : n = n.take (i / 8) ++ (n[i / 8]! :: n.drop (i / 8 + 1)):=by
  conv=>lhs; rw [<-fQ (i / 8) n]
  rw [lX hi,getElem!_pos n (i / 8) hi]
 have e2 : le n = le (n.take (i / 8)) + 256 ^ (i / 8) * ((n[i / 8]!).toNat + 256 * le (n.drop (i / 8 + 1))):=by
  conv=>lhs; rw [e1]
  rw [lP,aZ,cO (by omega)]
  rfl
 have h1:=AJ (n.take (i / 8));rw [aZ,cO (by omega)] at h1
 have e3 : (2 : Nat) ^ i = 256 ^ (i / 8) * 2 ^ (i % 8):=by
  rw [show (256 : Nat) = 2 ^ 8 by decide,<-Nat.pow_mul,<-o5]
  congr 1
  omega
 rw [e2,e3,<-Nat.div_div_eq_div_mul,C2 _ _ (by exact Mh (by decide)),Nat.div_eq_of_lt h1,cW];have h8 : i % 8 < 8:=Nat.mod_lt _ (by decide);generalize (n[i / 8]!).toNat = c;generalize le (n.drop (i / 8 + 1)) = d;generalize i % 8 = k at *
 have e4 : (256 : Nat) = 2 ^ k * 2 ^ (8 - k):=by
  rw [<-o5,show k + (8 - k) = 8 by omega]
 rw [e4,Nat.mul_assoc,C2 _ _ (Mh (by decide))]
 have e5 : 2 ^ (8 - k) * d = 2 * (2 ^ (7 - k) * d):=by
  rw [show 8 - k = (7 - k) + 1 by omega,dE]
  grind only
 rw [e5]
 omega
def sA (b : List UInt8) : List UInt8:=b.set 31 (aX ((b[31]!).toNat % 128))
theorem G8 {b : List UInt8} (hb : b.length = 32) : (sA b).length = 32:=by rw [sA,eP,hb]
theorem EH {b : List UInt8} (hb : b.length = 32) : le b = le (sA b) + 57896044618658097711785492504343953926634992332820282019728792003956564819968 * ((b[31]!).toNat / 128) /\ le (sA b) < 57896044618658097711785492504343953926634992332820282019728792003956564819968:=by
 have h1:=le_top hb;have h2:=J4 hb;have h3:=RJ hb (aX ((b[31]!).toNat % 128));rw [UInt8.toNat_ofNat_of_lt' (by show _ < 256; omega)] at h3
 unfold sA
 omega
theorem LN {b : List UInt8} (hb : b.length = 32) : qD (sA b) = decide (le (sA b) < p):=by
 have h:=(EH hb).2;have hl:=G8 hb;have h128:=(JA hl).2 h
 unfold qD
 rw [bS h,decide_eq_true h128,Bool.true_and]
 congr 1
 refine propext ⟨λe=>?_,λe=>?_⟩
 ·rw [<-e,xI]
  exact (fof _).isLt
 ·exact (TO hl (x:=fof (le (sA b))) (by rw [vO,bS e])).symm
theorem NM {b : List UInt8} (hb : b.length = 32) (h : ¬ le (sA b) < p) : ¬ ∃ A,Ed.On dd A /\ eN A = b:=by
 rintro ⟨A,_,rfl⟩
 have h1:=EH hb;rw [sU] at h1
 unfold Ag at h1
 have h2:=A.y.isLt;have h3:=Nw
 omega
section
variable {ops : Array Oper} {C0 : World -> Prop} {Q : Act -> Prop} {N : Nat} {E : List (Nat × Value)} {o : Oper} {rest : List Oper} {k : Nat}
theorem tG {x : Operand} {l : List UInt8} (b off : Nat) (hl : l.length = 32) (hg : o.guard = none) (hd : o.dst = some k) (hk : aQ k N = true) (ho : o.op = .load 24 x) (hx : ev E x = some (.pointer (some ⟨b,off,none⟩)))
  (hc : ∀ w,C0 w -> w.rangeAt b off (By l)) (hn : bF Tryd.prog ops C0 Q rest N ((k,.agg (By l).toArray) :: E)) : bF Tryd.prog ops C0 Q (o :: rest) N E :=
 AO b off (By l) _ hg hd hk ho hx hc Tryd.underlying24 rfl (by have:=fC (By l).toArray (iY hl); simpa using this) hn
theorem Kn {x y : Operand} {t : TypeId} (m n r : Int) (hg : o.guard = none) (hd : o.dst = some k) (hk : aQ k N = true) (ho : o.op = .binOp .or 5 x y t) (hx : ev E x = some (.int .u8 m)) (hy : ev E y = some (.int .u8 n))
  (hr : bits .or .u8 m n = r) (hn : bF Tryd.prog ops C0 Q rest N ((k,.int .u8 r) :: E)) : bF Tryd.prog ops C0 Q (o :: rest) N E :=
 dM _ hg hd hk (λa ha w _=>by
  have h1:=ha.eval hx;have h2:=ha.eval hy
  unfold execOp
  simp only [ho,h1,h2]
  go_simp) hn
theorem EU {x y : Operand} {t : TypeId} (m n r : Int) (hg : o.guard = none) (hd : o.dst = some k) (hk : aQ k N = true) (ho : o.op = .binOp .and 5 x y t) (hx : ev E x = some (.int .u8 m)) (hy : ev E y = some (.int .u8 n))
  (hr : bits .and .u8 m n = r) (hn : bF Tryd.prog ops C0 Q rest N ((k,.int .u8 r) :: E)) : bF Tryd.prog ops C0 Q (o :: rest) N E :=
 dM _ hg hd hk (λa ha w _=>by
  have h1:=ha.eval hx;have h2:=ha.eval hy
  unfold execOp
  simp only [ho,h1,h2]
  go_simp) hn
theorem OA {x y : Operand} {t : TypeId} (K : IntKind) (hK : K = .i64 \/ K = .u64) (m : Int) (n : Nat) (r : Int) (h8 : n <= 8) (hg : o.guard = none) (hd : o.dst = some k) (hk : aQ k N = true) (ho : o.op = .binOp .shr 5 x y t) (hx : ev E x = some (.int .u8 m)) (hy : ev E y = some (.int K (n : Int)))
  (hr : m / 2 ^ n = r) (hn : bF Tryd.prog ops C0 Q rest N ((k,.int .u8 r) :: E)) : bF Tryd.prog ops C0 Q (o :: rest) N E :=
 dM _ hg hd hk (λa ha w _=>by
  have h1:=ha.eval hx;have h2:=ha.eval hy
  have h3 : (n : Int) <= 8:=by omega
  have h4 : (0 : Int) <= n:=by omega
  unfold execOp
  simp only [ho,h1,h2]
  rcases hK with rfl | rfl <;> go_simp) hn
theorem OC {x y : Operand} {t : TypeId} (m : Int) (n : Nat) (r : Int) (h8 : n <= 8) (hg : o.guard = none) (hd : o.dst = some k) (hk : aQ k N = true) (ho : o.op = .binOp .shl 5 x y t) (hx : ev E x = some (.int .u8 m)) (hy : ev E y = some (.int .i64 (n : Int)))
  (hr : IntKind.u8.wrap (m * 2 ^ n) = r) (hn : bF Tryd.prog ops C0 Q rest N ((k,.int .u8 r) :: E)) : bF Tryd.prog ops C0 Q (o :: rest) N E :=
 dM _ hg hd hk (λa ha w _=>by
  have h1:=ha.eval hx;have h2:=ha.eval hy
  have h3 : (n : Int) <= 8:=by omega
  have h4 : (0 : Int) <= n:=by omega
  unfold execOp
  simp only [ho,h1,h2]
  go_simp) hn
theorem I1 {x y : Operand} {t : TypeId} (m n : Int) (q : Bool) (hg : o.guard = none) (hd : o.dst = some k) (hk : aQ k N = true) (ho : o.op = .binOp .eql 5 x y t) (hx : ev E x = some (.int .u8 m)) (hy : ev E y = some (.int .u8 n))
  (hr : decide (m = n) = q) (hn : bF Tryd.prog ops C0 Q rest N ((k,.bool q) :: E)) : bF Tryd.prog ops C0 Q (o :: rest) N E :=
 dM _ hg hd hk (λa ha w _=>by
  have h1:=ha.eval hx;have h2:=ha.eval hy;subst hr
  unfold execOp
  simp only [ho,h1,h2]
  by_cases e : m = n <;> go_simp) hn
theorem OI {x y : Operand} {t : TypeId} (m n : Int) (q : Bool) (hg : o.guard = none) (hd : o.dst = some k) (hk : aQ k N = true) (ho : o.op = .binOp .gtr 5 x y t) (hx : ev E x = some (.int .u8 m)) (hy : ev E y = some (.int .u8 n))
  (hr : decide (n < m) = q) (hn : bF Tryd.prog ops C0 Q rest N ((k,.bool q) :: E)) : bF Tryd.prog ops C0 Q (o :: rest) N E :=
 dM _ hg hd hk (λa ha w _=>by
  have h1:=ha.eval hx;have h2:=ha.eval hy;subst hr
  unfold execOp
  simp only [ho,h1,h2]
  go_simp) hn
theorem TD {x y : Operand} {t : TypeId} (m n r : Int) (hz : n ≠ 0) (hg : o.guard = none) (hd : o.dst = some k) (hk : aQ k N = true) (ho : o.op = .binOp .quo 5 x y t) (hx : ev E x = some (.int .u8 m)) (hy : ev E y = some (.int .u8 n))
  (hr : IntKind.u8.wrap (m.tdiv n) = r) (hn : bF Tryd.prog ops C0 Q rest N ((k,.int .u8 r) :: E)) : bF Tryd.prog ops C0 Q (o :: rest) N E :=
 dM _ hg hd hk (λa ha w _=>by
  have h1:=ha.eval hx;have h2:=ha.eval hy;subst hr
  unfold execOp
  simp only [ho,h1,h2]
  go_simp) hn
theorem TC {x y : Operand} {t : TypeId} (m n r : Int) (hz : n ≠ 0) (hg : o.guard = none) (hd : o.dst = some k) (hk : aQ k N = true) (ho : o.op = .binOp .quo 3 x y t) (hx : ev E x = some (.int .i64 m)) (hy : ev E y = some (.int .i64 n))
  (hr : IntKind.i64.wrap (m.tdiv n) = r) (hn : bF Tryd.prog ops C0 Q rest N ((k,.int .i64 r) :: E)) : bF Tryd.prog ops C0 Q (o :: rest) N E :=
 dM _ hg hd hk (λa ha w _=>by
  have h1:=ha.eval hx;have h2:=ha.eval hy;subst hr
  unfold execOp
  simp only [ho,h1,h2]
  go_simp) hn
theorem DP {x : Operand} {t : TypeId} (q r : Bool) (hg : o.guard = none) (hd : o.dst = some k) (hk : aQ k N = true) (ho : o.op = .unOp .not t x) (hx : ev E x = some (.bool q)) (hr : (!q) = r) (hn : bF Tryd.prog ops C0 Q rest N ((k,.bool r) :: E)) : bF Tryd.prog ops C0 Q (o :: rest) N E :=
 dM _ hg hd hk (λa ha w _=>by
  have h1:=ha.eval hx;subst hr
  unfold execOp
  simp only [ho,h1]
  go_simp) hn
theorem I0 {x y : Operand} {t : TypeId} (m n q : Bool) (hg : o.guard = none) (hd : o.dst = some k) (hk : aQ k N = true) (ho : o.op = .binOp .neq 4 x y t) (hx : ev E x = some (.bool m)) (hy : ev E y = some (.bool n))
  (hr : (m != n) = q) (hn : bF Tryd.prog ops C0 Q rest N ((k,.bool q) :: E)) : bF Tryd.prog ops C0 Q (o :: rest) N E :=
 dM _ hg hd hk (λa ha w _=>by
  have h1:=ha.eval hx;have h2:=ha.eval hy;subst hr
  unfold execOp
  simp only [ho,h1,h2]
  cases m <;> cases n <;> go_simp) hn
end
theorem ixH (b i : Nat) (h : i < 32) (w : World) : (mL 24 (.pointer (some ⟨b,0,none⟩)) (.int .i64 (i : Int))).run Tryd.prog w = .ok (.pointer (some ⟨b,i,none⟩)) w:=by
 have h3 : (i : Int) < 32:=by omega
 have h4 : (0 : Int) <= i:=by omega
 go_simp
def nvH (t : Nat) : NV:=⟨t,24,z32⟩
theorem lC {l : List UInt8} (h : l.length = 32) : (Tryd.prog.info? 24).map (·.size) = some (By l).toArray.size:=fC _ (iY h)
theorem kD (l : List UInt8) : ∀ v ∈ (By l).toArray.toList,v.oneCell' = true:=λv hv=>lJ l v (by simpa using hv)
theorem NA : Own 42:=λ_ _=>by go_simp
theorem qC {P : Program} {fn : Func} {R : Ending -> World -> Prop} {N : Nat} {E : List (Nat × Value)} {w : World} {q q2 : Tmp} {ty t : TypeId} {d : TypeDesc} {v : Value} (g : Nat) (cs : Array Value) (hr : fn.results = #[.cell q ty,.tmp q2]) (hq : look E q = some (.pointer (some ⟨g,0,none⟩))) (hv : look E q2 = some v) (hb : Blk w g t cs)
  (hu : P.underlying ty = some d) (hd : (match d with | .struct _ | .array _ _=>true | _=>false) = true) (hi : (P.info? ty).map (·.size) = some cs.size) (h : R (.returned (.tuple #[.agg cs,v])) w) : kF (bodyPost P fn R .ret) N E w:=λ_ ha =>
 bodyPost_ret (results_cell_tmp hr _ _ g t cs (0,0) d v (ha.at hq) (ha.at hv) hb hu hd hi) ha.defers h
theorem PB.yz {l : List Nat} {A : Ed.Pt p} (h : PB l A) : ∃ X Y Z T x y z t,l = pc X Y Z T /\ EB X x /\ EB Y y /\ EB Z z /\ EB T t /\ (y = z ↔ A = Ed.zero):=by
 rcases h with ⟨rfl,rfl⟩ | ⟨⟨X,Y,Z,T,x,y,z,t,rfl,hX,hY,hZ,hT,hR,_⟩,hon⟩
 ·exact ⟨zl,zl,zl,zl,0,0,0,0,rfl,mC,mC,mC,mC,by simp⟩
 ·exact ⟨X,Y,Z,T,x,y,z,t,rfl,hX,hY,hZ,hT,hR.Uf iL hon⟩
theorem xE {x y : F} : Ed.On dd ⟨x,y⟩ ↔ (y * y * dd + 1) * x * x = y * y - 1:=by
 show y*y - x*x = 1 + dd*x*x*y*y ↔ _
 constructor <;> intro h <;> grind only
theorem Se {b : List UInt8} {A : Ed.Pt p} {y : F} {s : Nat} (hle : le b = y.val + 57896044618658097711785492504343953926634992332820282019728792003956564819968 * s) (h : eN A = b) : A.y = y /\ A.x.val % 2 = s:=by
 rw [<-h,sU] at hle
 unfold Ag at hle
 have h1:=y.isLt;have h2:=A.y.isLt;have h3:=Nw;exact ⟨Fin.ext (by omega),by omega⟩
theorem Ku {b : List UInt8} (hb : b.length = 32) {x y : F} {s : Nat} (hle : le b = y.val + 57896044618658097711785492504343953926634992332820282019728792003956564819968 * s) (hs : x.val % 2 = s) : eN ⟨x,y⟩ = b:=by
 apply xH (by rw [gH,hb])
 rw [sU,hle]
 unfold Ag
 rw [hs]
theorem VY (m : Nat) (h : m < 128) : bits .or .u8 (m : Int) 128 = ((m + 128 : Nat) : Int):=by
 have key : ∀ m : Nat,m < 128 -> bits .or .u8 (m : Int) 128 = ((m + 128 : Nat) : Int)   := by decide +kernel
 exact key m h
theorem UO (m : Nat) (h : m < 256) : bits .and .u8 (m : Int) 127 = ((m % 128 : Nat) : Int):=by
 have key : ∀ m : Nat,m < 256 -> bits .and .u8 (m : Int) 127 = ((m % 128 : Nat) : Int)   := by decide +kernel
 exact key m h
def Ds (l : List Nat) : List Value:=l.map λx : Nat=>.int .u8 (x : Int)
theorem Ao (l : List Nat) : (Ds l).length = l.length:=by simp [Ds]
theorem Jk {l : List Nat} {j : Nat} (h : j < l.length) : (Ds l).toArray[j]? = some (.int .u8 (l[j]! : Nat)):=by simp [Ds,h]
theorem Py (l : List Nat) (k x : Nat) : (Ds l).toArray.setIfInBounds k (.int .u8 (x : Int)) = (Ds (l.set k x)).toArray:=by simp [Ds,List.map_set]
theorem Pz (l : List Nat) : ∀ u ∈ Ds l,u.oneCell' = true:=by
 intro u hu
 obtain ⟨x,_,rfl⟩:=List.mem_map.1 hu
 rfl
theorem RF (l : List Nat) : ∀ v ∈ (Ds l).toArray.toList,v.oneCell' = true:=λv hv=>Pz l v (by simpa using hv)
theorem E9 {l : List Nat} {n : Nat} (h : l.length = n) : (Ds l).toArray.size = n:=by rw [bA,Ao,h]
theorem JD {l : List Nat} (h : l.length = 256) : (Tryd.prog.info? 114).map (·.size) = some (Ds l).toArray.size:=by
 rw [E9 h]
 kernel_rfl
theorem ixD (b i : Nat) (h : i < 256) (w : World) : (mL 114 (.pointer (some ⟨b,0,none⟩)) (.int .i64 (i : Int))).run Tryd.prog w = .ok (.pointer (some ⟨b,i,none⟩)) w:=by
 have h3 : (i : Int) < 256:=by omega
 have h4 : (0 : Int) <= i:=by omega
 go_simp
theorem IC (m : Nat) (h : m < 256) : bits .and .u8 (m : Int) 1 = ((m % 2 : Nat) : Int):=by
 have key : ∀ m : Nat,m < 256 -> bits .and .u8 (m : Int) 1 = ((m % 2 : Nat) : Int):=by decide +kernel
 exact key m h
theorem Uo (k : Nat) (h : k < 4) : IntKind.u8.wrap (1 * 2 ^ k) = ((2 ^ k : Nat) : Int):=by
 have hk : k = 0 \/ k = 1 \/ k = 2 \/ k = 3:=by omega
 rcases hk with rfl | rfl | rfl | rfl <;> decide
theorem orK (k x : Nat) (hk : k < 4) (hx : x < 2 ^ k) : bits .or .u8 (x : Nat) ((2 ^ k : Nat) : Int) = ((x + 2 ^ k : Nat) : Int):=by
 have k0 : ∀ x : Nat,x < 1 -> bits .or .u8 (x : Int) 1 = ((x + 1 : Nat) : Int):=by decide +kernel
 have k1 : ∀ x : Nat,x < 2 -> bits .or .u8 (x : Int) 2 = ((x + 2 : Nat) : Int):=by decide +kernel
 have k2 : ∀ x : Nat,x < 4 -> bits .or .u8 (x : Int) 4 = ((x + 4 : Nat) : Int):=by decide +kernel
 have k3 : ∀ x : Nat,x < 8 -> bits .or .u8 (x : Int) 8 = ((x + 8 : Nat) : Int):=by decide +kernel
 have hk' : k = 0 \/ k = 1 \/ k = 2 \/ k = 3:=by omega
 rcases hk' with rfl | rfl | rfl | rfl
 ·exact k0 x hx
 ·exact k1 x hx
 ·exact k2 x hx
 ·exact k3 x hx
theorem TQ {N i : Nat} {f : Int} {d : List Nat} (h : DG N i f d) (hf : ¬ f + 4 <= (i : Int)) : ∃ m : Nat,f = m:=by
 rcases h.last with h | ⟨m,h,_⟩
 ·exact absurd h (by omega)
 ·exact ⟨m,h⟩
def GF (g1 g2 g3 : Nat) (s : Nat × Int × List Nat) : List (Nat × Value):=[(1,.pointer (some ⟨g1,0,none⟩)),(2,.pointer (some ⟨g2,0,none⟩)),(3,.pointer (some ⟨g3,0,none⟩)),(4,.int .i64 s.2.1),(6,.int .i64 (s.1 : Int))]
def GR (w : World) (b : List UInt8) (g1 g2 g3 : Nat) (s : Nat × Int × List Nat) (W : World) : Prop :=
  s.1 <= 256 /\ DG (le b) s.1 s.2.1 s.2.2 /\ Up w W /\ Blk W g1 24 (By b).toArray /\ Blk W g2 114 (Ds (aD 256 0)).toArray /\ Blk W g3 114 (Ds s.2.2).toArray
theorem OS {b : List UInt8} (hb : b.length = 32) (w : World) :
  Calls Tryd.prog 88 #[.agg (By b).toArray] w λe w'=>∃ d : List Nat,d.length = 256 /\ mZ d = le b /\ (∀ j,j < 256 -> d[j]! = 0 \/ (d[j]! % 2 = 1 /\ d[j]! < 16)) /\ e = .returned (.agg (Ds d).toArray) /\ Below w.heap.size w w':=by
 refine e9 (vs:=[.agg (By b).toArray]) 34 Tryd.func88 rfl (by rw [Tryd.ntmps88]; rfl) ?_;refine aM λK hK=>?_;refine eQ ?_;refine gB ((By b).toArray) rfl rfl rfl rfl rfl λW1 g1 hw1 hg1 b1=>?_;clear hg1;have hU : Up w _:=hw1;refine cT ((Ds (aD 256 0)).toArray) rfl rfl rfl rfl (by kernel_rfl) λW2 g2 hw2 hg2 b2=>?_
 have q2 : w.heap.size <= g2:=by rw [hg2]; exact hU.size
 clear hg2;replace b1:=b1.later hw2;replace hU:=hU.step hw2;refine bG ?_;refine hK _ _ ?_;clear hK K;refine aM λK hK=>?_;refine eQ ?_;refine cT ((Ds (aD 256 0)).toArray) rfl rfl rfl rfl (by kernel_rfl) λW3 g3 hw3 hg3 b3=>?_
 have q3 : w.heap.size <= g3:=by rw [hg3]; exact hU.size
 have n1_3 : g1 ≠ g3:=by have:=b1.lt; omega
 have n2_3 : g2 ≠ g3:=by have:=b2.lt; omega
 clear hg3;replace b1:=b1.later hw3;replace b2:=b2.later hw3;replace hU:=hU.step hw3;refine bG ?_;refine hK _ _ ?_;clear hK K;refine aM λK hK=>?_;refine eQ ?_;refine cP (.int .i64 (-4)) rfl rfl rfl rfl rfl ?_;refine bG ?_;refine hK _ _ ?_;clear hK K;refine aM λK1 hK1=>?_;refine aM λK hK=>?_;refine dB ?_;refine aK (.int .i64 0) rfl rfl rfl rfl rfl ?_;refine bI λw10 hw10=>?_;replace b1:=b1.later hw10;replace b2:=b2.later hw10;replace b3:=b3.later hw10;replace hU:=hU.step hw10;refine dT (E':=GF g1 g2 g3 (0, -4,aD 256 0)) ⟨rfl,rfl,rfl,rfl,rfl,trivial⟩ ?_;refine hK _ _ ?_;clear hK K;refine dK ?_;refine kB (m:=λs : Nat × Int × List Nat=>256 - s.1) (F:=GF g1 g2 g3) (R:=GR w b g1 g2 g3) ?_ (0, -4,aD 256 0) ⟨dC _,DG.start _,hU,b1,b2,b3⟩;clear hU b1 b2 b3 hw10 w10
 rintro ⟨i,f,d⟩ V0 ⟨hi,hD,hU,b1,b2,b3⟩
 simp only at hi hD b3;refine aM λK hK=>?_;refine dB ?_
 by_cases hin : i < 256
 ·refine fN (i : Int) 256 true rfl rfl rfl rfl rfl rfl (decide_eq_true (by omega)) ?_
  refine bI λw11 hw11=>hK _ _ ?_;clear hK K;replace b1:=b1.later hw11;replace b2:=b2.later hw11;replace b3:=b3.later hw11;replace hU:=hU.step hw11;refine aM λK hK=>?_;refine cB true rfl ?_;refine eZ ?_;refine hK _ _ ?_;clear hK K;refine aM λK3 hK3=>?_;refine dK ?_;refine aM λK hK=>?_;refine dB ?_;refine aK (.int .i64 (i : Int)) rfl rfl rfl rfl rfl ?_;refine bU (.int .i64 (i : Int)) rfl rfl rfl rfl rfl ?_;refine bI λw12 hw12=>hK _ _ ?_;clear hK K;replace b1:=b1.later hw12;replace b2:=b2.later hw12;replace b3:=b3.later hw12;replace hU:=hU.step hw12;refine aM λK4 hK4=>?_;refine aM λK hK=>?_;have cb:=(b1.cell (i / 8)).trans (fU (l:=b) (j:=i / 8) (by omega));have hbit:=Tf (n:=b) i (by omega);have hbl:=(b[i / 8]!).toNat_lt;generalize (b[i / 8]!).toNat = c at *;have hsh : c / 2 ^ (i % 8) < 256:=Nat.lt_of_le_of_lt (Nat.div_le_self _ _) hbl
  have e8 : IntKind.i64.wrap ((i : Int).tdiv 8) = ((i / 8 : Nat) : Int):=by rw [Int.tdiv_eq_ediv_of_nonneg (by omega),i64_left,wrap64_in _ (by omega)]; omega
  have r8 : (i : Int).tmod 8 = ((i % 8 : Nat) : Int):=by rw [Int.tmod_eq_emod_of_nonneg (by omega)]; omega
  have hsr : (c : Int) / 2 ^ (i % 8) = ((c / 2 ^ (i % 8) : Nat) : Int):=by simp
  have i8 : i / 8 < 32:=by omega
  have j8 : i % 8 <= 8:=by omega
  generalize c / 2 ^ (i % 8) = s at *;generalize i / 8 = i1 at *;generalize i % 8 = i2 at *;refine dB ?_;refine aK (.int .i64 (i : Int)) rfl rfl rfl rfl rfl ?_;refine TC (i : Int) 8 (i1 : Int) (by decide) rfl rfl rfl rfl rfl rfl e8 ?_;refine tF _ (i1 : Int) ⟨g1,i1,none⟩ rfl rfl rfl rfl rfl rfl (ixH _ i1 i8) ?_;refine cX ⟨g1,i1,none⟩ (.int .u8 (c : Int)) (by decide) rfl rfl rfl rfl rfl (λ_ h1=>(h1.cell b1.lt).trans cb) ?_;refine aK (.int .i64 (i : Int)) rfl rfl rfl rfl rfl ?_;refine OD (i : Int) 8 (i2 : Int) (by decide) rfl rfl rfl rfl rfl rfl r8 ?_;refine OA .i64 (.inl rfl) (c : Int) i2 (s : Int) j8 rfl rfl rfl rfl rfl rfl hsr ?_;refine EU (s : Int) 1 ((s % 2 : Nat) : Int) rfl rfl rfl rfl rfl rfl (IC s hsh) ?_
  by_cases hz : s % 2 = 0
  ·refine I1 ((s % 2 : Nat) : Int) 0 true rfl rfl rfl rfl rfl rfl (decide_eq_true (by omega)) ?_
   refine bI λw13 hw13=>hK _ _ ?_;clear hK K;replace b1:=b1.later hw13;replace b2:=b2.later hw13;replace b3:=b3.later hw13;replace hU:=hU.step hw13;refine cB true rfl ?_;refine kC ?_
   show kF K3 34 _ _
   refine hK3 _ _ ?_
   skip
   refine dB ?_;refine gW (i : Int) 1 ((i + 1 : Nat) : Int) rfl rfl rfl rfl rfl rfl (CW i 1 (by omega)) ?_;refine aK (.int .i64 ((i + 1 : Nat) : Int)) rfl rfl rfl rfl rfl ?_;refine bI λw20 hw20=>?_;replace b1:=b1.later hw20;replace b2:=b2.later hw20;replace b3:=b3.later hw20;replace hU:=hU.step hw20;exact gD (m:=λs : Nat × Int × List Nat=>256 - s.1) (F:=GF g1 g2 g3) (R:=GR w b g1 g2 g3) (s:=(i,_,_)) (i + 1,f,d) ⟨rfl,rfl,rfl,rfl,rfl,trivial⟩ ⟨hin,hD.zero (by omega),hU,b1,b2,b3⟩ (by show 256 - (i + 1) < 256 - i; omega)
  ·refine I1 ((s % 2 : Nat) : Int) 0 false rfl rfl rfl rfl rfl rfl (decide_eq_false (by omega)) ?_
   refine bI λw13 hw13=>hK _ _ ?_;clear hK K;replace b1:=b1.later hw13;replace b2:=b2.later hw13;replace b3:=b3.later hw13;replace hU:=hU.step hw13;refine cB false rfl ?_;refine eZ ?_;refine hK4 _ _ ?_;clear hK4 K4;refine aM λK4 hK4=>?_;refine aM λK hK=>?_;refine dB ?_
   have hb1 : le b / 2 ^ i % 2 = 1:=by omega
   have hf4 : IntKind.i64.wrap (f + 4) = f + 4:=by rcases hD.last with h | ⟨m,h,hm,_⟩ <;> rw [i64_left,wrap64_in _ (by omega)]
   refine aK (.int .i64 (i : Int)) rfl rfl rfl rfl rfl ?_;refine aK (.int .i64 f) rfl rfl rfl rfl rfl ?_;refine gW f 4 (f + 4) rfl rfl rfl rfl rfl rfl hf4 ?_
   by_cases hge : f + 4 <= (i : Int)
   ·refine Af (i : Int) (f + 4) true rfl rfl rfl rfl rfl rfl (decide_eq_true (by omega)) ?_
    refine bI λw14 hw14=>hK _ _ ?_;clear hK K;replace b1:=b1.later hw14;replace b2:=b2.later hw14;replace b3:=b3.later hw14;replace hU:=hU.step hw14;refine cB true rfl ?_;refine dB ?_;refine aK (.int .i64 (i : Int)) rfl rfl rfl rfl rfl ?_;refine bU (.int .i64 (i : Int)) rfl rfl rfl rfl rfl ?_;refine bI λw15 hw15=>?_;replace b1:=b1.later hw15;replace b2:=b2.later hw15;replace b3:=b3.later hw15;replace hU:=hU.step hw15;refine hK4 _ _ ?_;clear hK4 K4;have hd0:=hD.hi i (aF _) hin;have cd:=(b3.cell i).trans (Jk (l:=d) (j:=i) (by rw [hD.len]; exact hin));refine c_t 9 (by decide) (by kernel_rfl) (cC (by kernel_rfl)) (λ_ _ d _ _ h=>by cases d <;> exact h) ?_;refine aK (.int .i64 (i : Int)) rfl rfl rfl rfl rfl ?_;refine tF _ (i : Int) ⟨g3,i,none⟩ rfl rfl rfl rfl rfl rfl (ixD _ i (by omega)) ?_;refine cX ⟨g3,i,none⟩ (.int .u8 (d[i]! : Nat)) (by decide) rfl rfl rfl rfl rfl (λ_ h1=>(h1.cell b3.lt).trans cd) ?_;refine aK (.int .i64 (i : Int)) rfl rfl rfl rfl rfl ?_;refine aK (.int .i64 (i : Int)) rfl rfl rfl rfl rfl ?_;refine oS (i : Int) (i : Int) ((0 : Nat) : Int) rfl rfl rfl rfl rfl rfl (by rw [i64_left,wrap64_in _ (by omega)]; omega) ?_;refine OC 1 (0) ((2 ^ (0) : Nat) : Int) (by omega) rfl rfl rfl rfl rfl rfl (Uo _ (by omega)) ?_;refine Kn (d[i]! : Nat) ((2 ^ (0) : Nat) : Int) ((1 : Nat) : Int) rfl rfl rfl rfl rfl rfl (by rw [hd0]; decide) ?_;refine tF _ (i : Int) ⟨g3,i,none⟩ rfl rfl rfl rfl rfl rfl (ixD _ i (by omega)) ?_;refine mA ⟨g3,i,none⟩ ((1 : Nat) : Int) _ (.inr ⟨rfl,rfl⟩) rfl rfl rfl rfl rfl cd (b3.free i) b3.lt λw16 hw16=>?_;replace b1:=b1.later hw16;replace b2:=b2.later hw16;replace b3:=b3.later hw16;replace hU:=hU.step hw16;replace b1:=b1.far (p:=⟨g3,i,none⟩) n1_3 (.int .u8 ((1 : Nat) : Int));replace b2:=b2.far (p:=⟨g3,i,none⟩) n2_3 (.int .u8 ((1 : Nat) : Int));replace b3:=b3.set i (.int .u8 ((1 : Nat) : Int));rw [Py] at b3;replace hU : Up w _:=hU.setCell (p:=⟨g3,i,none⟩) q3 (.int .u8 ((1 : Nat) : Int));generalize w16.setCell ⟨g3,i,none⟩ (.int .u8 ((1 : Nat) : Int)) = W16 at *;clear cd;refine hK3 _ _ ?_
    skip
    refine dB ?_;refine gW (i : Int) 1 ((i + 1 : Nat) : Int) rfl rfl rfl rfl rfl rfl (CW i 1 (by omega)) ?_;refine aK (.int .i64 ((i + 1 : Nat) : Int)) rfl rfl rfl rfl rfl ?_;refine bI λw20 hw20=>?_;replace b1:=b1.later hw20;replace b2:=b2.later hw20;replace b3:=b3.later hw20;replace hU:=hU.step hw20;exact gD (m:=λs : Nat × Int × List Nat=>256 - s.1) (F:=GF g1 g2 g3) (R:=GR w b g1 g2 g3) (s:=(i,_,_)) (i + 1,(i : Int),d.set i (1)) ⟨rfl,rfl,rfl,rfl,rfl,trivial⟩ ⟨hin,hD.fresh hin hb1,hU,b1,b2,b3⟩ (by show 256 - (i + 1) < 256 - i; omega)
   ·obtain ⟨m,rfl⟩:=TQ hD hge
    obtain ⟨hmi,hdm,hD2⟩:=hD.more hin hb1 (by omega);refine Af (i : Int) ((m : Int) + 4) false rfl rfl rfl rfl rfl rfl (decide_eq_false (by omega)) ?_;refine bI λw14 hw14=>hK _ _ ?_;clear hK K;replace b1:=b1.later hw14;replace b2:=b2.later hw14;replace b3:=b3.later hw14;replace hU:=hU.step hw14;refine cB false rfl ?_;refine eZ ?_;refine hK4 _ _ ?_;clear hK4 K4;have cd:=(b3.cell m).trans (Jk (l:=d) (j:=m) (by rw [hD.len]; omega));refine c_t 9 (by decide) (by kernel_rfl) (cC (by kernel_rfl)) (λ_ _ d _ _ h=>by cases d <;> exact h) ?_;refine aK (.int .i64 (m : Int)) rfl rfl rfl rfl rfl ?_;refine tF _ (m : Int) ⟨g3,m,none⟩ rfl rfl rfl rfl rfl rfl (ixD _ m (by omega)) ?_;refine cX ⟨g3,m,none⟩ (.int .u8 (d[m]! : Nat)) (by decide) rfl rfl rfl rfl rfl (λ_ h1=>(h1.cell b3.lt).trans cd) ?_;refine aK (.int .i64 (i : Int)) rfl rfl rfl rfl rfl ?_;refine aK (.int .i64 (m : Int)) rfl rfl rfl rfl rfl ?_;refine oS (i : Int) (m : Int) ((i - m : Nat) : Int) rfl rfl rfl rfl rfl rfl (Um i m (by omega) (by omega)) ?_;refine OC 1 (i - m) ((2 ^ (i - m) : Nat) : Int) (by omega) rfl rfl rfl rfl rfl rfl (Uo _ (by omega)) ?_;refine Kn (d[m]! : Nat) ((2 ^ (i - m) : Nat) : Int) ((d[m]! + 2 ^ (i - m) : Nat) : Int) rfl rfl rfl rfl rfl rfl (orK _ _ (by omega) hdm) ?_;refine tF _ (m : Int) ⟨g3,m,none⟩ rfl rfl rfl rfl rfl rfl (ixD _ m (by omega)) ?_;refine mA ⟨g3,m,none⟩ ((d[m]! + 2 ^ (i - m) : Nat) : Int) _ (.inr ⟨rfl,rfl⟩) rfl rfl rfl rfl rfl cd (b3.free m) b3.lt λw16 hw16=>?_;replace b1:=b1.later hw16;replace b2:=b2.later hw16;replace b3:=b3.later hw16;replace hU:=hU.step hw16;replace b1:=b1.far (p:=⟨g3,m,none⟩) n1_3 (.int .u8 ((d[m]! + 2 ^ (i - m) : Nat) : Int));replace b2:=b2.far (p:=⟨g3,m,none⟩) n2_3 (.int .u8 ((d[m]! + 2 ^ (i - m) : Nat) : Int));replace b3:=b3.set m (.int .u8 ((d[m]! + 2 ^ (i - m) : Nat) : Int));rw [Py] at b3;replace hU : Up w _:=hU.setCell (p:=⟨g3,m,none⟩) q3 (.int .u8 ((d[m]! + 2 ^ (i - m) : Nat) : Int));generalize w16.setCell ⟨g3,m,none⟩ (.int .u8 ((d[m]! + 2 ^ (i - m) : Nat) : Int)) = W16 at *;clear cd;refine hK3 _ _ ?_
    skip
    refine dB ?_;refine gW (i : Int) 1 ((i + 1 : Nat) : Int) rfl rfl rfl rfl rfl rfl (CW i 1 (by omega)) ?_;refine aK (.int .i64 ((i + 1 : Nat) : Int)) rfl rfl rfl rfl rfl ?_;refine bI λw20 hw20=>?_;replace b1:=b1.later hw20;replace b2:=b2.later hw20;replace b3:=b3.later hw20;replace hU:=hU.step hw20;exact gD (m:=λs : Nat × Int × List Nat=>256 - s.1) (F:=GF g1 g2 g3) (R:=GR w b g1 g2 g3) (s:=(i,_,_)) (i + 1,(m : Int),d.set m (d[m]! + 2 ^ (i - m))) ⟨rfl,rfl,rfl,rfl,rfl,trivial⟩ ⟨hin,hD2,hU,b1,b2,b3⟩ (by show 256 - (i + 1) < 256 - i; omega)
 ·refine fN (i : Int) 256 false rfl rfl rfl rfl rfl rfl (decide_eq_false (by omega)) ?_
  refine bI λw11 hw11=>hK _ _ ?_;clear hK K;replace b2:=b2.later hw11;replace b3:=b3.later hw11;replace hU:=hU.step hw11;refine aM λK hK=>?_;refine cB false rfl ?_;refine kC ?_
  show kF K1 34 _ _
  refine hK1 _ _ ?_;clear hK1 K1 hK K
  obtain rfl : i = 256:=by omega
  have hsum : mZ d = le b:=by have h1:=AJ b; rw [hb,show (256 : Nat) ^ 32 = 2 ^ 256 from by decide] at h1; rw [hD.sum,bS h1]
  refine aM λK hK=>?_;refine k8 1 ?_;refine AO g3 0 (Ds d) _ rfl rfl rfl rfl rfl (λ_ h1=>(h1.blk b3).range) Tryd.underlying114 rfl (by rw [Ao,hD.len]; kernel_rfl) ?_;refine iC g2 _ ((Ds d).toArray) rfl rfl rfl rfl rfl b2 (JD hD.len) ((E9 bM).trans (E9 hD.len).symm) (RF _) λw31 hw31 c31=>?_;replace b2:=c31;replace hU:=cM (hU.step hw31) q2 ((Ds d).toArray);clear hw31 c31;generalize w31.setRow g2 ((Ds d).toArray) = W31 at *;refine bG ?_;refine hK _ _ ?_;clear hK K;refine gI (eC g2 _ rfl rfl b2 Tryd.underlying114 rfl (JD hD.len) ⟨d,hD.len,hsum,hD.odd,rfl,hU⟩)
theorem Iv : Own 88:=λ_ _=>by go_simp
structure M8 (M : List (List Nat)) : Prop where
  len : M.length = 8
  each : ∀ j,j < 8 -> M[j]!.length = 20
theorem D7 {M : List (List Nat)} {j : Nat} {v : List Nat} (h : j < M.length) : (M.set j v)[j]! = v:=by
 rw [getElem!_pos _ j (by simpa using h)]
 simp
theorem JG {M : List (List Nat)} {j k : Nat} {v : List Nat} (h : j ≠ k) : (M.set j v)[k]! = M[k]!:=by
 simp only [List.getElem!_eq_getElem?_getD,List.getElem?_set_ne h]
theorem M8.set {M : List (List Nat)} (h : M8 M) (i : Nat) {v : List Nat} (hv : v.length = 20) : M8 (M.set i v) where
 len:=by rw [eP,h.len]
 each:=λj hj=>by
  by_cases e : i = j
  ·subst e
   rw [D7 (by rw [h.len]; exact hj)];exact hv
  ·rw [JG e]
   exact h.each j hj
theorem Qa (n j : Nat) (l : List Nat) (h : j < n) : (aD n l)[j]! = l:=by
 rw [getElem!_pos _ j (by simpa using h)]
 simp
theorem Ps : M8 (aD 8 pz):=⟨bM,λj hj=>by rw [Qa 8 j pz hj]; rfl⟩
theorem GO {n : Nat} : ∀ (M : List (List Nat)),(∀ x ∈ M,x.length = n) -> M.flatten.length = n * M.length
 | [],_=>by simp
 | x :: M,h=>by
  rw [o6,aO,h x (by simp),GO M λy hy=>h y (by simp [hy]),List.length_cons,Nat.mul_succ,Nat.add_comm]
theorem M8.mem {M : List (List Nat)} (h : M8 M) : ∀ x ∈ M,x.length = 20:=λx hx=>by
 obtain ⟨j,hj,rfl⟩:=List.getElem_of_mem hx;have:=h.each j (by rw [<-h.len]; exact hj)
 rwa [getElem!_pos M j hj] at this
theorem vA {M : List (List Nat)} (h : M8 M) {i : Nat} (hi : i <= 8) : (M.take i).flatten.length = 20 * i:=by
 rw [GO (n:=20) _ λx hx=>h.mem x (List.mem_of_mem_take hx),aZ,h.len,cO hi]
def j4 (M : List (List Nat)) (d : List Nat) : List Value:=Us M.flatten ++ Ds d
def pS : Array Value:=(Us (aD 160 0) ++ Ds (aD 256 0)).toArray
theorem pF : pS.size = 416:=by rw [pS,bA,aO,cY,Ao,bM,bM]
theorem tU {M : List (List Nat)} {d : List Nat} (h : M8 M) (hd : d.length = 256) : (j4 M d).length = 416:=by
 have:=vA h (aF 8);rw [List.take_of_length_le (by rw [h.len]; exact aF _)] at this;rw [j4,aO,cY,Ao,hd,this]
theorem zO {M : List (List Nat)} {d : List Nat} (h : M8 M) (hd : d.length = 256) : (j4 M d).toArray.size = 416:=by rw [bA,tU h hd]
theorem x9 {M : List (List Nat)} {d : List Nat} (h : M8 M) (hd : d.length = 256) : (Tryd.prog.info? 116).map (·.size) = some (j4 M d).toArray.size:=by
 rw [zO h hd]
 kernel_rfl
theorem FQ (M : List (List Nat)) (d : List Nat) : ∀ v ∈ (j4 M d).toArray.toList,v.oneCell' = true:=λv hv=>by
 simp only [j4,List.mem_append] at hv;exact hv.elim (cJ _ v) (Pz _ v)
theorem zP {M : List (List Nat)} {d : List Nat} (h : M8 M) {i : Nat} (hi : i < 8) : j4 M d = Us (M.take i).flatten ++ (Us M[i]! ++ (Us (M.drop (i + 1)).flatten ++ Ds d)):=by
 have hl : i < M.length:=by rw [h.len]; exact hi
 have e : M = M.take i ++ (M[i]! :: M.drop (i + 1)):=by rw [getElem!_pos M i hl,<-lX hl,fQ]
 have e2 : M.flatten = (M.take i).flatten ++ (M[i]! ++ (M.drop (i + 1)).flatten):=by
  conv=>lhs; rw [e]
  rw [List.flatten_append,o6]
 rw [j4,e2,Pp,Pp,aU,aU]
theorem P8 {M : List (List Nat)} {d v : List Nat} (h : M8 M) {i : Nat} (hi : i < 8) (hv : v.length = 20) : Us (M.take i).flatten ++ (Us v ++ (Us (M.drop (i + 1)).flatten ++ Ds d)) = j4 (M.set i v) d:=by
 rw [zP (h.set i hv) hi,D7 (by rw [h.len]; exact hi),List.take_set_of_le (aF _),List.drop_set_of_lt (by omega)]
theorem KI : (aD 8 pz).flatten = aD 160 0:=by decide +kernel
theorem L7 {d : List Nat} (hd : d.length = 256) : Tryd.prog.built 116 [(1,.agg (Ds d).toArray)] = some (j4 (aD 8 pz) d).toArray:=by
 rw [Cv (t:=116) (z:=pS) (pl:=[(0,160),(160,256)]) (by kernel_rfl)]
 have e : pS = (Us (aD 8 pz).flatten ++ (Ds (aD 256 0) ++ [])).toArray:=by rw [cD,KI,pS]
 rw [e,lH (#[(0,160),(160,256)][·]?) 1 256 (Us (aD 8 pz).flatten) (Ds (aD 256 0)) [] (Ds d) [] (by rw [cY,KI,bM]; rfl) (by rw [Ao,hd]) (by rw [Ao,bM]),cD,Instr.fill,j4]
def nvR (t : Nat) : NV:=⟨t,116,pS⟩
theorem Vm (b o : Nat) (w : World) : (jO 116 (.pointer (some ⟨b,o,none⟩)) 0).run Tryd.prog w = .ok (.pointer (some ⟨b,o,none⟩)) w:=by go_simp
theorem VT (b o : Nat) (w : World) : (jO 116 (.pointer (some ⟨b,o,none⟩)) 1).run Tryd.prog w = .ok (.pointer (some ⟨b,o + 160,none⟩)) w:=by go_simp
theorem ixA (b o i : Nat) (h : i < 8) (w : World) : (mL 113 (.pointer (some ⟨b,o,none⟩)) (.int .i64 (i : Int))).run Tryd.prog w = .ok (.pointer (some ⟨b,o + 20 * i,none⟩)) w:=by
 have h3 : (i : Int) < 8:=by omega
 have h4 : (0 : Int) <= i:=by omega
 go_simp
structure RS where
  M : List (List Nat)
  d : List Nat
  A : Ed.Pt p
structure RS.Ok (r : RS) : Prop where
  m8 : M8 r.M
  ms : ∀ j,j < 8 -> AB r.M[j]! (Ed.mul dd (2 * j + 1) r.A)
  dl : r.d.length = 256
  odd : ∀ j,j < 256 -> r.d[j]! = 0 \/ (r.d[j]! % 2 = 1 /\ r.d[j]! < 16)
  on : Ed.On dd r.A
def WF (g1 g3 gk g6 : Nat) (s : Nat × List Nat × List (List Nat)) : List (Nat × Value):=[(2,.pointer (some ⟨g1,0,none⟩)),(4,.pointer (some ⟨g3,0,none⟩)),(5,.pointer (some ⟨gk,0,none⟩)),(6,.pointer (some ⟨g6,0,none⟩)),(14,.int .i64 (s.1 : Int))]
def WR (w : World) (g1 g3 gk g6 : Nat) (d two : List Nat) (A : Ed.Pt p) (s : Nat × List Nat × List (List Nat)) (W : World) : Prop :=
  s.1 <= 8 /\ PB s.2.1 (Ed.mul dd (2 * s.1 + 1) A) /\ M8 s.2.2 /\ (∀ j,j < s.1 -> AB s.2.2[j]! (Ed.mul dd (2 * j + 1) A)) /\ Up w W /\ Tw W /\ Blk W g1 77 (Us s.2.1).toArray /\ Blk W g3 116 pS /\
    Blk W gk 116 (j4 s.2.2 d).toArray /\ Blk W g6 112 (Us two).toArray
theorem MZ {l : List Nat} {A : Ed.Pt p} {b : List UInt8} (hP : PB l A) (hb : b.length = 32) (w : World) (hT : Tw w) :
  Calls Tryd.prog 70 #[.agg (Us l).toArray,.agg (By b).toArray] w λe w'=>∃ r : RS,r.Ok /\ r.A = A /\ mZ r.d = le b /\ e = .returned (.agg (j4 r.M r.d).toArray) /\ Below w.heap.size w w':=by
 refine e9 (vs:=[.agg (Us l).toArray,.agg (By b).toArray]) 27 Tryd.func70 rfl (by rw [Tryd.ntmps70]; rfl) ?_;have hw0:=hT.lt;refine aM λK hK=>?_;refine eQ ?_;refine gB ((Us l).toArray) rfl rfl rfl rfl rfl λW1 g1 hw1 hg1 b1=>?_
 have q1 : w.heap.size <= g1:=by rw [hg1]; exact aF _
 clear hg1;replace hT:=hT.below hw1;have hU : Up w _:=hw1;refine gB ((By b).toArray) rfl rfl rfl rfl rfl λW2 g2 hw2 hg2 b2=>?_;clear hg2;replace b1:=b1.later hw2;replace hT:=hT.below hw2;replace hU:=hU.step hw2;refine cT pS rfl rfl rfl rfl (by kernel_rfl) λW3 g3 hw3 hg3 b3=>?_
 have q3 : w.heap.size <= g3:=by rw [hg3]; exact hU.size
 have n1_3 : g1 ≠ g3:=by have:=b1.lt; omega
 clear hg3;replace b1:=b1.later hw3;replace b2:=b2.later hw3;replace hT:=hT.below hw3;replace hU:=hU.step hw3;refine bG ?_;refine hK _ _ ?_;clear hK K;refine aM λK hK=>?_;refine sY 3 [nvR 5] (by decide) ⟨⟨rfl,rfl,rfl,rfl,by kernel_rfl⟩,trivial⟩ ?_;refine tG g2 0 hb rfl rfl rfl rfl rfl (λ_ h1=>(h1.blk b2).range) ?_;refine sW #[.agg (By b).toArray] (λv=>∃ d : List Nat,d.length = 256 /\ mZ d = le b /\ (∀ j,j < 256 -> d[j]! = 0 \/ (d[j]! % 2 = 1 /\ d[j]! < 16)) /\ v = .agg (Ds d).toArray) rfl rfl rfl Iv (λw1 _=>(OS hb w1).mono λe w' ⟨d,h1,h2,h3,h4,h5⟩=>⟨_,h4,⟨d,h1,h2,h3,rfl⟩,h5⟩) rfl rfl ?_
 rintro _ ⟨d,hdl,hds,hdo,rfl⟩
 refine gO [(1,.agg (Ds d).toArray)] (j4 (aD 8 pz) d).toArray rfl rfl rfl rfl rfl (L7 hdl) ?_;refine oL [.tmp 10] [(j4 (aD 8 pz) d).toArray] ⟨rfl,trivial⟩ (by decide) ⟨⟨rfl,rfl,rfl⟩,rfl⟩ ⟨⟨rfl,pF.trans (zO Ps hdl).symm,x9 Ps hdl,FQ _ _⟩,trivial⟩ λf4 W4 hg4 hd4 hw4 hb4=>?_;have b400 : Blk W4 (f4 0) 116 ((j4 (aD 8 pz) d).toArray):=hb4.1;clear hb4;have q400 : w.heap.size <= f4 0:=Nat.le_trans hU.size (hg4 0 (by decide))
 have n1_400 : g1 ≠ f4 0:=by have:=b1.lt; have:=hg4 0 (by decide); omega
 have n3_400 : g3 ≠ f4 0:=by have:=b3.lt; have:=hg4 0 (by decide); omega
 replace b1:=b1.later hw4;replace b2:=b2.later hw4;replace b3:=b3.later hw4;replace hT:=hT.below hw4;replace hU:=hU.step hw4;clear hg4 hd4 hw4;generalize hf400 : f4 0 = g400 at *;simp only [lO,hf400];clear hf400 f4;refine bG ?_;refine dT (E':=[(2,.pointer (some ⟨g1,0,none⟩)),(3,.pointer (some ⟨g2,0,none⟩)),(4,.pointer (some ⟨g3,0,none⟩)),(5,.pointer (some ⟨g400,0,none⟩))]) ⟨rfl,rfl,rfl,rfl,trivial⟩ ?_;refine hK _ _ ?_;clear hK K;refine aM λK hK=>?_;refine sY 3 [nvA 6] (by decide) ⟨⟨rfl,rfl,rfl,rfl,by kernel_rfl⟩,trivial⟩ ?_;refine rD g1 0 hP.len rfl rfl rfl rfl rfl (λ_ h1=>(h1.blk b1).range) ?_;refine eV #[.agg (Us l).toArray,.int .i64 1] (PB · (Ed.mul dd 2 A)) rfl rfl rfl qR (λw1 h1=>vR hP 1 (by decide) w1 (hT.below h1)) rfl rfl λr12 v12=>?_;refine eV #[.agg (Us r12).toArray] (AB · (Ed.mul dd 2 A)) rfl rfl rfl BU (λw1 h1=>Hl v12 w1 (hT.below h1)) rfl rfl λr13 v13=>?_;refine oL [.tmp 13] [(Us r13).toArray] ⟨rfl,trivial⟩ (by decide) ⟨⟨rfl,rfl,rfl⟩,rfl⟩ ⟨⟨rfl,rfl |>.trans (aT v13.len).symm,HV v13.len,bP _⟩,trivial⟩ λf5 W5 hg5 hd5 hw5 hb5=>?_;have b500 : Blk W5 (f5 0) 112 ((Us r13).toArray):=hb5.1;clear hb5
 have n1_500 : g1 ≠ f5 0:=by have:=b1.lt; have:=hg5 0 (by decide); omega
 have n400_500 : g400 ≠ f5 0:=by have:=b400.lt; have:=hg5 0 (by decide); omega
 replace b1:=b1.later hw5;replace b2:=b2.later hw5;replace b3:=b3.later hw5;replace b400:=b400.later hw5;replace hT:=hT.below hw5;replace hU:=hU.step hw5;clear hg5 hd5 hw5;generalize hf500 : f5 0 = g500 at *;simp only [lO,hf500];clear hf500 f5;refine bG ?_;refine dT (E':=[(2,.pointer (some ⟨g1,0,none⟩)),(4,.pointer (some ⟨g3,0,none⟩)),(5,.pointer (some ⟨g400,0,none⟩)),(6,.pointer (some ⟨g500,0,none⟩))]) ⟨rfl,rfl,rfl,rfl,trivial⟩ ?_;refine hK _ _ ?_;clear hK K;refine aM λK1 hK1=>?_;refine aM λK hK=>?_;refine dB ?_;refine aK (.int .i64 0) rfl rfl rfl rfl rfl ?_;refine bI λw10 hw10=>?_;replace b1:=b1.later hw10;replace b2:=b2.later hw10;replace b3:=b3.later hw10;replace b400:=b400.later hw10;replace b500:=b500.later hw10;replace hT:=hT.below hw10;replace hU:=hU.step hw10;refine dT (E':=WF g1 g3 g400 g500 (0,l,aD 8 pz)) ⟨rfl,rfl,rfl,rfl,rfl,trivial⟩ ?_;refine hK _ _ ?_;clear hK K;refine dK ?_;have hon:=hP.on;refine kB (m:=λs : Nat × List Nat × List (List Nat)=>8 - s.1) (F:=WF g1 g3 g400 g500) (R:=WR w g1 g3 g400 g500 d r13 A) ?_ (0,l,aD 8 pz) ⟨dC _,by rw [Nat.mul_zero,cW,Ed.Gs iL]; exact hP,Ps,λ_ h=>absurd h (by omega),hU,hT,b1,b3,b400,b500⟩;clear hU hT b1 b2 b3 b400 b500 hw10 w10
 rintro ⟨i,m,M⟩ V0 ⟨hi,hPm,hM,hA,hU,hT,b1,b3,b400,b500⟩
 simp only at hi hPm hM hA b1 b400;refine aM λK hK=>?_;refine dB ?_
 by_cases hin : i < 8
 ·refine fN (i : Int) 8 true rfl rfl rfl rfl rfl rfl (decide_eq_true (by omega)) ?_
  refine bI λw11 hw11=>hK _ _ ?_;clear hK K;replace b1:=b1.later hw11;replace b3:=b3.later hw11;replace b400:=b400.later hw11;replace b500:=b500.later hw11;replace hT:=hT.below hw11;replace hU:=hU.step hw11;refine aM λK hK=>?_;refine cB true rfl ?_;refine eZ ?_;refine hK _ _ ?_;clear hK K;refine aM λK3 hK3=>?_;refine dK ?_;refine aM λK hK=>?_;refine dB ?_;refine aK (.int .i64 (i : Int)) rfl rfl rfl rfl rfl ?_;refine bU (.int .i64 (i : Int)) rfl rfl rfl rfl rfl ?_;refine bI λw12 hw12=>hK _ _ ?_;clear hK K;replace b1:=b1.later hw12;replace b3:=b3.later hw12;replace b400:=b400.later hw12;replace b500:=b500.later hw12;replace hT:=hT.below hw12;replace hU:=hU.step hw12;refine aM λK hK=>?_;refine k8 5 ?_;refine aK (.int .i64 (i : Int)) rfl rfl rfl rfl rfl ?_;refine rD g1 0 hPm.len rfl rfl rfl rfl rfl (λ_ h1=>(h1.blk b1).range) ?_;refine eV #[.agg (Us m).toArray] (AB · (Ed.mul dd (2 * i + 1) A)) rfl rfl rfl BU (λw1 h1=>Hl hPm w1 (hT.below h1)) rfl rfl λr19 v19=>?_;refine fT g400 0 0 rfl rfl rfl rfl rfl (λw1=>Vm _ 0 w1) ?_;refine tF _ (i : Int) ⟨g400,0 + 20 * i,none⟩ rfl rfl rfl rfl rfl rfl (ixA _ 0 i hin) ?_;refine uJ λw13 hw13=>?_;replace b1:=b1.later hw13;replace b3:=b3.later hw13;replace b400:=b400.later hw13;replace b500:=b500.later hw13;replace hT:=hT.below hw13;replace hU:=hU.step hw13
  have c1 : Blk w13 g400 116 (Us (M.take i).flatten ++ (Us M[i]! ++ (Us (M.drop (i + 1)).flatten ++ Ds d))).toArray:=by rw [<-zP hM hin]; exact b400
  refine N7 g400 (0 + 20 * i) _ (Us M[i]!) _ (Us r19) rfl rfl rfl rfl rfl c1 (by rw [cY,vA hM (by omega)]; omega) (by rw [cY,cY,hM.each i hin,v19.len]) (by rw [cY,v19.len]; kernel_rfl) (cJ _) λW' hO c2=>?_;rw [P8 hM hin v19.len] at c2;have hM2:=hM.set i v19.len
  have hA2 : ∀ j,j < i + 1 -> AB (M.set i r19)[j]! (Ed.mul dd (2 * j + 1) A):=λj hj=>by
   by_cases e : i = j
   ·subst e
    rw [D7 (by rw [hM.len]; exact hin)];exact v19
   ·rw [JG e]
    exact hA j (by omega)
  replace b1:=hO.blk _ _ _ n1_400 b1;replace b3:=hO.blk _ _ _ n3_400 b3;replace b500:=hO.blk _ _ _ (jK n400_500) b500;replace hT:=hT.only hO (by omega);replace hU:=hO.up _ q400 hU;clear b400 c1;have b400:=c2;clear c2 hO;refine bG ?_;refine hK _ _ ?_;clear hK K;refine k8 3 ?_;refine rD g1 0 hPm.len rfl rfl rfl rfl rfl (λ_ h1=>(h1.blk b1).range) ?_;refine U9 g500 0 v13.len rfl rfl rfl rfl rfl (λ_ h1=>(h1.blk b500).range) ?_;refine eV #[.agg (Us m).toArray,.agg (Us r13).toArray] (QB · (Ed.add dd (Ed.mul dd (2 * i + 1) A) (Ed.mul dd 2 A))) rfl rfl rfl Gd (λw1 h1=>Kx hPm v13 w1 (hT.below h1)) rfl rfl λr24 v24=>?_;refine iC g1 _ ((Us r24).toArray) rfl rfl rfl rfl rfl b1 (dR v24.len) ((aT hPm.len).trans (aT v24.len).symm) (bP _) λw21 hw21 c21=>?_;replace b3:=(b3.later hw21).aR (jK n1_3) ((Us r24).toArray);replace b400:=(b400.later hw21).aR (jK n1_400) ((Us r24).toArray);replace b500:=(b500.later hw21).aR (jK n1_500) ((Us r24).toArray);replace b1:=c21;replace hT:=(hT.below hw21).row (g:=g1) (by have:=hw0; omega) ((Us r24).toArray);replace hU:=cM (hU.step hw21) q1 ((Us r24).toArray);clear hw21 c21;generalize w21.setRow g1 ((Us r24).toArray) = W21 at *;refine bG ?_;rw [<-Ed.mul_add iL hon,show 2 * i + 1 + 2 = 2 * (i + 1) + 1 from by omega] at v24;refine hK3 _ _ ?_;refine dB ?_;refine gW (i : Int) 1 ((i + 1 : Nat) : Int) rfl rfl rfl rfl rfl rfl (CW i 1 (by omega)) ?_;refine aK (.int .i64 ((i + 1 : Nat) : Int)) rfl rfl rfl rfl rfl ?_;refine bI λw40 hw40=>?_;replace b1:=b1.later hw40;replace b3:=b3.later hw40;replace b400:=b400.later hw40;replace b500:=b500.later hw40;replace hT:=hT.below hw40;replace hU:=hU.step hw40;exact gD (m:=λs : Nat × List Nat × List (List Nat)=>8 - s.1) (F:=WF g1 g3 g400 g500) (R:=WR w g1 g3 g400 g500 d r13 A) (s:=(i,m,M)) (i + 1,r24,M.set i r19) ⟨rfl,rfl,rfl,rfl,rfl,trivial⟩ ⟨hin,.inr v24,hM2,hA2,hU,hT,b1,b3,b400,b500⟩ (by show 8 - (i + 1) < 8 - i; omega)
 ·refine fN (i : Int) 8 false rfl rfl rfl rfl rfl rfl (decide_eq_false (by omega)) ?_
  refine bI λw11 hw11=>hK _ _ ?_;clear hK K;replace b3:=b3.later hw11;replace b400:=b400.later hw11;replace hT:=hT.below hw11;replace hU:=hU.step hw11;refine aM λK hK=>?_;refine cB false rfl ?_;refine kC ?_
  show kF K1 27 _ _
  refine hK1 _ _ ?_;clear hK1 K1 hK K
  obtain rfl : i = 8:=by omega
  refine aM λK hK=>?_;refine k8 1 ?_;refine AO g400 0 (j4 M d) _ rfl rfl rfl rfl rfl (λ_ h1=>(h1.blk b400).range) Tryd.underlying116 rfl (by have:=x9 hM hdl; simpa using this) ?_;refine iC g3 _ ((j4 M d).toArray) rfl rfl rfl rfl rfl b3 (x9 hM hdl) (pF.trans (zO hM hdl).symm) (FQ _ _) λw51 hw51 c51=>?_;replace b3:=c51;replace hT:=(hT.below hw51).row (g:=g3) (by have:=hw0; omega) ((j4 M d).toArray);replace hU:=cM (hU.step hw51) q3 ((j4 M d).toArray);clear hw51 c51;generalize w51.setRow g3 ((j4 M d).toArray) = W51 at *;refine bG ?_;refine hK _ _ ?_;clear hK K;refine gI (eC g3 _ rfl rfl b3 Tryd.underlying116 rfl (x9 hM hdl) ⟨⟨M,d,A⟩,⟨hM,hA,hdl,hdo,hon⟩,rfl,hds,rfl,hU⟩)
end Go.Proofs.YtfkchihlchlfdaaDoor
