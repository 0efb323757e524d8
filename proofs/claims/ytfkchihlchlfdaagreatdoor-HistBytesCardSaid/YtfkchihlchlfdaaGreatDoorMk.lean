import Derived.Test.YtfkchihlchlfdaaGreatDoorMa
import Derived.Test.YtfkchihlchlfdaaGreatDoorMj
import Derived.Test.YtfkchihlchlfdaaGreatDoorMg
import Derived.Test.YtfkchihlchlfdaaGreatDoorMe
import Derived.StillTailTactics
import Derived.Deep.QuietTactic
set_option maxRecDepth 100000
set_option maxHeartbeats 4000000
open And renaming intro->a5
open Array renaming replicate->bE
open Go.Act renaming put->aG
open Go.IntKind renaming wrap_u64->aP
open Go.Lib renaming hid->aL
open Go.Oper renaming upon->mJ
open Go.Region renaming wanted->aN,ready->bC,noSelect->tS
open Go.Sem renaming run_pure->aK
open List renaming setIfInBounds_toArray->aA,set_cons_zero->aB,set_cons_succ->aC,replicate->aE,take_succ_cons->a6,size_toArray->a9,mem_singleton->bK,take_zero->bP,cons_ne_nil->DS
open Nat renaming le_refl->aH,blt->aQ,mod_eq_of_lt->bR,mod_lt->eJ,le_of_lt->fJ,le_trans->j6,mul_le_mul->m9,add_mod->oO,div_one->sU,add_comm->uB,mul_mod->xL,lt_trans->Ab,mul_zero->Ga,mul_mod_mod->Gb
open Ne renaming symm->lZ
open UInt8 renaming ofNat->cR,toNat_ofNat_of_lt'->I0
namespace Go.Proofs.YtfkchihlchlfdaaGreatDoor
open Go.RowKit Go.IntWalk
section
variable {P : Program} {Q : Exit -> Act -> World -> Prop}
def I8 (P : Program) (Q : Exit -> Act -> World -> Prop) (w : World) (t t2 : Tmp) (ty : TypeId) (x y : Operand) (n : Nat) (a' : Act) : Prop :=
  ∃ (cells : Array Value) (v2 : Value),(∀ v,(a'.put (some t) v).eval (.tmp t) = v) /\ (∀ v,(a'.put (some t) v).eval x = .agg cells) /\ (∀ v,(a'.put (some t) v).eval y = v2) /\ n = cells.size /\ (P.info? ty).map (·.size) = some cells.size /\ (∀ v ∈ cells.toList,v.oneCell' = true) /\
    ∀ g w',w.heap.size <= g -> Up w w' -> Blk w' g ty cells -> Q .normal ((a'.put (some t) (.pointer (some ⟨g,0,none⟩))).put (some t2) v2) w'
theorem SH {id : Nat} {a : Act} {w : World} {l : List Oper} {oa os ot : Oper} (n : Nat) (t t2 : Tmp) (ty : TypeId) (x y : Operand) (zs : Array Value) (hl : l = l.take n ++ [oa,os,ot]) (hn : (l.take n).length = n)
  (hop : os.op = .store ty (.tmp t) x) (hot : ot.op = .assign y) (hsg : os.guard = none) (htg : ot.guard = none) (hsd : os.dst = none) (htd : ot.dst = some t2) (hag : oa.guard = none) (had : oa.dst = some t) (hm : P.follows .mixedOrders = true)
  (hs : tS l.toArray = true) (hh : CP .any l.toArray n l 0 = true) (hch : chainB .any l 0 none = true)
  (hr0 : bC .any l.toArray (marks n 0 (bE l.toArray.size false)) = [n])
  (hr1 : bC .any l.toArray ((marks n 0 (bE l.toArray.size false)).setIfInBounds n true) = [n + 1])
  (hr2 : bC .any l.toArray (((marks n 0 (bE l.toArray.size false)).setIfInBounds n true).setIfInBounds (n + 1) true) = [n + 2])
  (hr3 : bC .any l.toArray ((((marks n 0 (bE l.toArray.size false)).setIfInBounds n true).setIfInBounds (n + 1) true).setIfInBounds (n + 2) true) = [])
  (hQ : ∀ c a d v w,Q (.panic c) (a.put d v) w -> Q (.panic c) a w)
  (hrun : ∀ (a : Act) w,(execOp a.eval oa).run P w = .ok (.value (.pointer (some ⟨w.heap.size,0,none⟩))) (w.alloc (.cells zs ty)))
  (h : wpB P l.toArray (Up w) (I8 P Q w t t2 ty x y zs.size) (l.take n) a) : (Code.region id l.toArray true).wp P Q a w:=by
 have hB : CQ .any l.toArray n 0 (bE l.toArray.size false) = true:=zI (by simpa using hch) n l 0 _ Inv.start (by simp) hh;generalize l.take n = L at *;subst hl;subst hn;refine wp_region_any hm ?_
 have hoa : (L ++ [oa,os,ot]).toArray[L.length]? = some oa:=by simp
 have hos : (L ++ [oa,os,ot]).toArray[L.length + 1]? = some os:=by simp
 have hoT : (L ++ [oa,os,ot]).toArray[L.length + 2]? = some ot:=by simp
 have hz : (L ++ [oa,os,ot]).toArray.size = 3 + L.length:=by simp; omega
 have hG : lP P .any (L ++ [oa,os,ot]).toArray (Up w) Q (3 + L.length) 0 (3 + L.length) w.drew (bE (L ++ [oa,os,ot]).toArray.size false) a:=by
  refine oX (λ_ _ h k=>h.step k) hs hQ 3 w.drew (Up.drew w) L 0 _ a (iQ.none _) (by omega) (λj hj=>by simp [List.getElem?_append_left hj]) hB ?_;refine kW (λa' h'=>⟨by rw [hr0]; exact DS _ _,λi hi=>?_⟩) L a h;rw [hr0,bK] at hi;subst hi;obtain ⟨cells,v2,h1,h2,h2y,hsz,hi,ho,hk⟩:=h';refine xO (base:=w.heap.size) hoa hag hrun (λ_ _ h k=>h.step k) (λ_ h=>h.size) (Up.drew w) λw1 hw1 hC1 hp=>⟨by rw [hr1]; exact DS _ _,λi hi=>?_⟩;have hb1 : Blk (w1.alloc (.cells zs ty)) w1.heap.size ty zs:=Blk.new w1 _ _;rw [hr1,bK] at hi;subst hi;rw [had];generalize w1.heap.size = g at *
  intro w2 hw2
  have hb2:=hb1.later hw2;have hC2 : Up w w2:=(hC1.alloc _).step hw2
  unfold wpOp
  simp only [hos];rw [if_pos (by simp [aN,hsg])];refine .inl ?_;have hst:=rQ (P:=P) w2 ty g cells zs ty hb2 (by rw [hi]) hsz ho
  unfold Oper.wp execOp
  simp only [hop,h1,h2,Sem.run_bind,hst,Result.andThen_ok,aK,mJ];rw [hsd];have hC3 : Up w (w2.setRow g cells):=cT hC2 hp _;have hb3 : Blk (w2.setRow g cells) g ty cells:=hb2.row _;refine ⟨hC3,by rw [hr2]; exact DS _ _,λi hi=>?_⟩;rw [hr2,bK] at hi;subst hi
  intro w4 hw4
  have hb4:=hb3.later hw4;have hC4 : Up w w4:=hC3.step hw4
  unfold wpOp
  simp only [hoT];rw [if_pos (by simp [aN,htg])];refine .inl ?_
  unfold Oper.wp execOp
  simp only [hot,aK,mJ];refine ⟨hC4,?_⟩;refine ⟨λj hj=>?_,λw5 hw5=>⟨hr3,?_⟩⟩
  ·rw [hr3] at hj
   cases hj
  rw [htd];have e : (aG (aG a' (some t) (.pointer (some ⟨g,0,none⟩))) none undef).eval y = v2:=h2y _;rw [e];exact hk g w5 hp (hC4.step hw5) (hb4.later hw5)
 have h2:=qC (3 + L.length) _ a w.drew hG;rw [Nat.zero_add,<-hz] at h2;exact h2
end
end Go.Proofs.YtfkchihlchlfdaaGreatDoor
namespace Go.Proofs.YtfkchihlchlfdaaGreatDoor
open Go.RowKit Go.IntWalk Nums
theorem Q8 {l : List Nat} {A : Ed.Pt p} (hP : PB l A) (w : World) (hT : Tw w) :
  Calls Tryz.prog 74 #[.agg (Us l).toArray] w λe w'=>e = .returned (.bool (decide (eV (Ed.mul dd 8 A) = eV Ed.zero))) /\ Below w.heap.size w w':=by
 refine fI (vs:=[.agg (Us l).toArray]) 12 Tryz.func74 rfl (by rw [Tryz.ntmps74]; rfl) ?_;have hw0:=hT.lt;refine aO λK hK=>?_;refine eX ?_;refine gR ((Us l).toArray) rfl rfl rfl rfl rfl λW1 g1 hw1 hg1 b1=>?_
 have q1 : w.heap.size <= g1:=by rw [hg1]; exact aH _
 clear hg1;replace hT:=hT.below hw1;have hU : Up w _:=hw1;refine cV (.bool false) rfl rfl rfl rfl rfl ?_;refine bI ?_;refine hK _ _ ?_;clear hK K;refine aO λK hK=>?_;refine lL 2 ?_;refine rT g1 0 hP.len rfl rfl rfl rfl rfl (λ_ h1=>(h1.blk b1).range) ?_;refine fC #[.agg (Us l).toArray,.int .i64 3] (PB · (Ed.mul dd 8 A)) rfl rfl rfl rD (λw1 h1=>wQ hP 3 (by decide) w1 (hT.below h1)) rfl rfl λr4 v4=>?_;refine iW g1 _ ((Us r4).toArray) rfl rfl rfl rfl rfl b1 (dZ v4.len) ((aV hP.len).trans (aV v4.len).symm) (bU _) λw2 hw2 c2=>?_;replace b1:=c2;replace hT:=(hT.below hw2).row (g:=g1) (by have:=hw0; omega) ((Us r4).toArray);replace hU:=cT (hU.step hw2) q1 ((Us r4).toArray);clear hw2 c2;generalize w2.setRow g1 ((Us r4).toArray) = W2 at *;have hon8:=v4.on;obtain ⟨X1,Y1,Z1,T1,x1,y1,z1,t1,rfl,hX1,hY1,hZ1,hT1,hiff⟩:=v4.yz;have hiff2 : y1 = z1 ↔ eV (Ed.mul dd 8 A) = eV Ed.zero:=hiff.trans ⟨congrArg eV,vF hon8 Ed.tD⟩;refine bI ?_;refine hK _ _ ?_;clear hK K;refine aO λK hK=>?_;refine c_q (by kernel_rfl) (cJ (by kernel_rfl)) (λ_ _ d _ _ h=>by cases d <;> exact h) ?_;refine gI g1 0 5 rfl rfl rfl rfl rfl (λw1=>DH _ w1) ?_;refine dU g1 5 hY1.len rfl rfl rfl rfl rfl (λ_ h1=>(h1.blk b1).cy hX1.len) ?_;refine dN #[.agg (Us Y1).toArray] (.agg (By (enc y1)).toArray) rfl rfl rfl zC (λw1 _=>FE hY1 w1) rfl rfl ?_;refine gI g1 0 10 rfl rfl rfl rfl rfl (λw1=>Iw _ w1) ?_;refine dU g1 10 hZ1.len rfl rfl rfl rfl rfl (λ_ h1=>(h1.blk b1).cz hX1.len hY1.len) ?_;refine dN #[.agg (Us Z1).toArray] (.agg (By (enc z1)).toArray) rfl rfl rfl zC (λw1 _=>FE hZ1 w1) rfl rfl ?_;refine Nq (By (enc y1)).toArray (By (enc z1)).toArray rfl rfl rfl rfl rfl rfl (by kernel_rfl) (eqd y1 z1) ?_;refine cE (.bool (decide (y1 = z1))) rfl rfl rfl rfl rfl ?_;refine bN λw9 hw9=>hK _ _ ?_;clear hK K;replace hT:=hT.below hw9;replace hU:=hU.step hw9;rw [decide_eq_decide.2 hiff2];exact gX λa ha=>bodyPost_ret (results_tmp rfl _ _ _) ha.defers ⟨congrArg Ending.returned (ha.get 2 _ rfl),hU⟩
theorem LU {l : List Nat} {A : Ed.Pt p} (hP : PB l A) (w : World) (hT : Tw w) :
  Calls Tryz.prog 72 #[.agg (Us l).toArray] w λe w'=>e = .returned (.agg (By (eV A)).toArray) /\ Below w.heap.size w w':=by
 refine fI (vs:=[.agg (Us l).toArray]) 25 Tryz.func72 rfl (by rw [Tryz.ntmps72]; rfl) ?_;have hw0:=hT.lt;refine aO λK hK=>?_;refine eX ?_;refine gR ((Us l).toArray) rfl rfl rfl rfl rfl λW1 g1 hw1 hg1 b1=>?_
 have q1 : w.heap.size <= g1:=by rw [hg1]; exact aH _
 clear hg1;replace hT:=hT.below hw1;have hU : Up w _:=hw1;refine cY z32 rfl rfl rfl rfl (by kernel_rfl) λW2 g2 hw2 hg2 b2=>?_
 have q2 : w.heap.size <= g2:=by rw [hg2]; exact hU.size
 have n1_2 : g1 ≠ g2:=by have:=b1.lt; omega
 clear hg2;replace b1:=b1.later hw2;replace hT:=hT.below hw2;replace hU:=hU.step hw2;refine bI ?_;refine hK _ _ ?_;clear hK K;refine aO λK hK=>?_;refine lL 2 ?_;refine rT g1 0 hP.len rfl rfl rfl rfl rfl (λ_ h1=>(h1.blk b1).range) ?_;refine fC #[.agg (Us l).toArray] (QB · A) rfl rfl rfl tC (λw1 h1=>yZ hP w1) rfl rfl λr6 v6=>?_;refine iW g1 _ ((Us r6).toArray) rfl rfl rfl rfl rfl b1 (dZ v6.len) ((aV hP.len).trans (aV v6.len).symm) (bU _) λw3 hw3 c3=>?_;replace b2:=(b2.later hw3).aT (lZ n1_2) ((Us r6).toArray);replace b1:=c3;replace hT:=(hT.below hw3).row (g:=g1) (by have:=hw0; omega) ((Us r6).toArray);replace hU:=cT (hU.step hw3) q1 ((Us r6).toArray);clear hw3 c3;generalize w3.setRow g1 ((Us r6).toArray) = W3 at *;obtain ⟨⟨X1,Y1,Z1,T1,x1,y1,z1,t1,rfl,hX1,hY1,hZ1,hT1,hR1,ht1⟩,hon1⟩:=v6;have haf:=hR1.aff iF;refine bI ?_;refine hK _ _ ?_;clear hK K;refine aO λK hK=>?_;refine tN 3 [nvE 3] (by decide) ⟨⟨rfl,rfl,rfl,rfl,by kernel_rfl⟩,trivial⟩ ?_;refine gI g1 0 10 rfl rfl rfl rfl rfl (λw1=>Iw _ w1) ?_;refine dU g1 10 hZ1.len rfl rfl rfl rfl rfl (λ_ h1=>(h1.blk b1).cz hX1.len hY1.len) ?_;refine fC #[.agg (Us Z1).toArray] (EB · (lE z1)) rfl rfl rfl PD (λw1 h1=>T0 hZ1 w1) rfl rfl λr9 v9=>?_;refine o7 [.tmp 9] [(Us r9).toArray] ⟨rfl,trivial⟩ (by decide) ⟨⟨rfl,rfl,rfl⟩,rfl⟩ ⟨⟨rfl,(aV gE).trans (aV v9.len).symm,gG v9.len,bU _⟩,trivial⟩ λf4 W4 hg4 hd4 hw4 hb4=>?_;have b400 : Blk W4 (f4 0) 116 ((Us r9).toArray):=hb4.1;clear hb4;replace b1:=b1.later hw4;replace b2:=b2.later hw4;replace hT:=hT.below hw4;replace hU:=hU.step hw4;clear hg4 hd4 hw4;generalize hf400 : f4 0 = g400 at *;simp only [l8,hf400];clear hf400 f4;refine bI ?_;refine eC (E':=[(1,.pointer (some ⟨g1,0,none⟩)),(2,.pointer (some ⟨g2,0,none⟩)),(3,.pointer (some ⟨g400,0,none⟩))]) ⟨rfl,rfl,rfl,trivial⟩ ?_;refine hK _ _ ?_;clear hK K;refine aO λK hK=>?_;refine tN 5 [nvH 4] (by decide) ⟨⟨rfl,rfl,rfl,rfl,by kernel_rfl⟩,trivial⟩ ?_;refine gI g1 0 5 rfl rfl rfl rfl rfl (λw1=>DH _ w1) ?_;refine dU g1 5 hY1.len rfl rfl rfl rfl rfl (λ_ h1=>(h1.blk b1).cy hX1.len) ?_;refine dU g400 0 v9.len rfl rfl rfl rfl rfl (λ_ h1=>(h1.blk b400).range) ?_;refine fC #[.agg (Us Y1).toArray,.agg (Us r9).toArray] (EB · A.y) rfl rfl rfl bO (λw1 h1=>(by have:=dF hY1 v9 w1; rwa [haf.2] at this)) rfl rfl λr13 v13=>?_;refine dN #[.agg (Us r13).toArray] (.agg (By (enc A.y)).toArray) rfl rfl rfl zC (λw1 _=>FE v13 w1) rfl rfl ?_;refine o7 [.tmp 14] [(By (enc A.y)).toArray] ⟨rfl,trivial⟩ (by decide) ⟨⟨rfl,rfl,rfl⟩,rfl⟩ ⟨⟨rfl,(jQ (l:=aE 32 0) rfl).trans (jQ (lI _)).symm,lQ (lI _),kT _⟩,trivial⟩ λf5 W5 hg5 hd5 hw5 hb5=>?_;have b500 : Blk W5 (f5 0) 27 ((By (enc A.y)).toArray):=hb5.1
 clear hb5;have q500 : w.heap.size <= f5 0:=j6 hU.size (hg5 0 (by decide))
 have n2_500 : g2 ≠ f5 0:=by have:=b2.lt; have:=hg5 0 (by decide); omega
 replace b1:=b1.later hw5;replace b2:=b2.later hw5;replace b400:=b400.later hw5;replace hT:=hT.below hw5;replace hU:=hU.step hw5;clear hg5 hd5 hw5;generalize hf500 : f5 0 = g500 at *;simp only [l8,hf500];clear hf500 f5;refine bI ?_;refine eC (E':=[(1,.pointer (some ⟨g1,0,none⟩)),(2,.pointer (some ⟨g2,0,none⟩)),(3,.pointer (some ⟨g400,0,none⟩)),(4,.pointer (some ⟨g500,0,none⟩))]) ⟨rfl,rfl,rfl,rfl,trivial⟩ ?_;refine hK _ _ ?_;clear hK K;refine aO λK0 hK0=>?_;refine aO λK hK=>?_;refine dG ?_;refine gI g1 0 0 rfl rfl rfl rfl rfl (λw1=>FO _ w1) ?_;refine dU g1 0 hX1.len rfl rfl rfl rfl rfl (λ_ h1=>(h1.blk b1).cx) ?_;refine dU g400 0 v9.len rfl rfl rfl rfl rfl (λ_ h1=>(h1.blk b400).range) ?_;refine fC #[.agg (Us X1).toArray,.agg (Us r9).toArray] (EB · A.x) rfl rfl rfl bO (λw1 h1=>(by have:=dF hX1 v9 w1; rwa [haf.1] at this)) rfl rfl λr18 v18=>?_;refine dN #[.agg (Us r18).toArray] (.bool (decide (A.x.val % 2 = 1))) rfl rfl rfl wC (λw1 _=>Ek v18 w1) rfl rfl ?_;refine bN λw9 hw9=>hK _ _ ?_;clear hK K;replace b2:=b2.later hw9;replace b500:=b500.later hw9;replace hT:=hT.below hw9;replace hU:=hU.step hw9;have h31:=FM A.y
 by_cases hodd : A.x.val % 2 = 1
 ·refine cI (decide (A.x.val % 2 = 1)) rfl ?_
  rw [decide_eq_true hodd,if_pos rfl]
  have e31 : ((cR (((enc A.y)[31]!).toNat + 128)).toNat : Int) = ((((enc A.y)[31]!).toNat + 128 : Nat) : Int):=by rw [I0 (by show _ < 256; omega)]
  have c31:=(b500.cell 31).trans (gJ (l:=enc A.y) (j:=31) (by rw [lI]; decide));refine lL 4 ?_;refine uE _ 31 ⟨g500,31,none⟩ rfl rfl rfl rfl rfl rfl (ixH _ 31 (by decide)) ?_;refine dA ⟨g500,31,none⟩ (.int .u8 (((enc A.y)[31]!).toNat : Int)) (by decide) rfl rfl rfl rfl rfl (λ_ h1=>(h1.cell b500.lt).trans c31) ?_;refine LD _ 128 ((((enc A.y)[31]!).toNat + 128 : Nat) : Int) rfl rfl rfl rfl rfl rfl (YO _ h31) ?_;refine uE _ 31 ⟨g500,31,none⟩ rfl rfl rfl rfl rfl rfl (ixH _ 31 (by decide)) ?_;refine mP ⟨g500,31,none⟩ ((((enc A.y)[31]!).toNat + 128 : Nat) : Int) _ (.inr ⟨rfl,rfl⟩) rfl rfl rfl rfl rfl c31 (b500.free 31) b500.lt λw8 hw8=>?_;replace b2:=b2.later hw8;replace b500:=b500.later hw8;replace hT:=hT.below hw8;replace hU:=hU.step hw8;replace b2:=b2.far (p:=⟨g500,31,none⟩) n2_500 (.int .u8 ((((enc A.y)[31]!).toNat + 128 : Nat) : Int));replace b500:=b500.set 31 (.int .u8 ((((enc A.y)[31]!).toNat + 128 : Nat) : Int));rw [<-e31,rX,<-QY hodd] at b500;rw [<-e31] at b2 ⊢;replace hU : Up w _:=hU.setCell (p:=⟨g500,31,none⟩) q500 (.int .u8 ((cR (((enc A.y)[31]!).toNat + 128)).toNat : Int));generalize w8.setCell ⟨g500,31,none⟩ (.int .u8 ((cR (((enc A.y)[31]!).toNat + 128)).toNat : Int)) = W8 at *;refine hK0 _ _ ?_;clear hK0 K0;refine aO λK hK=>?_;refine lL 1 ?_;refine uF g500 0 (gW A) rfl rfl rfl rfl rfl (λ_ h1=>(h1.blk b500).range) ?_;refine iW g2 _ ((By (eV A)).toArray) rfl rfl rfl rfl rfl b2 (lQ (gW A)) ((jQ (l:=aE 32 0) rfl).trans (jQ (gW A)).symm) (kT _) λw6 hw6 c6=>?_;replace b500:=(b500.later hw6).aT (lZ n2_500) ((By (eV A)).toArray);replace b2:=c6;replace hU:=cT (hU.step hw6) q2 ((By (eV A)).toArray);clear hw6 c6;generalize w6.setRow g2 ((By (eV A)).toArray) = W6 at *;refine bI ?_;refine hK _ _ ?_;clear hK K;refine gX (eH g2 _ rfl rfl b2 Tryz.underlying27 rfl (lQ (gW A)) ⟨rfl,hU⟩)
 ·refine cI (decide (A.x.val % 2 = 1)) rfl ?_
  rw [decide_eq_false hodd,if_neg (by decide)];refine fG ?_;refine hK0 _ _ ?_;clear hK0 K0;rw [<-Nt hodd] at b500;refine aO λK hK=>?_;refine lL 1 ?_;refine uF g500 0 (gW A) rfl rfl rfl rfl rfl (λ_ h1=>(h1.blk b500).range) ?_;refine iW g2 _ ((By (eV A)).toArray) rfl rfl rfl rfl rfl b2 (lQ (gW A)) ((jQ (l:=aE 32 0) rfl).trans (jQ (gW A)).symm) (kT _) λw6 hw6 c6=>?_;replace b2:=c6;replace hU:=cT (hU.step hw6) q2 ((By (eV A)).toArray);clear hw6 c6;generalize w6.setRow g2 ((By (eV A)).toArray) = W6 at *;refine bI ?_;refine hK _ _ ?_;clear hK K;refine gX (eH g2 _ rfl rfl b2 Tryz.underlying27 rfl (lQ (gW A)) ⟨rfl,hU⟩)
section
variable {P : Program} {Q : Exit -> Act -> World -> Prop} {N : Nat} {E : List (Nat × Value)} {w : World}
theorem Ye {id : Nat} {l : List Oper} {oa os ot : Oper} (n : Nat) (t t2 : Tmp) (ty : TypeId) (x y : Operand) (zs : Array Value) (hl : l = l.take n ++ [oa,os,ot]) (hn : (l.take n).length = n)
  (hop : os.op = .store ty (.tmp t) x) (hot : ot.op = .assign y) (hsg : os.guard = none) (htg : ot.guard = none) (hsd : os.dst = none) (htd : ot.dst = some t2) (hag : oa.guard = none) (had : oa.dst = some t) (hm : P.follows .mixedOrders = true)
  (hs : tS l.toArray = true) (hh : CP .any l.toArray n l 0 = true) (hch : chainB .any l 0 none = true)
  (hr0 : bC .any l.toArray (marks n 0 (bE l.toArray.size false)) = [n])
  (hr1 : bC .any l.toArray ((marks n 0 (bE l.toArray.size false)).setIfInBounds n true) = [n + 1])
  (hr2 : bC .any l.toArray (((marks n 0 (bE l.toArray.size false)).setIfInBounds n true).setIfInBounds (n + 1) true) = [n + 2])
  (hr3 : bC .any l.toArray ((((marks n 0 (bE l.toArray.size false)).setIfInBounds n true).setIfInBounds (n + 1) true).setIfInBounds (n + 2) true) = [])
  (hQ : ∀ c a d v w,Q (.panic c) (a.put d v) w -> Q (.panic c) a w) (hoa : oa.op = .alloc ty) (hz : (P.info? ty).bind (λi=>i.zero.map (·.cells)) = some zs)
  (h : bF P l.toArray (Up w) (I8 P Q w t t2 ty x y zs.size) (l.take n) N E) : cF P (.region id l.toArray true) Q N E w:=λa ha =>
 SH n t t2 ty x y zs hl hn hop hot hsg htg hsd htd hag had hm hs hh hch hr0 hr1 hr2 hr3 hQ (dE hoa hz) (h a ha)
theorem Ik {ops : Array Oper} {t t2 : Tmp} {ty : TypeId} {x y : Operand} {n : Nat} (cells : Array Value) (v2 : Value) (ht : aQ t N = true) (ht2 : aQ t2 N = true) (hx : ∀ v,ev ((t,v) :: E) x = some (.agg cells)) (hy : ∀ v,ev ((t,v) :: E) y = some v2) (hn : n = cells.size)
  (hi : (P.info? ty).map (·.size) = some cells.size) (h1 : ∀ v ∈ cells.toList,v.oneCell' = true) (h : ∀ g w',w.heap.size <= g -> Up w w' -> Blk w' g ty cells -> kF (Q .normal) N ((t2,v2) :: (t,.pointer (some ⟨g,0,none⟩)) :: E) w') :
  bF P ops (Up w) (I8 P Q w t t2 ty x y n) [] N E:=λa ha=>cQ ⟨cells,v2,λv=>(ha.put ht v).get t v (by rw [fU,if_pos rfl]),λv=>(ha.put ht v).eval (hx v),λv=>(ha.put ht v).eval (hy v),hn,hi,h1,
   λg w' hg hU hb=>h g w' hg hU hb _ ((ha.put ht _).put ht2 _)⟩
end
theorem T6 {a b : List Nat} {y : F} (hA : EB a (y * y - 1)) (hB : EB b (y * y * dd + 1)) :
  ((∃ x,x.val % 2 = 0 /\ Ed.On dd ⟨x,y⟩ /\ ∀ w,Tw w -> Calls Tryz.prog 94 #[.agg (Us a).toArray,.agg (Us b).toArray] w λe w'=>∃ r,EB r x /\ e = .returned (.tuple #[.agg (Us r).toArray,.bool true]) /\ Below w.heap.size w w') \/
   ((∀ x,¬ Ed.On dd ⟨x,y⟩) /\ ∀ w,Tw w -> Calls Tryz.prog 94 #[.agg (Us a).toArray,.agg (Us b).toArray] w λe w'=>e = .returned (.tuple #[.agg z5,.bool false]) /\ Below w.heap.size w w')):=by
 have hv:=KB y
 by_cases hx : ∃ x,Ed.On dd ⟨x,y⟩
 ·left
  obtain ⟨x0,h0⟩:=hx
  have key : ∀ x : F,(y * y * dd + 1) * x * x = y * y - 1 /\ x.val % 2 = 0 -> x = yD x0:=λx hx=>by
   have h1:=xX.1 h0
   have h2 : x * x = x0 * x0:=by
    refine cancel iF hv ?_
    have e1 : x * x * (y * y * dd + 1) = (y * y * dd + 1) * x * x:=by grind only
    have e2 : x0 * x0 * (y * y * dd + 1) = (y * y * dd + 1) * x0 * x0:=by grind only
    rw [e1,e2,hx.1,h1]
   exact GN (h2.trans (ED x0).symm) (by rw [hx.2,Bk])
  refine ⟨yD x0,Bk x0,?_,λw hT=>(It hA hB w hT).mono λe w' ⟨h,hw⟩=>?_⟩
  ·rw [Fo,ED]
   exact (Fo _ _).1 h0
  ·rcases h with ⟨r,x,hr,_,hx,he⟩ | ⟨h,_⟩
   ·exact ⟨r,key x hx ▸ hr,he,hw⟩
   ·rcases h with h | h
    ·exact absurd h hv
    ·exact absurd (xX.1 h0) (h x0)
 ·right
  refine ⟨λx h=>hx ⟨x,h⟩,λw hT=>(It hA hB w hT).mono λe w' ⟨h,hw⟩=>?_⟩
  rcases h with ⟨r,x,_,_,h,_⟩ | ⟨_,he⟩
  ·exact absurd ⟨x,xX.2 h.1⟩ hx
  ·exact ⟨he,hw⟩
theorem EE {b : List UInt8} (hb : b.length = 32) (w : World) (hT : Tw w) :
  Calls Tryz.prog 73 #[.agg (By b).toArray] w λe w'=>((∃ l A,QB l A /\ eV A = b /\ e = .returned (.tuple #[.agg (Us l).toArray,.int .i64 0])) \/ ((¬ ∃ A,Ed.On dd A /\ eV A = b) /\ e = .returned (.tuple #[.agg (Us pz).toArray,.int .i64 50]))) /\ Below w.heap.size w w':=by
 refine fI (vs:=[.agg (By b).toArray]) 57 Tryz.func73 rfl (by rw [Tryz.ntmps73]; rfl) ?_;have hw0:=hT.lt;have hle:=Fy hb;have hng:=PQ hb;have hgc:=Ng hb;have hcl:=Iv hb;have hlt:=(b[31]!).toNat_lt;have h31:=gJ (l:=b) (j:=31) (by omega)
 have hcut : (By b).toArray.setIfInBounds 31 (.int .u8 (((b[31]!).toNat % 128 : Nat) : Int)) = (By (sO b)).toArray:=by rw [sO,<-rX,I0 (by show _ < 256; omega)]
 generalize (b[31]!).toNat = hi at *;refine aO λK hK=>?_;refine eX ?_;refine gR ((By b).toArray) rfl rfl rfl rfl rfl λW1 g1 hw1 hg1 b1=>?_
 have q1 : w.heap.size <= g1:=by rw [hg1]; exact aH _
 clear hg1;replace hT:=hT.below hw1;have hU : Up w _:=hw1;refine cY ((Us pz).toArray) rfl rfl rfl rfl (by kernel_rfl) λW2 g2 hw2 hg2 b2=>?_
 have q2 : w.heap.size <= g2:=by rw [hg2]; exact hU.size
 have n1_2 : g1 ≠ g2:=by have:=b1.lt; omega
 clear hg2;replace b1:=b1.later hw2;replace hT:=hT.below hw2;replace hU:=hU.step hw2;refine cV (.int .i64 0) rfl rfl rfl rfl rfl ?_;refine bI ?_;refine hK _ _ ?_;clear hK K;have c31:=(b1.cell 31).trans h31;refine aO λK hK=>?_;refine dG ?_;refine uE _ 31 ⟨g1,31,none⟩ rfl rfl rfl rfl rfl rfl (ixH _ 31 (by decide)) ?_;refine dA ⟨g1,31,none⟩ (.int .u8 (hi : Int)) (by decide) rfl rfl rfl rfl rfl (λ_ h1=>(h1.cell b1.lt).trans c31) ?_;refine QL .u64 (.inr rfl) (hi : Int) 7 ((hi / 128 : Nat) : Int) (by decide) rfl rfl rfl rfl rfl rfl (by show (hi : Int) / 128 = _; omega) ?_;refine J6 _ 1 (decide (hi / 128 = 1)) rfl rfl rfl rfl rfl rfl (by rw [decide_eq_decide]; omega) ?_;refine cE (.bool (decide (hi / 128 = 1))) rfl rfl rfl rfl rfl ?_;refine bN λw9 hw9=>hK _ _ ?_;clear hK K;replace b1:=b1.later hw9;replace b2:=b2.later hw9;replace hT:=hT.below hw9;replace hU:=hU.step hw9;have c31:=(b1.cell 31).trans h31;refine aO λK hK=>?_;refine lL 4 ?_;refine uE _ 31 ⟨g1,31,none⟩ rfl rfl rfl rfl rfl rfl (ixH _ 31 (by decide)) ?_;refine dA ⟨g1,31,none⟩ (.int .u8 (hi : Int)) (by decide) rfl rfl rfl rfl rfl (λ_ h1=>(h1.cell b1.lt).trans c31) ?_;refine FL _ 127 ((hi % 128 : Nat) : Int) rfl rfl rfl rfl rfl rfl (XE _ (by omega)) ?_;refine uE _ 31 ⟨g1,31,none⟩ rfl rfl rfl rfl rfl rfl (ixH _ 31 (by decide)) ?_;refine mP ⟨g1,31,none⟩ ((hi % 128 : Nat) : Int) _ (.inr ⟨rfl,rfl⟩) rfl rfl rfl rfl rfl c31 (b1.free 31) b1.lt λw8 hw8=>?_;replace b1:=b1.later hw8;replace b2:=b2.later hw8;replace hT:=hT.below hw8;replace hU:=hU.step hw8;replace b2:=b2.far (p:=⟨g1,31,none⟩) (lZ n1_2) (.int .u8 ((hi % 128 : Nat) : Int));replace b1:=b1.set 31 (.int .u8 ((hi % 128 : Nat) : Int));rw [hcut] at b1;replace hU : Up w _:=hU.setCell (p:=⟨g1,31,none⟩) q1 (.int .u8 ((hi % 128 : Nat) : Int));replace hT:=hT.only ((vK.refl w8 g1).set 31 (.int .u8 ((hi % 128 : Nat) : Int))) (by omega);generalize w8.setCell ⟨g1,31,none⟩ (.int .u8 ((hi % 128 : Nat) : Int)) = W8 at *;clear c31 h31 hcut;refine hK _ _ ?_;clear hK K;refine aO λK hK=>?_
 by_cases hg : le (sO b) < p
 ·have hgd : qT (sO b) = true:=by rw [hgc,decide_eq_true hg]
  have hval : fof (le (sO b) % 57896044618658097711785492504343953926634992332820282019728792003956564819968) = fof (le (sO b)):=by rw [bR hle.2]
  have hle2 : le b = (fof (le (sO b))).val + 57896044618658097711785492504343953926634992332820282019728792003956564819968 * (hi / 128):=by rw [wL,bR hg]; exact hle.1
  have hNew:=λw1=>wE hcl hgd hval w1;clear hgd hval hgc hng hle hg;generalize fof (le (sO b)) = y at *;refine tN 5 [nvE 5] (by decide) ⟨⟨rfl,rfl,rfl,rfl,by kernel_rfl⟩,trivial⟩ ?_;refine uF g1 0 hcl rfl rfl rfl rfl rfl (λ_ h1=>(h1.blk b1).range) ?_;refine Il #[.agg (By (sO b)).toArray] y rfl rfl rfl sG (λw1 _=>hNew w1) rfl rfl λr20 v20=>?_;refine aM (.tuple #[.agg (Us r20).toArray,.bool true]) rfl rfl rfl rfl rfl ?_;refine dY (.agg (Us r20).toArray) rfl rfl rfl rfl rfl rfl ?_;refine dY (.bool true) rfl rfl rfl rfl rfl rfl ?_;refine o7 [.tmp 21] [(Us r20).toArray] ⟨rfl,trivial⟩ (by decide) ⟨⟨rfl,rfl,rfl⟩,rfl⟩ ⟨⟨rfl,(aV gE).trans (aV v20.len).symm,gG v20.len,bU _⟩,trivial⟩ λf11 W11 hg11 hd11 hw11 hb11=>?_;have b1100 : Blk W11 (f11 0) 116 ((Us r20).toArray):=hb11.1;clear hb11
  have n2_1100 : g2 ≠ f11 0:=by have:=b2.lt; have:=hg11 0 (by decide); omega
  replace b1:=b1.later hw11;replace b2:=b2.later hw11;replace hT:=hT.below hw11;replace hU:=hU.step hw11;clear hg11 hd11 hw11;generalize hf1100 : f11 0 = g1100 at *;simp only [l8,hf1100];clear hf1100 f11;refine cV (.bool true) rfl rfl rfl rfl rfl ?_;refine bI ?_;refine eC (E':=[(1,.pointer (some ⟨g1,0,none⟩)),(2,.pointer (some ⟨g2,0,none⟩)),(3,.int .i64 0),(4,.bool (decide (hi / 128 = 1))),(5,.pointer (some ⟨g1100,0,none⟩)),(6,.bool true)]) ⟨rfl,rfl,rfl,rfl,rfl,rfl,trivial⟩ ?_;refine hK _ _ ?_;clear hK K;refine aO λK0 hK0=>?_;refine aO λK hK=>?_;refine dG ?_;refine aM (.bool true) rfl rfl rfl rfl rfl ?_;refine EC true false rfl rfl rfl rfl rfl rfl ?_;refine bN λw12 hw12=>hK _ _ ?_;clear hK K;replace b1:=b1.later hw12;replace b2:=b2.later hw12;replace b1100:=b1100.later hw12;replace hT:=hT.below hw12;replace hU:=hU.step hw12;refine cI false rfl ?_;rw [if_neg (by decide)];refine fG ?_;refine hK0 _ _ ?_;clear hK0 K0;refine aO λK hK=>?_;refine Bl 4 [nvE 7,nvE 8] (by decide) (by decide) ⟨⟨rfl,rfl,rfl,rfl,by kernel_rfl⟩,⟨rfl,rfl,rfl,rfl,by kernel_rfl⟩,trivial⟩ (by kernel_rfl) (cJ (by kernel_rfl)) (by kernel_rfl) (λ_ _ d _ _ h=>by cases d <;> exact h) ?_;refine fC #[.int .u64 1] (EB · 1) rfl rfl rfl Ao (λw1 _=>Cg w1) rfl rfl λr26 v26=>?_;refine dU g1100 0 v20.len rfl rfl rfl rfl rfl (λ_ h1=>(h1.blk b1100).range) ?_;refine dU g1100 0 v20.len rfl rfl rfl rfl rfl (λ_ h1=>(h1.blk b1100).range) ?_;refine fC #[.agg (Us r20).toArray,.agg (Us r20).toArray] (EB · (y * y)) rfl rfl rfl bO (λw1 h1=>dF v20 v20 w1) rfl rfl λr29 v29=>?_;refine o7 [.tmp 26,.tmp 29] [(Us r26).toArray,(Us r29).toArray] ⟨rfl,rfl,trivial⟩ (by decide) ⟨⟨rfl,rfl,rfl⟩,⟨rfl,rfl,rfl⟩,rfl⟩ ⟨⟨rfl,(aV gE).trans (aV v26.len).symm,gG v26.len,bU _⟩,⟨rfl,(aV gE).trans (aV v29.len).symm,gG v29.len,bU _⟩,trivial⟩ λf13 W13 hg13 hd13 hw13 hb13=>?_;have b1300 : Blk W13 (f13 0) 116 ((Us r26).toArray):=hb13.1;have b1301 : Blk W13 (f13 1) 116 ((Us r29).toArray):=hb13.2.1;clear hb13;replace b1:=b1.later hw13;replace b2:=b2.later hw13;replace b1100:=b1100.later hw13;replace hT:=hT.below hw13;replace hU:=hU.step hw13;clear hg13 hd13 hw13;generalize hf1300 : f13 0 = g1300 at *;generalize hf1301 : f13 1 = g1301 at *;simp only [l8,Nat.reduceAdd,hf1300,hf1301];clear hf1300 hf1301 f13;refine bI ?_;refine eC (E':=[(1,.pointer (some ⟨g1,0,none⟩)),(2,.pointer (some ⟨g2,0,none⟩)),(3,.int .i64 0),(4,.bool (decide (hi / 128 = 1))),(5,.pointer (some ⟨g1100,0,none⟩)),(6,.bool true),(7,.pointer (some ⟨g1300,0,none⟩)),(8,.pointer (some ⟨g1301,0,none⟩))]) ⟨rfl,rfl,rfl,rfl,rfl,rfl,rfl,rfl,trivial⟩ ?_;refine hK _ _ ?_;clear hK K;refine aO λK hK=>?_;refine Ye 12 9 6 116 (.tmp 40) (.tmp 41) z5 rfl rfl rfl rfl rfl rfl rfl rfl rfl rfl (by kernel_rfl) (by kernel_rfl) (by kernel_rfl) (by kernel_rfl) (by kernel_rfl) (by kernel_rfl) (by kernel_rfl) (by kernel_rfl) (λ_ _ d _ _ h=>by cases d <;> exact h) rfl (by kernel_rfl) ?_
  refine dU g1301 0 v29.len rfl rfl rfl rfl rfl (λ_ h1=>(h1.blk b1301).range) ?_;refine dU g1300 0 v26.len rfl rfl rfl rfl rfl (λ_ h1=>(h1.blk b1300).range) ?_;refine fC #[.agg (Us r29).toArray,.agg (Us r26).toArray] (EB · ((y * y) - 1)) rfl rfl rfl jF (λw1 h1=>mQ v29 v26 w1 (hT.below h1)) rfl rfl λr33 v33=>?_;refine dU g1301 0 v29.len rfl rfl rfl rfl rfl (λ_ h1=>(h1.blk b1301).range) ?_;refine fC #[] (EB · dd) rfl rfl rfl CB (λw1 h1=>Ij w1) rfl rfl λr35 v35=>?_;refine fC #[.agg (Us r29).toArray,.agg (Us r35).toArray] (EB · ((y * y) * dd)) rfl rfl rfl bO (λw1 h1=>dF v29 v35 w1) rfl rfl λr36 v36=>?_;refine dU g1300 0 v26.len rfl rfl rfl rfl rfl (λ_ h1=>(h1.blk b1300).range) ?_;refine fC #[.agg (Us r36).toArray,.agg (Us r26).toArray] (EB · (((y * y) * dd) + 1)) rfl rfl rfl lA (λw1 h1=>oU v36 v26 w1) rfl rfl λr38 v38=>?_;have hRt:=T6 v33 v38
  rcases hRt with ⟨x,hev,hon,hRoot⟩ | ⟨hnone,hRoot⟩
  ·refine Il #[.agg (Us r33).toArray,.agg (Us r38).toArray] x rfl rfl rfl Eb (λw1 h1=>hRoot w1 (hT.below h1)) rfl rfl λr39 v39=>?_
   refine aM (.tuple #[.agg (Us r39).toArray,.bool true]) rfl rfl rfl rfl rfl ?_;refine dY (.agg (Us r39).toArray) rfl rfl rfl rfl rfl rfl ?_;refine dY (.bool true) rfl rfl rfl rfl rfl rfl ?_;refine Ik (Us r39).toArray (.bool true) rfl rfl (λ_=>rfl) (λ_=>rfl) (aV (l:=zl) rfl |>.trans (aV v39.len).symm) (gG v39.len) (bU _) λg14 W14 hg14 hw14 b14=>?_;have q14 : w.heap.size <= g14:=j6 hU.size hg14
   have n1_14 : g1 ≠ g14:=by have:=b1.lt; omega
   have n2_14 : g2 ≠ g14:=by have:=b2.lt; omega
   have n1100_14 : g1100 ≠ g14:=by have:=b1100.lt; omega
   replace b1:=b1.later hw14;replace b2:=b2.later hw14;replace b1100:=b1100.later hw14;replace hT:=hT.below hw14;replace hU:=hU.step hw14;refine eC (E':=[(1,.pointer (some ⟨g1,0,none⟩)),(2,.pointer (some ⟨g2,0,none⟩)),(3,.int .i64 0),(4,.bool (decide (hi / 128 = 1))),(5,.pointer (some ⟨g1100,0,none⟩)),(6,.bool true),(9,.pointer (some ⟨g14,0,none⟩))]) ⟨rfl,rfl,rfl,rfl,rfl,rfl,rfl,trivial⟩ ?_;refine hK _ _ ?_;clear hK K;refine aO λK0 hK0=>?_;refine aO λK hK=>?_;refine dG ?_;refine aM (.bool true) rfl rfl rfl rfl rfl ?_;refine EC true false rfl rfl rfl rfl rfl rfl ?_;refine bN λw15 hw15=>hK _ _ ?_;clear hK K;replace b1:=b1.later hw15;replace b2:=b2.later hw15;replace b1100:=b1100.later hw15;replace b14:=b14.later hw15;replace hT:=hT.below hw15;replace hU:=hU.step hw15;refine cI false rfl ?_;rw [if_neg (by decide)];refine fG ?_;refine hK0 _ _ ?_;clear hK0 K0;refine aO λK0 hK0=>?_;refine aO λK hK=>?_;refine dG ?_;refine aM (.bool (decide (hi / 128 = 1))) rfl rfl rfl rfl rfl ?_;refine bN λw16 hw16=>hK _ _ ?_;clear hK K;replace b1:=b1.later hw16;replace b2:=b2.later hw16;replace b1100:=b1100.later hw16;replace b14:=b14.later hw16;replace hT:=hT.below hw16;replace hU:=hU.step hw16
   by_cases hodd : hi / 128 = 1
   ·rw [decide_eq_true hodd]
    refine cI true rfl ?_;rw [if_pos rfl];refine lL 3 ?_;refine g7 [] (Us zl).toArray rfl rfl rfl rfl rfl jR ?_;refine dU g14 0 v39.len rfl rfl rfl rfl rfl (λ_ h1=>(h1.blk b14).range) ?_;refine fC #[.agg (Us zl).toArray,.agg (Us r39).toArray] (EB · (0 - x)) rfl rfl rfl jF (λw1 h1=>mQ mR v39 w1 (hT.below h1)) rfl rfl λr48 v48=>?_;refine iW g14 _ ((Us r48).toArray) rfl rfl rfl rfl rfl b14 (gG v48.len) ((aV v39.len).trans (aV v48.len).symm) (bU _) λw17 hw17 c17=>?_;replace b1:=(b1.later hw17).aT n1_14 ((Us r48).toArray);replace b2:=(b2.later hw17).aT n2_14 ((Us r48).toArray);replace b1100:=(b1100.later hw17).aT n1100_14 ((Us r48).toArray);replace b14:=c17;replace hT:=(hT.below hw17).row (g:=g14) (by have:=hw0; omega) ((Us r48).toArray);replace hU:=cT (hU.step hw17) q14 ((Us r48).toArray);clear hw17 c17;generalize w17.setRow g14 ((Us r48).toArray) = W17 at *;refine bI ?_;refine hK0 _ _ ?_;clear hK0 K0
    by_cases hx0 : x = 0
    ·have hp0 : decide ((0 - x : F).val % 2 = 1) = false:=by rw [hx0]; decide
     refine aO λK0 hK0=>?_;refine aO λK hK=>?_;refine dG ?_;refine dU g14 0 v48.len rfl rfl rfl rfl rfl (λ_ h1=>(h1.blk b14).range) ?_;refine dN #[.agg (Us r48).toArray] (.bool (decide ((0 - x).val % 2 = 1))) rfl rfl rfl wC (λw1 _=>Ek v48 w1) rfl rfl ?_;refine aM (.bool true) rfl rfl rfl rfl rfl ?_;refine J5 (decide ((0 - x).val % 2 = 1)) true true rfl rfl rfl rfl rfl rfl (by rw [hp0]; rfl) ?_;refine bN λw18 hw18=>hK _ _ ?_;clear hK K;replace b1:=b1.later hw18;replace b2:=b2.later hw18;replace b1100:=b1100.later hw18;replace b14:=b14.later hw18;replace hT:=hT.below hw18;replace hU:=hU.step hw18
     have hno : ¬ ∃ A,Ed.On dd A /\ eV A = b:=by
      rintro ⟨A,hA,hAb⟩
      obtain ⟨e1,e2⟩:=UY hle2 hAb
      have h3 : Ed.On dd ⟨A.x,y⟩:=by rw [<-e1]; exact hA
      have h4:=xX.1 h3;have h5:=xX.1 hon;rw [<-h5,hx0] at h4
      have h6 : A.x = 0:=by
       by_cases h : A.x = 0
       ·exact h
       ·exact absurd (h4.trans (by grind only)) (eQ iF (eQ iF (KB y) h) h)
      rw [h6,hodd] at e2
      revert e2
      decide
     refine cI true rfl ?_;rw [if_pos rfl];refine aO λK2 hK2=>?_;refine lL 1 ?_;refine g7 [] (Us pz).toArray rfl rfl rfl rfl rfl tO ?_;refine iW g2 _ ((Us pz).toArray) rfl rfl rfl rfl rfl b2 (dZ fE) ((aV fE).trans (aV fE).symm) (bU _) λw19 hw19 c19=>?_;replace b1:=(b1.later hw19).aT n1_2 ((Us pz).toArray);replace b1100:=(b1100.later hw19).aT (lZ n2_1100) ((Us pz).toArray);replace b14:=(b14.later hw19).aT (lZ n2_14) ((Us pz).toArray);replace b2:=c19;replace hT:=(hT.below hw19).row (g:=g2) (by have:=hw0; omega) ((Us pz).toArray);replace hU:=cT (hU.step hw19) q2 ((Us pz).toArray);clear hw19 c19;generalize w19.setRow g2 ((Us pz).toArray) = W19 at *;refine cV (.int .i64 50) rfl rfl rfl rfl rfl ?_;refine bI ?_;refine hK2 _ _ ?_;refine gX (lT (qR g2 _ rfl rfl rfl b2 Tryz.underlying118 rfl (dZ fE) ⟨.inr ⟨hno,rfl⟩,hU⟩))
    ·have hpo : (0 - x : F).val % 2 = 1:=by rw [show (0 - x : F) = -x from by grind only,BP hx0,hev]
     have hp0 : decide ((0 - x : F).val % 2 = 1) = true:=decide_eq_true hpo;refine aO λK0 hK0=>?_;refine aO λK hK=>?_;refine dG ?_;refine dU g14 0 v48.len rfl rfl rfl rfl rfl (λ_ h1=>(h1.blk b14).range) ?_;refine dN #[.agg (Us r48).toArray] (.bool (decide ((0 - x).val % 2 = 1))) rfl rfl rfl wC (λw1 _=>Ek v48 w1) rfl rfl ?_;refine aM (.bool true) rfl rfl rfl rfl rfl ?_;refine J5 (decide ((0 - x).val % 2 = 1)) true false rfl rfl rfl rfl rfl rfl (by rw [hp0]; rfl) ?_;refine bN λw18 hw18=>hK _ _ ?_;clear hK K;replace b1:=b1.later hw18;replace b2:=b2.later hw18;replace b1100:=b1100.later hw18;replace b14:=b14.later hw18;replace hT:=hT.below hw18;replace hU:=hU.step hw18;refine cI false rfl ?_;rw [if_neg (by decide)];refine fG ?_;refine hK0 _ _ ?_;clear hK0 K0;refine aO λK hK=>?_;refine lL 3 ?_;refine dU g14 0 v48.len rfl rfl rfl rfl rfl (λ_ h1=>(h1.blk b14).range) ?_;refine dU g1100 0 v20.len rfl rfl rfl rfl rfl (λ_ h1=>(h1.blk b1100).range) ?_;refine fC #[.agg (Us r48).toArray,.agg (Us r20).toArray] (QB · ⟨0 - x,y⟩) rfl rfl rfl Fm (λw1 h1=>Ur v48 v20 (xX.2 (by rw [<-xX.1 hon]; grind only)) w1) rfl rfl λr56 v56=>?_;refine iW g2 _ ((Us r56).toArray) rfl rfl rfl rfl rfl b2 (dZ v56.len) ((aV fE).trans (aV v56.len).symm) (bU _) λw19 hw19 c19=>?_;replace b1:=(b1.later hw19).aT n1_2 ((Us r56).toArray);replace b1100:=(b1100.later hw19).aT (lZ n2_1100) ((Us r56).toArray);replace b14:=(b14.later hw19).aT (lZ n2_14) ((Us r56).toArray);replace b2:=c19;replace hT:=(hT.below hw19).row (g:=g2) (by have:=hw0; omega) ((Us r56).toArray);replace hU:=cT (hU.step hw19) q2 ((Us r56).toArray);clear hw19 c19;generalize w19.setRow g2 ((Us r56).toArray) = W19 at *;refine cV (.int .i64 0) rfl rfl rfl rfl rfl ?_;refine bI ?_;refine hK _ _ ?_;refine gX (qR g2 _ rfl rfl rfl b2 Tryz.underlying118 rfl (dZ v56.len) ⟨.inl ⟨_,_,v56,LK hb (s:=1) (by rw [<-hodd]; exact hle2) hpo,rfl⟩,hU⟩)
   ·rw [decide_eq_false hodd]
    refine cI false rfl ?_;rw [if_neg (by decide)];refine fG ?_;refine hK0 _ _ ?_;clear hK0 K0;have hp0 : decide (x.val % 2 = 1) = false:=decide_eq_false (by omega)
    have h00 : hi / 128 = 0:=by omega
    refine aO λK0 hK0=>?_;refine aO λK hK=>?_;refine dG ?_;refine dU g14 0 v39.len rfl rfl rfl rfl rfl (λ_ h1=>(h1.blk b14).range) ?_;refine dN #[.agg (Us r39).toArray] (.bool (decide ((x).val % 2 = 1))) rfl rfl rfl wC (λw1 _=>Ek v39 w1) rfl rfl ?_;refine aM (.bool false) rfl rfl rfl rfl rfl ?_;refine J5 (decide ((x).val % 2 = 1)) false false rfl rfl rfl rfl rfl rfl (by rw [hp0]; rfl) ?_;refine bN λw17 hw17=>hK _ _ ?_;clear hK K;replace b1:=b1.later hw17;replace b2:=b2.later hw17;replace b1100:=b1100.later hw17;replace b14:=b14.later hw17;replace hT:=hT.below hw17;replace hU:=hU.step hw17;refine cI false rfl ?_;rw [if_neg (by decide)];refine fG ?_;refine hK0 _ _ ?_;clear hK0 K0;refine aO λK hK=>?_;refine lL 3 ?_;refine dU g14 0 v39.len rfl rfl rfl rfl rfl (λ_ h1=>(h1.blk b14).range) ?_;refine dU g1100 0 v20.len rfl rfl rfl rfl rfl (λ_ h1=>(h1.blk b1100).range) ?_;refine fC #[.agg (Us r39).toArray,.agg (Us r20).toArray] (QB · ⟨x,y⟩) rfl rfl rfl Fm (λw1 h1=>Ur v39 v20 hon w1) rfl rfl λr56 v56=>?_;refine iW g2 _ ((Us r56).toArray) rfl rfl rfl rfl rfl b2 (dZ v56.len) ((aV fE).trans (aV v56.len).symm) (bU _) λw18 hw18 c18=>?_;replace b1:=(b1.later hw18).aT n1_2 ((Us r56).toArray);replace b1100:=(b1100.later hw18).aT (lZ n2_1100) ((Us r56).toArray);replace b14:=(b14.later hw18).aT (lZ n2_14) ((Us r56).toArray);replace b2:=c18;replace hT:=(hT.below hw18).row (g:=g2) (by have:=hw0; omega) ((Us r56).toArray);replace hU:=cT (hU.step hw18) q2 ((Us r56).toArray);clear hw18 c18;generalize w18.setRow g2 ((Us r56).toArray) = W18 at *;refine cV (.int .i64 0) rfl rfl rfl rfl rfl ?_;refine bI ?_;refine hK _ _ ?_;refine gX (qR g2 _ rfl rfl rfl b2 Tryz.underlying118 rfl (dZ v56.len) ⟨.inl ⟨_,_,v56,LK hb (s:=0) (by rw [<-h00]; exact hle2) hev,rfl⟩,hU⟩)
  ·have hno : ¬ ∃ A,Ed.On dd A /\ eV A = b:=by
    rintro ⟨A,hA,hAb⟩
    obtain ⟨e1,_⟩:=UY hle2 hAb;exact hnone A.x (by rw [<-e1]; exact hA)
   refine dN #[.agg (Us r33).toArray,.agg (Us r38).toArray] (.tuple #[.agg (Us zl).toArray,.bool false]) rfl rfl rfl Eb (λw1 h1=>hRoot w1 (hT.below h1)) rfl rfl ?_;refine aM (.tuple #[.agg (Us zl).toArray,.bool false]) rfl rfl rfl rfl rfl ?_;refine dY (.agg (Us zl).toArray) rfl rfl rfl rfl rfl rfl ?_;refine dY (.bool false) rfl rfl rfl rfl rfl rfl ?_;refine Ik (Us zl).toArray (.bool false) rfl rfl (λ_=>rfl) (λ_=>rfl) (aV (l:=zl) rfl |>.trans (aV gE).symm) (gG gE) (bU _) λg14 W14 hg14 hw14 b14=>?_;replace b1:=b1.later hw14;replace b2:=b2.later hw14;replace b1100:=b1100.later hw14;replace hT:=hT.below hw14;replace hU:=hU.step hw14;refine eC (E':=[(1,.pointer (some ⟨g1,0,none⟩)),(2,.pointer (some ⟨g2,0,none⟩)),(3,.int .i64 0),(4,.bool (decide (hi / 128 = 1))),(5,.pointer (some ⟨g1100,0,none⟩)),(6,.bool false),(9,.pointer (some ⟨g14,0,none⟩))]) ⟨rfl,rfl,rfl,rfl,rfl,rfl,rfl,trivial⟩ ?_;refine hK _ _ ?_;clear hK K;refine aO λK0 hK0=>?_;refine aO λK hK=>?_;refine dG ?_;refine aM (.bool false) rfl rfl rfl rfl rfl ?_;refine EC false true rfl rfl rfl rfl rfl rfl ?_;refine bN λw15 hw15=>hK _ _ ?_;clear hK K;replace b1:=b1.later hw15;replace b2:=b2.later hw15;replace b1100:=b1100.later hw15;replace hT:=hT.below hw15;replace hU:=hU.step hw15;refine cI true rfl ?_;rw [if_pos rfl];refine aO λK2 hK2=>?_;refine lL 1 ?_;refine g7 [] (Us pz).toArray rfl rfl rfl rfl rfl tO ?_;refine iW g2 _ ((Us pz).toArray) rfl rfl rfl rfl rfl b2 (dZ fE) ((aV fE).trans (aV fE).symm) (bU _) λw16 hw16 c16=>?_;replace b1:=(b1.later hw16).aT n1_2 ((Us pz).toArray);replace b1100:=(b1100.later hw16).aT (lZ n2_1100) ((Us pz).toArray);replace b2:=c16;replace hT:=(hT.below hw16).row (g:=g2) (by have:=hw0; omega) ((Us pz).toArray);replace hU:=cT (hU.step hw16) q2 ((Us pz).toArray);clear hw16 c16;generalize w16.setRow g2 ((Us pz).toArray) = W16 at *;refine cV (.int .i64 50) rfl rfl rfl rfl rfl ?_;refine bI ?_;refine hK2 _ _ ?_;refine gX (lT (qR g2 _ rfl rfl rfl b2 Tryz.underlying118 rfl (dZ fE) ⟨.inr ⟨hno,rfl⟩,hU⟩))
 ·have hno:=hng hg
  have hNew : ∀ w1,Calls Tryz.prog 84 #[.agg (By (sO b)).toArray] w1 λe w'=>e = .returned (.tuple #[.agg (Us zl).toArray,.bool false]) /\ Below w1.heap.size w1 w':=λw1=>(UJ hcl w1).mono λe w' ⟨h,hw⟩=>by
   rcases h with ⟨h,_⟩ | ⟨_,h⟩
   ·rw [hgc,decide_eq_false hg] at h; cases h
   ·exact ⟨h,hw⟩
  refine tN 5 [nvE 5] (by decide) ⟨⟨rfl,rfl,rfl,rfl,by kernel_rfl⟩,trivial⟩ ?_;refine uF g1 0 hcl rfl rfl rfl rfl rfl (λ_ h1=>(h1.blk b1).range) ?_;refine dN #[.agg (By (sO b)).toArray] (.tuple #[.agg (Us zl).toArray,.bool false]) rfl rfl rfl sG (λw1 _=>hNew w1) rfl rfl ?_;refine aM (.tuple #[.agg (Us zl).toArray,.bool false]) rfl rfl rfl rfl rfl ?_;refine dY (.agg (Us zl).toArray) rfl rfl rfl rfl rfl rfl ?_;refine dY (.bool false) rfl rfl rfl rfl rfl rfl ?_;refine o7 [.tmp 21] [(Us zl).toArray] ⟨rfl,trivial⟩ (by decide) ⟨⟨rfl,rfl,rfl⟩,rfl⟩ ⟨⟨rfl,rfl,gG gE,bU _⟩,trivial⟩ λf11 W11 hg11 hd11 hw11 hb11=>?_;have b1100 : Blk W11 (f11 0) 116 ((Us zl).toArray):=hb11.1;clear hb11;replace b2:=b2.later hw11;replace hT:=hT.below hw11;replace hU:=hU.step hw11;clear hg11 hd11 hw11;generalize hf1100 : f11 0 = g1100 at *;simp only [l8,hf1100];clear hf1100 f11;refine cV (.bool false) rfl rfl rfl rfl rfl ?_;refine bI ?_;refine eC (E':=[(1,.pointer (some ⟨g1,0,none⟩)),(2,.pointer (some ⟨g2,0,none⟩)),(3,.int .i64 0),(4,.bool (decide (hi / 128 = 1))),(5,.pointer (some ⟨g1100,0,none⟩)),(6,.bool false)]) ⟨rfl,rfl,rfl,rfl,rfl,rfl,trivial⟩ ?_;refine hK _ _ ?_;clear hK K;refine aO λK0 hK0=>?_;refine aO λK hK=>?_;refine dG ?_;refine aM (.bool false) rfl rfl rfl rfl rfl ?_;refine EC false true rfl rfl rfl rfl rfl rfl ?_;refine bN λw12 hw12=>hK _ _ ?_;clear hK K;replace b2:=b2.later hw12;replace hT:=hT.below hw12;replace hU:=hU.step hw12;refine cI true rfl ?_;rw [if_pos rfl];refine aO λK2 hK2=>?_;refine lL 1 ?_;refine g7 [] (Us pz).toArray rfl rfl rfl rfl rfl tO ?_;refine iW g2 _ ((Us pz).toArray) rfl rfl rfl rfl rfl b2 (dZ fE) ((aV fE).trans (aV fE).symm) (bU _) λw13 hw13 c13=>?_;replace b2:=c13;replace hT:=(hT.below hw13).row (g:=g2) (by have:=hw0; omega) ((Us pz).toArray);replace hU:=cT (hU.step hw13) q2 ((Us pz).toArray);clear hw13 c13;generalize w13.setRow g2 ((Us pz).toArray) = W13 at *;refine cV (.int .i64 50) rfl rfl rfl rfl rfl ?_;refine bI ?_;refine hK2 _ _ ?_;refine gX (lT (qR g2 _ rfl rfl rfl b2 Tryz.underlying118 rfl (dZ fE) ⟨.inr ⟨hno,rfl⟩,hU⟩))
section
variable {P : Program} {ops : Array Oper} {C0 : World -> Prop} {Q : Act -> Prop} {N : Nat} {E : List (Nat × Value)} {o : Oper} {rest : List Oper} {k : Nat}
theorem Wk {c x y : Operand} (v : Value) (hg : o.guard = none) (hd : o.dst = some k) (hk : aQ k N = true) (ho : o.op = .pick c x y) (hc : ev E c = some (.bool true)) (hx : ev E x = some v) (hn : bF P ops C0 Q rest N ((k,v) :: E)) : bF P ops C0 Q (o :: rest) N E :=
 dP _ hg hd hk (λa ha w _=>by
  have h1:=ha.eval hc;have h2:=ha.eval hx
  unfold execOp
  simp only [ho,h1,h2]
  go_simp) hn
end
section
variable {ops : Array Oper} {C0 : World -> Prop} {Q : Act -> Prop} {N : Nat} {E : List (Nat × Value)} {o : Oper} {rest : List Oper} {k : Nat}
theorem XV {t t' : TypeId} {x y : Operand} (l m : List UInt8) (hg : o.guard = none) (hd : o.dst = some k) (hk : aQ k N = true) (ho : o.op = .binOp .eql t x y t') (ht : t = 27) (hx : ev E x = some (.agg (By l).toArray)) (hy : ev E y = some (.agg (By m).toArray))
  (hl : l.length = 32) (hm : m.length = 32) (hn : bF Tryz.prog ops C0 Q rest N ((k,.bool (decide (l = m))) :: E)) : bF Tryz.prog ops C0 Q (o :: rest) N E:=by
 subst ht;exact Nq (By l).toArray (By m).toArray hg hd hk ho hx hy (by kernel_rfl) (λw=>BS l m hl hm w) hn
end
theorem Eg : Own 72:=λ_ _=>by go_simp
theorem JH : Own 74:=λ_ _=>by go_simp
theorem PF : Own 71:=λ_ _=>by go_simp
theorem Bb : Own 73:=λ_ _=>by go_simp
theorem T9 {A : Ed.Pt p} (hA : Ed.On dd A) (w : World) (hT : Tw w) : Calls Tryz.prog 73 #[.agg (By (eV A)).toArray] w λe w'=>∃ v,e = .returned v /\ (∃ l,QB l A /\ v = .tuple #[.agg (Us l).toArray,.int .i64 0]) /\ Below w.heap.size w w' :=
 (EE (gW A) w hT).mono λe w' ⟨h,hw⟩=>by
  rcases h with ⟨l,B,hl,hB,he⟩ | ⟨h,_⟩
  ·have : B = A:=vF hl.on hA hB
   subst this;exact ⟨_,he,⟨l,hl,rfl⟩,hw⟩
  ·exact absurd ⟨A,hA,rfl⟩ h
theorem Ua {b : List UInt8} (hb : b.length = 32) (hn : ¬ ∃ A,Ed.On dd A /\ eV A = b) (w : World) (hT : Tw w) : Calls Tryz.prog 73 #[.agg (By b).toArray] w λe w'=>e = .returned (.tuple #[.agg (Us pz).toArray,.int .i64 50]) /\ Below w.heap.size w w' :=
 (EE hb w hT).mono λe w' ⟨h,hw⟩=>by
  rcases h with ⟨l,B,hl,hB,he⟩ | ⟨_,he⟩
  ·exact absurd ⟨B,hl.on,hB⟩ hn
  ·exact ⟨he,hw⟩
end Go.Proofs.YtfkchihlchlfdaaGreatDoor
namespace Go.Proofs.YtfkchihlchlfdaaGreatDoor
open Go.RowKit Nums
theorem VO (n : Nat) : Ed.mul dd (n % LL) base = Ed.mul dd n base:=(Ed.mul_mod jC mO order n).symm
theorem Fw (n : Nat) : n % LL < LL:=eJ _ (by decide)
def m1 : Ed.Pt p:=⟨0, -1⟩
end Go.Proofs.YtfkchihlchlfdaaGreatDoor
namespace Go.Proofs.YtfkchihlchlfdaaGreatDoor
open Go.RowKit Go.IntWalk
theorem vU (x y b : Nat) (hb : b <= 1) (w : World) : (callFunc 101 #[.int .u64 x,.int .u64 y,.int .u64 b]).run Tryz.prog w =
  .ok (.value (.tuple #[.int .u64 (((x + 18446744073709551616 - y - b) % 18446744073709551616 : Nat) : Int),.int .u64 ((if x < y + b then 1 else 0 : Nat) : Int)])) w:=by
 rw [run_callFunc_extern Tryz.func101 (by kernel_rfl) (by kernel_rfl) (by kernel_rfl) (e:=Gw) (by kernel_rfl),Su x y b hb]
 rfl
end Go.Proofs.YtfkchihlchlfdaaGreatDoor
namespace Go.Proofs.YtfkchihlchlfdaaGreatDoor
open Go.RowKit Go.IntWalk Nums
theorem yP (cs : Array Value) (h : cs.size = 4) : (Tryz.prog.info? 91).map (·.size) = some cs.size:=by
 rw [h]
 kernel_rfl
theorem fP (cs : Array Value) (h : cs.size = 4) : (Tryz.prog.info? 93).map (·.size) = some cs.size:=by
 rw [h]
 kernel_rfl
def z4 : Array Value:=(Us [0,0,0,0]).toArray
theorem lD {l : List Nat} (h : l.length = 4) : (Us l).toArray.size = 4:=by rw [a9,dB,h]
theorem NR {A B : Nat} (hA : A < 115792089237316195423570985008687907853269984665640564039457584007913129639936) (hB : B < 115792089237316195423570985008687907853269984665640564039457584007913129639936) (w : World) :
  Calls Tryz.prog 78 #[.agg (Us (ws A)).toArray,.agg (Us (ws B)).toArray] w λe w'=>e = .returned (.agg (Us (ws ((A + B) % 115792089237316195423570985008687907853269984665640564039457584007913129639936))).toArray) /\ Below w.heap.size w w':=by
 rw [<-Ve hA hB];have ha:=λk=>pT A (k:=k);have hb:=λk=>pT B (k:=k);have la:=fA A;have lb:=fA B;have hc:=sup_le ha hb;clear hA hB;generalize ws A = a at *;generalize ws B = b at *
 go_enter Tryz.func78,Tryz.ntmps78
 go_wp2
 go_loopw [7,5] (λi u wr=>∃ k : Nat,k <= 4 /\ i = .int .i64 k /\ u = .int .u64 (sup a b k : Nat) /\ Blk wr w.heap.size 91 (Us (mxl (swd a b) a k)).toArray /\ Blk wr (w.heap.size + 1) 91 (Us b).toArray /\ Blk wr (w.heap.size + 1 + 1) 91 z4 /\ Below w.heap.size w wr) (λi _ _=>4 - (intOf i).toNat)
 case atStart =>
  refine ⟨0,by omega,rfl,rfl,?_,lW w _ _ _ _,mG w _ _ _ _,(((Below.refl _ _).alloc (aH _) _).alloc (by simp) _).alloc (by simp; omega) _⟩;rw [qO];exact nK w _ _ _ _
 case round =>
  obtain ⟨k,hk,rfl,rfl,h0,h1,h2,hbel⟩:=hrel
  by_cases hlt : k < 4
  ·have hN:=nG (swd a b) a (k:=k)
   have hU : sup a b (k + 1) = (a[k]! + b[k]! + sup a b k) / 18446744073709551616:=rfl;have hS : swd a b k = (a[k]! + b[k]! + sup a b k) % 18446744073709551616:=rfl;have hg:=zE (swd a b) a (k:=k) (by omega);have c0:=(h0.drew.cell k).trans (iY (by rw [eF]; omega));rw [hg] at c0;have c1:=(h1.drew.cell k).trans (iY (by omega));have b0:=ha k hlt;have b1:=hb k hlt;have b2:=hc k (by omega);have hf:=h0.drew.free k;rw [hS] at hN;generalize a[k]! = u at *;generalize b[k]! = v at *;generalize sup a b k = c at *;have hA:=sS u v c b2
   have q2 : (0 : Int) <= (k : Int):=by omega
   have HK:=aL (a5 h0 (a5 h1 (a5 h2 (a5 hbel (a5 hN hU)))));clear h0 h1 h2 hbel hN hg hU hS ha hb hc;generalize (u + v + c) % 18446744073709551616 = s at *;generalize (u + v + c) / 18446744073709551616 = t at *
   go_wp2
   go_region_with (simp only [hA])
   all_goals (
    go_wp2
    go_roundw
    case rel =>
     obtain ⟨h0,h1,h2,hbel,hN,hU⟩:=HK.out;have h4:=h0.set k (.int .u64 ((s : Nat) : Int));rw [vJ,hN] at h4;exact ⟨k + 1,by omega,by go_num,by rw [hU],h4,h1.far (by simp) _,h2.far (by simp; omega) _,(hbel.setCell (by simp) _).drew⟩
    case measure=>simp [intOf]; omega)
  ·obtain rfl : k = 4:=by omega
   have hz : (Us (mxl (swd a b) a 4)).toArray.size = 4:=lD (by rw [eF,la])
   go_wp2_with (first
    | (refine wpList_load_row rfl 91 _ rfl w.heap.size rfl 91 (Us (mxl (swd a b) a 4)).toArray (0,0) _ h0 Tryz.underlying91 rfl (yP _ hz) ?_)
    | (refine wpList_store_row rfl 91 _ _ rfl (w.heap.size + 1 + 1) rfl (Us (mxl (swd a b) a 4)).toArray rfl 91 _ h2 (yP _ hz) (by rw [hz]; rfl) (cO _) ?_))
   refine bodyPost_ret (results_cell_row rfl _ _ (w.heap.size + 1 + 1) 91 (Us (mxl (swd a b) a 4)).toArray (0,0) _ rfl (h2.row _) Tryz.underlying91 rfl (yP _ hz)) rfl ⟨rfl,?_⟩;exact below_setRow hbel (by omega) _
theorem WZ : ws LL = [6346243789798364141,1503914060200516822,0,1152921504606846976]:=by decide
theorem xG (a b c d : Nat) : (Us [a,b,c,d]).toArray = #[.int .u64 (a : Int),.int .u64 (b : Int),.int .u64 (c : Int),.int .u64 (d : Int)]:=rfl
theorem VR (a : Nat) (ha : a < 18446744073709551616) : bits .and .u64 (a : Int) 1152921504606846975 = ((a % 1152921504606846976 : Nat) : Int):=by
 have h:=u64_and_nat a 1152921504606846975 ha (by omega);have e : a &&& 1152921504606846975 = a % 1152921504606846976:=Nat.and_two_pow_sub_one_eq_mod a 60;rw [e] at h;exact h
theorem UC {v0 v1 v2 v3 u : Nat} (h0 : v0 < 18446744073709551616) (h1 : v1 < 18446744073709551616) (h2 : v2 < 18446744073709551616) (h3 : v3 < 18446744073709551616) (hu : u < 1073741824) (w : World) :
  Calls Tryz.prog 79 #[.agg (Us [v0,v1,v2,v3,u]).toArray] w λe w'=>e = .returned (.agg (Us (ws ((v4 v0 v1 v2 v3 + 115792089237316195423570985008687907853269984665640564039457584007913129639936 * u) % LL))).toArray) /\ Below w.heap.size w w':=by
 obtain ⟨t,ht⟩ : ∃ t,t = u * 16 + v3 / 1152921504606846976:=⟨_,rfl⟩
 have htb : t < 34359738368:=by omega
 have qt : bits .or .u64 ((u : Int) * 16) ((v3 : Int) / 1152921504606846976) = (t : Int):=by
  have e:=orW 4 (u * 16) (v3 / 1152921504606846976) (by omega) (by omega) (by omega) (by omega);rw [ht,<-e]
  rfl
 have HM0:=λw1=>aL (wG t 6346243789798364141 (by omega) (by omega) w1);have HM1:=λw1=>aL (wG t 1503914060200516822 (by omega) (by omega) w1);obtain ⟨V,hV⟩ : ∃ V,V = v4 v0 v1 v2 v3 + 115792089237316195423570985008687907853269984665640564039457584007913129639936 * u:=⟨_,rfl⟩;rw [<-hV]
 have hV2 : V = v4 v0 v1 v2 (v3 % 1152921504606846976) + 7237005577332262213973186563042994240829374041602535252466099000494570602496 * t:=by
  rw [hV,ht]
  unfold v4
  omega
 have q3:=VR v3 h3
 have hv3 : v3 % 1152921504606846976 < 1152921504606846976:=by omega
 obtain ⟨m0,hm0⟩ : ∃ m,m = t * 6346243789798364141:=⟨_,rfl⟩;obtain ⟨m1,hm1⟩ : ∃ m,m = t * 1503914060200516822:=⟨_,rfl⟩;rw [<-hm0] at HM0;rw [<-hm1] at HM1;obtain ⟨p1,hp1⟩ : ∃ p,p = m1 % 18446744073709551616 + m0 / 18446744073709551616:=⟨_,rfl⟩
 have hA : ∀ w1,(callFunc 99 #[.int .u64 ((m1 % 18446744073709551616 : Nat) : Int),.int .u64 ((m0 / 18446744073709551616 : Nat) : Int),.int .u64 0]).run Tryz.prog w1 = .ok (.value (.tuple #[.int .u64 ((p1 % 18446744073709551616 : Nat) : Int),.int .u64 ((p1 / 18446744073709551616 : Nat) : Int)])) w1:=by
  rw [hp1];exact λw1=>sS (m1 % 18446744073709551616) (m0 / 18446744073709551616) 0 (by omega) w1
 have qd : IntKind.u64.wrap (((m1 / 18446744073709551616 : Nat) : Int) + ((p1 / 18446744073709551616 : Nat) : Int)) = ((m1 / 18446744073709551616 + p1 / 18446744073709551616 : Nat) : Int):=by
  rw [aP]
  omega
 obtain ⟨r0,l0,hr0,hl0,H0⟩ : ∃ r0 l0 : Nat,r0 = (v0 + 18446744073709551616 - m0 % 18446744073709551616 - 0) % 18446744073709551616 /\ l0 = (if v0 < m0 % 18446744073709551616 + 0 then 1 else 0) /\
   ∀ w1,(callFunc 101 #[.int .u64 (v0 : Int),.int .u64 ((m0 % 18446744073709551616 : Nat) : Int),.int .u64 0]).run Tryz.prog w1 = .ok (.value (.tuple #[.int .u64 (r0 : Int),.int .u64 (l0 : Int)])) w1 :=
  ⟨_,_,rfl,rfl,λw1=>vU v0 (m0 % 18446744073709551616) 0 (by omega) w1⟩
 have b0 : l0 <= 1:=by rw [hl0]; split <;> omega
 obtain ⟨r1,l1,hr1,hl1,H1⟩ : ∃ r1 l1 : Nat,r1 = (v1 + 18446744073709551616 - p1 % 18446744073709551616 - l0) % 18446744073709551616 /\ l1 = (if v1 < p1 % 18446744073709551616 + l0 then 1 else 0) /\
   ∀ w1,(callFunc 101 #[.int .u64 (v1 : Int),.int .u64 ((p1 % 18446744073709551616 : Nat) : Int),.int .u64 (l0 : Int)]).run Tryz.prog w1 = .ok (.value (.tuple #[.int .u64 (r1 : Int),.int .u64 (l1 : Int)])) w1 :=
  ⟨_,_,rfl,rfl,λw1=>vU v1 (p1 % 18446744073709551616) l0 b0 w1⟩
 have b1 : l1 <= 1:=by rw [hl1]; split <;> omega
 obtain ⟨r2,l2,hr2,hl2,H2⟩ : ∃ r2 l2 : Nat,r2 = (v2 + 18446744073709551616 - (m1 / 18446744073709551616 + p1 / 18446744073709551616) - l1) % 18446744073709551616 /\ l2 = (if v2 < m1 / 18446744073709551616 + p1 / 18446744073709551616 + l1 then 1 else 0) /\
   ∀ w1,(callFunc 101 #[.int .u64 (v2 : Int),.int .u64 ((m1 / 18446744073709551616 + p1 / 18446744073709551616 : Nat) : Int),.int .u64 (l1 : Int)]).run Tryz.prog w1 = .ok (.value (.tuple #[.int .u64 (r2 : Int),.int .u64 (l2 : Int)])) w1 :=
  ⟨_,_,rfl,rfl,λw1=>vU v2 (m1 / 18446744073709551616 + p1 / 18446744073709551616) l1 b1 w1⟩
 have b2 : l2 <= 1:=by rw [hl2]; split <;> omega
 obtain ⟨r3,l3,hr3,hl3,H3⟩ : ∃ r3 l3 : Nat,r3 = (v3 % 1152921504606846976 + 18446744073709551616 - 0 - l2) % 18446744073709551616 /\ l3 = (if v3 % 1152921504606846976 < 0 + l2 then 1 else 0) /\
   ∀ w1,(callFunc 101 #[.int .u64 ((v3 % 1152921504606846976 : Nat) : Int),.int .u64 0,.int .u64 (l2 : Int)]).run Tryz.prog w1 = .ok (.value (.tuple #[.int .u64 (r3 : Int),.int .u64 (l3 : Int)])) w1 :=
  ⟨_,_,rfl,rfl,λw1=>vU (v3 % 1152921504606846976) 0 l2 b2 w1⟩
 obtain ⟨e0,e1,b3,_,_,_,c0,c1,c2,c3⟩:=Vz (V:=V) h0 h1 h2 hv3 htb hm0 hm1 hp1 hl0 hr0 hl1 hr1 hl2 hr2 hl3 hr3 hV2
 have hR : v4 r0 r1 r2 r3 < 115792089237316195423570985008687907853269984665640564039457584007913129639936:=by unfold v4; omega
 have HW:=λw1=>NR hR (B:=LL) (by rw [zZ]; omega) w1;rw [NT c0 c1 c2 c3,WZ,xG,xG] at HW;have hwR:=NT c0 c1 c2 c3;clear hm0 hm1 hp1 hl0 hr0 hl1 hr1 hl2 hr2 hl3 hr3 hV2 hV ht htb;generalize hmh0 : m0 / 18446744073709551616 = mh0 at *;generalize hml0 : m0 % 18446744073709551616 = ml0 at *;generalize hmh1 : m1 / 18446744073709551616 = mh1 at *;generalize hml1 : m1 % 18446744073709551616 = ml1 at *;generalize hph1 : p1 / 18446744073709551616 = ph1 at *;generalize hpl1 : p1 % 18446744073709551616 = pl1 at *;generalize mh1 + ph1 = d at *;generalize v3 % 1152921504606846976 = v3' at *;clear hmh0 hml0 hmh1 hml1 hph1 hpl1;have e0' : (Us [v0,v1,v2,v3,u]).toArray = #[.int .u64 (v0 : Int),.int .u64 (v1 : Int),.int .u64 (v2 : Int),.int .u64 (v3 : Int),.int .u64 (u : Int)]:=rfl;rw [e0'];clear e0'
 rcases (show l3 = 0 \/ l3 = 1 by omega) with rfl | rfl
 ·have hF:=e0 rfl
  rw [<-hF,hwR,xG];have HK:=aL (a5 hF hR);clear e0 e1 HW hF hR hwR
  go_enter Tryz.func79,Tryz.ntmps79
  go_wp2_with (fail)
  refine (HM0 _).out.mono ?_
  rintro e w1 ⟨rfl,rfl⟩
  go_wp2_with (fail)
  refine (HM1 _).out.mono ?_
  rintro e w1 ⟨rfl,rfl⟩
  go_wp2_with (fail)
  refine bodyPost_ret (results_cell_row rfl _ _ (w.heap.size + 1) 93 _ (0,0) _ rfl (lW w _ _ _ _) Tryz.underlying93 rfl (fP _ rfl)) rfl ⟨rfl,?_⟩;exact (((Below.refl _ _).alloc (aH _) _).alloc (by simp) _).alloc (by simp; omega) _
 ·have hF:=e1 rfl
  rw [hF] at HW;rw [<-hF];have hn : V % LL < 115792089237316195423570985008687907853269984665640564039457584007913129639936:=Ab (eJ _ (by decide)) (by decide);rw [hF];obtain ⟨x0,x1,x2,x3,_,hx,_⟩:=uJ hn;rw [hx,xG] at HW ⊢;have HW:=λw1=>aL (HW w1);clear e0 e1 hF hR hwR hx hn
  go_enter Tryz.func79,Tryz.ntmps79
  go_wp2_with (fail)
  refine (HM0 _).out.mono ?_
  rintro e w1 ⟨rfl,rfl⟩
  go_wp2_with (fail)
  refine (HM1 _).out.mono ?_
  rintro e w1 ⟨rfl,rfl⟩
  go_wp2_with (fail)
  refine (HW _).out.mono ?_
  rintro e w1 ⟨rfl,hw1⟩
  have k1:=(lW w 93 (Us [0,0,0,0]).toArray (.cells (Us [v0,v1,v2,v3,u]).toArray 114) (.cells (Us [r0,r1,r2,r3]).toArray 91)).later hw1;have k2:=(mG w 91 (Us [r0,r1,r2,r3]).toArray (.cells (Us [v0,v1,v2,v3,u]).toArray 114) (.cells (Us [0,0,0,0]).toArray 93)).later hw1;have hbe:=bA ((((Below.refl w.heap.size w).alloc (aH _) _).alloc (by simp) _).alloc (by simp; omega) _) hw1;have k1':=k1.aT (g':=w.heap.size + 1 + 1) (by omega) (Us [x0,x1,x2,x3]).toArray;have k2':=k2.row (Us [x0,x1,x2,x3]).toArray;have hbe':=below_setRow hbe (g:=w.heap.size + 1 + 1) (cs:=(Us [x0,x1,x2,x3]).toArray) (by omega);clear hw1
  go_wp2_with (first
   | (refine wpList_store_row rfl 91 _ _ rfl (w.heap.size + 1 + 1) rfl (Us [x0,x1,x2,x3]).toArray rfl 91 _ k2 (yP _ rfl) rfl (cO _) ?_)
   | (refine wpList_load_row rfl 91 _ rfl (w.heap.size + 1 + 1) rfl 91 #[.int .u64 (x0 : Int),.int .u64 (x1 : Int),.int .u64 (x2 : Int),.int .u64 (x3 : Int)] (0,0) _ k2' Tryz.underlying91 rfl (yP _ rfl) ?_)
   | (refine wpList_store_row rfl 93 _ _ rfl (w.heap.size + 1) rfl (Us [x0,x1,x2,x3]).toArray rfl 93 _ k1' (fP _ rfl) rfl (cO _) ?_))
  refine bodyPost_ret (results_cell_row rfl _ _ (w.heap.size + 1) 93 (Us [x0,x1,x2,x3]).toArray (0,0) _ rfl (k1'.row _) Tryz.underlying93 rfl (fP _ rfl)) rfl ⟨rfl,?_⟩;exact below_setRow hbe' (by omega) _
end Go.Proofs.YtfkchihlchlfdaaGreatDoor
namespace Nums
def upw (a : List Nat) : Nat -> Nat
  | 0=>0
  | k + 1=>a[k]! / 4294967296
def ful (a b : List Nat) (h : Nat) : Nat -> Nat
  | 0=>0
  | k + 1=>(b[k]! * h + ful a b h k + (a[k]! % 4294967296 * 4294967296 + upw a k)) / 18446744073709551616
def nxw (a b : List Nat) (h k : Nat) : Nat:=(b[k]! * h + ful a b h k + (a[k]! % 4294967296 * 4294967296 + upw a k)) % 18446744073709551616
theorem N4 {a : List Nat} (ha : ∀ k,k < 4 -> a[k]! < 18446744073709551616) : ∀ k,k <= 4 -> upw a k < 4294967296
 | 0,_=>by
  show 0 < 4294967296
  decide
 | k + 1,hk=>by
  have:=ha k (by omega)
  show a[k]! / 4294967296 < 4294967296
  omega
theorem UD {b h : Nat} (hb : b < 18446744073709551616) (hh : h < 4294967296) : b * h <= 18446744073709551615 * 4294967295:=m9 (by omega) (by omega)
theorem Qz {a b : List Nat} {h : Nat} (ha : ∀ k,k < 4 -> a[k]! < 18446744073709551616) (hb : ∀ k,k < 4 -> b[k]! < 18446744073709551616) (hh : h < 4294967296) : ∀ k,k <= 4 -> ful a b h k < 8589934592
 | 0,_=>by
  show 0 < 8589934592
  decide
 | k + 1,hk=>by
  have h0:=Qz ha hb hh k (by omega);have h1:=N4 ha k (by omega);have h2:=ha k (by omega);have h3:=UD (hb k (by omega)) hh
  show (b[k]! * h + ful a b h k + (a[k]! % 4294967296 * 4294967296 + upw a k)) / 18446744073709551616 < 8589934592
  omega
theorem YA (f : Nat -> Nat) (a0 a1 a2 a3 a4 : Nat) : mxl f [a0,a1,a2,a3,a4] 4 = [f 0,f 1,f 2,f 3,a4]:=rfl
theorem Tj {A B h : Nat} (hA : A < 115792089237316195423570985008687907853269984665640564039457584007913129639936) (hB : B < 115792089237316195423570985008687907853269984665640564039457584007913129639936) :
  v4 (nxw (ws A) (ws B) h 0) (nxw (ws A) (ws B) h 1) (nxw (ws A) (ws B) h 2) (nxw (ws A) (ws B) h 3) + 115792089237316195423570985008687907853269984665640564039457584007913129639936 * (ful (ws A) (ws B) h 4 + upw (ws A) 4) = 4294967296 * A + B * h:=by
 obtain ⟨a0,a1,a2,a3,eA,wA,p0,p1,p2,p3⟩:=uJ hA;obtain ⟨b0,b1,b2,b3,eB,wB,q0,q1,q2,q3⟩:=uJ hB;rw [wA,wB];have u0 : upw [a0,a1,a2,a3] 0 = 0:=rfl;have u1 : upw [a0,a1,a2,a3] 1 = a0 / 4294967296:=rfl;have u2 : upw [a0,a1,a2,a3] 2 = a1 / 4294967296:=rfl;have u3 : upw [a0,a1,a2,a3] 3 = a2 / 4294967296:=rfl;have u4 : upw [a0,a1,a2,a3] 4 = a3 / 4294967296:=rfl;have f0 : ful [a0,a1,a2,a3] [b0,b1,b2,b3] h 0 = 0:=rfl;have f1 : ful [a0,a1,a2,a3] [b0,b1,b2,b3] h 1 = (b0 * h + ful [a0,a1,a2,a3] [b0,b1,b2,b3] h 0 + (a0 % 4294967296 * 4294967296 + upw [a0,a1,a2,a3] 0)) / 18446744073709551616:=rfl;have f2 : ful [a0,a1,a2,a3] [b0,b1,b2,b3] h 2 = (b1 * h + ful [a0,a1,a2,a3] [b0,b1,b2,b3] h 1 + (a1 % 4294967296 * 4294967296 + upw [a0,a1,a2,a3] 1)) / 18446744073709551616:=rfl;have f3 : ful [a0,a1,a2,a3] [b0,b1,b2,b3] h 3 = (b2 * h + ful [a0,a1,a2,a3] [b0,b1,b2,b3] h 2 + (a2 % 4294967296 * 4294967296 + upw [a0,a1,a2,a3] 2)) / 18446744073709551616:=rfl;have f4 : ful [a0,a1,a2,a3] [b0,b1,b2,b3] h 4 = (b3 * h + ful [a0,a1,a2,a3] [b0,b1,b2,b3] h 3 + (a3 % 4294967296 * 4294967296 + upw [a0,a1,a2,a3] 3)) / 18446744073709551616:=rfl;have n0 : nxw [a0,a1,a2,a3] [b0,b1,b2,b3] h 0 = (b0 * h + ful [a0,a1,a2,a3] [b0,b1,b2,b3] h 0 + (a0 % 4294967296 * 4294967296 + upw [a0,a1,a2,a3] 0)) % 18446744073709551616:=rfl;have n1 : nxw [a0,a1,a2,a3] [b0,b1,b2,b3] h 1 = (b1 * h + ful [a0,a1,a2,a3] [b0,b1,b2,b3] h 1 + (a1 % 4294967296 * 4294967296 + upw [a0,a1,a2,a3] 1)) % 18446744073709551616:=rfl;have n2 : nxw [a0,a1,a2,a3] [b0,b1,b2,b3] h 2 = (b2 * h + ful [a0,a1,a2,a3] [b0,b1,b2,b3] h 2 + (a2 % 4294967296 * 4294967296 + upw [a0,a1,a2,a3] 2)) % 18446744073709551616:=rfl;have n3 : nxw [a0,a1,a2,a3] [b0,b1,b2,b3] h 3 = (b3 * h + ful [a0,a1,a2,a3] [b0,b1,b2,b3] h 3 + (a3 % 4294967296 * 4294967296 + upw [a0,a1,a2,a3] 3)) % 18446744073709551616:=rfl
 have eBh : B * h = b0 * h + 18446744073709551616 * (b1 * h) + 340282366920938463463374607431768211456 * (b2 * h) + 6277101735386680763835789423207666416102355444464034512896 * (b3 * h):=by
  rw [eB]
  unfold v4
  grind only
 rw [eBh,eA];generalize nxw [a0,a1,a2,a3] [b0,b1,b2,b3] h 0 = x0 at *;generalize nxw [a0,a1,a2,a3] [b0,b1,b2,b3] h 1 = x1 at *;generalize nxw [a0,a1,a2,a3] [b0,b1,b2,b3] h 2 = x2 at *;generalize nxw [a0,a1,a2,a3] [b0,b1,b2,b3] h 3 = x3 at *;generalize ful [a0,a1,a2,a3] [b0,b1,b2,b3] h 0 = c0 at *;generalize ful [a0,a1,a2,a3] [b0,b1,b2,b3] h 1 = c1 at *;generalize ful [a0,a1,a2,a3] [b0,b1,b2,b3] h 2 = c2 at *;generalize ful [a0,a1,a2,a3] [b0,b1,b2,b3] h 3 = c3 at *;generalize ful [a0,a1,a2,a3] [b0,b1,b2,b3] h 4 = c4 at *;generalize upw [a0,a1,a2,a3] 0 = y0 at *;generalize upw [a0,a1,a2,a3] 1 = y1 at *;generalize upw [a0,a1,a2,a3] 2 = y2 at *;generalize upw [a0,a1,a2,a3] 3 = y3 at *;generalize upw [a0,a1,a2,a3] 4 = y4 at *;generalize b0 * h = z0 at *;generalize b1 * h = z1 at *;generalize b2 * h = z2 at *;generalize b3 * h = z3 at *;clear eBh eA eB wA wB hA hB q0 q1 q2 q3
 unfold v4
 omega
end Nums
namespace Go.Proofs.YtfkchihlchlfdaaGreatDoor
open Go.RowKit Go.IntWalk Nums
theorem Sl (cs : Array Value) (h : cs.size = 5) : (Tryz.prog.info? 114).map (·.size) = some cs.size:=by
 rw [h]
 kernel_rfl
structure NS (w wr : World) (a b l : List Nat) : Prop where
  ba : Blk wr w.heap.size 93 (Us a).toArray
  bb : Blk wr (w.heap.size + 1) 93 (Us b).toArray
  bo : Blk wr (w.heap.size + 1 + 1) 93 z4
  bv : Blk wr (w.heap.size + 1 + 1 + 1) 114 (Us l).toArray
  be : Below w.heap.size w wr
theorem NS.set {w wr : World} {a b l : List Nat} (h : NS w wr a b l) (k x : Nat) : NS w (wr.setCell ⟨w.heap.size + 1 + 1 + 1,k,none⟩ (.int .u64 (x : Int))) a b (l.set k x) where
 ba:=h.ba.far (by show w.heap.size ≠ w.heap.size + 1 + 1 + 1; omega) _
 bb:=h.bb.far (by show w.heap.size + 1 ≠ w.heap.size + 1 + 1 + 1; omega) _
 bo:=h.bo.far (by show w.heap.size + 1 + 1 ≠ w.heap.size + 1 + 1 + 1; omega) _
 bv:=by
  have h4:=h.bv.set k (.int .u64 (x : Int))
  rwa [vJ] at h4
 be:=h.be.setCell (by show w.heap.size <= w.heap.size + 1 + 1 + 1; omega) _
theorem PR {A B h : Nat} (hA : A < LL) (hB : B < LL) (hh : h < 4294967296) (w : World) :
  Calls Tryz.prog 80 #[.agg (Us (ws A)).toArray,.agg (Us (ws B)).toArray,.int .u64 (h : Int)] w λe w'=>e = .returned (.agg (Us (ws ((4294967296 * A + B * h) % LL))).toArray) /\ Below w.heap.size w w':=by
 have hA2 : A < 115792089237316195423570985008687907853269984665640564039457584007913129639936:=Ab hA (by decide);have hB2 : B < 115792089237316195423570985008687907853269984665640564039457584007913129639936:=Ab hB (by decide);have hE:=Tj (h:=h) hA2 hB2;have ha:=λk=>pT A (k:=k);have hb:=λk=>pT B (k:=k);have la:=fA A;have lb:=fA B;have hf:=Qz ha hb hh;have hu:=N4 ha;have hn : ∀ k,nxw (ws A) (ws B) h k < 18446744073709551616:=λk=>eJ _ (by decide);have hBh : B * h <= LL * 4294967296:=m9 (fJ hB) (fJ hh)
 have hR:=λw1=>UC (hn 0) (hn 1) (hn 2) (hn 3) (u:=ful (ws A) (ws B) h 4 + upw (ws A) 4) (by
  unfold v4 at hE
  rw [zZ] at hA hB hBh;generalize B * h = z at *
  omega) w1
 rw [hE] at hR;generalize (4294967296 * A + B * h) % LL = res at *;clear hE hBh hA2 hB2 hn hA hB;generalize ws A = a at *;generalize ws B = b at *;have hR:=aL hR
 go_enter Tryz.func80,Tryz.ntmps80
 go_wp2
 go_loopw [14,8,9] (λi u8 u9 wr=>∃ k : Nat,k <= 4 /\ i = .int .i64 k /\ u8 = .int .u64 (upw a k : Nat) /\ u9 = .int .u64 (ful a b h k : Nat) /\ NS w wr a b (mxl (nxw a b h) [0,0,0,0,0] k)) (λi _ _ _=>4 - (intOf i).toNat)
 case atStart =>
  refine ⟨0,by omega,rfl,rfl,rfl,?_,?_,?_,?_,?_⟩
  ·exact Rm w _ _ _ _ _
  ·exact Rl w _ _ _ _ _
  ·exact Rk w _ _ _ _ _
  ·exact Rj w _ _ _ _ _
  ·exact Rn w _ _ _ _
 case round =>
  obtain ⟨k,hk,rfl,rfl,rfl,hS⟩:=hrel
  by_cases hlt : k < 4
  ·have hN:=hS.set k (nxw a b h k)
   rw [nG] at hN;have hU : upw a (k + 1) = a[k]! / 4294967296:=rfl;have hF : ful a b h (k + 1) = (b[k]! * h + ful a b h k + (a[k]! % 4294967296 * 4294967296 + upw a k)) / 18446744073709551616:=rfl;have hX : nxw a b h k = (b[k]! * h + ful a b h k + (a[k]! % 4294967296 * 4294967296 + upw a k)) % 18446744073709551616:=rfl;have c0:=(hS.ba.cell k).trans (iY (by omega));have c1:=(hS.bb.cell k).trans (iY (by omega));have c2:=(hS.bv.cell k).trans (iY (by rw [eF]; simp; omega));have c3:=hS.bv.free k;have b0:=ha k hlt;have b1:=hb k hlt;have b2:=hf k (by omega);have b3:=hu k (by omega);have b4:=UD b1 hh;have b5:=hf (k + 1) (by omega);rw [hF] at b5;generalize (mxl (nxw a b h) [0,0,0,0,0] k)[k]! = old at *;generalize a[k]! = u at *;generalize b[k]! = v at *;generalize upw a k = y at *;generalize ful a b h k = c at *;generalize nxw a b h k = x at *;have HM:=λw1=>aL (wG v h b1 (by omega) w1);generalize v * h = z at *;have hA1:=λw1=>sS (z % 18446744073709551616) c 0 (by omega) w1
   have q1 : IntKind.u64.wrap (((z / 18446744073709551616 : Nat) : Int) + (((z % 18446744073709551616 + c + 0) / 18446744073709551616 : Nat) : Int)) = ((z / 18446744073709551616 + (z % 18446744073709551616 + c + 0) / 18446744073709551616 : Nat) : Int):=by
    rw [aP]
    omega
   have q2 : bits .or .u64 (IntKind.u64.wrap ((u : Int) * 4294967296)) (y : Int) = ((u % 4294967296 * 4294967296 + y : Nat) : Int):=by
    have e1 : IntKind.u64.wrap ((u : Int) * 4294967296) = ((u % 4294967296 * 4294967296 : Nat) : Int):=by
     rw [aP]
     omega
    rw [e1];exact orW 32 _ _ (by omega) (by omega) (by omega) (by omega)
   have hA2:=λw1=>sS ((z % 18446744073709551616 + c + 0) % 18446744073709551616) (u % 4294967296 * 4294967296 + y) 0 (by omega) w1
   have q3 : IntKind.u64.wrap (((z / 18446744073709551616 + (z % 18446744073709551616 + c + 0) / 18446744073709551616 : Nat) : Int) + ((((z % 18446744073709551616 + c + 0) % 18446744073709551616 + (u % 4294967296 * 4294967296 + y) + 0) / 18446744073709551616 : Nat) : Int)) = (((z + c + (u % 4294967296 * 4294967296 + y)) / 18446744073709551616 : Nat) : Int):=by
    rw [aP]
    omega
   have e4 : ((z % 18446744073709551616 + c + 0) % 18446744073709551616 + (u % 4294967296 * 4294967296 + y) + 0) % 18446744073709551616 = x:=by omega
   have q5 : (0 : Int) <= (k : Int):=by omega
   have q6 : (u : Int) / 4294967296 = ((u / 4294967296 : Nat) : Int):=Q3 u;rw [e4] at hA2;have HK:=aL (a5 hN (a5 hU hF));clear hN hU hF hX hS b4 b5 b2 b3 e4 b0 b1 hf hu ha hb;generalize (z + c + (u % 4294967296 * 4294967296 + y)) / 18446744073709551616 = n9 at *;generalize ((z % 18446744073709551616 + c + 0) % 18446744073709551616 + (u % 4294967296 * 4294967296 + y) + 0) / 18446744073709551616 = m1 at *;generalize u % 4294967296 * 4294967296 + y = m2 at *;generalize z / 18446744073709551616 + (z % 18446744073709551616 + c + 0) / 18446744073709551616 = m3 at *;generalize (z % 18446744073709551616 + c + 0) % 18446744073709551616 = m4 at *;generalize (z % 18446744073709551616 + c + 0) / 18446744073709551616 = m5 at *;generalize z % 18446744073709551616 = m6 at *;generalize z / 18446744073709551616 = m7 at *;generalize u / 4294967296 = m8 at *;replace hA1 : ∀ w1,(callFunc 99 #[.int .u64 (m6 : Int),.int .u64 (c : Int),.int .u64 0]).run Tryz.prog w1 = .ok (.value (.tuple #[.int .u64 (m4 : Int),.int .u64 (m5 : Int)])) w1:=hA1;replace hA2 : ∀ w1,(callFunc 99 #[.int .u64 (m4 : Int),.int .u64 (m2 : Int),.int .u64 0]).run Tryz.prog w1 = .ok (.value (.tuple #[.int .u64 (x : Int),.int .u64 (m1 : Int)])) w1:=hA2
   go_wp2_with (fail)
   refine (HM _).out.mono ?_
   rintro e w1 ⟨rfl,rfl⟩
   go_wp2
   go_roundw
   case rel =>
    obtain ⟨hN,hU,hF⟩:=HK.out;exact ⟨k + 1,by omega,by go_num,by rw [hU],by rw [hF],hN⟩
   case measure=>simp [intOf]; omega
  ·obtain rfl : k = 4:=by omega
   have b2:=hf 4 (by omega);have b3:=hu 4 (by omega);have e5 : mxl (nxw a b h) [0,0,0,0,0] 4 = [nxw a b h 0,nxw a b h 1,nxw a b h 2,nxw a b h 3,0]:=YA _ _ _ _ _ _;rw [e5] at hS;have hN:=hS.set 4 (ful a b h 4 + upw a 4);have c2:=(hS.bv.cell 4).trans (iY (by simp));have c3:=hS.bv.free 4
   have q1 : IntKind.u64.wrap (((ful a b h 4 : Nat) : Int) + ((upw a 4 : Nat) : Int)) = ((ful a b h 4 + upw a 4 : Nat) : Int):=by
    rw [aP]
    omega
   have e6 : [nxw a b h 0,nxw a b h 1,nxw a b h 2,nxw a b h 3,0].set 4 (ful a b h 4 + upw a 4) = [nxw a b h 0,nxw a b h 1,nxw a b h 2,nxw a b h 3,ful a b h 4 + upw a 4]:=rfl;rw [e6] at hN;clear e5 e6 hf hu ha hb b2 b3 hS;generalize ful a b h 4 + upw a 4 = s at *;generalize ful a b h 4 = f4 at *;generalize upw a 4 = u4 at *;have hbv:=hN.bv;generalize hl : (Us [nxw a b h 0,nxw a b h 1,nxw a b h 2,nxw a b h 3,s]).toArray = cs at *
   have hcs : cs.size = 5:=by rw [<-hl]; rfl
   have HN:=aL hN;clear hN hl
   go_wp2_with (refine wpList_load_row rfl 114 _ rfl (w.heap.size + 1 + 1 + 1) rfl 114 cs (0,0) _ hbv Tryz.underlying114 rfl (Sl _ hcs) ?_)
   refine (hR.out _).mono ?_
   rintro e w1 ⟨rfl,hw1⟩
   have hN:=HN.out;have ho:=hN.bo.later hw1;have hbe:=bA hN.be hw1;have hz:=lD (fA res);clear hN HN hw1 hR
   go_wp2_with (refine wpList_store_row rfl 93 _ _ rfl (w.heap.size + 1 + 1) rfl (Us (ws res)).toArray rfl 93 _ ho (fP _ hz) (by rw [hz]; rfl) (cO _) ?_)
   refine bodyPost_ret (results_cell_row rfl _ _ (w.heap.size + 1 + 1) 93 (Us (ws res)).toArray (0,0) _ rfl (ho.row _) Tryz.underlying93 rfl (fP _ hz)) rfl ⟨rfl,?_⟩;exact below_setRow hbe (by omega) _
theorem Hg : Own 80:=λ_ _=>by go_simp
theorem Oq (cs : Array Value) (h : cs.size = 64) : (Tryz.prog.info? 38).map (·.size) = some cs.size:=by
 rw [h]
 kernel_rfl
theorem Lj {l : List UInt8} (h : l.length = 64) : (By l).toArray.size = 64:=by rw [a9,cD,h]
theorem P5 {l : List UInt8} {i : Nat} (h : i + 4 <= l.length) : le (l.drop i) = (l[i]!).toNat + 256 * (l[i + 1]!).toNat + 65536 * (l[i + 2]!).toNat + 16777216 * (l[i + 3]!).toNat + 4294967296 * le (l.drop (i + 4)):=by
 have e : ∀ k k',k < l.length -> k' = k + 1 -> le (l.drop k) = (l[k]!).toNat + 256 * le (l.drop k'):=λk k' hk h=>by
  rw [h,List.drop_eq_getElem_cons hk,getElem!_pos l k hk]
  rfl
 have e0:=e i (i + 1) (by omega) rfl;have e1:=e (i + 1) (i + 2) (by omega) rfl;have e2:=e (i + 2) (i + 3) (by omega) rfl;have e3:=e (i + 3) (i + 4) (by omega) rfl;rw [e0,e1,e2,e3]
 omega
theorem orL (i x y : Nat) (hx : x < 2 ^ i) (hy : y % 2 ^ i = 0) (h1 : x < 18446744073709551616) (h2 : y < 18446744073709551616) : bits .or .u64 (x : Int) (y : Int) = ((x + y : Nat) : Int):=by
 rw [u64_or_nat x y h1 h2,Nat.or_comm,nat_join i y x hy hx,uB]
theorem Mc (X h L : Nat) : (4294967296 * (X % L) + 1 * h) % L = (h + 4294967296 * X) % L:=by
 rw [Nat.one_mul,uB h,oO,Gb,<-oO]
structure WS (w wr : World) (l : List UInt8) (n : Nat) : Prop where
  b0 : Blk wr w.heap.size 38 (By l).toArray
  b1 : Blk wr (w.heap.size + 1) 93 z4
  b2 : Blk wr (w.heap.size + 1 + 1) 93 (Us (ws n)).toArray
  be : Below w.heap.size w wr
theorem WS.drew {w wr : World} {l : List UInt8} {n : Nat} (h : WS w wr l n) : WS w wr.drew l n:=⟨h.b0,h.b1,h.b2,h.be.drew⟩
theorem WS.up {w wr w1 : World} {l : List UInt8} {n : Nat} (h : WS w wr l n) (k : Up wr w1) : WS w w1 l n:=⟨k.blk h.b0,k.blk h.b1,k.blk h.b2,bA h.be k⟩
theorem WS.set {w wr : World} {l : List UInt8} {n : Nat} (h : WS w wr l n) (m : Nat) : WS w (wr.setRow (w.heap.size + 1 + 1) (Us (ws m)).toArray) l m :=
 ⟨h.b0.aT (by omega) _,h.b1.aT (by omega) _,h.b2.row _,below_setRow h.be (by omega) _⟩
theorem Yo : ws 1 = [1,0,0,0]:=by decide
theorem I3 {l : List UInt8} (hl : l.length = 64) (w : World) :
  Calls Tryz.prog 69 #[.agg (By l).toArray] w λe w'=>e = .returned (.agg (Us (ws (le l % LL))).toArray) /\ Below w.heap.size w w':=by
 have hz:=Lj hl
 go_enter Tryz.func69,Tryz.ntmps69
 refine wp_seq_k λK hK=>?_;refine wp_region_lit ?_;refine kI (By l).toArray rfl rfl rfl ?_;refine dV (zs:=z4) rfl rfl (by kernel_rfl) ?_;refine dX ?_
 go_simp
 refine hK _ _ ?_;clear hK K;refine wp_seq_k λK hK=>?_;refine wp_region_lit ?_;refine dV (zs:=z4) rfl rfl (by kernel_rfl) ?_;refine dX ?_
 go_simp
 refine hK _ _ ?_;clear hK K;refine p9 (λW=>WS w W l 0) ⟨nK w _ _ _ _,lW w _ _ _ _,mG w _ _ _ _,(((Below.refl _ _).alloc (aH _) _).alloc (by simp) _).alloc (by simp; omega) _⟩ ?_
 intro W hW
 have HW:=aL hW;clear hW
 go_wp2
 go_loopw [4] (λi wr=>∃ k : Nat,k <= 16 /\ i = .int .i64 (4 * (k : Int) - 4) /\ WS w wr l (le (l.drop (4 * k)) % LL)) (λi _=>(intOf i + 4).toNat)
 case atStart =>
  refine ⟨16,by omega,rfl,?_⟩;rw [List.drop_of_length_le (by omega)];exact HW.out
 case round =>
  clear HW;obtain ⟨k,hk,rfl,hS⟩:=hrel
  by_cases hlt : 0 < k
  ·obtain ⟨i,rfl⟩ : ∃ i,k = i + 1:=⟨k - 1,by omega⟩
   have e0 : 4 * ((i + 1 : Nat) : Int) - 4 = ((4 * i : Nat) : Int):=by omega
   rw [e0];have hle:=P5 (l:=l) (i:=4 * i) (by omega)
   have e4 : 4 * (i + 1) = 4 * i + 4:=by omega
   rw [e4] at hS;have hn:=λw1 h hh=>PR (A:=le (l.drop (4 * i + 4)) % LL) (B:=1) (h:=h) (eJ _ (by decide)) (by decide) hh w1;rw [Yo,xG] at hn;have c0:=(hS.b0.cell (4 * i)).trans (gJ (by omega));have c1:=(hS.b0.cell (4 * i + 1)).trans (gJ (by omega));have c2:=(hS.b0.cell (4 * i + 2)).trans (gJ (by omega));have c3:=(hS.b0.cell (4 * i + 3)).trans (gJ (by omega));have x0:=(l[4 * i]!).toNat_lt;have x1:=(l[4 * i + 1]!).toNat_lt;have x2:=(l[4 * i + 2]!).toNat_lt;have x3:=(l[4 * i + 3]!).toNat_lt;generalize (l[4 * i]!).toNat = y0 at *;generalize (l[4 * i + 1]!).toNat = y1 at *;generalize (l[4 * i + 2]!).toNat = y2 at *;generalize (l[4 * i + 3]!).toNat = y3 at *;obtain ⟨s1,hs1⟩ : ∃ s,s = y0 + y1 * 256:=⟨_,rfl⟩;obtain ⟨s2,hs2⟩ : ∃ s,s = s1 + y2 * 65536:=⟨_,rfl⟩;obtain ⟨s3,hs3⟩ : ∃ s,s = s2 + y3 * 16777216:=⟨_,rfl⟩
   have q1 : bits .or .u64 (y0 : Int) ((y1 : Int) * 256) = (s1 : Int):=by
    rw [hs1,<-orL 8 y0 (y1 * 256) (by omega) (by omega) (by omega) (by omega)]
    rfl
   have q2 : bits .or .u64 (s1 : Int) ((y2 : Int) * 65536) = (s2 : Int):=by
    rw [hs2,<-orL 16 s1 (y2 * 65536) (by omega) (by omega) (by omega) (by omega)]
    rfl
   have q3 : bits .or .u64 (s2 : Int) ((y3 : Int) * 16777216) = (s3 : Int):=by
    rw [hs3,<-orL 24 s2 (y3 * 16777216) (by omega) (by omega) (by omega) (by omega)]
    rfl
   have hn3:=λw1=>aL (hn w1 s3 (by omega))
   have hres : (4294967296 * (le (l.drop (4 * i + 4)) % LL) + 1 * s3) % LL = le (l.drop (4 * i)) % LL:=by
    rw [Mc,hle]
    congr 1
    omega
   rw [hres] at hn3
   have k1 : IntKind.i64.wrap (((4 * i : Nat) : Int) + 1) = ((4 * i + 1 : Nat) : Int):=by rw [i64_left,wrap64_in _ (by omega)]; omega
   have k2 : IntKind.i64.wrap (((4 * i : Nat) : Int) + 2) = ((4 * i + 2 : Nat) : Int):=by rw [i64_left,wrap64_in _ (by omega)]; omega
   have k3 : IntKind.i64.wrap (((4 * i : Nat) : Int) + 3) = ((4 * i + 3 : Nat) : Int):=by rw [i64_left,wrap64_in _ (by omega)]; omega
   have g0 : ((4 * i : Nat) : Int) < 64:=by omega
   have g1 : ((4 * i + 1 : Nat) : Int) < 64:=by omega
   have g2 : ((4 * i + 2 : Nat) : Int) < 64:=by omega
   have g3 : ((4 * i + 3 : Nat) : Int) < 64:=by omega
   have HS:=aL hS
   have hA : 4 * i <= 60:=by omega
   have HE:=aL (show ((4 * i : Nat) : Int) = 4 * (i : Int) /\ i <= 15 from ⟨by omega,by omega⟩);clear hS hle hn hs1 hs2 hs3 hres e0 e4 hk hlt;generalize le (l.drop (4 * i + 4)) % LL = X at *;generalize hY : le (l.drop (4 * i)) % LL = Y at *;generalize 4 * i + 1 = A1 at *;generalize 4 * i + 2 = A2 at *;generalize 4 * i + 3 = A3 at *;generalize hA0 : 4 * i = A at *
   go_wp2
   go_region
   have h2:=HS.out.drew.b2
   go_wp2_with (refine wpList_load_row rfl 93 _ rfl (w.heap.size + 1 + 1) rfl 93 (Us (ws X)).toArray (0,0) _ h2 Tryz.underlying93 rfl (fP _ (lD (fA X))) ?_)
   clear h2;refine (hn3 _).out.mono ?_
   rintro e w1 ⟨rfl,hw1⟩
   have h3:=HS.out.drew.up hw1;have h2:=h3.b2;have H3:=aL (h3.set Y);clear h3 hw1 HS hn3
   go_wp2_with (refine wpList_store_row rfl 93 _ _ rfl (w.heap.size + 1 + 1) rfl (Us (ws Y)).toArray rfl 93 _ h2 (fP _ (lD (fA Y))) (by rw [lD (fA X),lD (fA Y)]) (cO _) ?_)
   go_roundw
   case rel =>
    refine ⟨i,by have:=HE.out; omega,by have:=HE.out; go_num,?_⟩;rw [hA0,hY];exact H3.out
   case measure=>have:=HE.out; simp [intOf]; omega
  ·obtain rfl : k = 0:=by omega
   have e0 : l.drop (4 * 0) = l:=rfl;rw [e0] at hS;obtain ⟨b0,b1,b2,be⟩:=hS;have hzs:=lD (fA (le l % LL));clear b0
   go_wp2_with (first
    | (refine wpList_load_row rfl 93 _ rfl (w.heap.size + 1 + 1) rfl 93 (Us (ws (le l % LL))).toArray (0,0) _ b2 Tryz.underlying93 rfl (fP _ hzs) ?_)
    | (refine wpList_store_row rfl 93 _ _ rfl (w.heap.size + 1) rfl (Us (ws (le l % LL))).toArray rfl 93 _ b1 (fP _ hzs) (by rw [hzs]; rfl) (cO _) ?_))
   refine bodyPost_ret (results_cell_row rfl _ _ (w.heap.size + 1) 93 (Us (ws (le l % LL))).toArray (0,0) _ rfl (b1.row _) Tryz.underlying93 rfl (fP _ hzs)) rfl ⟨rfl,?_⟩;exact below_setRow be (by omega) _
theorem Uy (n : Nat) {k : Nat} (hk : k < 4) : (ws n)[k]! = wd n k:=by
 have h4 : k = 0 \/ k = 1 \/ k = 2 \/ k = 3:=by omega
 rcases h4 with rfl | rfl | rfl | rfl
 ·show n % 18446744073709551616 = n / 1 % 18446744073709551616
  rw [sU]
 ·rfl
 ·rfl
 ·rfl
structure HS4 (w wr : World) (a : List Nat) (b : List UInt8) (n : Nat) : Prop where
  b0 : Blk wr w.heap.size 93 (Us a).toArray
  b1 : Blk wr (w.heap.size + 1) 27 z32
  b2 : Blk wr (w.heap.size + 1 + 1) 27 (By (fb b n)).toArray
  be : Below w.heap.size w wr
theorem HS4.set {w wr : World} {a : List Nat} {b : List UInt8} {n : Nat} (h : HS4 w wr a b n) : HS4 w (wr.setCell ⟨w.heap.size + 1 + 1,n,none⟩ (.int .u8 ((b[n]!).toNat : Int))) a b (n + 1) where
 b0:=h.b0.far (by show w.heap.size ≠ w.heap.size + 1 + 1; omega) _
 b1:=h.b1.far (by show w.heap.size + 1 ≠ w.heap.size + 1 + 1; omega) _
 b2:=by
  have h4:=h.b2.set n (.int .u8 ((b[n]!).toNat : Int));rw [rX,J1] at h4;exact h4
 be:=h.be.setCell (by show w.heap.size <= w.heap.size + 1 + 1; omega) _
theorem uP (n : Nat) (w : World) :
  Calls Tryz.prog 66 #[.agg (Us (ws n)).toArray] w λe w'=>e = .returned (.agg (By (Nums.bytes 32 n)).toArray) /\ Below w.heap.size w w':=by
 have hbyte : ∀ m,m < 32 -> ((Nums.bytes 32 n)[m]!).toNat = (ws n)[m / 8]! / 2 ^ (m % 8 * 8) % 256:=λm hm=>by
  rw [oN 32 n hm,Uy n (by omega),Nat.mul_comm (m % 8),KA _ _ _ (by omega)]
  congr 3
  omega
 have hbl : (Nums.bytes 32 n).length = 32:=cP _ _;have ha:=λk=>pT n (k:=k);have la:=fA n;generalize Nums.bytes 32 n = b at *;generalize ws n = a at *
 go_enter Tryz.func66,Tryz.ntmps66
 go_wp2
 go_loopw [5] (λi wr=>∃ k : Nat,k <= 32 /\ i = .int .i64 k /\ HS4 w wr a b k) (λi _=>32 - (intOf i).toNat)
 case atStart =>
  refine ⟨0,by omega,rfl,nK w _ _ _ _,lW w _ _ _ _,?_,(((Below.refl _ _).alloc (aH _) _).alloc (by simp) _).alloc (by simp; omega) _⟩;rw [FI];exact mG w _ _ _ _
 case round =>
  obtain ⟨m,hm,rfl,hS⟩:=hrel
  by_cases hlt : m < 32
  ·have hN:=hS.set
   have c0:=(hS.b0.cell (m / 8)).trans (iY (by omega));have hc:=(hS.b2.cell m).trans (gJ (by rw [J2]; omega));have hf:=hS.b2.free m;have hb:=hbyte m hlt;have qd : (m : Int).tdiv 8 = ((m / 8 : Nat) : Int):=rfl;have qm : (m : Int).tmod 8 = ((m % 8 : Nat) : Int):=rfl
   have qt : IntKind.i64.wrap (((m % 8 : Nat) : Int) * 8) = ((m % 8 * 8 : Nat) : Int):=by rw [i64_left,wrap64_in _ (by omega)]; omega
   have g1 : ((m / 8 : Nat) : Int) < 4:=by omega
   have g2 : ((m % 8 * 8 : Nat) : Int) <= 64:=by omega
   have g5 : (0 : Int) <= (m : Int):=by omega
   generalize a[m / 8]! = W at *;generalize m / 8 = q at *;generalize hs : m % 8 * 8 = s at *
   have q4 : IntKind.u8.wrap ((W : Int) / 2 ^ s) = ((b[m]!).toNat : Int):=by
    have f1 : ((W : Int) / 2 ^ s) = ((W / 2 ^ s : Nat) : Int):=by simp
    rw [f1,IntKind.wrap_u8',hb]
    omega
   have HN:=aL hN;clear hS hbyte hb hN hs ha;generalize (fb b m)[m]! = old at *;generalize (b[m]!).toNat = y at *;generalize m % 8 = r at *
   go_wp2
   go_roundw
   case rel=>exact ⟨m + 1,by omega,by go_num,HN.out⟩
   case measure=>simp [intOf]; omega
  ·obtain rfl : m = 32:=by omega
   obtain ⟨_,b1,b2,be⟩:=hS;rw [J3 hbl] at b2;have hz:=jQ hbl
   go_wp2_with (first
    | (refine wpList_load_row rfl 27 _ rfl (w.heap.size + 1 + 1) rfl 27 (By b).toArray (0,0) _ b2 Tryz.underlying27 rfl (fL _ hz) ?_)
    | (refine wpList_store_row rfl 27 _ _ rfl (w.heap.size + 1) rfl (By b).toArray rfl 27 _ b1 (fL _ hz) (by rw [hz]; rfl) (kU _) ?_))
   refine bodyPost_ret (results_cell_row rfl _ _ (w.heap.size + 1) 27 (By b).toArray (0,0) _ rfl (b1.row _) Tryz.underlying27 rfl (fL _ hz)) rfl ⟨rfl,?_⟩;exact below_setRow be (by omega) _
theorem Sr {x y : Nat} (hx : x < LL) (hy : y < LL) (w : World) :
  Calls Tryz.prog 64 #[.agg (Us (ws x)).toArray,.agg (Us (ws y)).toArray] w λe w'=>e = .returned (.agg (Us (ws ((x + y) % LL))).toArray) /\ Below w.heap.size w w':=by
 rw [zZ] at hx hy
 have hx2 : x < 115792089237316195423570985008687907853269984665640564039457584007913129639936:=by omega
 have hy2 : y < 115792089237316195423570985008687907853269984665640564039457584007913129639936:=by omega
 have hs2 : x + y < 115792089237316195423570985008687907853269984665640564039457584007913129639936:=by omega
 have HS:=λw1=>NR hx2 hy2 w1;rw [bR hs2] at HS;obtain ⟨a0,a1,a2,a3,_,wA,_⟩:=uJ hx2;obtain ⟨b0,b1,b2,b3,_,wB,_⟩:=uJ hy2;obtain ⟨s0,s1,s2,s3,eS,wS,q0,q1,q2,q3⟩:=uJ hs2;have HR:=λw1=>UC q0 q1 q2 q3 (u:=0) (by omega) w1;rw [<-eS,Ga,Nat.add_zero] at HR;rw [wA,wB,wS,xG,xG,xG] at HS;rw [wA,wB,xG,xG];have HS:=λw1=>aL (HS w1);have HR:=λw1=>aL (HR w1);have hz:=lD (fA ((x + y) % LL));clear hx hy hx2 hy2 hs2 wA wB wS eS q0 q1 q2 q3;generalize ws ((x + y) % LL) = r at *;have k2:=mG w 93 z4 (.cells #[.int .u64 (a0 : Int),.int .u64 (a1 : Int),.int .u64 (a2 : Int),.int .u64 (a3 : Int)] 93) (.cells #[.int .u64 (b0 : Int),.int .u64 (b1 : Int),.int .u64 (b2 : Int),.int .u64 (b3 : Int)] 93)
 have hbe : Below w.heap.size w (((w.alloc (.cells #[.int .u64 (a0 : Int),.int .u64 (a1 : Int),.int .u64 (a2 : Int),.int .u64 (a3 : Int)] 93)).alloc (.cells #[.int .u64 (b0 : Int),.int .u64 (b1 : Int),.int .u64 (b2 : Int),.int .u64 (b3 : Int)] 93)).alloc (.cells z4 93)) :=
  (((Below.refl _ _).alloc (aH _) _).alloc (by simp) _).alloc (by simp; omega) _
 have HK:=aL (a5 k2 hbe);clear k2 hbe
 go_enter Tryz.func64,Tryz.ntmps64
 go_wp2_with (fail)
 refine (HS _).out.mono ?_
 rintro e w1 ⟨rfl,hw1⟩
 go_wp2_with (fail)
 refine (HR _).out.mono ?_
 rintro e w2 ⟨rfl,hw2⟩
 obtain ⟨k2,hbe⟩:=HK.out;have k3:=((k2.later hw1).alloc _).later hw2;have hbe3:=bA (((bA hbe hw1)).alloc (bA hbe hw1).size _) hw2;clear HK HS HR k2 hbe hw1 hw2
 go_wp2_with (refine wpList_store_row rfl 93 _ _ rfl (w.heap.size + 1 + 1) rfl (Us r).toArray rfl 93 _ k3 (fP _ hz) (by rw [hz]; rfl) (cO _) ?_)
 refine bodyPost_ret (results_cell_row rfl _ _ (w.heap.size + 1 + 1) 93 (Us r).toArray (0,0) _ rfl (k3.row _) Tryz.underlying93 rfl (fP _ hz)) rfl ⟨rfl,?_⟩;exact below_setRow hbe3 (by omega) _
structure MS4 (w wr : World) (a b : List Nat) (n : Nat) : Prop where
  b0 : Blk wr w.heap.size 93 (Us a).toArray
  b1 : Blk wr (w.heap.size + 1) 93 (Us b).toArray
  b2 : Blk wr (w.heap.size + 1 + 1) 93 z4
  b3 : Blk wr (w.heap.size + 1 + 1 + 1) 93 (Us (ws n)).toArray
  be : Below w.heap.size w wr
theorem MS4.up {w wr w1 : World} {a b : List Nat} {n : Nat} (h : MS4 w wr a b n) (k : Up wr w1) : MS4 w w1 a b n:=⟨k.blk h.b0,k.blk h.b1,k.blk h.b2,k.blk h.b3,bA h.be k⟩
theorem MS4.set {w wr : World} {a b : List Nat} {n : Nat} (h : MS4 w wr a b n) (m : Nat) : MS4 w (wr.setRow (w.heap.size + 1 + 1 + 1) (Us (ws m)).toArray) a b m :=
 ⟨h.b0.aT (by omega) _,h.b1.aT (by omega) _,h.b2.aT (by omega) _,h.b3.row _,below_setRow h.be (by omega) _⟩
theorem M0 (x Y u v L : Nat) : (4294967296 * ((4294967296 * (x * Y % L) + x * u) % L) + x * v) % L = x * (18446744073709551616 * Y + (4294967296 * u + v)) % L:=by
 have e : x * (18446744073709551616 * Y + (4294967296 * u + v)) = 4294967296 * (4294967296 * (x * Y) + x * u) + x * v:=by grind only
 rw [e,oO,Gb,<-oO]
 have e2 : (4294967296 * (x * Y % L) + x * u) % L = (4294967296 * (x * Y) + x * u) % L:=by
  rw [oO,Gb,<-oO]
 rw [oO (4294967296 * (4294967296 * (x * Y % L) + x * u)),xL,e2,<-xL,<-oO]
section
variable {ops : Array Oper} {C0 : World -> Prop} {Q : Act -> Prop} {a : Act} {o : Oper} {rest : List Oper}
theorem Rp {l : List Nat} (g : Nat) (hl : l.length = 4) (x : Operand) (hg : aN o (yielded ops a.tmps) = true) (ho : o.op = .load 93 x) (hx : a.eval x = .pointer (some ⟨g,0,none⟩))
  (hc : ∀ w,C0 w -> Blk w g 93 (Us l).toArray) (hk : wpB Tryz.prog ops C0 Q rest (a.put o.dst (.agg (Us l).toArray))) : wpB Tryz.prog ops C0 Q (o :: rest) a :=
 zU hg 93 x ho g 0 hx (Us l) _ (λw h=>(hc w h).range) Tryz.underlying93 rfl (fP (Us l).toArray (lD hl)) hk
theorem Ro {x i : Operand} (g k : Nat) (hk4 : k < 4) (hg : aN o (yielded ops a.tmps) = true) (ho : o.op = .indexAddr 91 x i) (hx : a.eval x = .pointer (some ⟨g,0,none⟩)) (hi : a.eval i = .int .i64 (k : Int))
  (hk : wpB Tryz.prog ops C0 Q rest (a.put o.dst (.pointer (some ⟨g,k,none⟩)))) : wpB Tryz.prog ops C0 Q (o :: rest) a :=
 k5 hg (λw _=>by
  have h1 : (k : Int) < 4:=by omega
  have h2 : (0 : Int) <= (k : Int):=by omega
  unfold execOp
  simp only [ho,hx,hi]
  go_simp) hk
theorem Rt {x : Operand} (g k v : Nat) (hg : aN o (yielded ops a.tmps) = true) (ho : o.op = .load 48 x) (hx : a.eval x = .pointer (some ⟨g,k,none⟩)) (hc : ∀ w,C0 w -> w.cell? ⟨g,k,none⟩ = some (.int .u64 (v : Int)))
  (hk : wpB Tryz.prog ops C0 Q rest (a.put o.dst (.int .u64 (v : Int)))) : wpB Tryz.prog ops C0 Q (o :: rest) a :=
 k5 hg (λw hw=>by
  have h1:=hc w hw
  unfold execOp
  simp only [ho,hx]
  go_simp) hk
theorem Um {x : Operand} {t : TypeId} (v : Nat) (hg : aN o (yielded ops a.tmps) = true) (ho : o.op = .binOp .shr 48 x (.const (.int .u64 32)) t) (hx : a.eval x = .int .u64 (v : Int))
  (hk : wpB Tryz.prog ops C0 Q rest (a.put o.dst (.int .u64 ((v / 4294967296 : Nat) : Int)))) : wpB Tryz.prog ops C0 Q (o :: rest) a :=
 k5 hg (λw _=>by
  have e:=Q3 v;generalize v / 4294967296 = z at *
  unfold execOp
  simp only [ho,hx]
  go_simp) hk
theorem Uq {x : Operand} {t : TypeId} (v : Nat) (hv : v < 18446744073709551616) (hg : aN o (yielded ops a.tmps) = true) (ho : o.op = .binOp .and 48 x (.const (.int .u64 4294967295)) t) (hx : a.eval x = .int .u64 (v : Int))
  (hk : wpB Tryz.prog ops C0 Q rest (a.put o.dst (.int .u64 ((v % 4294967296 : Nat) : Int)))) : wpB Tryz.prog ops C0 Q (o :: rest) a :=
 k5 hg (λw _=>by
  have e:=Fu v hv;generalize v % 4294967296 = z at *
  unfold execOp
  simp only [ho,hx]
  go_simp) hk
end
theorem QF (g : Nat) (w : World) : (Instr.fieldAt 93 (.pointer (some ⟨g,0,none⟩)) 0).run Tryz.prog w = .ok (.pointer (some ⟨g,0,none⟩)) w:=by go_simp
theorem Sp {x y : Nat} (hx : x < LL) (hy : y < LL) (w : World) :
  Calls Tryz.prog 65 #[.agg (Us (ws x)).toArray,.agg (Us (ws y)).toArray] w λe w'=>e = .returned (.agg (Us (ws (x * y % LL))).toArray) /\ Below w.heap.size w w':=by
 have hN:=λA h w1 (hA : A < LL) (hh : h < 4294967296)=>PR hA hx hh w1
 have hwy : ∀ k,k < 4 -> y / 18446744073709551616 ^ k = 18446744073709551616 * (y / 18446744073709551616 ^ (k + 1)) + (4294967296 * ((ws y)[k]! / 4294967296) + (ws y)[k]! % 4294967296):=by
  intro k hk
  rw [Uy y hk,Nat.pow_succ,<-Nat.div_div_eq_div_mul]
  unfold wd
  omega
 have hy0 : y / 18446744073709551616 ^ 4 = 0:=Nat.div_eq_of_lt (Ab hy (by decide));have ha:=fA x;have hb:=fA y;have hbl:=λk=>pT y (k:=k);clear hy;generalize ws y = b at *;generalize hwx : ws x = a at *
 go_enter Tryz.func65,Tryz.ntmps65
 go_wp2
 go_loopw [6] (λi wr=>∃ k : Nat,k <= 4 /\ i = .int .i64 ((k : Int) - 1) /\ MS4 w wr a b (x * (y / 18446744073709551616 ^ k) % LL)) (λi _=>(intOf i + 1).toNat)
 case atStart =>
  refine ⟨4,by omega,rfl,?_⟩;rw [hy0,Ga,Nat.zero_mod];exact ⟨Rm w _ _ _ _ _,Rl w _ _ _ _ _,Rk w _ _ _ _ _,Rj w _ _ _ _ _,Rn w _ _ _ _⟩
 case round =>
  obtain ⟨k,hk,rfl,hS⟩:=hrel
  by_cases hlt : 0 < k
  ·obtain ⟨i,rfl⟩ : ∃ i,k = i + 1:=⟨k - 1,by omega⟩
   have e0 : ((i + 1 : Nat) : Int) - 1 = (i : Int):=by omega
   rw [e0];have hW:=hwy i (by omega);have hv:=hbl i (by omega);have hcell : ∀ w1,MS4 w w1 a b (x * (y / 18446744073709551616 ^ (i + 1)) % LL) -> w1.cell? ⟨w.heap.size + 1,i,none⟩ = some (.int .u64 (b[i]! : Nat)):=λw1 h=>(h.b1.cell i).trans (iY (by omega));have hcell2 : ∀ w1 n,MS4 w w1 a b n -> w1.cell? ⟨w.heap.size + 1,i,none⟩ = some (.int .u64 (b[i]! : Nat)):=λw1 n h=>(h.b1.cell i).trans (iY (by omega));generalize b[i]! = v at *;have hD:=aL (show x * (y / 18446744073709551616 ^ i) % LL = (4294967296 * ((4294967296 * (x * (y / 18446744073709551616 ^ (i + 1)) % LL) + x * (v / 4294967296)) % LL) + x * (v % 4294967296)) % LL by rw [M0,<-hW]);have hX : x * (y / 18446744073709551616 ^ (i + 1)) % LL < LL:=eJ _ (by decide);generalize x * (y / 18446744073709551616 ^ (i + 1)) % LL = X at *;have hY : (4294967296 * X + x * (v / 4294967296)) % LL < LL:=eJ _ (by decide);have hN1:=λw1=>hN X (v / 4294967296) w1 hX (by omega);have hN2:=λw1=>hN ((4294967296 * X + x * (v / 4294967296)) % LL) (v % 4294967296) w1 hY (by omega);generalize (4294967296 * X + x * (v / 4294967296)) % LL = Y at *;generalize (4294967296 * Y + x * (v % 4294967296)) % LL = Z at *;clear hN hW hcell hX hY e0 hy0 hwy hbl hwx hx
   have hi3 : i < 4:=by omega
   go_wp2
   refine vZ 8 (.tmp 5) 93 (.tmp 18) rfl rfl rfl rfl (by kernel_rfl) (cJ (by kernel_rfl)) (λ_ _ d _ _ h=>by cases d <;> exact h) ?_;simp only [a6,bP];refine Rp (w.heap.size + 1 + 1 + 1) (fA X) _ rfl rfl rfl (λ_ h=>h.blk hS.b3) ?_; simp only [aG,aA,aB,aC];refine Rp w.heap.size ha _ rfl rfl rfl (λ_ h=>h.blk hS.b0) ?_; simp only [aG,aA,aB,aC];refine Rs rfl rfl ?_; simp only [aG,aA,aB,aC];refine LZ (w.heap.size + 1) 0 0 rfl rfl rfl (QF _) ?_; simp only [aG,aA,aB,aC];refine Ro (w.heap.size + 1) i hi3 rfl rfl rfl rfl ?_; simp only [aG,aA,aB,aC];refine Rt (w.heap.size + 1) i v rfl rfl rfl (λw1 h=>hcell2 w1 _ (hS.up h)) ?_; simp only [aG,aA,aB,aC];refine Um v rfl rfl rfl ?_; simp only [aG,aA,aB,aC];refine kE rfl Hg (λw1=>hN1 w1) rfl rfl ?_; simp only [aG,aA,aB,aC];refine cQ ⟨_,_,(Us (ws Y)).toArray,rfl,rfl,hS.b3,by rw [lD (fA X),lD (fA Y)],fP _ (lD (fA Y)),cO _,λw1 hw1=>?_⟩;have hS2:=(hS.up hw1).set Y;clear hS hw1 hN1;generalize w1.setRow (w.heap.size + 1 + 1 + 1) (Us (ws Y)).toArray = w2 at *;have HS:=aL hS2;clear hS2
   go_wp2
   have hS:=HS.out;clear HS;refine vZ 8 (.tmp 5) 93 (.tmp 26) rfl rfl rfl rfl (by kernel_rfl) (cJ (by kernel_rfl)) (λ_ _ d _ _ h=>by cases d <;> exact h) ?_;simp only [a6,bP];refine Rp (w.heap.size + 1 + 1 + 1) (fA Y) _ rfl rfl rfl (λ_ h=>h.blk hS.b3) ?_; simp only [aG,aA,aB,aC];refine Rp w.heap.size ha _ rfl rfl rfl (λ_ h=>h.blk hS.b0) ?_; simp only [aG,aA,aB,aC];refine Rs rfl rfl ?_; simp only [aG,aA,aB,aC];refine LZ (w.heap.size + 1) 0 0 rfl rfl rfl (QF _) ?_; simp only [aG,aA,aB,aC];refine Ro (w.heap.size + 1) i hi3 rfl rfl rfl rfl ?_; simp only [aG,aA,aB,aC];refine Rt (w.heap.size + 1) i v rfl rfl rfl (λw1 h=>hcell2 w1 _ (hS.up h)) ?_; simp only [aG,aA,aB,aC];refine Uq v hv rfl rfl rfl ?_; simp only [aG,aA,aB,aC];refine kE rfl Hg (λw1=>hN2 w1) rfl rfl ?_; simp only [aG,aA,aB,aC];refine cQ ⟨_,_,(Us (ws Z)).toArray,rfl,rfl,hS.b3,by rw [lD (fA Y),lD (fA Z)],fP _ (lD (fA Z)),cO _,λw1 hw1=>?_⟩;have hS2:=(hS.up hw1).set Z;clear hS hw1 hN2;generalize w1.setRow (w.heap.size + 1 + 1 + 1) (Us (ws Z)).toArray = w3 at *;have HS:=aL hS2;clear hS2 hcell2 hv
   go_wp2
   go_roundw
   case rel =>
    refine ⟨i,by omega,by go_num,?_⟩;rw [hD.out];exact HS.out
   case measure=>simp [intOf]
  ·obtain rfl : k = 0:=by omega
   rw [Nat.pow_zero,sU] at hS;obtain ⟨b0,b1,b2,b3,be⟩:=hS;have hzs:=lD (fA (x * y % LL));clear b0 b1
   go_wp2_with (first
    | (refine wpList_load_row rfl 93 _ rfl (w.heap.size + 1 + 1 + 1) rfl 93 (Us (ws (x * y % LL))).toArray (0,0) _ b3 Tryz.underlying93 rfl (fP _ hzs) ?_)
    | (refine wpList_store_row rfl 93 _ _ rfl (w.heap.size + 1 + 1) rfl (Us (ws (x * y % LL))).toArray rfl 93 _ b2 (fP _ hzs) (by rw [hzs]; rfl) (cO _) ?_))
   refine bodyPost_ret (results_cell_row rfl _ _ (w.heap.size + 1 + 1) 93 (Us (ws (x * y % LL))).toArray (0,0) _ rfl (b2.row _) Tryz.underlying93 rfl (fP _ hzs)) rfl ⟨rfl,?_⟩;exact below_setRow be (by omega) _
end Go.Proofs.YtfkchihlchlfdaaGreatDoor
namespace Go.Proofs.YtfkchihlchlfdaaGreatDoor
open Go.RowKit Go.IntWalk
theorem Cu : Own 69:=λ_ _=>by go_simp
theorem qM : Own 66:=λ_ _=>by go_simp
theorem MR : Own 64:=λ_ _=>by go_simp
theorem MQ : Own 65:=λ_ _=>by go_simp
end Go.Proofs.YtfkchihlchlfdaaGreatDoor
