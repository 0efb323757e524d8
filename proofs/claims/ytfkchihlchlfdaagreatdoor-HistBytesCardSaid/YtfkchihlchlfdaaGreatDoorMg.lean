import Derived.Test.YtfkchihlchlfdaaGreatDoorMe
import Derived.Test.YtfkchihlchlfdaaGreatDoorMf
import Derived.Test.YtfkchihlchlfdaaGreatDoorMc
import Derived.Laws.IdiomStrings
import Derived.Laws.BytesArg
import Derived.Laws.CopyOwn
import Derived.Maps.AppendAt
import Derived.ArgAppend
import Derived.Test.YtfkchihlchlfdaaGreatDoorMb
import Derived.Lib.Mul64
import Derived.StillTailTactics
set_option maxRecDepth 100000
set_option maxHeartbeats 4000000
open And renaming intro->a5
open Go.Addr renaming add_mid->iS
open Go.Exit renaming inBlock->eE
open Go.IntKind renaming wrap_u64->aP,u8->iA
open Go.Lib renaming hid->aL,half_mul_le->Gc
open Go.Obj renaming cells->gZ
open Go.Result renaming andThen_ok->aF
open Go.Sem renaming run_bind->aJ,run_pure->aK
open Go.Value renaming int->eG
open Go.World renaming size_alloc->aZ
open Int renaming eq_ofNat_of_zero_le->wW
open List renaming replicate->aE,length_append->aI,getElem?_eq_getElem->aX,length_take->aY,size_toArray->a9,map_cons->cA,length_cons->cC,eq_nil_of_length_eq_zero->cM,take_append_drop->dR,map_toArray->dW,length_set->eP,map_nil->gB,mem_map->gP,take_length->iD,length_reverse->j9,drop_eq_getElem_cons->mK,range->tT,length_nil->AR,getElem!_eq_getElem?_getD->DP,flatten_append->DQ
open Nat renaming le_refl->aH,blt->aQ,lt_of_lt_of_le->bM,mod_eq_of_lt->bR,lt_of_le_of_lt->bX,zero_le->bZ,zero_add->cK,pow_succ->dD,le_of_lt->fJ,add_zero->fN,div_le_self->gD,mul_comm->iH,mul_assoc->k6,lt_succ_self->mC,pow_zero->mS,add_mul->sA,mul_one->F5
open Option.some renaming injEq->bG
open UInt8 renaming ofNat->cR
namespace Go.Proofs.YtfkchihlchlfdaaGreatDoor
open Go.RowKit Go.IntWalk Nums
noncomputable def lsu (k : Nat) : Code:=((Tryz.f8.body.map pP).getD [])[k]?.getD .skip
def FSu (gr : Nat) (P : Option Addr) (n pc : Nat) (A : Option Addr) (m c i : Nat) : List (Nat × Value) :=
  [(11,.int .i64 (i : Int)),(10,.int .i64 (n : Int)),(9,.slice P n pc),(3,.slice A m c),(2,.pointer (some ⟨gr,0,none⟩))]
theorem Pn {gr hi : Nat} {Q : Exit -> Act -> World -> Prop} {w0 w : World} (P : Option Addr) (ls : List (List UInt8)) (pc : Nat) (hn : ls.length <= 9223372036854775807) (hl : ls.flatten.length <= 70368744177664) (hP : o8 w0 hi P ls) (hhi : hi <= w0.heap.size) (hU : Up w0 w)
  (hend : ∀ w' A c,Up w0 w' -> GS w' w0.heap.size 5 A c (By ls.flatten) -> kF (Q .normal) 32 (FSu gr P ls.length pc A (By ls.flatten).length c ls.length) w') :
  cF Tryz.prog (.loop (lsu 0)) (eE 0 Q) 32 (FSu gr P ls.length pc none 0 0 0) w:=by
 have hstart : cF Tryz.prog (.loop (lsu 0)) (eE 0 Q) 32 ((λs : Nat × Option Addr × Nat=>FSu gr P ls.length pc s.2.1 (By (ls.take s.1).flatten).length s.2.2 s.1) (0,none,0)) w:=by
  refine kQ (m:=λs : Nat × Option Addr × Nat=>ls.length - s.1) (F:=λs : Nat × Option Addr × Nat=>FSu gr P ls.length pc s.2.1 (By (ls.take s.1).flatten).length s.2.2 s.1) (R:=λs w=>s.1 <= ls.length /\ Up w0 w /\ GS w w0.heap.size 5 s.2.1 s.2.2 (By (ls.take s.1).flatten)) ?_ (0,none,0) ⟨by omega,hU,GS.nil _ _ _⟩
  rintro ⟨i,A,c⟩ w ⟨hi',hU,hG⟩
  dsimp only at hi' hU hG ⊢
  conv=>arg 2; whnf
  refine aO λK1 hK1=>?_;refine dG ?_
  by_cases hil : i < ls.length
  ·refine fZ (i : Int) (ls.length : Int) true rfl rfl rfl rfl rfl rfl (decide_eq_true (by omega)) ?_
   refine bN λw1 hw1=>hK1 _ _ ?_;refine aO λK2 hK2=>?_;refine cI true rfl ?_;refine fG ?_;refine hK2 _ _ ?_;refine aO λK3 hK3=>?_;refine dS ?_;refine aO λK4 hK4=>?_;refine dG ?_;have hU1 : Up w0 w1:=bA hU hw1;obtain ⟨ad,rfl,had,hcell⟩:=(hP.below hU1 hhi) (by omega);obtain ⟨X,d,hx,hsl⟩:=hcell i ls[i] (aX hil);have hflat:=Ni ls i hil;have hle:=TM ls (i + 1);rw [hflat,aI] at hle;refine Wp ad ls.length pc i hil rfl rfl rfl rfl rfl rfl ?_;refine TU (ad.add i) (.slice X ls[i].length d) rfl rfl rfl rfl rfl (λ_ k=>(k.cell (World.block_lt_of_cell? w1 _ hx)).trans hx) ?_;refine cE (.slice X ls[i].length d) rfl rfl rfl rfl rfl ?_;refine bN λw2 hw2=>hK4 _ _ ?_;have hG:=(hG.up hw1).up hw2;have hU2 : Up w0 w2:=bA hU1 hw2
   have hR : RB w2 X d ls[i]:=by
    have h2:=hsl.below hw2 (Nat.le_trans hhi hU1.size)
    cases X with
    | none =>
     obtain ⟨h3,h4⟩:=h2.none_ rfl;exact .inl ⟨rfl,cM h3,h4⟩
    | some ad'=>exact .inr ⟨ad',rfl,h2.cells ad' rfl⟩
   refine eX ?_;refine oJ (.slice A (By (ls.take i).flatten).length c) rfl rfl rfl rfl rfl ?_;refine oJ (.slice X ls[i].length d) rfl rfl rfl rfl rfl ?_;refine Qj (xs:=(ls.take i).flatten) (l:=ls[i]) (X:=X) (d:=d) (c:=c) (A:=A) (base:=w0.heap.size) rfl rfl rfl rfl rfl rfl hG hR (by omega) hU2.size ?_
   intro A' c' w3 hG3 hgr
   have hU3 : Up w0 w3:=hG.JW hU2 hgr hU2.size;rw [<-hflat] at hG3 ⊢;refine cV (.slice A' (By (ls.take (i + 1)).flatten).length c') rfl rfl rfl rfl rfl ?_;refine bI ?_;refine hK3 _ _ ?_;refine dG ?_;refine iP (i : Int) 1 ((i + 1 : Nat) : Int) rfl rfl rfl rfl rfl rfl (by rw [i64_left,wrap64_in _ (by omega)]; omega) ?_;refine aM (.int .i64 ((i + 1 : Nat) : Int)) rfl rfl rfl rfl rfl ?_;refine bN λw5 hw5=>?_;exact gT (F:=λs : Nat × Option Addr × Nat=>FSu gr (some ad) ls.length pc s.2.1 (By (ls.take s.1).flatten).length s.2.2 s.1) (m:=λs : Nat × Option Addr × Nat=>ls.length - s.1) (R:=λs w=>s.1 <= ls.length /\ Up w0 w /\ GS w w0.heap.size 5 s.2.1 s.2.2 (By (ls.take s.1).flatten)) (s:=(i,A,c)) (i + 1,A',c') ⟨rfl,rfl,rfl,rfl,rfl,trivial⟩ ⟨Nat.succ_le_of_lt hil,bA hU3 hw5,hG3.up hw5⟩ (Nat.sub_lt_sub_left hil (mC i))
  ·refine fZ (i : Int) (ls.length : Int) false rfl rfl rfl rfl rfl rfl (decide_eq_false (by omega)) ?_
   refine bN λw1 hw1=>hK1 _ _ ?_;refine aO λK2 hK2=>?_;refine cI false rfl ?_;refine kR ?_;refine oL (id:=0) (Q:=Q) ?_
   obtain rfl : i = ls.length:=by omega
   rw [iD] at hG ⊢;exact eC (E':=FSu gr P ls.length pc A (By ls.flatten).length c ls.length) ⟨rfl,rfl,rfl,rfl,rfl,trivial⟩ (hend w1 A c (bA hU hw1) (hG.up hw1))
 exact hstart
section
variable {ops : Array Oper} {Q : Exit -> Act -> World -> Prop} {N : Nat} {E : List (Nat × Value)} {w : World} {o : Oper} {rest : List Oper} {k : Nat}
theorem HY {ty : TypeId} (zs : Array Value) (hg : o.guard = none) (hd : o.dst = some k) (hk : aQ k N = true) (ho : o.op = .alloc ty) (hz : (Tryz.prog.info? ty).bind (λi=>i.zero.map (·.cells)) = some zs)
  (hn : lF Tryz.prog ops Q rest N ((k,.pointer (some ⟨w.heap.size,0,none⟩)) :: E) (w.alloc (.cells zs ty))) : lF Tryz.prog ops Q (o :: rest) N E w :=
 nZ _ hg hd hk (λa _=>dE ho hz a w) hn
theorem V2 {x : Operand} (p : Option Addr) (n c : Nat) (hg : o.guard = none) (hd : o.dst = some k) (hk : aQ k N = true) (ho : o.op = .call { callee:=.builtin .len,args:=#[x],argTypes:=#[23] }) (hx : ev E x = some (.slice p n c))
  (hn : lF Tryz.prog ops Q rest N ((k,.int .i64 (n : Int)) :: E) w) : lF Tryz.prog ops Q (o :: rest) N E w :=
 nZ _ hg hd hk (λa ha=>by
  have h1:=ha.eval hx
  unfold execOp
  simp only [ho,resolve,invoke,builtin,aJ,aK,aF,dW,cA,gB,h1]
  go_simp) hn
theorem VY {x : Operand} (g : Nat) (l : List UInt8) (hl : l.length = 32) (hg : o.guard = none) (hd : o.dst = some k) (hk : aQ k N = true) (ho : o.op = .load 27 x) (hx : ev E x = some (.pointer (some ⟨g,0,none⟩))) (hb : Blk w g 27 (By l).toArray)
  (hn : lF Tryz.prog ops Q rest N ((k,.agg (By l).toArray) :: E) w) : lF Tryz.prog ops Q (o :: rest) N E w:=λa ha =>
 wpList_load_row hg 27 x ho g (ha.eval hx) 27 (By l).toArray (0,0) _ hb Tryz.underlying27 rfl (fL (By l).toArray (jQ hl)) (by rw [hd]; exact hn _ (ha.put hk _))
theorem Qd {ty : TypeId} {p x : Operand} (g : Nat) (cs old : Array Value) (hg : o.guard = none) (hd : o.dst = none) (ho : o.op = .store ty p x) (hp : ev E p = some (.pointer (some ⟨g,0,none⟩))) (hx : ev E x = some (.agg cs)) (hb : Blk w g ty old) (hi : (Tryz.prog.info? ty).map (·.size) = some cs.size) (hos : old.size = cs.size) (h1 : ∀ v ∈ cs.toList,v.oneCell' = true)
  (hn : lF Tryz.prog ops Q rest N E (w.setRow g cs)) : lF Tryz.prog ops Q (o :: rest) N E w:=λa ha =>
 wpList_store_row hg ty p x ho g (ha.eval hp) cs (ha.eval hx) ty old hb hi hos h1 (by rw [hd]; exact hn _ ha)
end
section
variable {ops : Array Oper} {C0 : World -> Prop} {Q : Act -> Prop} {N : Nat} {E : List (Nat × Value)} {o : Oper} {rest : List Oper} {k : Nat}
theorem Wq {x y : Operand} (g i : Nat) (hi : i < 32) (hg : o.guard = none) (hd : o.dst = some k) (hk : aQ k N = true) (ho : o.op = .indexAddr 27 x y)
  (hx : ev E x = some (.pointer (some ⟨g,0,none⟩))) (hy : ev E y = some (.int .i64 (i : Int))) (hn : bF Tryz.prog ops C0 Q rest N ((k,.pointer (some ⟨g,i,none⟩)) :: E)) : bF Tryz.prog ops C0 Q (o :: rest) N E :=
 dP _ hg hd hk (λa ha w _=>by
  have h1:=ha.eval hx;have h2:=ha.eval hy
  have h3 : (i : Int) < 32:=by omega
  have h4 : (0 : Int) <= (i : Int):=by omega
  unfold execOp
  simp only [ho,h1,h2]
  go_simp) hn
end
theorem vG {B : Nat} {w0 w w' : World} (h : Below B w0 w) (hB : B <= w.heap.size) (k : Up w w') : Below B w0 w':=Below.trans h (Below.mono k hB)
theorem xF (m : List UInt8) : (eO cH m).length = 32:=by
 rw [<-Bc,CD (aH 8)]
def FC (gr g6 gd n c i : Nat) : List (Nat × Value) :=
  [(22,.int .i64 (i : Int)),(21,.int .i64 (n : Int)),(20,.slice (some ⟨gd,0,none⟩) n c),(6,.pointer (some ⟨g6,0,none⟩)),(2,.pointer (some ⟨gr,0,none⟩))]
theorem Wz {gr g6 gd B : Nat} {Q : Exit -> Act -> World -> Prop} {w0 w : World} (c : Nat) (D : List UInt8) (hD : D.length = 32) (hne : g6 ≠ gr) (hne2 : g6 ≠ gd) (hB : B <= g6) (hV : VL w gd (By D)) (hr : Blk w gr 27 z32) (h6 : Blk w g6 27 (By (fb D 0)).toArray) (hbe : Below B w0 w)
  (hend : ∀ w',Blk w' gr 27 z32 -> Blk w' g6 27 (By D).toArray -> Below B w0 w' -> kF (Q .normal) 32 (FC gr g6 gd 32 c 32) w') :
  cF Tryz.prog (.loop (lsu 1)) (eE 2 Q) 32 (FC gr g6 gd 32 c 0) w:=by
 refine kQ (m:=λi : Nat=>32 - i) (F:=FC gr g6 gd 32 c) (R:=λi w=>i <= 32 /\ VL w gd (By D) /\ Blk w gr 27 z32 /\ Blk w g6 27 (By (fb D i)).toArray /\ Below B w0 w) ?_ 0 ⟨by omega,hV,hr,h6,hbe⟩
 rintro i w ⟨hi,hV,hr,h6,hbe⟩
 conv=>arg 2; whnf
 refine aO λK1 hK1=>?_;refine dG ?_
 by_cases hil : i < 32
 ·refine fZ (i : Int) 32 true rfl rfl rfl rfl rfl rfl (decide_eq_true (by omega)) ?_
  refine bN λw1 hw1=>hK1 _ _ ?_;refine aO λK2 hK2=>?_;refine cI true rfl ?_;refine fG ?_;refine hK2 _ _ ?_;refine aO λK3 hK3=>?_;refine dS ?_;refine aO λK4 hK4=>?_;refine dG ?_;have hV:=hV.up hw1;have hr:=hw1.blk hr;have h60:=h6;have h6:=hw1.blk h6;have hbe:=vG hbe (fJ (bX hB h60.lt)) hw1;have cy:=hV.byte (j:=i) (by omega);have hset:=J1 D (n:=i);have hl:=J2 D i;generalize D[i]! = y at *;refine aM (.int .i64 (i : Int)) rfl rfl rfl rfl rfl ?_;refine dK gd 32 c i hil (by decide) rfl rfl rfl rfl rfl rfl ?_;refine dA ⟨gd,i,none⟩ (.int .u8 (y.toNat : Int)) (by decide) rfl rfl rfl rfl rfl (λ_ k=>(k.cell hV.lt).trans cy) ?_;refine cE (.int .i64 (i : Int)) rfl rfl rfl rfl rfl ?_;refine cE (.int .u8 (y.toNat : Int)) rfl rfl rfl rfl rfl ?_;refine bN λw2 hw2=>hK4 _ _ ?_;have hV:=hV.up hw2;have hr:=hw2.blk hr;have h61:=h6;have h6:=hw2.blk h6;have hbe:=vG hbe (fJ (bX hB h61.lt)) hw2;have c6:=(h6.cell i).trans (gJ (by omega));have f6:=h6.free i;have h62:=h6.lt;refine lL 3 ?_;simp only [List.take_succ_cons,List.take_zero];refine aM (.int .i64 (i : Int)) rfl rfl rfl rfl rfl ?_;refine aM (.int .u8 (y.toNat : Int)) rfl rfl rfl rfl rfl ?_;refine Wq g6 i hil rfl rfl rfl rfl rfl rfl ?_;refine mP ⟨g6,i,none⟩ (y.toNat : Int) _ (.inr ⟨rfl,rfl⟩) rfl rfl rfl rfl rfl c6 f6 h6.lt λw3 hw3=>?_;have hV:=(hV.up hw3).far (p:=⟨g6,i,none⟩) (Ne.symm hne2) (.int .u8 (y.toNat : Int));have hr:=(hw3.blk hr).far (p:=⟨g6,i,none⟩) (Ne.symm hne) (.int .u8 (y.toNat : Int));have h6:=(hw3.blk h6).set i (.int .u8 (y.toNat : Int));have hbe:=(vG hbe (fJ (bX hB h62)) hw3).setCell (p:=⟨g6,i,none⟩) hB (.int .u8 (y.toNat : Int))
  have hset2 : (By (fb D i)).toArray.setIfInBounds i (.int .u8 (y.toNat : Int)) = (By (fb D (i + 1))).toArray:=by
   rw [<-hset,List.setIfInBounds_toArray,RQ]
  rw [hset2] at h6;generalize w3.setCell ⟨g6,i,none⟩ (.int .u8 (y.toNat : Int)) = w4 at *;refine hK3 _ _ ?_;refine dG ?_;refine iP (i : Int) 1 ((i + 1 : Nat) : Int) rfl rfl rfl rfl rfl rfl (by rw [i64_left,wrap64_in _ (by omega)]; omega) ?_;refine aM (.int .i64 ((i + 1 : Nat) : Int)) rfl rfl rfl rfl rfl ?_;exact bN λw5 hw5=>gT (i + 1) ⟨rfl,rfl,rfl,rfl,rfl,trivial⟩ ⟨by omega,hV.up hw5,hw5.blk hr,hw5.blk h6,vG hbe (fJ (bX hB h6.lt)) hw5⟩ (by omega)
 ·refine fZ (i : Int) 32 false rfl rfl rfl rfl rfl rfl (decide_eq_false (by omega)) ?_
  refine bN λw1 hw1=>hK1 _ _ ?_;refine aO λK2 hK2=>?_;refine cI false rfl ?_;refine kR ?_;refine oL (id:=2) (Q:=Q) ?_
  obtain rfl : i = 32:=by omega
  rw [J3 hD] at h6;exact eC (E':=FC gr g6 gd 32 c 32) ⟨rfl,rfl,rfl,rfl,rfl,trivial⟩ (hend w1 (hw1.blk hr) (hw1.blk h6) (vG hbe (fJ (bX hB h6.lt)) hw1))
theorem Vv (P : Option Addr) (ls : List (List UInt8)) (pc : Nat) (hn : ls.length <= 9223372036854775807) (hl : ls.flatten.length <= 70368744177664) (w : World) (hP : o8 w w.heap.size P ls) :
  Calls Tryz.prog 8 #[.slice P ls.length pc] w λe w'=>e = .returned (.agg (By (eO cH ls.flatten)).toArray) /\ Below w.heap.size w w':=by
 refine calls_of_wp Tryz.func8 rfl ?_;refine (?_ : cF Tryz.prog _ _ 32 [(0,.slice P ls.length pc)] w) _ (Fr.start (by rw [Tryz.ntmps8]; rfl) _ ?_)
 rotate_left
 ·intro k v hk
  rw [fU] at hk
  split at hk
  ·rename_i e
   subst e
   cases hk
   rfl
  ·cases hk
 refine aO λK0 hK0=>?_;refine eX ?_;refine HY z32 rfl rfl rfl rfl (by kernel_rfl) ?_;have hU0:=(Up.refl w).alloc (.cells z32 27);have hb0:=Blk.new w 27 z32;have hlt:=hb0.lt;generalize w.alloc (.cells z32 27) = wr at *;generalize hgr : w.heap.size = gr at *;refine bI ?_;refine hK0 _ _ ?_;refine aO λK1 hK1=>?_;refine dG ?_;refine cE (.slice none 0 0) rfl rfl rfl rfl rfl ?_;refine bN λw1 hw1=>hK1 _ _ ?_;refine aO λK2 hK2=>?_;refine aO λK3 hK3=>?_;refine dG ?_;refine aM (.slice P ls.length pc) rfl rfl rfl rfl rfl ?_;refine Wm P ls.length pc rfl rfl rfl rfl rfl ?_;refine aM (.int .i64 0) rfl rfl rfl rfl rfl ?_;refine bN λw2 hw2=>?_;refine eC (E':=FSu gr P ls.length pc none 0 0 0) ⟨rfl,rfl,rfl,rfl,rfl,trivial⟩ ?_;refine hK3 _ _ ?_;refine dS ?_;have hU2 : Up wr w2:=bA hw1 hw2;have hPr : o8 wr gr P ls:=hP.below hU0 (by omega);refine Pn (w0:=wr) P ls pc hn hl hPr (fJ hlt) hU2 λw3 A c hU3 hG3=>?_;refine hK2 _ _ ?_;refine aO λK4 hK4=>?_;refine eX ?_;refine HY z32 rfl rfl rfl rfl (by kernel_rfl) ?_;have hb3 : Blk w3 gr 27 z32:=hU3.blk hb0;have hUa:=(Up.refl w3).alloc (.cells z32 27);have hb6:=Blk.new w3 27 z32;have hne : w3.heap.size ≠ gr:=Nat.ne_of_gt hb3.lt;have hG4:=hG3.up hUa;have hb4:=hUa.blk hb3;have hU4 : Up wr (w3.alloc (.cells z32 27)):=bA hU3 hUa;have hg6 : gr <= w3.heap.size:=fJ hb3.lt;generalize w3.alloc (.cells z32 27) = w4 at *;generalize w3.heap.size = g6 at *;refine bI ?_;refine hK4 _ _ ?_;refine aO λK5 hK5=>?_;refine aO λK6 hK6=>?_;refine eX ?_;refine oJ (.slice A (By ls.flatten).length c) rfl rfl rfl rfl rfl ?_
 have hR : RB w4 A c ls.flatten:=by
  rcases hG4.cut with ⟨h1,h2,h3⟩ | ⟨g,h1,h2,h3⟩
  ·have h4:=congrArg List.length h3
   rw [cD] at h4;exact .inl ⟨h1,cM h4,h2⟩
  ·exact .inr ⟨_,h1,λj v hj=>by rw [iS,cK]; exact h3.cell j v hj⟩
 rw [cD];refine Qi #[.slice A ls.flatten.length c,.int .u64 32] rfl rfl rfl Hd (Kb A c ls.flatten hl w4 hR) rfl rfl ?_
 rintro e w5 ⟨A5,c5,rfl,hG5,hb5⟩
 refine ⟨_,rfl,?_⟩;have hDl:=xF ls.flatten;generalize eO cH ls.flatten = D at *;rw [cD,hDl];refine V2 A5 32 c5 rfl rfl rfl rfl rfl ?_;refine oJ (.int .i64 0) rfl rfl rfl rfl rfl ?_;refine bI ?_
 rcases hG5.cut with ⟨_,_,h1⟩ | ⟨gd,rfl,hgd,hV5⟩
 ·have h2:=congrArg List.length h1
  rw [cD,hDl,AR] at h2
  omega
 have hne2 : g6 ≠ gd:=Nat.ne_of_lt (bM hb6.lt hgd);refine eC (E':=FC gr g6 gd 32 c5 0) ⟨rfl,rfl,rfl,rfl,rfl,trivial⟩ ?_;refine hK6 _ _ ?_;refine dS ?_
 have hU0' : Below gr w wr:=by
  rw [<-hgr];exact hU0
 have hbw : Below gr w w5:=Below.trans hU0' (Below.mono (bA hU4 hb5) (fJ hlt));refine Wz (B:=gr) (w0:=w) c5 D hDl hne hne2 hg6 hV5 (hb4.below hb5 hb4.lt) (by rw [FI]; exact hb6.below hb5 hb6.lt) hbw λw6 hr6 h66 hbe6=>?_;refine hK5 _ _ ?_;refine aO λK7 hK7=>?_;refine eX ?_;refine VY g6 D hDl rfl rfl rfl rfl rfl h66 ?_;have hz:=jQ hDl;refine Qd gr (By D).toArray z32 rfl rfl rfl rfl rfl hr6 (fL _ hz) (by rw [hz]; rfl) (kU _) ?_;refine bI ?_;refine hK7 _ _ ?_;refine gX λa ha=>?_;exact bodyPost_ret (results_cell_row rfl _ _ gr 27 (By D).toArray (0,0) _ (ha.get 2 _ rfl) (hr6.row _) Tryz.underlying27 rfl (fL _ hz)) ha.defers ⟨rfl,below_setRow hbe6 (aH _) _⟩
end Go.Proofs.YtfkchihlchlfdaaGreatDoor
namespace Nums
def xsl (s : Sha) (b : List UInt8) : Nat -> List Nat
  | 0=>[]
  | t + 1=>sx s b t :: xsl s b t
theorem yM (s : Sha) (b : List UInt8) : ∀ t,(xsl s b t).length = t
 | 0=>rfl
 | t + 1=>by rw [xsl,cC,yM]
theorem Ad (s : Sha) (b : List UInt8) : ∀ t j,j < t -> (xsl s b t)[j]! = sx s b (t - 1 - j)
 | 0,_,h=>absurd h (by omega)
 | t + 1,0,_=>by
  show (sx s b t :: xsl s b t)[0]! = _
  rw [Nat.add_sub_cancel,Nat.sub_zero]
  rfl
 | t + 1,j + 1,h=>by
  show (sx s b t :: xsl s b t)[j + 1]! = _
  have e : (sx s b t :: xsl s b t)[j + 1]! = (xsl s b t)[j]!:=by simp
  rw [e,Ad s b t j (by omega)]
  congr 1
  omega
def FH (s : Sha) (b : List UInt8) : Nat -> List Nat
  | 0=>[]
  | t + 1=>forced (IE s b t) λv=>v :: FH s b t
theorem Ez (s : Sha) (b : List UInt8) : ∀ t,t <= 16 -> FH s b t = xsl s b t
 | 0,_=>rfl
 | t + 1,h=>by
  have e : sx s b t = IE s b t:=by rw [sx,dif_pos (by omega)]
  rw [FH,pZ,xsl,Ez s b t (by omega),e]
def grow (s : Sha) : Nat -> List Nat -> List Nat
  | 0,L=>L
  | k + 1,L=>forced ((pO s.w s.JP L[1]! + L[6]! + pO s.w s.low0 L[14]! + L[15]!) % 2 ^ s.w) λv=>grow s k (v :: L)
theorem Lv (s : Sha) (b : List UInt8) : ∀ k t,16 <= t -> grow s k (xsl s b t) = xsl s b (t + k)
 | 0,_,_=>rfl
 | k + 1,t,h=>by
  have e : (pO s.w s.JP (xsl s b t)[1]! + (xsl s b t)[6]! + pO s.w s.low0 (xsl s b t)[14]! + (xsl s b t)[15]!) % 2 ^ s.w = sx s b t:=by
   rw [Ad s b t 1 (by omega),Ad s b t 6 (by omega),Ad s b t 14 (by omega),Ad s b t 15 (by omega)]
   conv=>rhs; rw [sx,dif_neg (by omega)]
   rw [show t - 1 - 1 = t - 2 from by omega,show t - 1 - 6 = t - 7 from by omega,show t - 1 - 14 = t - 15 from by omega,show t - 1 - 15 = t - 16 from by omega]
  rw [grow,pZ,e];have h2:=Lv s b k (t + 1) (by omega);rw [xsl] at h2;rw [h2]
  congr 1
  omega
def SA (s : Sha) : List Nat -> Nat -> Oct -> Oct
  | [],_,o=>o
  | x :: r,t,o=>forced (t1w s (s.k t) x o) λT=>forced ((T + t2w s o) % 2 ^ s.w) λA=>forced ((o.d + T) % 2 ^ s.w) λE=>SA s r (t + 1) ⟨A,o.a,o.b,o.c,E,o.e,o.f,o.g⟩
theorem KZ (s : Sha) (b : List UInt8) (o : Oct) : ∀ (l : List Nat) (t : Nat),(∀ j x,l[j]? = some x -> x = sx s b (t + j)) -> SA s l t (oI s b o t) = oI s b o (t + l.length)
 | [],_,_=>rfl
 | x :: r,t,h=>by
  have hx:=h 0 x rfl;rw [fN] at hx;subst hx;rw [SA];simp only [pZ];have h2:=KZ s b o r (t + 1) (λj x hj=>by rw [h (j + 1) x (by simpa using hj)]; congr 1; omega);rw [show oI s b o (t + 1) = rnd s (s.k t) (sx s b t) (oI s b o t) from rfl] at h2;rw [show t + (sx s b t :: r).length = t + 1 + r.length from by rw [cC]; omega,<-h2]
  rfl
def Rz (w : Nat) (o q : Oct) : Oct :=
  forced ((o.a + q.a) % 2 ^ w) λa=>forced ((o.b + q.b) % 2 ^ w) λb=>forced ((o.c + q.c) % 2 ^ w) λc=>forced ((o.d + q.d) % 2 ^ w) λd =>
  forced ((o.e + q.e) % 2 ^ w) λe=>forced ((o.f + q.f) % 2 ^ w) λf=>forced ((o.g + q.g) % 2 ^ w) λg=>forced ((o.h + q.h) % 2 ^ w) λh=>⟨a,b,c,d,e,f,g,h⟩
theorem Ry (w : Nat) (o q : Oct) : Rz w o q = Di w o q:=by
 unfold Rz
 simp only [pZ]
 rfl
def Oa (s : Sha) (o : Oct) (b : List UInt8) : Oct:=Rz s.w o (SA s (grow s (s.n - 16) (FH s b 16)).reverse 0 o)
theorem N9 {s : Sha} (hn : 16 <= s.n) (o : Oct) (b : List UInt8) : Oa s o b = iT s o b:=by
 rw [Oa,Ry,iT,Ez s b 16 (aH _),Lv s b _ 16 (aH _),show 16 + (s.n - 16) = s.n from by omega]
 congr 1
 have h:=KZ s b o (xsl s b s.n).reverse 0 (λj x hj=>by
  have hl : j < (xsl s b s.n).reverse.length:=(List.getElem?_eq_some_iff.1 hj).1;rw [j9,yM] at hl;rw [List.getElem?_reverse (by rw [yM]; exact hl),yM] at hj;have h1:=Ad s b s.n (s.n - 1 - j) (by omega);rw [DP,hj] at h1;rw [show 0 + j = s.n - 1 - (s.n - 1 - j) from by omega,<-h1]
  rfl)
 rw [j9,yM,cK] at h;exact h
def OL (s : Sha) (B : Nat) : Nat -> Oct -> List UInt8 -> Oct
  | 0,o,_=>o
  | k + 1,o,l=>OL s B k (Oa s o (l.take B)) (l.drop B)
theorem KV {s : Sha} {B : Nat} (hB : 0 < B) (hn : 16 <= s.n) : ∀ k o l,l.length = k * B -> OL s B k o l = kC s B o l
 | 0,o,l,h=>by
  have h0 : l = []:=cM (by omega);subst h0;rw [OL,jP (by simpa using hB)]
 | k + 1,o,l,h=>by
  have hl : (l.take B).length = B:=by rw [aY,h,sA]; omega
  have hd : (l.drop B).length = k * B:=by rw [List.length_drop,h,sA]; omega
  rw [OL,N9 hn,KV hB hn k _ _ hd]
  conv=>rhs; rw [<-dR B l,lR hB hl]
def LJ (s : Sha) (n : Nat) (m : List UInt8) : List UInt8 :=
  ((OL s (2 * s.w) n ⟨s.start[0]!,s.start[1]!,s.start[2]!,s.start[3]!,s.start[4]!,s.start[5]!,s.start[6]!,s.start[7]!⟩ (m ++ jY (2 * s.w) (m.length % (2 * s.w)) (8 * m.length))).list.map (nR s)).flatten
theorem AJ {s : Sha} (n : Nat) (m : List UInt8) (hw : 0 < 2 * s.w) (hn : 16 <= s.n) (h : (m ++ jY (2 * s.w) (m.length % (2 * s.w)) (8 * m.length)).length = n * (2 * s.w)) : eO s m = LJ s n m:=by
 rw [eO,Oi,LJ,KV hw hn n _ _ h]
end Nums
namespace Go.Proofs.YtfkchihlchlfdaaGreatDoor
open Go.RowKit Go.IntWalk
def HV (w : World) (A : Option Addr) (ks : List (List UInt8)) : Prop :=
  0 < ks.length -> ∃ b o,A = some ⟨b,o,none⟩ /\ b < w.heap.size /\ ∀ (i : Nat) l,ks[i]? = some l -> l.length = 32 /\ w.rangeAt b (o + 32 * i) (By l)
def HS (w : World) (v : Value) (ks : List (List UInt8)) : Prop:=∃ A c,v = .slice A ks.length c /\ ks.length <= c /\ c <= 9223372036854775807 /\ HV w A ks
section
variable {ops : Array Oper} {C0 : World -> Prop} {Q : Act -> Prop} {N : Nat} {E : List (Nat × Value)} {o : Oper} {rest : List Oper} {k : Nat}
theorem QK {x : Operand} (v : Value) (l : List UInt8) (hg : o.guard = none) (hd : o.dst = some k) (hk : aQ k N = true) (ho : o.op = .convert 23 9 x) (hx : ev E x = some v) (hs : ∀ w,C0 w -> SB w v l)
  (hn : bF Tryz.prog ops C0 Q rest N ((k,.string ⟨l.toArray⟩) :: E)) : bF Tryz.prog ops C0 Q (o :: rest) N E :=
 dP _ hg hd hk (λa ha w hw=>by
  have h1:=ha.eval hx;obtain ⟨A,c,rfl,hS⟩:=hs w hw
  unfold execOp
  simp only [ho,h1]
  cases A with
  | none =>
   obtain ⟨h3,h4⟩:=hS.none_ rfl;obtain rfl:=cM h3;have hr:=run_convert_bytes_nil (P:=Tryz.prog) w 23 5 Tryz.underlying23 Tryz.underlying5 0 c 9 Tryz.underlying9;simp only [aJ,AR,hr,aF,aK]
   rfl
  | some ad =>
   have hr:=run_convert_bytes_back (P:=Tryz.prog) w 23 9 5 ad c l Tryz.underlying23 Tryz.underlying5 Tryz.underlying9 (λj hj=>hS.cells ad rfl j _ (by rw [Kr hj,getElem!_pos l j hj]))
   simp only [aJ,hr,aF,aK]) hn
end
end Go.Proofs.YtfkchihlchlfdaaGreatDoor
namespace Go.Proofs.YtfkchihlchlfdaaGreatDoor
open Go.RowKit
def row (k v : Nat) : Array Value:=(By (aE (8 - k) 0 ++ (be8 v).drop (8 - k))).toArray
theorem Cj (v : Nat) : row 0 v = #[eG iA 0,eG iA 0,eG iA 0,eG iA 0,eG iA 0,eG iA 0,eG iA 0,eG iA 0]:=rfl
theorem Kx (k v : Nat) (h : k < 8) : ∃ u,(row k v)[7 - k]? = some (eG iA u):=by
 have : k = 0 \/ k = 1 \/ k = 2 \/ k = 3 \/ k = 4 \/ k = 5 \/ k = 6 \/ k = 7:=by omega
 rcases this with rfl | rfl | rfl | rfl | rfl | rfl | rfl | rfl <;> exact ⟨_,rfl⟩
theorem Ue (q : Nat) : eG iA ((q : Int) % 256) = eG iA ((cR q).toNat : Int):=by
 simp
theorem GM (k v : Nat) (h : k < 8) : (row k v).setIfInBounds (7 - k) (eG iA (((v / 256 ^ k : Nat) : Int) % 256)) = row (k + 1) v:=by
 have : k = 0 \/ k = 1 \/ k = 2 \/ k = 3 \/ k = 4 \/ k = 5 \/ k = 6 \/ k = 7:=by omega
 rw [Ue]
 rcases this with rfl | rfl | rfl | rfl | rfl | rfl | rfl | rfl <;> simp [row,By,be8,aE]
theorem G1 (k v : Nat) : v / 256 ^ k / 256 = v / 256 ^ (k + 1):=by rw [Nat.div_div_eq_div_mul,dD]
theorem EU (cs : Array Value) (h : cs.size = 8) : (Tryz.prog.info? 70).map (·.size) = some cs.size:=by
 rw [h]
 kernel_rfl
theorem row_one (v : Nat) : ∀ u ∈ (row 8 v).toList,u.oneCell' = true:=kU _
theorem Lm (v : Nat) (w : World) (hv : v < 18446744073709551616) :
  Calls Tryz.prog 32 #[.int .u64 v] w λe w'=>e = .returned (.agg (By (be8 v)).toArray) /\ Below w.heap.size w w':=by
 go_enter Tryz.func32,Tryz.ntmps32
 go_wp2
 go_loopw [0,4,5] (λq _ i wr=>∃ k : Nat,k <= 8 /\ i = .int .i64 k /\ q = .int .u64 ((v / 256 ^ k : Nat) : Int) /\ Blk wr (w.heap.size + 1) 70 (row k v) /\ Blk wr w.heap.size 70 (row 0 v) /\ Below w.heap.size w wr) (λ_ _ i _=>8 - (intOf i).toNat)
 case atStart =>
  refine ⟨0,by omega,rfl,by simp,?_,?_,?_⟩
  ·rw [Cj]
   exact heap_alloc2_new w _ _
  ·rw [Cj]
   exact heap_alloc2_old w _ _
  ·exact ((Below.refl _ _).alloc (aH _) _).alloc (by simp) _
 case round =>
  obtain ⟨k,hk,rfl,rfl,hb1,hb0,hbel⟩:=hrel
  by_cases hlt : k < 8
  ·obtain ⟨u,hu⟩:=Kx k v hlt
   have hc:=(hb1.cell (7 - k)).trans hu;have hf:=hb1.free (7 - k);have hq : v / 256 ^ k < 18446744073709551616:=bX (gD _ _) hv;clear hu
   go_wp2
   go_roundw
   case rel =>
    refine ⟨k + 1,by omega,by go_num,?_,?_,?_,?_⟩
    ·rw [<-G1]
     simp
    ·rw [<-GM k v hlt]
     simpa using hb1.set (7 - k) _
    ·exact hb0.far (by simp) _
    ·exact hbel.setCell (by simp) _
   case measure=>simp [intOf]; omega
  ·obtain rfl : k = 8:=by omega
   go_wp2_with (first
    | (refine wpList_load_row rfl 70 _ rfl (w.heap.size + 1) rfl 70 (row 8 v) (0,0) _ hb1 Tryz.underlying70 rfl (EU _ rfl) ?_)
    | (refine wpList_store_row rfl 70 _ _ rfl w.heap.size rfl (row 8 v) rfl 70 (row 0 v) hb0 (EU _ rfl) rfl (row_one v) ?_))
   refine bodyPost_ret (results_cell_row rfl _ _ w.heap.size 70 (row 8 v) (0,0) _ rfl (hb0.row _) Tryz.underlying70 rfl (EU _ rfl)) rfl ⟨rfl,?_⟩;exact below_setRow hbel (aH _) _
def p8 (ls : List (List UInt8)) : Nat:=ls.flatten.length
theorem DT (ls : List (List UInt8)) (k : Nat) (h : k < ls.length) : (ls.take (k + 1)).flatten = (ls.take k).flatten ++ ls[k]:=by
 rw [List.take_succ_eq_append_getElem h,DQ,List.flatten_cons,List.flatten_nil,List.append_nil]
theorem vP (ls : List (List UInt8)) (k : Nat) (h : k < ls.length) : p8 (ls.take (k + 1)) = p8 (ls.take k) + ls[k].length:=by
 unfold p8
 rw [DT ls k h,aI]
theorem Kw (ls : List (List UInt8)) (k : Nat) (h : k < ls.length) : p8 (ls.take k) + ls[k].length <= p8 ls:=by
 rw [<-vP ls k h]
 unfold p8
 conv=>rhs; rw [<-dR (k + 1) ls,DQ,aI]
 omega
theorem UO : (Tryz.prog.info? 5).map (λi=>(i.zero,i.size,i.bytes)) = some (some (.int .u8 0),1,1):=by kernel_rfl
theorem H4 (PA : Option Addr) (ls : List (List UInt8)) (pc hi : Nat) (w : World) (h : o8 w hi PA ls) (hhi : hi <= w.heap.size) (hpc : ls.length <= pc) (hm : pc <= 9223372036854775807) (ht : p8 ls <= 281474976710656) :
  Calls Tryz.prog 18 #[.slice PA ls.length pc] w λe w'=>e = .returned (.slice (some ⟨w.heap.size,0,none⟩) (p8 ls) (p8 ls)) /\
   w'.ownsRow w.heap.size 5 1 (.slice (some ⟨w.heap.size,0,none⟩) (p8 ls) (p8 ls)) (p8 ls) (By ls.flatten) /\ Below w.heap.size w w':=by
 obtain ⟨i0,hi0,hz0,hz1,hz2⟩:=info_parts UO
 go_enter Tryz.func18,Tryz.ntmps18
 go_wp2
 go_loop [3,5,11] (λs _ i=>∃ k : Nat,k <= ls.length /\ i = .int .i64 k /\ s = .int .i64 (p8 (ls.take k))) (λ_ _ i=>ls.length - (intOf i).toNat)
 case atStart=>exact ⟨0,bZ _,rfl,rfl⟩
 case round =>
  obtain ⟨k,hk,rfl,rfl⟩:=hrel
  by_cases hlt : k < ls.length
  ·obtain ⟨ad,rfl,_,hcell⟩:=h (by omega)
   obtain ⟨A',c',hx,hsl⟩:=hcell k ls[k] (aX hlt);have hle:=Kw ls k hlt;have hl1:=hsl.1;have hl2:=hsl.2.1;clear hcell hsl
   go_wp2
   go_round
   case rel=>exact ⟨k + 1,by omega,by go_num,by rw [vP ls k hlt]; go_num⟩
   case measure=>simp [intOf]; omega
  ·obtain rfl : k = ls.length:=by omega
   have H:=aL ht;rw [iD]
   go_wp2_with (at_make; refine wpList_make_own _ rfl _ _ 23 rfl w.heap.size 5 i0 _ 1 Tryz.underlying23 hi0 hz0 hz1 .i64 .i64 _ (p8 ls) rfl rfl rfl (by rw [hz2]; have:=H.out; omega) (by have:=H.out; unfold maxLen; omega) (aH _) ?_; intro w1 hown1 hg1)
   have hb1 : Below w.heap.size w w1:=(Below.refl _ _).grown hg1 (aH _) (by simp);clear hg1
   go_loopw [6,8,24] (λv _ i wr=>∃ k : Nat,k <= ls.length /\ i = .int .i64 k /\ v = .slice (some ⟨w.heap.size,0,none⟩) (p8 (ls.take k)) (p8 ls) /\
    wr.ownsRow w.heap.size 5 1 (.slice (some ⟨w.heap.size,0,none⟩) (p8 (ls.take k)) (p8 ls)) (p8 (ls.take k)) (By (ls.take k).flatten) /\ Below w.heap.size w wr) (λ_ _ i _=>ls.length - (intOf i).toNat)
   case atStart=>exact ⟨0,bZ _,rfl,rfl,hown1,hb1⟩
   case round =>
    obtain ⟨k,hk,rfl,rfl,hown,hb⟩:=hrel
    by_cases hlt : k < ls.length
    ·obtain ⟨ad,rfl,_,hcell⟩:=h.below hb hhi (by omega)
     obtain ⟨A',c',hx,hsl⟩:=hcell k ls[k] (aX hlt);have hle:=Kw ls k hlt;have hn:=hsl.none_;have hcs:=hsl.cells;have HN:=aL hn;have HC:=aL hcs;have HL:=aL hown;clear hcell hsl hn hcs hown
     go_wp2_with (at_builtin; refine wpList_append_fits_any _ rfl (.tmp 28) (.tmp 29) 23 rfl w.heap.size 5 i0 1 Tryz.underlying23 hi0 hz1 w.heap.size (p8 (ls.take k)) (p8 ls) _ rfl HL.out A' ls[k].length c' (By ls[k]) rfl (by rw [cD,F5]) HN.out HC.out (kU _) hle ?_; intro w2 hown2 hg2)
     go_roundw
     case rel =>
      rw [<-vN,<-DT ls k hlt,<-vP ls k hlt] at hown2;exact ⟨k + 1,by omega,by go_num,by rw [vP ls k hlt],hown2,hb.grown hg2 hb.size (by intro x hx; injection hx with hx; omega)⟩
     case measure=>simp [intOf]; omega
    ·obtain rfl : k = ls.length:=by omega
     rw [iD] at hown ⊢
     go_wp2
     go_ret
     exact ⟨rfl,hown,hb⟩
theorem Hm {w : World} {base base' size n : Nat} {e : TypeId} {v : Value} {xs : List Value} (h : w.ownsRow base e size v n xs) (hb : base' <= base) : w.ownsRow base' e size v n xs:=by
 obtain ⟨h1,h2⟩:=h;refine ⟨h1,?_⟩
 rcases h2 with h2 | ⟨g,cap,cur,hv,hg,r⟩
 ·exact .inl h2
 ·exact .inr ⟨g,cap,cur,hv,by omega,r⟩
def Made (w : World) (l : List UInt8) (e : Ending) (w' : World) : Prop :=
  ∃ g,e = .returned (.slice (some ⟨g,0,none⟩) l.length l.length) /\ w'.ownsRow w.heap.size 5 1 (.slice (some ⟨g,0,none⟩) l.length l.length) l.length (By l) /\ Below w.heap.size w w'
theorem SL.blk {w : World} {g t lo hi : Nat} {l : List UInt8} (h : Blk w g t (By l).toArray) (h1 : lo <= g) (h2 : g < hi) (hm : l.length <= 9223372036854775807) : SL w lo hi (some ⟨g,0,none⟩) l l.length :=
 ⟨aH _,hm,λh=>(by cases h),λ_=>⟨_,rfl,h1,h2,λj x hx=>by
  have hadd : (⟨g,0,none⟩ : Addr).add j = ⟨g,j,none⟩:=by unfold Addr.add; split <;> simp_all
  rw [hadd,h.cell]
  simp [By,hx]⟩⟩
theorem Jx {w : World} {hi : Nat} {ls : List (List UInt8)} {vs : List Value} (hhi : hi <= w.heap.size)
  (h : ∀ (i : Nat) l,ls[i]? = some l -> ∃ A c,vs[i]? = some (.slice A l.length c) /\ SL w 0 hi A l c) :
  o8 (w.alloc (.cells vs.toArray 23)) (w.heap.size + 1) (some ⟨w.heap.size,0,none⟩) ls:=λ_=>by
 refine ⟨_,rfl,by simp,λi l hi'=>?_⟩;obtain ⟨A,c,h1,h2⟩:=h i l hi';refine ⟨A,c,?_,(h2.alloc _ hhi).more (aH _) (by omega)⟩
 have hadd : (⟨w.heap.size,0,none⟩ : Addr).add i = ⟨w.heap.size,i,none⟩:=by unfold Addr.add; split <;> simp_all
 rw [hadd,(Blk.new w 23 vs.toArray).cell]
 simpa using h1
theorem Nd (w wz : World) (PA : Option Addr) (n hi : Nat) (ls : List (List UInt8)) (hn : ls.length = n) (h : o8 wz hi PA ls) (hhi : hi <= wz.heap.size) (hm : n <= 9223372036854775807) (ht : p8 ls <= 281474976710656) (hb : Below w.heap.size w wz) :
  Calls Tryz.prog 18 #[.slice PA n n] wz (Made w ls.flatten):=by
 subst hn;refine (H4 PA ls ls.length hi wz h hhi (aH _) hm ht).mono λe w' ⟨he,ho,hb'⟩=>?_;exact ⟨wz.heap.size,he,Hm ho hb.size,hb.trans (hb'.mono hb.size)⟩
theorem Nx (A X : Option Addr) (l x : List UInt8) (c d hi : Nat) (w : World) (h : SL w 0 hi A l c) (hx : SL w 0 hi X x d) (hhi : hi <= w.heap.size) (hl : l.length + 8 + x.length <= 281474976710656) :
  Calls Tryz.prog 67 #[.slice A l.length c,.slice X x.length d] w (Made w (l ++ be8 x.length ++ x)):=by
 have hxl : x.length < 18446744073709551616:=by omega
 go_enter Tryz.func67,Tryz.ntmps67
 go_wp2_with (fail)
 refine (Lm x.length w hxl).mono ?_
 rintro e w1 ⟨rfl,hb1⟩
 have h1 : Blk (w1.alloc (gZ (row 0 0) 70)) w1.heap.size 70 (row 0 0):=Blk.new w1 70 (row 0 0);have hbz:=below_setRow (hb1.alloc hb1.size (gZ (row 0 0) 70)) hb1.size (By (be8 x.length)).toArray;have hs1 : SL ((w1.alloc (gZ (row 0 0) 70)).setRow w1.heap.size (By (be8 x.length)).toArray) 0 (w1.heap.size + 1) (some ⟨w1.heap.size,0,none⟩) (be8 x.length) 8:=SL.blk (h1.row _) (bZ _) (by omega) (by rw [nL]; omega);have hs2:=(h.below hbz hhi).more (aH 0) (show hi <= w1.heap.size + 1 by have:=hb1.size; omega);have hs3:=(hx.below hbz hhi).more (aH 0) (show hi <= w1.heap.size + 1 by have:=hb1.size; omega)
 have hp:=Jx (w:=(w1.alloc (gZ (row 0 0) 70)).setRow w1.heap.size (By (be8 x.length)).toArray) (hi:=w1.heap.size + 1) (ls:=[l,be8 x.length,x]) (vs:=[.slice A l.length c,.slice (some ⟨w1.heap.size,0,none⟩) 8 8,.slice X x.length d]) (by simp) (by
  intro i y hy
  match i,hy with
  | 0,hy=>injection hy with hy; subst hy; exact ⟨_,_,rfl,hs2⟩
  | 1,hy=>injection hy with hy; subst hy; exact ⟨_,_,rfl,hs1⟩
  | 2,hy=>injection hy with hy; subst hy; exact ⟨_,_,rfl,hs3⟩)
 have hbq:=hbz.alloc hbz.size (gZ #[.slice A l.length c,.slice (some ⟨w1.heap.size,0,none⟩) 8 8,.slice X x.length d] 23);simp only [aZ,size_setRow] at hp;rw [Cj] at h1 hp hbq;have hJ:=Nd w _ _ 3 _ [l,be8 x.length,x] rfl hp (by simp) (by omega) (by unfold p8; simp [nL]; omega) hbq;have HJ:=aL hJ;clear hJ hp hbq hs1 hs2 hs3 hbz
 go_wp2_with (refine wpList_store_row rfl 70 _ _ rfl w1.heap.size rfl (By (be8 x.length)).toArray rfl 70 _ h1 (EU _ rfl) rfl (kU _) ?_)
 refine HJ.out.mono ?_
 rintro e w2 ⟨g,rfl,ho,hb2⟩
 go_wp2
 go_ret
 exact ⟨g,by simp [nL],by simpa [nL,List.append_assoc] using ho,hb2⟩
theorem Cm (v : Nat) (w : World) (hv : v < 18446744073709551616) :
  Calls Tryz.prog 19 #[.int .u64 v] w (Made w (be8 v)):=by
 obtain ⟨i0,hi0,hz0,hz1,hz2⟩:=info_parts UO
 go_enter Tryz.func19,Tryz.ntmps19
 go_wp2_with (at_make; refine wpList_make_full _ rfl _ _ 23 rfl w.heap.size 5 i0 _ 1 Tryz.underlying23 hi0 hz0 hz1 .i64 .i64 _ _ 8 rfl rfl rfl rfl (by rw [hz2]; omega) (by unfold maxLen; omega) (aH _) ?_; intro w1 hown1 hg1)
 have hb1 : Below w.heap.size w w1:=(Below.refl _ _).grown hg1 (aH _) (by simp)
 have e0 : (madeCells (eG iA 0).cells (8 * 1)).toList = (row 0 v).toList:=by
  show (madeCells #[eG iA 0] 8).toList = _
  rw [toList_madeCells_one]
  rfl
 rw [e0] at hown1;clear hg1 e0
 go_loopw [0,4] (λq i wr=>∃ (k x : Nat),k <= 8 /\ x = v / 256 ^ k /\ i = .int .i64 (7 - (k : Int)) /\ q = .int .u64 (x : Int) /\ wr.ownsRow w.heap.size 5 1 (.slice (some ⟨w.heap.size,0,none⟩) 8 8) 8 (row k v).toList /\ Below w.heap.size w wr) (λ_ i _=>(intOf i + 1).toNat)
 case atStart=>exact ⟨0,v,by omega,by simp,rfl,rfl,hown1,hb1⟩
 case round =>
  obtain ⟨k,x,hk,hxe,rfl,rfl,hown,hb⟩:=hrel
  by_cases hlt : k < 8
  ·have hq : x < 18446744073709551616:=by rw [hxe]; exact bX (gD _ _) hv
   obtain ⟨u,hu⟩:=Kx k v hlt;have hc:=(hown.cellAt (7 - k) (by omega)).trans (by simpa using hu);have hf:=hown.frozenAt (7 - k);have hs:=(hown.stored (7 - k) (eG iA ((x : Int) % 256))).1;have HX:=aL hxe;have HS:=aL hs;clear hu hxe hs
   go_wp2
   go_roundw
   case rel =>
    refine ⟨k + 1,x / 256,by omega,by rw [HX.out,G1],by rw [Int.natCast_add]; congr 1; omega,by go_num,?_,hb.setCell (aH _) _⟩;have e:=GM k v hlt;rw [<-HX.out] at e;rw [<-e,Array.toList_setIfInBounds];exact HS.out
   case measure=>simp [intOf]; omega
  ·obtain rfl : k = 8:=by omega
   go_wp2
   go_ret
   exact ⟨w.heap.size,rfl,hown,hb⟩
def OW (w : World) (base : Nat) (A : Option Addr) (l : List UInt8) (c : Nat) : Prop:=w.ownsRow base 5 1 (.slice A l.length c) l.length (By l)
def Yl (w : World) (l : List UInt8) (e : Ending) (w' : World) : Prop :=
  ∃ A c,e = .returned (.slice A l.length c) /\ OW w' w.heap.size A l c /\ Below w.heap.size w w'
end Go.Proofs.YtfkchihlchlfdaaGreatDoor
namespace Go.Proofs.YtfkchihlchlfdaaGreatDoor
open Go.RowKit Go.IntWalk
def msg (t : UInt8) (b : List UInt8) : List UInt8:=[119,105,116,97,110,t] ++ be8 b.length ++ b
theorem Tm (t : UInt8) (b : List UInt8) : [119,105,116,97,110] ++ [t] ++ be8 b.length ++ b = msg t b:=by simp [msg]
theorem Jk (vs : List Value) (n : Nat) (parts : Array (Nat × Value)) (hp : parts.toList = (vs.zipIdx 0).map λx=>(x.2,x.1)) (hn : vs.length = n) (h0 : 0 < n) (h24 : n <= 16777216) (h1 : ∀ v ∈ vs,v.cells = #[v]) (w : World) :
  (Instr.buildSlice 23 n parts).run Tryz.prog w = .ok (.slice (some ⟨w.heap.size,0,none⟩) n n) (w.alloc (.cells vs.toArray 5)):=by
 obtain ⟨ie,h2,h3,h4,_⟩:=info_parts mB;refine run_buildSlice w 23 5 n parts vs.toArray ie _ Tryz.underlying23 h2 h3 (by rw [h4]; omega) (by rw [h4]; omega) ?_;rw [hp,h4];exact Great.fill_flat _ _ h1 (by simp [hn])
section
variable {ops : Array Oper} {Q : Exit -> Act -> World -> Prop} {N : Nat} {E : List (Nat × Value)} {w : World} {o o2 : Oper} {rest : List Oper} {k k2 : Nat}
theorem HP {n : Nat} {parts : Array (Nat × Operand)} (l : List UInt8) (hw : WG ops N E o) (hd : o.dst = some k) (hk : aQ k N = true) (ho : o.op = .buildSlice 23 n parts)
  (hv : parts.toList.map (λp=>(p.1,ev E p.2)) = ((By l).zipIdx 0).map λx=>(x.2,some x.1)) (hn : l.length = n) (h0 : 0 < n) (h24 : n <= 16777216)
  (hk2 : lF Tryz.prog ops Q rest N ((k,.slice (some ⟨w.heap.size,0,none⟩) n n) :: E) (w.alloc (.cells (By l).toArray 5))) : lF Tryz.prog ops Q (o :: rest) N E w:=by
 refine Qa (.slice (some ⟨w.heap.size,0,none⟩) n n) (w.alloc (.cells (By l).toArray 5)) hw hd hk (λa ha=>?_) hk2
 have hm : ∀ (l : List (Nat × Operand)) (m : List (Value × Nat)),l.map (λp=>(p.1,ev E p.2)) = m.map (λx=>(x.2,some x.1)) -> l.map (λ(i,x)=>(i,a.eval x)) = m.map λx=>(x.2,x.1):=by
  intro l
  induction l with
  | nil=>intro m h; cases m with
   | nil=>rfl
   | cons=>cases h
  | cons p l ih=>intro m h; cases m with
   | nil=>cases h
   | cons u m =>
    simp only [cA,List.cons.injEq,Prod.mk.injEq] at h ⊢;exact ⟨⟨h.1.1,ha.eval h.1.2⟩,ih m h.2⟩
 have hr:=Jk (By l) n (parts.map λ(i,x)=>(i,a.eval x)) (by rw [Array.toList_map]; exact hm _ _ hv) (by rw [cD]; exact hn) h0 h24 (λv hv=>by
  obtain ⟨x,_,rfl⟩:=gP.1 hv
  rfl) w
 unfold execOp
 simp only [ho,aJ,hr,aF,aK]
theorem VZ {n : Nat} {parts : Array (Nat × Operand)} (l : List UInt8) (hw : WG ops N E o) (hd : o.dst = some k) (hk : aQ k N = true) (ho : o.op = .buildSlice 23 n parts)
  (hv : parts.toList.map (λp=>(p.1,ev E p.2)) = ((By l).zipIdx 0).map λx=>(x.2,some x.1)) (hn : l.length = n) (h0 : 0 < n) (h24 : n <= 16777216)
  (hw2 : ∀ v,WG ops N ((k,v) :: E) o2) (hd2 : o2.dst = some k2) (hk2 : aQ k2 N = true) (ho2 : o2.op = .convert 23 23 (.tmp k))
  (hn2 : ∀ W g,Up w W -> SB W (.slice (some ⟨g,0,none⟩) n n) l -> lF Tryz.prog ops Q rest N ((k2,.slice (some ⟨g,0,none⟩) n n) :: (k,.slice (some ⟨g,0,none⟩) n n) :: E) W) : lF Tryz.prog ops Q (o :: o2 :: rest) N E w:=by
 refine HP l hw hd hk ho hv hn h0 h24 ?_
 have hsz : (By l).toArray.size = n:=by rw [a9,cD,hn]
 refine Qa (.slice (some ⟨w.heap.size,0,none⟩) n n) (w.alloc (.cells (By l).toArray 5 (n,n + 1))) (hw2 _) hd2 hk2 (λa ha=>?_) (hn2 _ w.heap.size ((Up.refl w).alloc _) ?_)
 ·have h1 : a.eval (.tmp k) = .slice (some ⟨w.heap.size,0,none⟩) n n:=ha.get k _ (by rw [fU,if_pos rfl])
  have hr:=Lib.run_convert_bytes_const (P:=Tryz.prog) w 23 5 (By l).toArray n n Tryz.underlying23 Tryz.underlying5;rw [hsz] at hr
  unfold execOp
  simp only [ho2,h1,aJ,hr,aF,aK]
 ·have hc : (w.alloc (.cells (By l).toArray 5 (n,n + 1))).heap[w.heap.size]? = some (.cells (By l).toArray 5 (n,n + 1)):=heap_alloc_new w _
  have hs2 : (w.alloc (.cells (By l).toArray 5 (n,n + 1))).heap.size = w.heap.size + 1:=aZ _ _;refine ⟨some ⟨w.heap.size,0,none⟩,n,by rw [hn],by omega,by omega,λh=>(by cases h),λ_=>⟨_,rfl,bZ _,by rw [hs2]; exact mC _,λj u hu=>?_⟩⟩;rw [iS,cell_of_row _ _ _ _ _ _ hc,cK]
  simp [By,hu]
theorem V4 {s x : Operand} {c d : Nat} {A X : Option Addr} {xs l : List UInt8} (hg : o.guard = none) (hd : o.dst = some k) (hk : aQ k N = true) (ho : o.op = .call { callee:=.builtin .append,args:=#[s,x],argTypes:=#[23,23] })
  (hs : ev E s = some (.slice A xs.length c)) (hx : ev E x = some (.slice X l.length d)) (hS : SL w 0 w.heap.size A xs c) (hX : SL w 0 w.heap.size X l d) (h0 : 0 < xs.length) (hl : 0 < l.length) (hc : c < xs.length + l.length) (hb : xs.length + l.length <= 140737488355328)
  (hn : ∀ W v,Up w W -> SB W v (xs ++ l) -> lF Tryz.prog ops Q rest N ((k,v) :: E) W) : lF Tryz.prog ops Q (o :: rest) N E w:=by
 obtain ⟨i,hi0,hz0,hs0,hby⟩:=info_parts mB;obtain ⟨ad,rfl,_,_,_⟩:=hS.2.2.2 h0;obtain ⟨bd,rfl,_,_,_⟩:=hX.2.2.2 hl;obtain ⟨v',w',hr,ho',hgr⟩:=run_append_arg_grows (P:=Tryz.prog) w 23 o.type 5 i _ 1 1 Tryz.underlying23 hi0 hz0 hs0 hby rfl (by omega) ad xs.length c (By xs) (by rw [cD,F5]) (hS.cells ad rfl) bd l.length d (By l) (by rw [cD,F5]) (hX.cells bd rfl) hc (by unfold maxLen; omega) (by omega);rw [<-vN,<-aI] at ho';have hU : Up w w':=(Below.refl _ _).grown hgr (aH _) (by simp);refine nZ v' hg hd hk (λa ha=>?_) (hn w' v' hU ?_)
 ·have h2:=ha.eval hs
  have h3:=ha.eval hx
  unfold execOp
  simp only [ho,resolve,invoke,builtin,aJ,aK,aF,dW,cA,gB,h2,h3,hr]
 ·obtain ⟨A',c',rfl⟩ : ∃ A' c',v' = .slice A' (xs ++ l).length c':=by
   rcases ho'.2 with ⟨h0,hn⟩ | ⟨g,cap,cur,hv,_⟩
   ·exact ⟨none,0,by rw [h0,hn]⟩
   ·exact ⟨_,_,hv⟩
  exact (show GS w' w.heap.size 5 A' c' (By (xs ++ l)) from by unfold GS; rw [cD]; exact ho').sb
end
theorem OW.gs {w : World} {base c : Nat} {A : Option Addr} {l : List UInt8} (h : OW w base A l c) : GS w base 5 A c (By l):=by
 unfold GS
 rw [cD];exact h
theorem OW.sb {w : World} {base c : Nat} {A : Option Addr} {l : List UInt8} (h : OW w base A l c) : SB w (.slice A l.length c) l:=h.gs.sb
theorem SB.sl {w : World} {v : Value} {l : List UInt8} (h : SB w v l) : ∃ A c,v = .slice A l.length c /\ SL w 0 w.heap.size A l c:=h
theorem y9 : Own 51:=λ_ _=>by go_simp
theorem G8 : Own 67:=λ_ _=>by go_simp
def Yk (w : World) (l : List UInt8) (e : Ending) (w' : World) : Prop:=∃ v,e = .returned v /\ SB w' v l /\ Below w.heap.size w w'
theorem GA (t : UInt8) {v : Value} {b : List UInt8} (w : World) (hv : SB w v b) (hb : b.length <= 140737488355312) : Calls Tryz.prog 51 #[.int .u8 (t.toNat : Int),v] w (Yk w (msg t b)):=by
 refine fI (vs:=[.int .u8 (t.toNat : Int),v]) 12 Tryz.func51 rfl (by rw [Tryz.ntmps51]; rfl) ?_;refine aO λK hK=>?_;refine dG ?_;refine cE (.slice none 0 0) rfl rfl rfl rfl rfl ?_;refine bN λw1 hw1=>hK _ _ ?_;clear hK K;replace hv:=hv.later hw1;have hU : Up w w1:=hw1;clear hw1;refine aO λK hK=>?_;refine eX ?_;refine VZ [119,105,116,97,110] (.inl rfl) rfl rfl rfl rfl rfl (by decide) (by decide) (λ_=>.inl rfl) rfl rfl rfl λw2 g2 hw2 h2=>?_;replace hv:=hv.later hw2;replace hU:=hU.step hw2;clear hw2;refine oJ (.int .u8 (t.toNat : Int)) rfl rfl rfl rfl rfl ?_;refine HP [t] (.inl rfl) rfl rfl rfl rfl rfl (by decide) (by decide) ?_;have hal:=(Up.refl w2).alloc (.cells (By [t]).toArray 5);have h3 : SB (w2.alloc (.cells (By [t]).toArray 5)) (.slice (some ⟨w2.heap.size,0,none⟩) 1 1) [t]:=SB.all (Blk.new w2 5 _) rfl (by decide);replace h2:=h2.later hal;replace hv:=hv.later hal;replace hU:=hU.step hal;clear hal;generalize w2.alloc (.cells (By [t]).toArray 5) = w3 at *;generalize w2.heap.size = g3 at *;obtain ⟨A2,c2,e2,s2⟩:=h2.sl;obtain ⟨A3,c3,e3,s3⟩:=h3.sl
 injection e2 with x1 x2 x3
 injection e3 with y1 y2 y3
 subst x1 x3 y1 y3;refine V4 (xs:=[119,105,116,97,110]) (l:=[t]) rfl rfl rfl rfl rfl rfl s2 s3 (by decide) (Nat.zero_lt_one) (show 5 < 5 + 1 by omega) (show 5 + 1 <= 140737488355328 by omega) λw4 v4 hw4 h4=>?_;replace hv:=hv.later hw4;replace hU:=hU.step hw4;refine oJ v rfl rfl rfl rfl rfl ?_;obtain ⟨L,hL⟩ : ∃ L,L = [119,105,116,97,110] ++ [t]:=⟨_,rfl⟩
 have hm : L ++ be8 b.length ++ b = msg t b:=by rw [hL,Tm]
 have hlen : L.length = 6:=by rw [hL]; rfl
 rw [<-hL] at h4;clear hL;obtain ⟨A4,c4,rfl,s4⟩:=h4.sl;obtain ⟨A5,c5,rfl,s5⟩:=hv.sl;refine Qi #[.slice A4 L.length c4,.slice A5 b.length c5] rfl rfl rfl G8 (Nx A4 A5 L b c4 c5 w4.heap.size w4 s4 s5 (aH _) (by omega)) rfl rfl ?_
 rintro e w5 ⟨g,rfl,ho,hb5⟩
 rw [hm] at ho ⊢;have h6:=OW.sb ho;refine ⟨_,rfl,?_⟩;refine cV (.slice (some ⟨g,0,none⟩) (msg t b).length (msg t b).length) rfl rfl rfl rfl rfl ?_;refine bI ?_;refine hK _ _ ?_;clear hK K;refine gX λa ha=>?_;exact bodyPost_ret (results_tmp rfl _ _ _) ha.defers ⟨_,congrArg Ending.returned (ha.get 4 _ rfl),h6,hU.step hb5⟩
end Go.Proofs.YtfkchihlchlfdaaGreatDoor
namespace Nums
theorem zz {n : Nat} [NeZero n] (d : Fin n) : 0 * 0 * d + 1 = 1:=by grind only
theorem Yy (a : F) : -a * -a = a * a:=by grind only
def yD (x : F) : F:=if x.val % 2 = 1 then -x else x
theorem Bk (x : F) : (yD x).val % 2 = 0:=by
 unfold yD
 by_cases h : x.val % 2 = 1
 ·rw [if_pos h,BP (by rintro rfl; exact absurd h (by decide)),h]
 ·rw [if_neg h]; omega
theorem ED (x : F) : yD x * yD x = x * x:=by
 unfold yD
 by_cases h : x.val % 2 = 1
 ·rw [if_pos h]; grind only
 ·rw [if_neg h]
theorem GN {a b : F} (h : a * a = b * b) (hp : a.val % 2 = b.val % 2) : a = b:=by
 rcases KY iF h with h1 | h1
 ·exact h1
 ·by_cases h0 : b = 0
  ·rw [h1,h0]; grind only
  ·have:=BP h0
   rw [<-h1] at this
   omega
theorem KB (y : F) : y * y * dd + 1 ≠ 0:=by
 intro h
 have hy : y ≠ 0:=by
  rintro rfl
  have e : (0 : F) * 0 * dd + 1 = 1:=zz dd;rw [e] at h;exact xY iF h.symm
 have h1:=nH iF hy;refine jC.d (im * lE y) ?_;have hi:=UP;generalize lE y = z at *;generalize im = i at *;generalize dd = d at *
 have a : i * z * (i * z) = (i * i) * (z * z):=by grind only
 have b : d = -(1 : F) * (z * z):=by
  have c : d * (y * z) * (y * z) = (y * y * d) * (z * z):=by grind only
  have e : y * y * d = -1:=by grind only
  rw [h1,e] at c
  grind only
 rw [a,hi,b]
def ww (y : F) : F:=(y * y - 1) * lE (y * y * dd + 1)
theorem Fo (x y : F) : Ed.On dd ⟨x,y⟩ ↔ x * x = ww y:=by
 have h:=nH iF (KB y)
 unfold ww
 show y * y - x * x = 1 + dd * x * x * y * y ↔ _
 have hv:=KB y;generalize hV : y * y * dd + 1 = v at *;generalize lE v = u at *;generalize dd = d at *
 constructor
 ·intro h1
  have a : y * y - 1 = x * x * v:=by rw [<-hV]; grind only
  have b : x * x * v * u = x * x * (v * u):=by grind only
  rw [a,b,h]
  grind only
 ·intro h1
  have a : x * x * v = y * y - 1:=by
   have b : (y * y - 1) * u * v = (y * y - 1) * (v * u):=by grind only
   rw [h1,b,h]
   grind only
  rw [<-hV] at a
  grind only
def AH (P : Ed.Pt p) : Nat:=P.y.val + 57896044618658097711785492504343953926634992332820282019728792003956564819968 * (P.x.val % 2)
def eV (P : Ed.Pt p) : List UInt8:=bytes 32 (AH P)
theorem gW (P : Ed.Pt p) : (eV P).length = 32:=cP _ _
theorem Pu : p < 57896044618658097711785492504343953926634992332820282019728792003956564819968:=by decide
theorem tF (P : Ed.Pt p) : le (eV P) = AH P:=by
 unfold eV
 rw [o5]
 apply bR
 have h:=P.y.isLt;have h2:=Pu
 have h3 : 57896044618658097711785492504343953926634992332820282019728792003956564819968 * 2 = 256 ^ 32:=by decide
 unfold AH
 omega
theorem QZ {P Q : Ed.Pt p} (h : AH P = AH Q) : P.y = Q.y /\ P.x.val % 2 = Q.x.val % 2:=by
 unfold AH at h
 have h1:=P.y.isLt;have h2:=Q.y.isLt;have h3:=Pu;exact ⟨Fin.ext (by omega),by omega⟩
theorem vF {P Q : Ed.Pt p} (hP : Ed.On dd P) (hQ : Ed.On dd Q) (h : eV P = eV Q) : P = Q:=by
 have h1 : AH P = AH Q:=by rw [<-tF,<-tF,h]
 obtain ⟨h2,h3⟩:=QZ h1;obtain ⟨x,y⟩:=P;obtain ⟨u,v⟩:=Q;simp only at h2 h3;subst h2;have a:=(Fo x y).mp hP;have b:=(Fo u y).mp hQ;rw [GN (a.trans b.symm) h3]
end Nums
namespace Nums
theorem mA : ∀ a b : List UInt8,le (a ++ b) = le a + 256 ^ a.length * le b
 | [],b=>by show le b = 0 + 1 * le b; omega
 | x :: a,b=>by
  show x.toNat + 256 * le (a ++ b) = x.toNat + 256 * le a + 256 ^ (a.length + 1) * le b
  rw [mA a b,dD,Nat.mul_add,iH (256 ^ a.length) 256,k6]
  omega
theorem Be : ∀ a : List UInt8,le a < 256 ^ a.length
 | []=>by decide
 | x :: a=>by
  have h1:=Be a;have h2:=x.toNat_lt
  show x.toNat + 256 * le a < 256 ^ (a.length + 1)
  rw [dD]
  omega
section
variable {b : List UInt8} (hb : b.length = 32)
include hb
theorem X9 : b = b.take 31 ++ [b[31]!]:=by
 conv=>lhs; rw [<-dR 31 b]
 rw [mK (by omega),List.drop_eq_nil_of_le (by omega),getElem!_pos b 31 (by omega)]
theorem le_top : le b = le (b.take 31) + 452312848583266388373324160190187140051835877600158453279131187530910662656 * (b[31]!).toNat:=by
 conv=>lhs; rw [X9 hb]
 rw [mA,aY,hb]
 show _ + 256 ^ 31 * ((b[31]!).toNat + 256 * 0) = _
 rw [show (256 : Nat) ^ 31 = 452312848583266388373324160190187140051835877600158453279131187530910662656 by decide]
 omega
theorem Ll : le (b.take 31) < 452312848583266388373324160190187140051835877600158453279131187530910662656:=by
 have h:=Be (b.take 31);rw [aY,hb,show (256 : Nat) ^ min 31 32 = 452312848583266388373324160190187140051835877600158453279131187530910662656 by decide] at h;exact h
theorem UA (x : UInt8) : le (b.set 31 x) = le (b.take 31) + 452312848583266388373324160190187140051835877600158453279131187530910662656 * x.toNat:=by
 have h : (b.set 31 x).length = 32:=by rw [eP,hb]
 rw [le_top h,List.take_set_of_le (by omega),getElem!_pos _ 31 (by omega),List.getElem_set_self]
theorem KJ : (b[31]!).toNat < 128 ↔ le b < 57896044618658097711785492504343953926634992332820282019728792003956564819968:=by
 have h1:=le_top hb;have h2:=Ll hb
 omega
end
theorem Nt {P : Ed.Pt p} (h : P.x.val % 2 ≠ 1) : eV P = enc P.y:=by
 apply x9 (by rw [gW,lI])
 rw [tF,yA]
 unfold AH
 have : P.x.val % 2 = 0:=by omega
 rw [this]
 omega
theorem FM (y : F) : ((enc y)[31]!).toNat < 128:=by
 rw [KJ (lI y),yA];exact Nat.lt_trans y.isLt Pu
theorem QY {P : Ed.Pt p} (h : P.x.val % 2 = 1) : eV P = (enc P.y).set 31 (cR (((enc P.y)[31]!).toNat + 128)):=by
 apply x9 (by rw [gW,eP,lI])
 have h1:=FM P.y;have h2:=le_top (lI P.y);rw [tF,UA (lI P.y),UInt8.toNat_ofNat_of_lt' (by show _ < 256; omega)];rw [yA] at h2
 unfold AH
 rw [h]
 omega
end Nums
namespace Nums
def nQ : List Nat -> Nat
  | []=>0
  | x :: r=>x + 2 * nQ r
theorem Ce : ∀ (d : List Nat) (j v : Nat),j < d.length -> nQ (d.set j v) + d[j]! * 2 ^ j = nQ d + v * 2 ^ j
 | [],_,_,h=>by simp at h
 | x :: r,0,v,_=>by
  simp only [List.set_cons_zero,nQ,mS,F5];have : (x :: r)[0]! = x:=rfl;rw [this]
  omega
 | x :: r,j + 1,v,h=>by
  have ih:=Ce r j v (by simpa using h)
  have e : (x :: r)[j + 1]! = r[j]!:=by simp
  rw [e,List.set_cons_succ,nQ,nQ,dD]
  have e1 : r[j]! * (2 ^ j * 2) = 2 * (r[j]! * 2 ^ j):=by rw [<-k6,iH _ 2]
  have e2 : v * (2 ^ j * 2) = 2 * (v * 2 ^ j):=by rw [<-k6,iH _ 2]
  rw [e1,e2]
  omega
theorem Mo (n : Nat) : nQ (aE n 0) = 0:=by
 induction n with
 | zero=>rfl
 | succ n ih=>rw [List.replicate_succ,nQ,ih]
theorem Mp {d : List Nat} {j : Nat} (h : j < d.length) : nQ (d.drop j) = d[j]! + 2 * nQ (d.drop (j + 1)):=by
 rw [mK h,nQ,getElem!_pos d j h]
structure DG (N i : Nat) (f : Int) (d : List Nat) : Prop where
  len : d.length = 256
  sum : nQ d = N % 2 ^ i
  hi : ∀ j,i <= j -> j < 256 -> d[j]! = 0
  odd : ∀ j,j < 256 -> d[j]! = 0 \/ (d[j]! % 2 = 1 /\ d[j]! < 16)
  last : f = -4 \/ ∃ m : Nat,f = m /\ m < i /\ d[m]! < 2 ^ (i - m) /\ d[m]! % 2 = 1
theorem OV (n j : Nat) (h : j < n) : (aE n 0)[j]! = 0:=by
 rw [getElem!_pos _ j (by simpa using h)]
 simp
theorem DG.start (N : Nat) : DG N 0 (-4) (aE 256 0) where
 len:=List.length_replicate
 sum:=by rw [Mo,mS,Nat.mod_one]
 hi:=λj _ h=>OV 256 j h
 odd:=λj h=>.inl (OV 256 j h)
 last:=.inl rfl
theorem CH (N i : Nat) : N % 2 ^ (i + 1) = N % 2 ^ i + N / 2 ^ i % 2 * 2 ^ i:=by
 rw [dD,Nat.mod_mul,iH (2 ^ i)]
theorem DG.zero {N i : Nat} {f : Int} {d : List Nat} (h : DG N i f d) (hb : N / 2 ^ i % 2 = 0) : DG N (i + 1) f d where
 len:=h.len
 sum:=by rw [h.sum,CH,hb,Nat.zero_mul,fN]
 hi:=λj hj=>h.hi j (by omega)
 odd:=h.odd
 last:=h.last.imp id λ⟨m,h1,h2,h3,h4⟩=>⟨m,h1,by omega,bM h3 (Nat.pow_le_pow_right (by decide) (by omega)),h4⟩
theorem Ak {d : List Nat} {j v : Nat} (h : j < d.length) : (d.set j v)[j]! = v:=by
 rw [getElem!_pos _ j (by simpa using h)]
 simp
theorem EX {d : List Nat} {j k v : Nat} (h : j ≠ k) : (d.set j v)[k]! = d[k]!:=by
 simp only [DP,List.getElem?_set_ne h]
theorem DG.fresh {N i : Nat} {f : Int} {d : List Nat} (h : DG N i f d) (hi : i < 256) (hb : N / 2 ^ i % 2 = 1) : DG N (i + 1) i (d.set i 1) where
 len:=by rw [eP,h.len]
 sum:=by
  have h1:=Ce d i 1 (by rw [h.len]; exact hi);rw [h.hi i (aH _) hi,h.sum] at h1;rw [CH,hb]
  omega
 hi:=λj hj hj2=>by rw [EX (by omega)]; exact h.hi j (by omega) hj2
 odd:=λj hj=>by
  by_cases e : i = j
  ·subst e
   rw [Ak (by rw [h.len]; exact hi)];exact .inr ⟨by decide,by decide⟩
  ·rw [EX e]
   exact h.odd j hj
 last:=.inr ⟨i,rfl,by omega,by rw [Ak (by rw [h.len]; exact hi),show i + 1 - i = 1 from by omega]; decide,by rw [Ak (by rw [h.len]; exact hi)]⟩
theorem DG.more {N i m : Nat} {d : List Nat} (h : DG N i m d) (hi : i < 256) (hb : N / 2 ^ i % 2 = 1) (hm : i < m + 4) : m < i /\ d[m]! < 2 ^ (i - m) /\ DG N (i + 1) m (d.set m (d[m]! + 2 ^ (i - m))):=by
 obtain ⟨m',h1,h2,h3,h4⟩ : ∃ m' : Nat,(m : Int) = m' /\ m' < i /\ d[m']! < 2 ^ (i - m') /\ d[m']! % 2 = 1:=by
  rcases h.last with h1 | h1
  ·omega
  ·exact h1
 obtain rfl : m = m':=by omega
 have hml : m < d.length:=by rw [h.len]; omega
 have hpe : 2 ^ (i + 1 - m) = 2 ^ (i - m) * 2:=by rw [show i + 1 - m = i - m + 1 from by omega,dD]
 have hk : i - m = 1 \/ i - m = 2 \/ i - m = 3:=by omega
 have hpow : 2 ^ (i - m) * 2 <= 16 /\ 2 ^ (i - m) % 2 = 0:=by rcases hk with e | e | e <;> rw [e] <;> decide
 refine ⟨h2,h3,⟨by rw [eP,h.len],?_,λj hj hj2=>?_,λj hj=>?_,.inr ⟨m,rfl,by omega,?_,?_⟩⟩⟩
 ·have e1:=Ce d m (d[m]! + 2 ^ (i - m)) hml
  have e2 : 2 ^ (i - m) * 2 ^ m = 2 ^ i:=by rw [<-Nat.pow_add]; congr 1; omega
  rw [sA,e2,h.sum] at e1;rw [CH,hb]
  omega
 ·rw [EX (by omega)]
  exact h.hi j (by omega) hj2
 ·by_cases e : m = j
  ·subst e
   rw [Ak hml];exact .inr ⟨by omega,by omega⟩
  ·rw [EX e]
   exact h.odd j hj
 ·rw [Ak hml,hpe]
  omega
 ·rw [Ak hml]
  omega
namespace Ed
variable {n : Nat} [NeZero n] {d : Fin n}
def tot (d : Fin n) : List (Pt n) -> Nat -> (Nat -> Nat) -> Pt n
  | [],_,_=>zero
  | A :: ps,i,f=>add d (mul d (f i) A) (tot d ps (i + 1) f)
theorem Ar (g : Good n d) : ∀ {ps : List (Pt n)},(∀ A ∈ ps,On d A) -> ∀ i f,On d (tot d ps i f)
 | [],_,_,_=>tD
 | A :: ps,h,i,f=>qN g (kN g (h A (by simp)) _) (Ar g (λB hB=>h B (by simp [hB])) (i + 1) f)
theorem vR : ∀ {ps : List (Pt n)} {i : Nat} {f f' : Nat -> Nat},(∀ j,i <= j -> j < i + ps.length -> f j = f' j) -> tot d ps i f = tot d ps i f'
 | [],_,_,_,_=>rfl
 | A :: ps,i,f,f',h=>by
  rw [tot,tot,h i (aH _) (by simp),vR (i:=i + 1) (f:=f) (f':=f') λj h1 h2=>h j (by omega) (by simp; omega)]
theorem Gn (g : Good n d) : ∀ {ps : List (Pt n)} {i : Nat} {f : Nat -> Nat},(∀ j,i <= j -> j < i + ps.length -> f j = 0) -> tot d ps i f = zero
 | [],_,_,_=>rfl
 | A :: ps,i,f,h=>by
  rw [tot,h i (aH _) (by simp),zF,zero_add g,Gn g λj h1 h2=>h j (by omega) (by simp; omega)]
theorem KI (g : Good n d) : ∀ {ps : List (Pt n)},(∀ A ∈ ps,On d A) -> ∀ (i : Nat) (f : Nat -> Nat),tot d ps i (λj=>2 * f j) = add d (tot d ps i f) (tot d ps i f)
 | [],_,_,_=>(zero_add g zero).symm
 | A :: ps,h,i,f=>by
  have hA:=h A (by simp);have hs : ∀ B ∈ ps,On d B:=λB hB=>h B (by simp [hB]);rw [tot,tot,KI g hs (i + 1) f,Nat.two_mul,mul_add g hA,IP g (kN g hA _) (kN g hA _) (Ar g hs _ _) (Ar g hs _ _)]
theorem Gp (g : Good n d) : ∀ {ps : List (Pt n)},(∀ A ∈ ps,On d A) -> ∀ (i j v : Nat) (f f' : Nat -> Nat) (A : Pt n),ps[j]? = some A -> f' (i + j) = f (i + j) + v -> (∀ k,k ≠ i + j -> f' k = f k) ->
  tot d ps i f' = add d (tot d ps i f) (mul d v A)
 | [],_,_,_,_,_,_,A,hj,_,_=>by simp at hj
 | B :: ps,h,i,0,v,f,f',A,hj,h1,h2=>by
  simp only [List.getElem?_cons_zero,bG] at hj;subst hj;have hB:=h B (by simp);have hs : ∀ B ∈ ps,On d B:=λB hB=>h B (by simp [hB]);rw [tot,tot,vR (ps:=ps) (i:=i + 1) (f:=f') (f':=f) λk h3 _=>h2 k (by omega)];rw [fN] at h1;rw [h1,mul_add g hB,add_assoc g (kN g hB _) (kN g hB _) (Ar g hs _ _),add_assoc g (kN g hB _) (Ar g hs _ _) (kN g hB _),add_comm (mul d v B)]
 | B :: ps,h,i,j + 1,v,f,f',A,hj,h1,h2=>by
  have hB:=h B (by simp);have hs : ∀ B ∈ ps,On d B:=λB hB=>h B (by simp [hB]);have hA : On d A:=hs A (List.mem_of_getElem? (by simpa using hj))
  rw [tot,tot,Gp g hs (i + 1) j v f f' A (by simpa using hj) (by rw [Nat.add_right_comm,Nat.add_assoc]; exact h1) (λk hk=>h2 k (by omega)),h2 i (by omega),
   add_assoc g (kN g hB _) (Ar g hs _ _) (kN g hA _)]
end Ed
end Nums
namespace Go.Proofs.YtfkchihlchlfdaaGreatDoor
open Go.RowKit Go.IntWalk
theorem wG (x y : Nat) (hx : x < 18446744073709551616) (hy : y < 18446744073709551616) (w : World) :
  Calls Tryz.prog 100 #[.int .u64 x,.int .u64 y] w λe w'=>e = .returned (.tuple #[.int .u64 ((x * y / 18446744073709551616 : Nat) : Int),.int .u64 ((x * y % 18446744073709551616 : Nat) : Int)]) /\ w' = w:=by
 obtain ⟨bd,bt,bw,hhi⟩:=Lib.mul64_hi x y hx hy;have ba:=Gc (a:=x / 4294967296) (b:=y / 4294967296) (by omega) (by omega);have bb:=Gc (a:=x / 4294967296) (b:=y % 4294967296) (by omega) (by omega);have bc:=Gc (a:=x % 4294967296) (b:=y / 4294967296) (by omega) (by omega)
 have ba' : x / 4294967296 * (y / 4294967296) < 18446744073709551616:=by omega
 have bb' : x / 4294967296 * (y % 4294967296) < 18446744073709551616:=by omega
 have bc' : x % 4294967296 * (y / 4294967296) < 18446744073709551616:=by omega
 have bh1 : x / 4294967296 * (y / 4294967296) + (x / 4294967296 * (y % 4294967296) + x % 4294967296 * (y % 4294967296) / 4294967296) / 4294967296 < 18446744073709551616:=by omega
 have bh : x / 4294967296 * (y / 4294967296) + (x / 4294967296 * (y % 4294967296) + x % 4294967296 * (y % 4294967296) / 4294967296) / 4294967296 + ((x / 4294967296 * (y % 4294967296) + x % 4294967296 * (y % 4294967296) / 4294967296) % 4294967296 + x % 4294967296 * (y / 4294967296)) / 4294967296 < 18446744073709551616:=by omega
 go_enter Tryz.func100,Tryz.ntmps100
 go_wp2
 simp only [Fu x hx,Fu y hy,Q3,YB,YR,sC _ bd,sC _ bb',sC _ bt,Fu _ bt,sC _ bc',sC _ bw,sC _ ba',sC _ bh1,sC _ bh,Xa (x * y)];rw [hhi]
 go_ret2
 exact ⟨rfl,rfl⟩
theorem sS (x y c : Nat) (hc : c <= 1) (w : World) : (callFunc 99 #[.int .u64 x,.int .u64 y,.int .u64 c]).run Tryz.prog w =
  .ok (.value (.tuple #[.int .u64 (((x + y + c) % 18446744073709551616 : Nat) : Int),.int .u64 (((x + y + c) / 18446744073709551616 : Nat) : Int)])) w:=by
 rw [run_callFunc_extern Tryz.func99 (by kernel_rfl) (by kernel_rfl) (by kernel_rfl) (e:=add64Entry) (by kernel_rfl),run_add64 x y c (by omega) (by omega) (by omega) (by omega)];simp only [Result.andThen]
 congr 5 <;> omega
theorem EI (x y c : Int) (hx : 0 <= x) (hy : 0 <= y) (hc0 : 0 <= c) (hc : c <= 1) (w : World) : (callFunc 99 #[.int .u64 x,.int .u64 y,.int .u64 c]).run Tryz.prog w =
  .ok (.value (.tuple #[.int .u64 ((x + y + c) % 18446744073709551616),.int .u64 ((x + y + c) / 18446744073709551616)])) w:=by
 obtain ⟨x,rfl⟩:=wW hx;obtain ⟨y,rfl⟩:=wW hy;obtain ⟨c,rfl⟩:=wW hc0;refine (sS x y c (by omega) w).trans ?_
 congr 5 <;> omega
theorem Kn (x y : Int) (hx : 0 <= x) (hy : 0 <= y) (w : World) : (callFunc 99 #[.int .u64 x,.int .u64 y,.int .u64 0]).run Tryz.prog w =
  .ok (.value (.tuple #[.int .u64 ((x + y) % 18446744073709551616),.int .u64 ((x + y) / 18446744073709551616)])) w:=by
 simpa using EI x y 0 hx hy (Int.le_refl 0) (by decide) w
theorem kZ (cs : Array Value) (h : cs.size = 2) : (Tryz.prog.info? 159).map (·.size) = some cs.size:=by
 rw [h]
 kernel_rfl
theorem Tp (hi lo : Nat) (hl : lo < 18446744073709551616) (w : World) :
  Calls Tryz.prog 110 #[.agg (Us [hi,lo]).toArray] w λe w'=>e = .returned (.int .u64 ((lo % 2251799813685248 : Nat) : Int)) /\ Below w.heap.size w w':=by
 have e0 : (Us [hi,lo]).toArray = #[.int .u64 (hi : Int),.int .u64 (lo : Int)]:=rfl;rw [e0]
 go_enter Tryz.func110,Tryz.ntmps110
 go_wp2
 rw [En lo hl]
 go_ret
 exact ⟨rfl,(Below.refl _ _).alloc (aH _) _⟩
theorem Qq (hi lo : Nat) (hh : hi < 2251799813685248) (hl : lo < 18446744073709551616) (w : World) :
  Calls Tryz.prog 111 #[.agg (Us [hi,lo]).toArray] w λe w'=>e = .returned (.int .u64 ((hi * 8192 + lo / 2251799813685248 : Nat) : Int)) /\ Below w.heap.size w w':=by
 have e0 : (Us [hi,lo]).toArray = #[.int .u64 (hi : Int),.int .u64 (lo : Int)]:=rfl;rw [e0]
 go_enter Tryz.func111,Tryz.ntmps111
 go_wp2
 have e1 : (hi : Int) * 8192 = ((hi * 8192 : Nat) : Int):=by omega
 rw [e1,X3,orW 13 (hi * 8192) (lo / 2251799813685248) (by omega) (by omega) (by omega) (by omega)]
 go_ret
 exact ⟨rfl,(Below.refl _ _).alloc (aH _) _⟩
theorem Pg (hi lo a b : Nat) (hh : hi < 18446744073709551616) (hl : lo < 18446744073709551616) (ha : a < 18446744073709551616) (hb : b < 18446744073709551616) (w : World) :
  Calls Tryz.prog 109 #[.agg (Us [hi,lo]).toArray,.int .u64 a,.int .u64 b] w λe w' =>
   e = .returned (.agg (Us [(hi + a * b / 18446744073709551616 + (lo + a * b % 18446744073709551616) / 18446744073709551616) % 18446744073709551616,(lo + a * b % 18446744073709551616) % 18446744073709551616]).toArray) /\ Below w.heap.size w w':=by
 have e0 : (Us [hi,lo]).toArray = #[.int .u64 (hi : Int),.int .u64 (lo : Int)]:=rfl;rw [e0];have HM:=λw1=>aL (wG a b ha hb w1);generalize a * b / 18446744073709551616 = mh at *;generalize hml : a * b % 18446744073709551616 = ml at *
 have hml : ml < 18446744073709551616:=by omega
 have hc1 : ((lo : Int) + (ml : Int)) / 18446744073709551616 <= 1:=by omega
 have hc0 : (0 : Int) <= ((lo : Int) + (ml : Int)) / 18446744073709551616:=by omega
 go_enter Tryz.func109,Tryz.ntmps109
 go_wp2_with (fail)
 refine (HM _).out.mono ?_
 rintro e w1 ⟨rfl,rfl⟩
 go_wp2_with (first | simp only [Kn lo ml (by omega) (by omega)] | simp only [EI hi mh _ (by omega) (by omega) hc0 hc1])
 refine bodyPost_ret (results_cell_row rfl _ _ (w.heap.size + 1) 159 _ (0,0) _ rfl (heap_alloc2_new w _ _) Tryz.underlying159 rfl (kZ _ rfl)) rfl ⟨?_,((Below.refl _ _).alloc (aH _) _).alloc (by simp) _⟩
 rfl
end Go.Proofs.YtfkchihlchlfdaaGreatDoor
namespace Nums
def lv : List Nat -> Nat
  | []=>0
  | d :: ds=>d + 2251799813685248 * lv ds
theorem lv5 (a0 a1 a2 a3 a4 : Nat) : lv [a0,a1,a2,a3,a4] = a0 + 2251799813685248 * (a1 + 2251799813685248 * (a2 + 2251799813685248 * (a3 + 2251799813685248 * a4))):=by
 simp only [lv,Nat.mul_zero,fN]
structure EB (l : List Nat) (x : F) : Prop where
  len : l.length = 5
  bnd : ∀ y ∈ l,y < 2251799813947392
  val : fof (lv l) = x
theorem Bv {l : List Nat} (h : l.length = 5) : ∃ a0 a1 a2 a3 a4,l = [a0,a1,a2,a3,a4]:=by
 match l,h with
 | [a0,a1,a2,a3,a4],_=>exact ⟨a0,a1,a2,a3,a4,rfl⟩
theorem EB.Bv {l : List Nat} {x : F} (h : EB l x) : ∃ a0 a1 a2 a3 a4,l = [a0,a1,a2,a3,a4] /\ a0 < 2251799813947392 /\ a1 < 2251799813947392 /\ a2 < 2251799813947392 /\ a3 < 2251799813947392 /\ a4 < 2251799813947392 /\ fof (lv [a0,a1,a2,a3,a4]) = x:=by
 obtain ⟨a0,a1,a2,a3,a4,rfl⟩:=Nums.Bv h.len;have hb:=h.bnd;exact ⟨a0,a1,a2,a3,a4,rfl,hb _ (by simp),hb _ (by simp),hb _ (by simp),hb _ (by simp),hb _ (by simp),h.val⟩
theorem EB.mk5 {a0 a1 a2 a3 a4 : Nat} {x : F} (h0 : a0 < 2251799813947392) (h1 : a1 < 2251799813947392) (h2 : a2 < 2251799813947392) (h3 : a3 < 2251799813947392) (h4 : a4 < 2251799813947392) (h : fof (lv [a0,a1,a2,a3,a4]) = x) :
  EB [a0,a1,a2,a3,a4] x:=by
 refine ⟨rfl,?_,h⟩
 intro y hy
 simp only [List.mem_cons,List.not_mem_nil,or_false] at hy
 rcases hy with rfl | rfl | rfl | rfl | rfl <;> assumption
theorem SY : p = 57896044618658097711785492504343953926634992332820282019728792003956564819949:=by decide
def crd (a0 a1 a2 a3 a4 : Nat) : List Nat :=
  [a0 % 2251799813685248 + 19 * (a4 / 2251799813685248),a1 % 2251799813685248 + a0 / 2251799813685248,a2 % 2251799813685248 + a1 / 2251799813685248,a3 % 2251799813685248 + a2 / 2251799813685248,a4 % 2251799813685248 + a3 / 2251799813685248]
theorem QE (a k : Nat) : fof (a + p * k) = fof a:=qU (by rw [Nat.add_mul_mod_self_left])
theorem Q9 (a0 a1 a2 a3 a4 : Nat) : fof (lv (crd a0 a1 a2 a3 a4)) = fof (lv [a0,a1,a2,a3,a4]):=by
 have h : lv (crd a0 a1 a2 a3 a4) + p * (a4 / 2251799813685248) = lv [a0,a1,a2,a3,a4]:=by
  unfold crd
  rw [lv5,lv5,SY]
  omega
 rw [<-h,QE]
theorem Kd {a0 a1 a2 a3 a4 : Nat} (h0 : a0 < 18446744073709551616) (h1 : a1 < 18446744073709551616) (h2 : a2 < 18446744073709551616) (h3 : a3 < 18446744073709551616) (h4 : a4 < 18446744073709551616) :
  EB (crd a0 a1 a2 a3 a4) (fof (lv [a0,a1,a2,a3,a4])) :=
 EB.mk5 (by omega) (by omega) (by omega) (by omega) (by omega) (Q9 a0 a1 a2 a3 a4)
theorem WL (a0 a1 a2 a3 a4 b0 b1 b2 b3 b4 : Nat) : lv [a0 + b0,a1 + b1,a2 + b2,a3 + b3,a4 + b4] = lv [a0,a1,a2,a3,a4] + lv [b0,b1,b2,b3,b4]:=by
 rw [lv5,lv5,lv5]
 omega
theorem Vf {a0 a1 a2 a3 a4 b0 b1 b2 b3 b4 : Nat} (h0 : b0 < 2251799813947392) (h1 : b1 < 2251799813947392) (h2 : b2 < 2251799813947392) (h3 : b3 < 2251799813947392) (h4 : b4 < 2251799813947392) :
  fof (lv [a0 + (4503599627370458 - b0),a1 + (4503599627370494 - b1),a2 + (4503599627370494 - b2),a3 + (4503599627370494 - b3),a4 + (4503599627370494 - b4)]) = fof (lv [a0,a1,a2,a3,a4]) - fof (lv [b0,b1,b2,b3,b4]):=by
 have h : lv [a0 + (4503599627370458 - b0),a1 + (4503599627370494 - b1),a2 + (4503599627370494 - b2),a3 + (4503599627370494 - b3),a4 + (4503599627370494 - b4)] + lv [b0,b1,b2,b3,b4] = lv [a0,a1,a2,a3,a4] + p * 2:=by
  rw [lv5,lv5,lv5,SY]
  omega
 have h2 : fof (lv [a0,a1,a2,a3,a4]) = fof (lv [a0 + (4503599627370458 - b0),a1 + (4503599627370494 - b1),a2 + (4503599627370494 - b2),a3 + (4503599627370494 - b3),a4 + (4503599627370494 - b4)]) + fof (lv [b0,b1,b2,b3,b4]):=by
  rw [<-pQ,h,QE]
 rw [h2];generalize fof (lv [a0 + (4503599627370458 - b0),a1 + (4503599627370494 - b1),a2 + (4503599627370494 - b2),a3 + (4503599627370494 - b3),a4 + (4503599627370494 - b4)]) = u;generalize fof (lv [b0,b1,b2,b3,b4]) = v
 grind only
theorem Sd (c0 c1 c2 c3 c4 : Nat) : fof (lv [19 * c4,c0,c1,c2,c3]) = fof 2251799813685248 * fof (lv [c0,c1,c2,c3,c4]):=by
 have h : lv [19 * c4,c0,c1,c2,c3] + p * c4 = 2251799813685248 * lv [c0,c1,c2,c3,c4]:=by
  rw [lv5,lv5,SY]
  omega
 rw [<-jV,<-h,QE]
theorem To (s0 s1 s2 s3 s4 v c0 c1 c2 c3 c4 : Nat) : lv [s0 + v * c0,s1 + v * c1,s2 + v * c2,s3 + v * c3,s4 + v * c4] = lv [s0,s1,s2,s3,s4] + v * lv [c0,c1,c2,c3,c4]:=by
 rw [lv5,lv5,lv5]
 grind only
def up1 (l : List Nat) (u : Nat) : Nat -> Nat
  | 0=>u
  | k + 1=>(l[k]! + up1 l u k) / 2251799813685248
def up2 (l : List Nat) (u : Nat) : Nat -> Nat
  | 0=>u
  | k + 1=>(up2 l u k + l[k]!) / 2251799813685248
def whs (l : List Nat) (u k : Nat) : List Nat:=(tT 5).map λj=>if j < k then (up2 l u j + l[j]!) % 2251799813685248 else l[j]!
def whole (l : List Nat) : List Nat:=whs l (up1 l 19 5 * 19) 5
theorem oD {l : List Nat} {x : F} (h : EB l x) : (whole l).length = 5 /\ (∀ y ∈ whole l,y < 2251799813685248) /\ lv (whole l) = x.val:=by
 refine ⟨by simp [whole,whs],?_,?_⟩
 ·intro y hy
  obtain ⟨j,hj,rfl⟩:=gP.1 hy;rw [if_pos (by simpa using hj)];exact Nat.mod_lt _ (by decide)
 ·obtain ⟨a0,a1,a2,a3,a4,rfl,h0,h1,h2,h3,h4,hv⟩:=h.Bv
  have hw : whole [a0,a1,a2,a3,a4] = [(up2 [a0,a1,a2,a3,a4] (up1 [a0,a1,a2,a3,a4] 19 5 * 19) 0 + a0) % 2251799813685248,(up2 [a0,a1,a2,a3,a4] (up1 [a0,a1,a2,a3,a4] 19 5 * 19) 1 + a1) % 2251799813685248,(up2 [a0,a1,a2,a3,a4] (up1 [a0,a1,a2,a3,a4] 19 5 * 19) 2 + a2) % 2251799813685248,(up2 [a0,a1,a2,a3,a4] (up1 [a0,a1,a2,a3,a4] 19 5 * 19) 3 + a3) % 2251799813685248,(up2 [a0,a1,a2,a3,a4] (up1 [a0,a1,a2,a3,a4] 19 5 * 19) 4 + a4) % 2251799813685248]:=rfl;have hu : up1 [a0,a1,a2,a3,a4] 19 5 = (a4 + (a3 + (a2 + (a1 + (a0 + 19) / 2251799813685248) / 2251799813685248) / 2251799813685248) / 2251799813685248) / 2251799813685248:=rfl;rw [<-hv,wL,hw];generalize hq : up1 [a0,a1,a2,a3,a4] 19 5 = q at *;have g0 : up2 [a0,a1,a2,a3,a4] (q * 19) 0 = q * 19:=rfl;have g1 : up2 [a0,a1,a2,a3,a4] (q * 19) 1 = (up2 [a0,a1,a2,a3,a4] (q * 19) 0 + a0) / 2251799813685248:=rfl;have g2 : up2 [a0,a1,a2,a3,a4] (q * 19) 2 = (up2 [a0,a1,a2,a3,a4] (q * 19) 1 + a1) / 2251799813685248:=rfl;have g3 : up2 [a0,a1,a2,a3,a4] (q * 19) 3 = (up2 [a0,a1,a2,a3,a4] (q * 19) 2 + a2) / 2251799813685248:=rfl;have g4 : up2 [a0,a1,a2,a3,a4] (q * 19) 4 = (up2 [a0,a1,a2,a3,a4] (q * 19) 3 + a3) / 2251799813685248:=rfl;generalize up2 [a0,a1,a2,a3,a4] (q * 19) 0 = e0 at *;generalize up2 [a0,a1,a2,a3,a4] (q * 19) 1 = e1 at *;generalize up2 [a0,a1,a2,a3,a4] (q * 19) 2 = e2 at *;generalize up2 [a0,a1,a2,a3,a4] (q * 19) 3 = e3 at *;generalize up2 [a0,a1,a2,a3,a4] (q * 19) 4 = e4 at *;have hL:=lv5 a0 a1 a2 a3 a4;generalize lv [a0,a1,a2,a3,a4] = L at *;rw [lv5];have hp:=SY;generalize p = P at *
  have ha : q < 2:=by omega
  have hb : q = 0 -> L < P:=by omega
  have hc : q = 1 -> P <= L:=by omega
  have hd : L < 2 * P:=by omega
  rcases (show q = 0 \/ q = 1 by omega) with rfl | rfl
  ·rw [bR (hb rfl)]
   clear hu hc hd hv;have:=hb rfl
   omega
  ·have hge:=hc rfl
   have hm : L % P = L - P:=by rw [Nat.mod_eq_sub_mod hge,bR (by omega)]
   rw [hm];clear hu hb hv hm
   omega
end Nums
namespace Go.Proofs.YtfkchihlchlfdaaGreatDoor
open Go.RowKit Go.IntWalk Nums
theorem bT (cs : Array Value) (h : cs.size = 5) : (Tryz.prog.info? 116).map (·.size) = some cs.size:=by
 rw [h]
 kernel_rfl
def z5 : Array Value:=(Us [0,0,0,0,0]).toArray
theorem cG {l : List Nat} (h : l.length = 5) : (Us l).toArray.size = 5:=by rw [a9,dB,h]
theorem Nu (a c : Nat) (ha : a < 18446744073709551616) (hc : c < 18446744073709551616) :
  IntKind.u64.wrap (bits .and .u64 (a : Int) 2251799813685247 + 19 * ((c : Int) / 2251799813685248)) = ((a % 2251799813685248 + 19 * (c / 2251799813685248) : Nat) : Int):=by
 rw [En a ha,aP]
 omega
theorem zQ (a c : Nat) (ha : a < 18446744073709551616) (hc : c < 18446744073709551616) :
  IntKind.u64.wrap (bits .and .u64 (a : Int) 2251799813685247 + (c : Int) / 2251799813685248) = ((a % 2251799813685248 + c / 2251799813685248 : Nat) : Int):=by
 rw [En a ha,aP]
 omega
theorem AK (a0 a1 a2 a3 a4 : Nat) (h0 : a0 < 18446744073709551616) (h1 : a1 < 18446744073709551616) (h2 : a2 < 18446744073709551616) (h3 : a3 < 18446744073709551616) (h4 : a4 < 18446744073709551616) (w : World) :
  Calls Tryz.prog 112 #[.agg (Us [a0,a1,a2,a3,a4]).toArray] w λe w'=>e = .returned (.agg (Us (crd a0 a1 a2 a3 a4)).toArray) /\ Below w.heap.size w w':=by
 have e0 : (Us [a0,a1,a2,a3,a4]).toArray = #[.int .u64 (a0 : Int),.int .u64 (a1 : Int),.int .u64 (a2 : Int),.int .u64 (a3 : Int),.int .u64 (a4 : Int)]:=rfl;rw [e0]
 go_enter Tryz.func112,Tryz.ntmps112
 go_wp2
 rw [Nu a0 a4 h0 h4,zQ a1 a0 h1 h0,zQ a2 a1 h2 h1,zQ a3 a2 h3 h2,zQ a4 a3 h4 h3];refine bodyPost_ret (results_cell_row rfl _ _ (w.heap.size + 1) 116 _ (0,0) _ rfl (lW w _ _ _ _) Tryz.underlying116 rfl (bT _ rfl)) rfl ⟨rfl,?_⟩;exact (((Below.refl _ _).alloc (aH _) _).alloc (by simp) _).alloc (by simp; omega) _
def mx (f : Nat -> Nat) (l : List Nat) (k : Nat) : List Nat:=(tT 5).map λj=>if j < k then f j else l[j]!
theorem As (f : Nat -> Nat) (l : List Nat) (k : Nat) : (mx f l k).length = 5:=by simp [mx]
theorem Fs (f : Nat -> Nat) {l : List Nat} (h : l.length = 5) : mx f l 0 = l:=by
 obtain ⟨a0,a1,a2,a3,a4,rfl⟩:=Bv h
 rfl
theorem JL (f : Nat -> Nat) (l : List Nat) {k : Nat} (h : k < 5) : (mx f l k)[k]! = l[k]!:=by
 rw [getElem!_pos _ k (by rw [As]; exact h)]
 simp [mx]
theorem Ft (f : Nat -> Nat) (l : List Nat) {k : Nat} : (mx f l k).set k (f k) = mx f l (k + 1):=by
 apply List.ext_getElem (by simp [mx])
 intro j h1 h2
 rw [List.getElem_set];simp only [mx,List.getElem_map,List.getElem_range]
 by_cases hjk : k = j
 ·subst hjk
  simp
 ·rw [if_neg hjk]
  by_cases hlt : j < k
  ·rw [if_pos hlt,if_pos (by omega)]
  ·rw [if_neg hlt,if_neg (by omega)]
theorem rV {l : List Nat} {x : F} (h : EB l x) {k : Nat} (hk : k < 5) : l[k]! < 2251799813947392 :=
 h.bnd _ (by rw [getElem!_pos l k (by rw [h.len]; exact hk)]; exact List.getElem_mem _)
theorem oU {a b : List Nat} {x y : F} (ha : EB a x) (hb : EB b y) (w : World) :
  Calls Tryz.prog 97 #[.agg (Us a).toArray,.agg (Us b).toArray] w λe w'=>∃ r,EB r (x + y) /\ e = .returned (.agg (Us r).toArray) /\ Below w.heap.size w w':=by
 go_enter Tryz.func97,Tryz.ntmps97
 go_wp2
 go_loopw [6] (λi wr=>∃ k : Nat,k <= 5 /\ i = .int .i64 k /\ Blk wr w.heap.size 116 (Us (mx (λj=>a[j]! + b[j]!) a k)).toArray /\ Blk wr (w.heap.size + 1) 116 (Us b).toArray /\ Blk wr (w.heap.size + 1 + 1) 116 z5 /\ Below w.heap.size w wr) (λi _=>5 - (intOf i).toNat)
 case atStart =>
  refine ⟨0,by omega,rfl,?_,lW w _ _ _ _,mG w _ _ _ _,(((Below.refl _ _).alloc (aH _) _).alloc (by simp) _).alloc (by simp; omega) _⟩;rw [Fs _ ha.len];exact nK w _ _ _ _
 case round =>
  obtain ⟨k,hk,rfl,h0,h1,h2,hbel⟩:=hrel
  by_cases hlt : k < 5
  ·have hN:=Ft (λj=>a[j]! + b[j]!) a (k:=k)
   have hg:=JL (λj=>a[j]! + b[j]!) a hlt;have c0:=(h0.drew.cell k).trans (iY (by rw [As]; exact hlt));rw [hg] at c0;have c1:=(h1.drew.cell k).trans (iY (by rw [hb.len]; exact hlt));have b0:=rV ha hlt;have b1:=rV hb hlt;have hf:=h0.drew.free k;generalize a[k]! = u at *;generalize b[k]! = v at *
   have q1 : IntKind.u64.wrap ((u : Int) + (v : Int)) = ((u + v : Nat) : Int):=by rw [aP]; omega
   have q2 : (0 : Int) <= (k : Int):=by omega
   have HK:=aL (a5 h0 (a5 h1 (a5 h2 (a5 hbel hN))));clear h0 h1 h2 hbel hN hg
   go_wp2
   go_still_tail 11,(by kernel_rfl)
   go_wp2
   go_roundw
   case rel =>
    obtain ⟨h0,h1,h2,hbel,hN⟩:=HK.out;have h4:=h0.set k (.int .u64 ((u + v : Nat) : Int));rw [vJ,hN] at h4;exact ⟨k + 1,by omega,by go_num,h4,h1.far (by simp) _,h2.far (by simp; omega) _,(hbel.setCell (by simp) _).drew⟩
   case measure=>simp [intOf]; omega
  ·obtain rfl : k = 5:=by omega
   obtain ⟨a0,a1,a2,a3,a4,rfl,p0,p1,p2,p3,p4,pv⟩:=ha.Bv;obtain ⟨b0,b1,b2,b3,b4,rfl,r0,r1,r2,r3,r4,rv⟩:=hb.Bv;have e5 : mx (λj=>[a0,a1,a2,a3,a4][j]! + [b0,b1,b2,b3,b4][j]!) [a0,a1,a2,a3,a4] 5 = [a0 + b0,a1 + b1,a2 + b2,a3 + b3,a4 + b4]:=rfl;rw [e5] at h0;have HC:=λw1=>aL (AK (a0 + b0) (a1 + b1) (a2 + b2) (a3 + b3) (a4 + b4) (by omega) (by omega) (by omega) (by omega) (by omega) w1);have hE:=Kd (a0:=a0 + b0) (a1:=a1 + b1) (a2:=a2 + b2) (a3:=a3 + b3) (a4:=a4 + b4) (by omega) (by omega) (by omega) (by omega) (by omega);rw [WL,pQ,pv,rv] at hE;generalize crd (a0 + b0) (a1 + b1) (a2 + b2) (a3 + b3) (a4 + b4) = r at *;have hz : (Us [a0 + b0,a1 + b1,a2 + b2,a3 + b3,a4 + b4]).toArray.size = 5:=rfl;generalize (Us [a0 + b0,a1 + b1,a2 + b2,a3 + b3,a4 + b4]).toArray = cs at *;have HK:=aL (a5 h2 hbel);clear h1 h2 hbel ha hb p0 p1 p2 p3 p4 pv r0 r1 r2 r3 r4 rv e5;have hzr:=cG hE.len
   go_wp2_with (refine wpList_load_row rfl 116 _ rfl w.heap.size rfl 116 cs (0,0) _ h0 Tryz.underlying116 rfl (bT _ hz) ?_)
   refine (HC _).out.mono ?_
   rintro e w1 ⟨rfl,hw1⟩
   obtain ⟨h2,hbel⟩:=HK.out;have hb2:=hbel.trans (hw1.mono hbel.size);have h4:=h2.below hw1 h2.lt
   go_wp2_with (refine wpList_store_row rfl 116 _ _ rfl (w.heap.size + 1 + 1) rfl (Us r).toArray rfl 116 _ h4 (bT _ hzr) (by rw [hzr]; rfl) (cO _) ?_)
   refine bodyPost_ret (results_cell_row rfl _ _ (w.heap.size + 1 + 1) 116 (Us r).toArray (0,0) _ rfl (h4.row _) Tryz.underlying116 rfl (bT _ hzr)) rfl ⟨r,hE,rfl,?_⟩;exact below_setRow hb2 (by omega) _
def twl : List Nat:=[4503599627370458,4503599627370494,4503599627370494,4503599627370494,4503599627370494]
theorem Sc {k : Nat} (h : k < 5) : 4503599627370458 <= twl[k]! /\ twl[k]! <= 4503599627370494:=by
 have h5 : k = 0 \/ k = 1 \/ k = 2 \/ k = 3 \/ k = 4:=by omega
 rcases h5 with rfl | rfl | rfl | rfl | rfl <;> decide
structure Tw (w : World) : Prop where
  cell : ∀ i,i < 5 -> w.cell? ⟨2,i,none⟩ = some (.int .u64 (twl[i]! : Nat))
  lt : 2 < w.heap.size
theorem Tw.below {w w' : World}  (h : Tw w) (hb : Below w.heap.size w w') : Tw w' :=
 ⟨λi hi=>(hb.cell (p:=⟨2,i,none⟩) h.lt).trans (h.cell i hi),bM h.lt hb.size⟩
theorem Tw.drew {w : World} (h : Tw w) : Tw w.drew:=⟨h.cell,h.lt⟩
theorem Tw.at {w : World} (h : Tw w) {k : Nat} (hk : k < 5) : w.cell? ⟨2,k,none⟩ = some (.int .u64 (twl[k]! : Nat)):=h.cell k hk
theorem mQ {a b : List Nat} {x y : F} (ha : EB a x) (hb : EB b y) (w : World) (hT : Tw w) :
  Calls Tryz.prog 95 #[.agg (Us a).toArray,.agg (Us b).toArray] w λe w'=>∃ r,EB r (x - y) /\ e = .returned (.agg (Us r).toArray) /\ Below w.heap.size w w':=by
 go_enter Tryz.func95,Tryz.ntmps95
 go_wp2
 go_loopw [6] (λi wr=>∃ k : Nat,k <= 5 /\ i = .int .i64 k /\ Blk wr w.heap.size 116 (Us (mx (λj=>a[j]! + (twl[j]! - b[j]!)) a k)).toArray /\ Blk wr (w.heap.size + 1) 116 (Us b).toArray /\ Blk wr (w.heap.size + 1 + 1) 116 z5 /\ Below w.heap.size w wr) (λi _=>5 - (intOf i).toNat)
 case atStart =>
  refine ⟨0,by omega,rfl,?_,lW w _ _ _ _,mG w _ _ _ _,(((Below.refl _ _).alloc (aH _) _).alloc (by simp) _).alloc (by simp; omega) _⟩;rw [Fs _ ha.len];exact nK w _ _ _ _
 case round =>
  obtain ⟨k,hk,rfl,h0,h1,h2,hbel⟩:=hrel
  by_cases hlt : k < 5
  ·have hN:=Ft (λj=>a[j]! + (twl[j]! - b[j]!)) a (k:=k)
   have hg:=JL (λj=>a[j]! + (twl[j]! - b[j]!)) a hlt;have c0:=(h0.drew.cell k).trans (iY (by rw [As]; exact hlt));rw [hg] at c0;have c1:=(h1.drew.cell k).trans (iY (by rw [hb.len]; exact hlt));have b0:=rV ha hlt;have b1:=rV hb hlt;have hf:=h0.drew.free k;have c2:=(hT.below hbel).drew.at hlt;have b2:=Sc hlt;generalize a[k]! = u at *;generalize b[k]! = v at *;generalize twl[k]! = t at *
   have q0 : IntKind.u64.wrap ((t : Int) - (v : Int)) = ((t - v : Nat) : Int):=by rw [aP]; omega
   have q1 : IntKind.u64.wrap ((u : Int) + ((t - v : Nat) : Int)) = ((u + (t - v) : Nat) : Int):=by rw [aP]; omega
   have hle : v <= t:=by omega
   have q2 : (0 : Int) <= (k : Int):=by omega
   have HK:=aL (a5 h0 (a5 h1 (a5 h2 (a5 hbel hN))));clear h0 h1 h2 hbel hN hg
   go_wp2
   go_still_tail 15,(by kernel_rfl)
   go_wp2
   go_roundw
   case rel =>
    obtain ⟨h0,h1,h2,hbel,hN⟩:=HK.out;have h4:=h0.set k (.int .u64 ((u + (t - v) : Nat) : Int));rw [vJ,hN] at h4;exact ⟨k + 1,by omega,by go_num,h4,h1.far (by simp) _,h2.far (by simp; omega) _,(hbel.setCell (by simp) _).drew⟩
   case measure=>simp [intOf]; omega
  ·obtain rfl : k = 5:=by omega
   obtain ⟨a0,a1,a2,a3,a4,rfl,p0,p1,p2,p3,p4,pv⟩:=ha.Bv;obtain ⟨b0,b1,b2,b3,b4,rfl,r0,r1,r2,r3,r4,rv⟩:=hb.Bv;have e5 : mx (λj=>[a0,a1,a2,a3,a4][j]! + (twl[j]! - [b0,b1,b2,b3,b4][j]!)) [a0,a1,a2,a3,a4] 5 = [a0 + (4503599627370458 - b0),a1 + (4503599627370494 - b1),a2 + (4503599627370494 - b2),a3 + (4503599627370494 - b3),a4 + (4503599627370494 - b4)]:=rfl;rw [e5] at h0;have HC:=λw1=>aL (AK (a0 + (4503599627370458 - b0)) (a1 + (4503599627370494 - b1)) (a2 + (4503599627370494 - b2)) (a3 + (4503599627370494 - b3)) (a4 + (4503599627370494 - b4)) (by omega) (by omega) (by omega) (by omega) (by omega) w1);have hE:=Kd (a0:=a0 + (4503599627370458 - b0)) (a1:=a1 + (4503599627370494 - b1)) (a2:=a2 + (4503599627370494 - b2)) (a3:=a3 + (4503599627370494 - b3)) (a4:=a4 + (4503599627370494 - b4)) (by omega) (by omega) (by omega) (by omega) (by omega);rw [Vf r0 r1 r2 r3 r4,pv,rv] at hE;generalize crd (a0 + (4503599627370458 - b0)) (a1 + (4503599627370494 - b1)) (a2 + (4503599627370494 - b2)) (a3 + (4503599627370494 - b3)) (a4 + (4503599627370494 - b4)) = r at *;have hz : (Us [a0 + (4503599627370458 - b0),a1 + (4503599627370494 - b1),a2 + (4503599627370494 - b2),a3 + (4503599627370494 - b3),a4 + (4503599627370494 - b4)]).toArray.size = 5:=rfl;generalize (Us [a0 + (4503599627370458 - b0),a1 + (4503599627370494 - b1),a2 + (4503599627370494 - b2),a3 + (4503599627370494 - b3),a4 + (4503599627370494 - b4)]).toArray = cs at *;have HK:=aL (a5 h2 hbel);clear h1 h2 hbel ha hb p0 p1 p2 p3 p4 pv r0 r1 r2 r3 r4 rv e5;have hzr:=cG hE.len
   go_wp2_with (refine wpList_load_row rfl 116 _ rfl w.heap.size rfl 116 cs (0,0) _ h0 Tryz.underlying116 rfl (bT _ hz) ?_)
   refine (HC _).out.mono ?_
   rintro e w1 ⟨rfl,hw1⟩
   obtain ⟨h2,hbel⟩:=HK.out;have hb2:=hbel.trans (hw1.mono hbel.size);have h4:=h2.below hw1 h2.lt
   go_wp2_with (refine wpList_store_row rfl 116 _ _ rfl (w.heap.size + 1 + 1) rfl (Us r).toArray rfl 116 _ h4 (bT _ hzr) (by rw [hzr]; rfl) (cO _) ?_)
   refine bodyPost_ret (results_cell_row rfl _ _ (w.heap.size + 1 + 1) 116 (Us r).toArray (0,0) _ rfl (h4.row _) Tryz.underlying116 rfl (bT _ hzr)) rfl ⟨r,hE,rfl,?_⟩;exact below_setRow hb2 (by omega) _
theorem Sk (v : Nat) (hv : v < 18446744073709551616) (w : World) :
  Calls Tryz.prog 93 #[.int .u64 v] w λe w'=>∃ r,EB r (fof v) /\ e = .returned (.agg (Us r).toArray) /\ Below w.heap.size w w':=by
 go_enter Tryz.func93,Tryz.ntmps93
 go_wp2
 rw [En v hv]
 have hE : EB [v % 2251799813685248,v / 2251799813685248,0,0,0] (fof v):=EB.mk5 (by omega) (by omega) (by omega) (by omega) (by omega) (by
  congr 1
  rw [lv5]
  omega)
 refine bodyPost_ret (results_cell_row rfl _ _ w.heap.size 116 _ (0,0) _ rfl (heap_alloc_new w _) Tryz.underlying116 rfl (bT _ rfl)) rfl ⟨_,hE,rfl,?_⟩;exact (Below.refl _ _).alloc (aH _) _
theorem I4 (l : List Nat) (u k : Nat) : whs l u k = mx (λj=>(up2 l u j + l[j]!) % 2251799813685248) l k:=rfl
theorem I7 {l : List Nat} {x : F} (h : EB l x) : ∀ k,k <= 5 -> up1 l 19 k <= 19
 | 0,_=>aH _
 | k + 1,hk=>by
  have h1:=I7 h k (by omega);have h2:=rV h (k:=k) (by omega)
  show (l[k]! + up1 l 19 k) / 2251799813685248 <= 19
  omega
theorem N7 {l : List Nat} {x : F} (h : EB l x) {u : Nat} (hu : u <= 361) : ∀ k,k <= 5 -> up2 l u k <= 361
 | 0,_=>hu
 | k + 1,hk=>by
  have h1:=N7 h hu k (by omega);have h2:=rV h (k:=k) (by omega)
  show (up2 l u k + l[k]!) / 2251799813685248 <= 361
  omega
theorem BF {a : List Nat} {x : F} (ha : EB a x) (w : World) :
  Calls Tryz.prog 113 #[.agg (Us a).toArray] w λe w'=>e = .returned (.agg (Us (whole a)).toArray) /\ Below w.heap.size w w':=by
 have hW : whole a = whs a (up1 a 19 5 * 19) 5:=rfl;rw [hW];clear hW;generalize hq1 : up1 a 19 5 = q;generalize hu0 : q * 19 = u0
 go_enter Tryz.func113,Tryz.ntmps113
 go_wp2
 go_loopw [6,3] (λi u wr=>∃ k : Nat,k <= 5 /\ i = .int .i64 k /\ u = .int .u64 (up1 a 19 k : Nat) /\ Blk wr w.heap.size 116 (Us a).toArray /\ Blk wr (w.heap.size + 1) 116 z5 /\ Below w.heap.size w wr) (λi _ _=>5 - (intOf i).toNat)
 case atStart =>
  exact ⟨0,by omega,rfl,rfl,heap_alloc2_old w _ _,heap_alloc2_new w _ _,((Below.refl _ _).alloc (aH _) _).alloc (by simp) _⟩
 case round =>
  obtain ⟨k,hk,rfl,rfl,h0,h1,hbel⟩:=hrel
  by_cases hlt : k < 5
  ·have hN : up1 a 19 (k + 1) = (a[k]! + up1 a 19 k) / 2251799813685248:=rfl
   have c0:=(h0.cell k).trans (iY (by rw [ha.len]; exact hlt));have b0:=rV ha hlt;have b1:=I7 ha k (by omega);generalize a[k]! = u at *;generalize up1 a 19 k = v at *
   have q1 : IntKind.u64.wrap ((u : Int) + (v : Int)) = ((u + v : Nat) : Int):=by rw [aP]; omega
   have q2 : (0 : Int) <= (k : Int):=by omega
   have HK:=aL (a5 h0 (a5 h1 (a5 hbel hN)));clear h0 h1 hbel hN
   go_wp2
   go_roundw
   case rel =>
    obtain ⟨h0,h1,hbel,hN⟩:=HK.out;exact ⟨k + 1,by omega,by go_num,by rw [hN]; congr 1,h0,h1,hbel⟩
   case measure=>simp [intOf]; omega
  ·obtain rfl : k = 5:=by omega
   have b1:=I7 ha 5 (by omega);rw [hq1] at b1 ⊢
   have hq : u0 <= 361:=by omega
   have q1 : IntKind.u64.wrap ((q : Int) * 19) = (u0 : Int):=by rw [aP]; omega
   clear hq1 hu0
   have hW0 : whs a u0 0 = a:=by rw [I4,Fs _ ha.len]
   have HK:=aL (a5 h0 (a5 h1 hbel));clear h0 h1 hbel
   go_wp2
   go_loopw [19,3] (λi u wq=>∃ k : Nat,k <= 5 /\ i = .int .i64 k /\ u = .int .u64 (up2 a u0 k : Nat) /\ Blk wq w.heap.size 116 (Us (whs a u0 k)).toArray /\ Blk wq (w.heap.size + 1) 116 z5 /\ Below w.heap.size w wq) (λi _ _=>5 - (intOf i).toNat)
   case atStart =>
    obtain ⟨h0,h1,hbel⟩:=HK.out;exact ⟨0,by omega,rfl,rfl,by rw [hW0]; exact h0,h1,hbel⟩
   case round =>
    obtain ⟨k,hk,rfl,rfl,h0,h1,hbel⟩:=hrel;clear HK
    by_cases hlt : k < 5
    ·have hN : up2 a u0 (k + 1) = (up2 a u0 k + a[k]!) / 2251799813685248:=rfl
     have hS : (whs a u0 k).set k ((up2 a u0 k + a[k]!) % 2251799813685248) = whs a u0 (k + 1):=Ft (λj=>(up2 a u0 j + a[j]!) % 2251799813685248) a;have hg : (whs a u0 k)[k]! = a[k]!:=JL _ a hlt;have c0:=(h0.cell k).trans (iY (by rw [I4,As]; exact hlt));rw [hg] at c0;have hf:=h0.free k;have b0:=rV ha hlt;have b1:=N7 ha hq k (by omega);generalize a[k]! = u at *;generalize up2 a u0 k = v at *
     have q2 : IntKind.u64.wrap ((v : Int) + (u : Int)) = ((v + u : Nat) : Int):=by rw [aP]; omega
     have q3:=En (v + u) (by omega)
     have q4 : (0 : Int) <= (k : Int):=by omega
     have HK:=aL (a5 h0 (a5 h1 (a5 hbel (a5 hN hS))));clear h0 h1 hbel hN hS hg;generalize hs : v + u = s at *
     go_wp2
     go_roundw
     case rel =>
      obtain ⟨h0,h1,hbel,hN,hS⟩:=HK.out;have h4:=h0.set k (.int .u64 ((s % 2251799813685248 : Nat) : Int));rw [vJ,hS] at h4;exact ⟨k + 1,by omega,by go_num,by rw [hN]; congr 1,h4,h1.far (by simp) _,hbel.setCell (by simp) _⟩
     case measure=>simp [intOf]; omega
    ·obtain rfl : k = 5:=by omega
     have hz : (Us (whs a u0 5)).toArray.size = 5:=cG (by rw [I4,As])
     go_wp2_with (first
      | (refine wpList_load_row rfl 116 _ rfl w.heap.size rfl 116 (Us (whs a u0 5)).toArray (0,0) _ h0 Tryz.underlying116 rfl (bT _ hz) ?_)
      | (refine wpList_store_row rfl 116 _ _ rfl (w.heap.size + 1) rfl (Us (whs a u0 5)).toArray rfl 116 _ h1 (bT _ hz) (by rw [hz]; rfl) (cO _) ?_))
     refine bodyPost_ret (results_cell_row rfl _ _ (w.heap.size + 1) 116 (Us (whs a u0 5)).toArray (0,0) _ rfl (h1.row _) Tryz.underlying116 rfl (bT _ hz)) rfl ⟨rfl,?_⟩;exact below_setRow hbel (by omega) _
end Go.Proofs.YtfkchihlchlfdaaGreatDoor
