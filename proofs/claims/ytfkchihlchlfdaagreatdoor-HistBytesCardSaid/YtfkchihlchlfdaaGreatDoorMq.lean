import Derived.Test.YtfkchihlchlfdaaGreatDoorMp
import Derived.Deep.Slices
import Derived.Test.YtfkchihlchlfdaaGreatDoorMo
import Derived.LaidMore
import Derived.SevenTiedAt
import Derived.Stop.Joined
import Derived.Test.YtfkchihlchlfdaaGreatDoorMm
import Derived.Test.YtfkchihlchlfdaaGreatDoorCards
import Derived.Test.YtfkchihlchlfdaaGreatDoorTie
set_option maxRecDepth 20000
open Go.DataW renaming trod->nB,trod_int->Gd
open Go.World renaming block_lt_of_cell?->nT
open List renaming getElem?_eq_getElem->aX,take_append_drop->dR,getElem?_map->Dq
open Option.some renaming injEq->bG,inj->fV
open UInt8 renaming ofNat->cR
namespace Go.Proofs.YtfkchihlchlfdaaGreatDoor
open Go.RowKit Go.IntWalk
open Go.ChangeShapes Go.WideShapes Go.ChangeAt
theorem JI {H : Type} {enc : TypeId × Value -> H} {W : World} {held : Bool} {fuel : Nat} {cs : List Value} {x : DataW H × List MemPlace} (h : nB enc Tryz.prog W 0 (λ_=>true) held fuel 23 cs = some x) :
  ∃ (A : Option Addr) (l : List UInt8) (c : Nat),cs = [.slice A l.length c] /\ SL W 0 W.heap.size A l c:=by
 rcases open_ints Tryz.underlying23 Tryz.underlying5 Kg h with ⟨rfl,rfl⟩ | ⟨a,len,cap,zs,rfl,_,hl,hm,hz,rfl,hcell,hwz⟩
 ·exact ⟨none,[],0,rfl,SL.nil _ _ _⟩
 ·have hz' : zs.length = cap:=hz
  have hlen : ((zs.take len).map λz=>cR z.toNat).length = len:=by simp; omega
  refine ⟨some a,(zs.take len).map λz=>cR z.toNat,cap,by rw [hlen],by rw [hlen]; exact hl,by unfold maxLen at hm; omega,λh=>(by cases h),λhpos=>⟨a,rfl,Nat.zero_le _,?_,λj x hx=>?_⟩⟩
  ·have h0 : 0 < zs.length:=by rw [hlen] at hpos; omega
   have:=nT W _ (hcell 0 h0)
   rwa [block_add] at this
  ·simp only [Dq,List.getElem?_take,Option.map_eq_some_iff] at hx
   obtain ⟨z,hz,rfl⟩:=hx
   split at hz
   ·have hj:=(List.getElem?_eq_some_iff.1 hz).1
    have hb:=range_u8 hwz j
    have hg : zs.getD j 0 = z:=by simp [List.getD,hz]
    rw [hz] at hb;simp only [Option.getD_some] at hb;rw [hcell j hj,hg]
    have e : (cR z.toNat).toNat = z.toNat:=by
     simp
     omega
    rw [e,Int.toNat_of_nonneg hb.1]
   ·cases hz
theorem Uf {cs : List Value} (hl : cs.length = 64) (h : ∀ i,i < 64 -> ∃ n : Int,cs[i]? = some (.int .u8 n) /\ 0 <= n /\ n < 256) : ∃ l : List UInt8,l.length = 64 /\ cs = By l:=by
 refine ⟨cs.map λv=>match v with | .int _ n=>cR n.toNat | _=>0,by simp [hl],?_⟩
 apply List.ext_getElem (by simp [By])
 intro i h1 h2
 obtain ⟨n,hn,h0,h3⟩:=h i (by omega)
 have e : cs[i] = .int .u8 n:=by
  have:=aX h1;rw [hn] at this;exact (fV this).symm
 simp only [By,List.getElem_map,e]
 congr 1
 rw [UInt8.toNat_ofNat']
 omega
end Go.Proofs.YtfkchihlchlfdaaGreatDoor
namespace Go.Proofs.YtfkchihlchlfdaaGreatDoor
open Go.RowKit Go.IntWalk
open Go.ChangeShapes Go.WideShapes Go.ChangeAt
theorem IC : Tryz.prog.cellsOf 38 = 64:=by kernel_rfl
theorem Mt {H : Type} {enc : TypeId × Value -> H} {W : World} {held : Bool} {fuel : Nat} {cs : List Value} {x : DataW H × List MemPlace} (h : nB enc Tryz.prog W 0 (λ_=>true) held fuel 38 cs = some x) :
  ∃ l : List UInt8,l.length = 64 /\ cs = By l:=by
 obtain ⟨xs,m,rfl,_,hlen,hn,hel⟩:=DataW.trod_array Tryz.underlying38 h;rw [IC] at hlen
 exact Uf hlen (λi hi=>by
  have h0:=hel i hi;rw [Kg] at h0;obtain ⟨x,hx⟩ : ∃ x,xs[i]? = some x:=⟨xs[i]'(by omega),aX (by omega)⟩;rw [hx] at h0;obtain ⟨n,e1,_,hw⟩:=Gd Tryz.underlying5 h0;have hb:=bounds_u8 hw
  exact ⟨n,JJ e1,by omega,by omega⟩)
theorem Mg {H : Type} {enc : TypeId × Value -> H} {W : World} {held : Bool} (n : Nat) (cs : List Value) (x : DataW H × List MemPlace) (h : nB enc Tryz.prog W 0 (λ_=>true) held n 40 cs = some x) :
  ∃ u : UV,cs = (eU u).cl /\ OkP (eU u).iN /\ (eU u).cl.length = 129:=by
 obtain ⟨xs,m,_,_,hl,hlen,hf⟩:=DataW.trod_struct Tryz.underlying40 h;have hl129 : cs.length = 129:=hl.trans (by kernel_rfl)
 obtain ⟨x0,x1,x2,x3,rfl⟩ : ∃ a b c d,xs = [a,b,c,d]:=by
  match xs,(show xs.length = 4 from hlen) with
  | [a,b,c,d],_=>exact ⟨a,b,c,d,rfl⟩
 have h0 : nB enc Tryz.prog W 0 (λ_=>true) held m 27 ((cs.drop 0).take (Tryz.prog.cellsOf 27)) = some x0:=hf 0 _ rfl;have h1 : nB enc Tryz.prog W 0 (λ_=>true) held m 3 ((cs.drop 32).take (Tryz.prog.cellsOf 3)) = some x1:=hf 1 _ rfl;have h2 : nB enc Tryz.prog W 0 (λ_=>true) held m 27 ((cs.drop 33).take (Tryz.prog.cellsOf 27)) = some x2:=hf 2 _ rfl;have h3 : nB enc Tryz.prog W 0 (λ_=>true) held m 38 ((cs.drop 65).take (Tryz.prog.cellsOf 38)) = some x3:=hf 3 _ rfl;rw [LW] at h0 h2;rw [IC] at h3;rw [show Tryz.prog.cellsOf 3 = 1 by kernel_rfl] at h1;obtain ⟨l0,k0,e0⟩:=CS h0;obtain ⟨n1,e1,_⟩:=Gd Tryz.underlying3 h1;obtain ⟨l2,k2,e2⟩:=CS h2;obtain ⟨l3,k3,e3⟩:=Mt h3;have e1 : (cs.drop 32).take 1 = [.int .i64 n1]:=e1;have a1 : cs = cs.take 32 ++ cs.drop 32:=(dR 32 cs).symm
 have a2 : cs.drop 32 = (cs.drop 32).take 1 ++ cs.drop 33:=by
  have:=(dR 1 (cs.drop 32)).symm
  rwa [List.drop_drop] at this
 have a3 : cs.drop 33 = (cs.drop 33).take 32 ++ cs.drop 65:=by
  have:=(dR 32 (cs.drop 33)).symm
  rwa [List.drop_drop] at this
 have a4 : (cs.drop 65).take 64 = cs.drop 65:=List.take_of_length_le (by rw [List.length_drop]; omega);rw [a4] at e3;rw [List.drop_zero] at e0;refine ⟨⟨l0,n1,l2,l3⟩,?_,Q1 ⟨k0,k2,k3⟩⟩
 show cs = (eI (⟨l0,n1,l2,l3⟩ : UV).parts).toList
 rw [B8,a1,a2,a3,e0,e1,e2,e3]
 rfl
end Go.Proofs.YtfkchihlchlfdaaGreatDoor
namespace Go.Proofs.YtfkchihlchlfdaaGreatDoor
open Go.ChangeShapes Go.WideShapes Go.ChangeAt Go.RowKit
theorem T8 : Tryz.prog.cellsOf 48 = 1:=by kernel_rfl
theorem uM {W : World} {nm : String} {g g0 t0 tid n fuel : Nat} {l : List Nat} {datum : DataW Unit} {cs : List Value} {p : List MemPlace} (hg : Tryz.prog.globalNamed nm = some g) (ht : (Tryz.prog.globals[g]?).map (·.type) = some tid) (hu : Tryz.prog.underlying tid = some (.array n 48))
  (hd : datum = .agg (l.map λ(x : Nat)=>.lit (.int .u64 (x : Int)))) (hg0 : Tryz.prog.globalNamed nm = some g0) (ht0 : (Tryz.prog.globals[g0]?).map (·.type) = some t0) (hv0 : W.var? Tryz.prog nm = some cs.toArray) (hd0 : nB (λ_=>()) Tryz.prog W 0 (λ_=>true) false fuel t0 cs = some (datum,p)) :
  ∀ i,i < n -> W.cell? ⟨g,i,none⟩ = some (.int .u64 (l[i]! : Nat)):=by
 obtain rfl:=fV (hg.symm.trans hg0);obtain rfl:=fV (ht.symm.trans ht0);obtain ⟨xs,m1,rfl,hx1,hlen,hn5,hel⟩:=DataW.trod_array hu hd0;have hx2:=congrArg Prod.fst hx1;rw [hd] at hx2
 injection hx2 with hx2
 intro i hi
 have h0:=hel i hi;rw [T8] at h0;obtain ⟨x,hxi⟩ : ∃ x,xs[i]? = some x:=⟨xs[i]'(by omega),aX (by omega)⟩;rw [hxi] at h0;obtain ⟨n',e1,e2,_⟩:=Gd Tryz.underlying48 h0
 have hll : l.length = n:=by
  have:=congrArg List.length hx2;simp only [List.length_map] at this
  omega
 have h3 : (l.map λ(x : Nat)=>(DataW.lit (.int .u64 (x : Int)) : DataW Unit))[i]? = (xs.map (·.1))[i]?:=by rw [hx2]
 rw [Dq,Dq,hxi,aX (by omega)] at h3;simp only [Option.map_some,bG] at h3;rw [e2] at h3
 have hn : n' = ((l[i]! : Nat) : Int):=by
  rw [getElem!_pos l i (by omega)]
  injection h3 with h3
  injection h3 with _ h3
  exact h3.symm
 subst hn;have hcell:=World.var?_cell hg hv0 i;rw [hcell];have:=JJ e1
 simpa using this
end Go.Proofs.YtfkchihlchlfdaaGreatDoor
namespace Go.Proofs.YtfkchihlchlfdaaGreatDoor
open Go.ChangeShapes Go.WideShapes Go.ChangeAt Go.RowKit Nums
def HI : List (String × DataW Unit):=[("witan/field.twice",Rows.laid_witan_field_twice),("witan/sha.starts",Rows.laid_witan_sha_starts),("witan/sha.steps",Rows.laid_witan_sha_steps)]
theorem Q2 (os : Os) (args : Array Value) : laidMetH Tryz.prog HI ((World.doorLaid Tryz.prog 400 os).forCall (λ_ _=>0) ⟨#[],args,[]⟩).memory :=
 laidMetH_of_parts3 (fuel:=8) (laidMet_of_run' 8 (by kernel_rfl) (by kernel_rfl)) (by kernel_rfl) (by kernel_rfl)
theorem Th {W : World} (h : laidMetH Tryz.prog HI W) : Ta W:=by
 rw [MakeChecks.laidMetH_plain _ _ _ (by kernel_rfl)] at h;obtain ⟨ps,⟨g0,t0,cs0,f0,p0,q0,hg0,ht0,hv0,hd0,⟨g1,t1,cs1,f1,p1,q1,hg1,ht1,hv1,hd1,⟨g2,t2,cs2,f2,p2,q2,hg2,ht2,hv2,hd2,_,_⟩,_⟩,_⟩,_,_⟩:=h;have c0:=uM (l:=twl) (n:=5) (g:=2) (tid:=114) (by kernel_rfl) (by kernel_rfl) Tryz.underlying114 (by kernel_rfl) hg0 ht0 hv0 hd0;have c1:=uM (l:=sqs) (n:=8) (g:=0) (tid:=100) (by kernel_rfl) (by kernel_rfl) Tryz.underlying100 (by kernel_rfl) hg1 ht1 hv1 hd1;have c2:=uM (l:=cbs) (n:=80) (g:=1) (tid:=105) (by kernel_rfl) (by kernel_rfl) Tryz.underlying105 (by kernel_rfl) hg2 ht2 hv2 hd2;exact ⟨⟨c0,nT W ⟨2,0,none⟩ (c0 0 (by omega))⟩,⟨⟨c2,nT W ⟨1,0,none⟩ (c2 0 (by omega))⟩,c1,nT W ⟨0,0,none⟩ (c1 0 (by omega))⟩⟩
end Go.Proofs.YtfkchihlchlfdaaGreatDoor
