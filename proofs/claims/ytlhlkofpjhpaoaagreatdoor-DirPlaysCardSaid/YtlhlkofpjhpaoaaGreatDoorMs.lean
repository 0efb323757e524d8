import Derived.Test.YtlhlkofpjhpaoaaGreatDoorMr
import Derived.LaidMore
import Derived.SevenTiedAt
import Derived.Stop.Joined
import Derived.Test.YtlhlkofpjhpaoaaGreatDoorMj
import Derived.Test.YtlhlkofpjhpaoaaGreatDoorCards
import Derived.Test.YtlhlkofpjhpaoaaGreatDoorTie
import Derived.Test.YtlhlkofpjhpaoaaGreatDoorMd
set_option maxRecDepth 20000
open Go.DataW renaming trod->jX,trod_int->mV
open Go.World renaming block_lt_of_cell?->lN
open List renaming getElem?_eq_getElem->aK,getElem?_map->fA
open Option.some renaming injEq->aW,inj->cR
namespace Go.Proofs.YtlhlkofpjhpaoaaGreatDoor
open Go.ChangeShapes Go.WideShapes Go.ChangeAt Go.RowKit
theorem cells64:Tryz.prog.cellsOf 123 = 1:=by kernel_rfl
theorem table_cells{W:World}{nm:String}{g g0 t0 tid n fuel:Nat}{l:List Nat}{datum:DataW Unit}{cs:List Value}{p:List MemPlace}(hg:Tryz.prog.globalNamed nm=some g)(ht:(Tryz.prog.globals[g]?).map (·.type)=some tid)(hu:Tryz.prog.underlying tid=some (.array n 123))
 (hd:datum = .agg (l.map λ(x:Nat)=>.lit (.int .u64 (x:Int))))(hg0:Tryz.prog.globalNamed nm=some g0)(ht0:(Tryz.prog.globals[g0]?).map (·.type)=some t0)(hv0:W.var? Tryz.prog nm=some cs.toArray)(hd0:jX (λ_=>()) Tryz.prog W 0 (λ_=>true) false fuel t0 cs=some (datum,p)) :
  ∀i,i<n->W.cell? ⟨g,i,none⟩=some (.int .u64 (l[i]! : Nat)):=by
 obtain rfl:=cR (hg.symm.trans hg0);obtain rfl:=cR (ht.symm.trans ht0);obtain⟨xs,m1,rfl,hx1,hlen,hn5,hel⟩:=DataW.trod_array hu hd0;have hx2:=congrArg Prod.fst hx1;rw [hd] at hx2
 injection hx2 with hx2
 intro i hi
 have h0:=hel i hi;rw [cells64] at h0;obtain⟨x,hxi⟩:∃x,xs[i]?=some x:=⟨xs[i]'(by omega),aK (by omega)⟩;rw [hxi] at h0;obtain⟨n',e1,e2,_⟩:=mV Tryz.underlying123 h0
 have hll:l.length=n:=by
  have:=congrArg List.length hx2;simp only [List.length_map] at this
  omega
 have h3:(l.map λ(x:Nat)=>(DataW.lit (.int .u64 (x:Int)):DataW Unit))[i]?=(xs.map (·.1))[i]?:=by rw [hx2]
 rw [fA,fA,hxi,aK (by omega)] at h3;simp only [Option.map_some,aW] at h3;rw [e2] at h3
 have hn:n'=((l[i]! : Nat):Int):=by
  rw [getElem!_pos l i (by omega)]
  injection h3 with h3
  injection h3 with _ h3
  exact h3.symm
 subst hn;have hcell:=World.var?_cell hg hv0 i;rw [hcell];have:=one_of e1
 simpa using this
end Go.Proofs.YtlhlkofpjhpaoaaGreatDoor
namespace Go.Proofs.YtlhlkofpjhpaoaaGreatDoor
open Go.ChangeShapes Go.WideShapes Go.ChangeAt Go.RowKit Nums
def laid3:List (String×DataW Unit):=[("witan/field.twice",Rows.laid_witan_field_twice),("witan/sha.starts",Rows.laid_witan_sha_starts),("witan/sha.steps",Rows.laid_witan_sha_steps)]
theorem door_met(os:Os)(args:Array Value):laidMetH Tryz.prog laid3 ((World.doorLaid Tryz.prog 400 os).forCall (λ_ _=>0) ⟨#[],args,[]⟩).memory :=
 laidMetH_of_parts3 (fuel:=8) (laidMet_of_run' 8 (by kernel_rfl) (by kernel_rfl)) (by kernel_rfl) (by kernel_rfl)
theorem of_laid{W:World}(h:laidMetH Tryz.prog laid3 W):Ta W:=by
 rw [MakeChecks.laidMetH_plain _ _ _ (by kernel_rfl)] at h;obtain⟨ps,⟨g0,t0,cs0,f0,p0,q0,hg0,ht0,hv0,hd0,⟨g1,t1,cs1,f1,p1,q1,hg1,ht1,hv1,hd1,⟨g2,t2,cs2,f2,p2,q2,hg2,ht2,hv2,hd2,_,_⟩,_⟩,_⟩,_,_⟩:=h;have c0:=table_cells (l:=twl) (n:=5) (g:=3) (tid:=191) (by kernel_rfl) (by kernel_rfl) Tryz.underlying191 (by kernel_rfl) hg0 ht0 hv0 hd0;have c1:=table_cells (l:=sqs) (n:=8) (g:=0) (tid:=217) (by kernel_rfl) (by kernel_rfl) Tryz.underlying217 (by kernel_rfl) hg1 ht1 hv1 hd1;have c2:=table_cells (l:=cbs) (n:=80) (g:=1) (tid:=222) (by kernel_rfl) (by kernel_rfl) Tryz.underlying222 (by kernel_rfl) hg2 ht2 hv2 hd2;exact⟨⟨c0,lN W ⟨3,0,none⟩ (c0 0 (by omega))⟩,⟨⟨c2,lN W ⟨1,0,none⟩ (c2 0 (by omega))⟩,c1,lN W ⟨0,0,none⟩ (c1 0 (by omega))⟩⟩
end Go.Proofs.YtlhlkofpjhpaoaaGreatDoor
namespace Go.Proofs.YtlhlkofpjhpaoaaGreatDoor
open Go.RowKit Go.IntWalk
open Go.ChangeShapes Go.WideShapes Go.ChangeAt
theorem eAc_cl(a:AcV):(eAc a).cl=[.int .i64 a.who,.int .i64 a.ver,.int .i64 a.key,.bool a.wr,.bool a.cut]:=by
 simp [SQ.cl,AcV.parts,SQ.den,Value.cells,catP,Pt.cells,SC.den]
theorem eAc_ok(a:AcV):OkP (eAc a).parts1/\(eAc a).cl.length=5:=⟨λq hq=>by
 have hq:q∈a.parts:=hq;simp only [AcV.parts,List.mem_cons,List.not_mem_nil,or_false] at hq
 rcases hq with rfl|rfl|rfl|rfl|rfl<;>exact⟨trivial,rfl,rfl⟩,by rw [eAc_cl];rfl⟩
theorem five_of{α:Type}{l:List α}(h:l.length=5):∃a b c d e,l=[a,b,c,d,e]:=by
 match l,h with
 | [a,b,c,d,e],_=>exact⟨a,b,c,d,e,rfl⟩
theorem act_cells{H:Type}{enc:TypeId×Value->H}{W:World}{held:Bool}(n:Nat)(cs:List Value)(x:DataW H×List MemPlace)(h:jX enc Tryz.prog W 0 (λ_=>true) held n 80 cs=some x) :
  ∃a:AcV,cs=(eAc a).cl/\OkP (eAc a).parts1/\(eAc a).cl.length=5:=by
 obtain⟨xs,m,_,_,hl,hlen,hf⟩:=DataW.trod_struct Tryz.underlying80 h;obtain⟨a,b,c,d,e,rfl⟩:=five_of (hl.trans (by kernel_rfl));obtain⟨x0,x1,x2,x3,x4,rfl⟩:=five_of (show xs.length=5 from hlen)
 have c0:Tryz.prog.cellsOf 3 = 1:=by kernel_rfl
 have c1:Tryz.prog.cellsOf 4 = 1:=by kernel_rfl
 have h0:jX enc Tryz.prog W 0 (λ_=>true) held m 3 (([a,b,c,d,e].drop 0).take (Tryz.prog.cellsOf 3))=some x0:=hf 0 _ rfl;have h1:jX enc Tryz.prog W 0 (λ_=>true) held m 3 (([a,b,c,d,e].drop 1).take (Tryz.prog.cellsOf 3))=some x1:=hf 1 _ rfl;have h2:jX enc Tryz.prog W 0 (λ_=>true) held m 3 (([a,b,c,d,e].drop 2).take (Tryz.prog.cellsOf 3))=some x2:=hf 2 _ rfl;have h3:jX enc Tryz.prog W 0 (λ_=>true) held m 4 (([a,b,c,d,e].drop 3).take (Tryz.prog.cellsOf 4))=some x3:=hf 3 _ rfl;have h4:jX enc Tryz.prog W 0 (λ_=>true) held m 4 (([a,b,c,d,e].drop 4).take (Tryz.prog.cellsOf 4))=some x4:=hf 4 _ rfl;rw [c0] at h0 h1 h2;rw [c1] at h3 h4;obtain⟨n0,e0,_⟩:=mV Tryz.underlying3 h0;obtain⟨n1,e1,_⟩:=mV Tryz.underlying3 h1;obtain⟨n2,e2,_⟩:=mV Tryz.underlying3 h2;obtain⟨n3,e3,_⟩:=DataW.trod_bool Tryz.underlying4 h3;obtain⟨n4,e4,_⟩:=DataW.trod_bool Tryz.underlying4 h4
 injection e0 with e0
 injection e1 with e1
 injection e2 with e2
 injection e3 with e3
 injection e4 with e4
 subst e0 e1 e2 e3 e4;exact⟨⟨n0,n1,n2,n3,n4⟩,(eAc_cl ⟨n0,n1,n2,n3,n4⟩).symm,eAc_ok _⟩
end Go.Proofs.YtlhlkofpjhpaoaaGreatDoor
