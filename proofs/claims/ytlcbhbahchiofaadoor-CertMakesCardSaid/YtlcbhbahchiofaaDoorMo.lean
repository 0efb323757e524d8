/-
  SEVERAL TEXTS IN ONE: Vq, Law, Opens, Law6.
-/
import Derived.Test.YtlcbhbahchiofaaDoorMn
import Derived.Test.YtlcbhbahchiofaaDoorRows
import Derived.Test.YtlcbhbahchiofaaDoorMa
import Derived.ProofKit
import Derived.OpenShut
import Derived.SizedLaws
import Derived.Deep.Slices
import Derived.Test.YtlcbhbahchiofaaDoorMk
import Derived.Test.YtlcbhbahchiofaaDoorCards
import Derived.Test.YtlcbhbahchiofaaDoorTie
import Derived.LaidMore
import Derived.SevenTiedAt
import Derived.Stop.Joined
/-
  MORE STEPS, over states: remainders by what is known, bytes that are turned.
-/
namespace Go.Proofs.YtlcbhbahchiofaaDoor
open Go.RowKit Go.IntWalk

theorem wrapU_mod (f : Int) (m : Nat) (h0 : 0 < m) (hm : m ≤ 4294967296) : ∃ k : Nat,k < m ∧ k = (IntKind.u64.wrap f).toNat % m ∧ IntKind.i64.wrap ((IntKind.u64.wrap f).tmod (m : Int)) = (k : Int):=by
 have h1 : 0 ≤ IntKind.u64.wrap f:=by show 0 ≤ f % 18446744073709551616; omega
 refine ⟨(IntKind.u64.wrap f).toNat % m,Nat.mod_lt _ h0,rfl,?_⟩
 have h2 : (IntKind.u64.wrap f).tmod (m : Int) = (((IntKind.u64.wrap f).toNat % m : Nat) : Int):=by
  rw [Int.tmod_eq_emod_of_nonneg h1,Int.natCast_emod,Int.toNat_of_nonneg h1]
 have h3:=Nat.mod_lt (IntKind.u64.wrap f).toNat h0;exact wrapI h2 (by omega) (by omega)
theorem wrapU {m r : Int} (h : m = r) (h1 : 0 ≤ r) (h2 : r < 18446744073709551616) : IntKind.u64.wrap m = r:=by
 subst h
 show m % 18446744073709551616 = m
 omega
theorem run_remU {N : Nat} {E : SE} {o : Oper} {x y : Operand} {t' : TypeId} {m n : Int} (hz : n ≠ 0) (ho : o.op = .binOp .rem 25 x y t') (hx : evS E x = some (.v (.int .u64 m))) (hy : evS E y = some (.v (.int .u64 n))) :
  ∀ (G : Nat → Nat) (a : Act) (w : World),Fr N (denE G E) a → (execOp a.eval o).run Tryd.prog w = .ok (.value ((SV.v (.int .u64 (m.tmod n))).den G)) w:=fun G a w ha=>by
 have h1 : a.eval x = .int .u64 m:=ha.eval (evS_ok hx);have h2 : a.eval y = .int .u64 n:=ha.eval (evS_ok hy)
 unfold execOp
 simp only [ho,h1,h2]
 show _ = Result.ok (Next.value (.int .u64 (m.tmod n))) w
 go_simp
theorem byte_z {z : Int} (h : 0 ≤ z ∧ z < 256) : ∃ y : UInt8,z = (y.toNat : Int):=⟨UInt8.ofNat z.toNat,by rw [UInt8.toNat_ofNat']; omega⟩
theorem xor_b1 (a : UInt8) : ∃ y : UInt8,bits .xor .u8 (a.toNat : Int) 1 = (y.toNat : Int):=by
 have key : ∀ m : Nat,m < 256 → 0 ≤ bits .xor .u8 (m : Int) 1 ∧ bits .xor .u8 (m : Int) 1 < 256:=by decide +kernel
 exact byte_z (key a.toNat a.toNat_lt)
theorem xor_b4 (a : UInt8) : ∃ y : UInt8,bits .xor .u8 (a.toNat : Int) 4 = (y.toNat : Int):=by
 have key : ∀ m : Nat,m < 256 → 0 ≤ bits .xor .u8 (m : Int) 4 ∧ bits .xor .u8 (m : Int) 4 < 256:=by decide +kernel
 exact byte_z (key a.toNat a.toNat_lt)
theorem sh_at {s : SC} {l : List UInt8} {j : Nat} (hj : j < l.length) : (catP [.one s,.agg 64 (By l).toArray])[1 + j]? = some (.int .u8 (l[j].toNat : Int)):=by
 have h1:=By_at? hj;rw [getElem!_pos l j hj] at h1
 show (#[s.den] ++ (By l).toArray)[1 + j]? = _
 rw [Array.getElem?_append_right (by simp)]
 simpa using h1
theorem sh_set {s : SC} {l : List UInt8} {j : Nat} (y : UInt8) : (catP [.one s,.agg 64 (By (l.set j y)).toArray]).toList = (catP [.one s,.agg 64 (By l).toArray]).toList.set (1 + j) (.int .u8 (y.toNat : Int)):=by
 have h : ∀ l : List UInt8,(catP [.one s,.agg 64 (By l).toArray]).toList = s.den :: By l:=fun l=>by
  show (#[s.den] ++ (By l).toArray).toList = _
  simp
 have e : By (l.set j y) = (By l).set j (.int .u8 (y.toNat : Int)):=List.map_set;rw [h,h,Nat.add_comm,List.set_cons_succ,e]
theorem tmod_nat (f : Int) (m : Nat) (h0 : 0 < m) : ∃ k : Nat,k < m ∧ (IntKind.u64.wrap f).tmod (m : Int) = (k : Int):=by
 have h1 : 0 ≤ IntKind.u64.wrap f:=by show 0 ≤ f % 18446744073709551616; omega
 exact ⟨(IntKind.u64.wrap f).toNat % m,Nat.mod_lt _ h0,by rw [Int.tmod_eq_emod_of_nonneg h1,Int.natCast_emod,Int.toNat_of_nonneg h1]⟩
section
variable {α : Type} {fe : α → SQ} {l : List α} {P : Program} {b : Base} {ops : Array Oper} {Q : Exit → Act → World → Prop} {N : Nat} {E : SE} {L : List LV} {R : List Res} {F M : World → Prop} {e : TypeId} {A : Option Addr} {lo c sz : Nat}
theorem l_skipU {o : Oper} {rest : List Oper} {j t k : Nat} {q : Bool} (hgd : o.guard = some (j,q)) (hj : (ops[j]?).bind (·.dst) = some t) (hN : Nat.blt t N = true) (ht : lookS E t = some (.v undef)) (hd : o.dst = some k) (hk : Nat.blt k N = true)
  (hn : lS P b ops Q N rest ⟨(k,.v undef) :: E,L,R,F,M⟩) : lS P b ops Q N (o :: rest) ⟨E,L,R,F,M⟩:=fun a w ⟨G,S,h1,h2,h3⟩=>by
 have hw : Region.wanted o (yielded ops a.tmps) = false:=by
  have h4:=h1.get t undef (by rw [look_den,ht]; rfl)
  have htN : t < a.tmps.size:=by rw [h1.size]; simpa using hN
  simp only [Act.eval,Array.getD_eq_getD_getElem?] at h4
  have h5 : a.tmps[t]? = some undef:=by
   rw [Array.getElem?_eq_getElem htN] at h4 ⊢
   simpa using h4
  unfold Region.wanted
  rw [hgd]
  simp [yielded,hj,h5,undef]
 unfold wpList
 rw [hw,if_neg (by decide),hd];exact hn _ w ⟨G,S,h1.put hk undef,h2.cons trivial,h3⟩
theorem s_where {y : Code} (i : Nat) (hi : R[i]? = some (OwnS lo e sz fe A c l)) (h0 : 0 < l.length) (h : ∀ g,A = some ⟨g,0,none⟩ → cS P b y Q N ⟨E,L,R,F,M⟩) : cS P b y Q N ⟨E,L,R,F,M⟩:=fun a w ⟨G,S,h1,h2,h3⟩=>by
 obtain ⟨S1,⟨_,hrow,_⟩,_⟩:=h3.put hi
 rcases hrow.2 with ⟨_,h7⟩ | ⟨g,cap,cur,hv,_⟩
 ·omega
 injection hv with v1 _ _
 exact h g v1 a w ⟨G,S,h1,h2,h3⟩
theorem s_own {y : Code} (i : Nat) (hi : R[i]? = some (OwnS lo e sz fe A c l)) (h : OkF sz fe l → l.length ≤ c → (A = none → c = 0) → cS P b y Q N ⟨E,L,R,F,M⟩) : cS P b y Q N ⟨E,L,R,F,M⟩:=fun a w ⟨G,S,h1,h2,h3⟩=>by
 obtain ⟨S1,h5,_⟩:=h3.put hi;have hr:=OwnS.rd h5;exact h hr.2.2.2.1 hr.1 hr.2.2.1 a w ⟨G,S,h1,h2,h3⟩
theorem OwnS.cut {w : World} {S : Nat → Prop} (h : (OwnS lo e sz fe A c l).holds w S) (m : Nat) : (OwnS lo e sz fe A c (l.take m)).holds w S:=by
 obtain ⟨h1,h2,h3⟩:=h;have hok : OkF sz fe (l.take m):=fun x hx=>h1 x (List.mem_of_mem_take hx);refine ⟨hok,⟨flatF_len hok,?_⟩,h3⟩
 rcases h2.2 with ⟨h4,h5⟩ | ⟨g,cap,cur,hv,hb,hg,hnc,hm,hs,ht⟩
 ·have hl:=List.eq_nil_of_length_eq_zero h5
  subst hl;exact .inl ⟨by simpa using h4,by simp⟩
 ·injection hv with v1 _ v3
  refine .inr ⟨g,cap,cur,by rw [v1,v3],hb,hg,Nat.le_trans (List.length_take_le' _ _) hnc,hm,hs,?_⟩
  have e1 : flatF fe l = flatF fe (l.take m) ++ flatF fe (l.drop m):=by rw [← flatF_app,List.take_append_drop]
  have e2 : (flatF fe (l.take m)).length = (l.take m).length * sz:=flatF_len hok;have e3 : (l.take m).length * sz ≤ l.length * sz:=Nat.mul_le_mul_right _ (List.length_take_le' _ _);have e4:=congrArg (List.take ((l.take m).length * sz)) ht;rw [List.take_take,Nat.min_eq_left e3,e1,← e2,List.take_left] at e4;rw [← e2];exact e4
theorem l_cutR {l' : List Oper} (i m : Nat) (hi : R[i]? = some (OwnS lo e sz fe A c l)) (h : lS P b ops Q N l' ⟨E,L,R.set i (OwnS lo e sz fe A c (l.take m)),F,M⟩) : lS P b ops Q N l' ⟨E,L,R,F,M⟩:=fun a w ⟨G,S,h1,h2,h3⟩=>by
 obtain ⟨S1,h5,hput⟩:=h3.put hi;obtain ⟨S',h6⟩:=hput _ w S1 (Chg.refl _ _) (OwnS.cut h5 m) (fun _ h _=>h);exact h a w ⟨G,S',h1,h2,h6⟩
end
def eV (t : Bool) : SQ:=.c (.v (.bool t))
theorem eV_ok (t : Bool) : OkP (eV t).parts1 ∧ (eV t).cl.length = 1:=⟨fun p hp=>by rw [List.mem_singleton.1 hp]; exact ⟨trivial,rfl,rfl⟩,rfl⟩
end Go.Proofs.YtlcbhbahchiofaaDoor
/-
  FROM A WALK TO A LAW'S ROW: the arguments read behind the call as they read before; arrays of 32 bytes, opened.
-/
namespace Go.Proofs.YtlcbhbahchiofaaDoor
open Go.ChangeShapes Go.WideShapes Go.ChangeAt Go.RowKit

theorem own : ownKnob Tryd.prog.godebug = none:=by kernel_rfl
theorem laidOut : laidOutB Tryd.prog = true:=by kernel_rfl

section
variable {H : Type} {enc : TypeId × Value → H} {W W' : World}

theorem trodAll_below : ∀ {ts : List TypeId} {vs : List Value} {ds : List (DataW H)} {p : List MemPlace},(∀ t ∈ ts,Tryd.prog.readableRec t = true ∧ t < Tryd.prog.types.size) →
  DataW.TrodAll enc Tryd.prog W 0 (fun _=>true) true ts vs ds p → Below W.heap.size W W' → (∀ x ∈ p,x.block < W.heap.size) → DataW.TrodAll enc Tryd.prog W' 0 (fun b=>decide (b < W.heap.size)) true ts vs ds p
 | [],_,_,_,_,h,_,_=>by
  obtain ⟨rfl,rfl,rfl⟩:=trodAll_nil h;exact trodAll_mk0
 | t :: ts,_,_,_,hts,h,hb,hlt=>by
  obtain ⟨v,vs',d,ds',p,q,rfl,rfl,rfl,h0,h1⟩:=trodAll_cons h;obtain ⟨hr,hz⟩:=hts t (by simp);exact trodAll_cons_mk (Below.trod laidOut hr hz h0 hb (fun x hx=>hlt x (by simp [hx]))) (trodAll_below (fun u hu=>hts u (by simp [hu])) h1 hb (fun x hx=>hlt x (by simp [hx])))

theorem law_post {f : Func} {s : ChangeSpec} {args : Array Value} {ds gs : List (DataW H)} {before : List MemPlace} (hf : f.resultTypes = #[4]) (hvars : s.vars = [])
  (hts : ∀ t ∈ f.params.toList,Tryd.prog.readableRec t = true ∧ t < Tryd.prog.types.size)
  (hW : DataW.Whole enc Tryd.prog f.params.toList s.vars false W args.toList ds gs before) (hs : s.fn H (ds ++ gs) = { results:=[.lit (.bool true)],args:=ds }) (hb : Below W.heap.size W W') :
  s.post enc Tryd.prog f false true false false W args (.bool true) W':=by
 have hW':=hW;obtain ⟨p,q,hA,hV,rfl,_,_⟩:=hW;rw [hvars] at hV;obtain ⟨rfl,rfl⟩:=trodVars_none hV;have hlt : ∀ x ∈ p,x.block < W.heap.size:=fun x hx=>hW'.lt x (by simp [hx]);refine ⟨ds,[],p ++ [],[],p,[],hW',?_,?_,?_,hb.frame _,fun h=>by cases h⟩
 ·rw [hs,hf]
  exact trodAll_mk1 (shut_bool Tryd.underlying4 true)
 ·rw [hs]
  exact trodAll_below hts hA hb hlt
 ·rw [hs,hvars]
  rfl
end

theorem cells8 : Tryd.prog.cellsOf 5 = 1:=by kernel_rfl
theorem one_of {l : List Value} {i : Nat} {v : Value} (h : (l.drop (i * 1)).take 1 = [v]) : l[i]? = some v:=by
 rw [Nat.mul_one] at h
 have h1 : ((l.drop i).take 1)[0]? = some v:=by rw [h]; rfl
 rw [List.getElem?_take,if_pos (by omega),List.getElem?_drop] at h1
 simpa using h1

/-! ### Arrays of 32 bytes -/
end Go.Proofs.YtlcbhbahchiofaaDoor
/-
  FROM A WALK TO A LAW'S ROW: slices of bytes and arrays of 64 bytes, opened.
-/
namespace Go.Proofs.YtlcbhbahchiofaaDoor
open Go.RowKit Go.IntWalk
open Go.ChangeShapes Go.WideShapes Go.ChangeAt

theorem open_bytes {H : Type} {enc : TypeId × Value → H} {W : World} {held : Bool} {fuel : Nat} {cs : List Value} {x : DataW H × List MemPlace} (h : DataW.trod enc Tryd.prog W 0 (fun _=>true) held fuel 22 cs = some x) :
  ∃ (A : Option Addr) (l : List UInt8) (c : Nat),cs = [.slice A l.length c] ∧ SL W 0 W.heap.size A l c:=by
 rcases open_ints Tryd.underlying22 Tryd.underlying5 cells8 h with ⟨rfl,rfl⟩ | ⟨a,len,cap,zs,rfl,_,hl,hm,hz,rfl,hcell,hwz⟩
 ·exact ⟨none,[],0,rfl,SL.nil _ _ _⟩
 ·have hz' : zs.length = cap:=hz
  have hlen : ((zs.take len).map fun z=>UInt8.ofNat z.toNat).length = len:=by simp; omega
  refine ⟨some a,(zs.take len).map fun z=>UInt8.ofNat z.toNat,cap,by rw [hlen],by rw [hlen]; exact hl,by unfold maxLen at hm; omega,fun h=>(by cases h),fun hpos=>⟨a,rfl,Nat.zero_le _,?_,fun j x hx=>?_⟩⟩
  ·have h0 : 0 < zs.length:=by rw [hlen] at hpos; omega
   have:=World.block_lt_of_cell? W _ (hcell 0 h0)
   rwa [block_add] at this
  ·simp only [List.getElem?_map,List.getElem?_take,Option.map_eq_some_iff] at hx
   obtain ⟨z,hz,rfl⟩:=hx
   split at hz
   ·have hj:=(List.getElem?_eq_some_iff.1 hz).1
    have hb:=range_u8 hwz j
    have hg : zs.getD j 0 = z:=by simp [List.getD,hz]
    rw [hz] at hb;simp only [Option.getD_some] at hb;rw [hcell j hj,hg]
    have e : (UInt8.ofNat z.toNat).toNat = z.toNat:=by
     simp
     omega
    rw [e,Int.toNat_of_nonneg hb.1]
   ·cases hz

end Go.Proofs.YtlcbhbahchiofaaDoor
/-
  FROM A WALK TO A LAW'S ROW: the three tables' cells, from what the row lists.
-/
namespace Go.Proofs.YtlcbhbahchiofaaDoor
open Go.ChangeShapes Go.WideShapes Go.ChangeAt Go.RowKit Nums

def laid3 : List (String × DataW Unit):=[("witan/field.twice",Rows.laid_witan_field_twice),("witan/sha.starts",Rows.laid_witan_sha_starts),("witan/sha.steps",Rows.laid_witan_sha_steps)]
theorem cells64 : Tryd.prog.cellsOf 74 = 1:=by kernel_rfl
theorem door_met (os : Os) (args : Array Value) : laidMetH Tryd.prog laid3 ((World.doorLaid Tryd.prog 400 os).forCall (fun _ _=>0) ⟨#[],args,[]⟩).memory :=
 laidMetH_of_parts3 (fuel:=8) (laidMet_of_run' 8 (by kernel_rfl) (by kernel_rfl)) (by kernel_rfl) (by kernel_rfl)
set_option maxRecDepth 20000 in
theorem table_cells {W : World} {nm : String} {g g0 t0 tid n fuel : Nat} {l : List Nat} {datum : DataW Unit} {cs : List Value} {p : List MemPlace} (hg : Tryd.prog.globalNamed nm = some g) (ht : (Tryd.prog.globals[g]?).map (·.type) = some tid) (hu : Tryd.prog.underlying tid = some (.array n 74))
  (hd : datum = .agg (l.map fun (x : Nat)=>.lit (.int .u64 (x : Int)))) (hg0 : Tryd.prog.globalNamed nm = some g0) (ht0 : (Tryd.prog.globals[g0]?).map (·.type) = some t0) (hv0 : W.var? Tryd.prog nm = some cs.toArray) (hd0 : DataW.trod (fun _=>()) Tryd.prog W 0 (fun _=>true) false fuel t0 cs = some (datum,p)) :
  ∀ i,i < n → W.cell? ⟨g,i,none⟩ = some (.int .u64 (l[i]! : Nat)):=by
 obtain rfl:=Option.some.inj (hg.symm.trans hg0);obtain rfl:=Option.some.inj (ht.symm.trans ht0);obtain ⟨xs,m1,rfl,hx1,hlen,hn5,hel⟩:=DataW.trod_array hu hd0;have hx2:=congrArg Prod.fst hx1;rw [hd] at hx2
 injection hx2 with hx2
 intro i hi
 have h0:=hel i hi;rw [cells64] at h0;obtain ⟨x,hxi⟩ : ∃ x,xs[i]? = some x:=⟨xs[i]'(by omega),List.getElem?_eq_getElem (by omega)⟩;rw [hxi] at h0;obtain ⟨n',e1,e2,_⟩:=DataW.trod_int Tryd.underlying74 h0
 have hll : l.length = n:=by
  have:=congrArg List.length hx2;simp only [List.length_map] at this
  omega
 have h3 : (l.map fun (x : Nat)=>(DataW.lit (.int .u64 (x : Int)) : DataW Unit))[i]? = (xs.map (·.1))[i]?:=by rw [hx2]
 rw [List.getElem?_map,List.getElem?_map,hxi,List.getElem?_eq_getElem (by omega)] at h3;simp only [Option.map_some,Option.some.injEq] at h3;rw [e2] at h3
 have hn : n' = ((l[i]! : Nat) : Int):=by
  rw [getElem!_pos l i (by omega)]
  injection h3 with h3
  injection h3 with _ h3
  exact h3.symm
 subst hn;have hcell:=World.var?_cell hg hv0 i;rw [hcell];have:=one_of e1
 simpa using this
set_option maxRecDepth 20000 in
theorem of_laid {W : World} (h : laidMetH Tryd.prog laid3 W) : Ta W:=by
 rw [MakeChecks.laidMetH_plain _ _ _ (by kernel_rfl)] at h;obtain ⟨ps,⟨g0,t0,cs0,f0,p0,q0,hg0,ht0,hv0,hd0,⟨g1,t1,cs1,f1,p1,q1,hg1,ht1,hv1,hd1,⟨g2,t2,cs2,f2,p2,q2,hg2,ht2,hv2,hd2,_,_⟩,_⟩,_⟩,_,_⟩:=h;have c0:=table_cells (l:=twl) (n:=5) (g:=1) (tid:=88) (by kernel_rfl) (by kernel_rfl) Tryd.underlying88 (by kernel_rfl) hg0 ht0 hv0 hd0;have c1:=table_cells (l:=sqs) (n:=8) (g:=0) (tid:=128) (by kernel_rfl) (by kernel_rfl) Tryd.underlying128 (by kernel_rfl) hg1 ht1 hv1 hd1;have c2:=table_cells (l:=cbs) (n:=80) (g:=2) (tid:=148) (by kernel_rfl) (by kernel_rfl) Tryd.underlying148 (by kernel_rfl) hg2 ht2 hv2 hd2;exact ⟨⟨c0,World.block_lt_of_cell? W ⟨1,0,none⟩ (c0 0 (by omega))⟩,⟨⟨c2,World.block_lt_of_cell? W ⟨2,0,none⟩ (c2 0 (by omega))⟩,c1,World.block_lt_of_cell? W ⟨0,0,none⟩ (c1 0 (by omega))⟩⟩
end Go.Proofs.YtlcbhbahchiofaaDoor
