import Derived.Test.YtlhlkofpjhpaoaaGreatDoorMm
import Derived.Test.YtlhlkofpjhpaoaaGreatDoorMq
import Derived.Test.YtlhlkofpjhpaoaaGreatDoorMe
import Derived.Test.YtlhlkofpjhpaoaaGreatDoorRows
import Derived.Test.YtlhlkofpjhpaoaaGreatDoorMa
import Derived.ProofKit
import Derived.OpenShut
import Derived.SizedLaws
import Derived.Test.YtlhlkofpjhpaoaaGreatDoorMd
import Derived.Deep.Slices
import Derived.LaidMore
import Derived.SevenTiedAt
import Derived.Stop.Joined
import Derived.Test.YtlhlkofpjhpaoaaGreatDoorMj
import Derived.Test.YtlhlkofpjhpaoaaGreatDoorCards
import Derived.Test.YtlhlkofpjhpaoaaGreatDoorTie
import Derived.Test.YtlhlkofpjhpaoaaGreatDoorMn
set_option maxRecDepth 100000
set_option maxHeartbeats 4000000
open Go.DataW renaming trod->g9,trod_int->j7
open Go.Value renaming okWide->sQ
open Go.World renaming block_lt_of_cell?->lG
open List renaming length_append->aB,mem_singleton->aF,getElem?_eq_getElem->aJ,mem_of_getElem?->aX,mem_append->cB,length_map->cC,getElem?_append_right->dO,set_append_right->fP,getElem?_map->fX,map_append->g6
open Nat renaming le_refl->aE,zero_le->aI,le_trans->bN,add_sub_cancel_left->kK
open Option.some renaming injEq->aV,inj->cO
open UInt8 renaming ofNat->bJ,toNat_ofNat'->gC
namespace Go.Proofs.YtlhlkofpjhpaoaaGreatDoor
open Go.RowKit Go.IntWalk Nums
theorem own_batches12:Own 8:=λ_ _=>by go_simp
structure AcV where
  who:Int
  ver:Int
  key:Int
  wr:Bool
  cut:Bool
def AcV.parts(a:AcV):List Pt:=[.one (.v (.int .i64 a.who)),.one (.v (.int .i64 a.ver)),.one (.v (.int .i64 a.key)),.one (.b a.wr),.one (.b a.cut)]
abbrev eAc(a:AcV):SQ:=.p a.parts
structure BaV where
  A:Option Addr
  c:Nat
  B:Option Addr
  d:Nat
  l:List UV
def eUs(p:BaV):SQ:=.c (.v (.slice p.A p.l.length p.c))
def eGs(p:BaV):SQ:=.c (.v (.slice p.B p.l.length p.d))
theorem eUs_ok(p:BaV):OkP (eUs p).parts1/\(eUs p).cl.length=1:=⟨λx hx=>by rw [aF.1 hx];exact⟨trivial,rfl,rfl⟩,rfl⟩
theorem eGs_ok(p:BaV):OkP (eGs p).parts1/\(eGs p).cl.length=1:=⟨λx hx=>by rw [aF.1 hx];exact⟨trivial,rfl,rfl⟩,rfl⟩
def BaV.rd(p:BaV)(w:World):Prop:=Rd 129 eU p.A p.c p.l w/\Rd 1 eT p.B p.d (p.l.map signB) w
instance baPst{p:BaV}:Pst p.rd:=⟨λ_ _ h hb=>⟨h.1.later hb,h.2.later hb⟩⟩
def GoodU(u:UV):Prop:=u.Ok/\∃w:Nat,w<4/\u.id=gD (hB2 (bJ w) 77)
abbrev allB(ps:List BaV):List UV:=(ps.map (·.l)).flatten
theorem allB_next(ps:List BaV)(p:BaV):allB (ps++[p])=allB ps++p.l:=by simp [allB]
abbrev TC:MapT Int Int:={ t:=72,kt:=3,vt:=3,kv:=eI,vv:=eI }
abbrev okI(n:Int):Prop:=(Lit.int .i64 n).wf=true
theorem TC_ok:TC.Ok okI:=mapI_ok Tryz.underlying72 Tryz.underlying3 rfl
theorem zeroI:∀w,(zeroValue TC.vt).run Tryz.prog w = .ok (TC.V 0) w:=λw=>by
 have hi:(Tryz.prog.info? 3).bind (·.zero)=some (.int .i64 0):=by kernel_rfl
 unfold zeroValue typeInfo
 cases h:Tryz.prog.info? 3 with
 | none=>rw [h] at hi;cases hi
 | some i =>
  rw [h] at hi;have hi:i.zero=some (.int .i64 0):=hi
  simp [h,hi]
  rfl
theorem runO_count{N:Nat}{E:SE}{L:List LV}{R:List Res}{F M:World->Prop}{o:Oper}{x y:Operand}{m n:Nat}{f:Int->Option Int}(hA:∀G S w,View G S L R F M w->MapA TC okI m n f w)(k:Int)(hk:okI k)(ho:o.op = .lookup TC.t x y false)(hx:evS E x=some (.v (.map (some m))))(hy:evS E y=some (.q (eI k))) :
  ∀(G:Nat->Nat) (S:Nat->Prop) (a:Act) (w:World),Fr N (denE G E) a->View G S L R F M w->(execOp a.eval o).run Tryz.prog w = .ok (.value ((SV.q (eI ((f k).getD 0))).den G)) w:=by
 cases hs:f k with
 | none=>exact runO_noneA TC_ok hA k 0 hk hs zeroI ho hx hy
 | some s=>exact runO_lookA TC_ok hA k s hk hs ho hx hy
theorem xor_b2(a:UInt8):∃y:UInt8,bits .xor .u8 (a.toNat:Int) 2=(y.toNat:Int):=by
 have key:∀m:Nat,m<256->0<=bits .xor .u8 (m:Int) 2/\bits .xor .u8 (m:Int) 2<256:=by decide +kernel
 exact⟨bJ (bits .xor .u8 (a.toNat:Int) 2).toNat,by have:=key a.toNat a.toNat_lt;rw [gC];omega⟩
theorem uv_atJ{u:UV}(hu:u.Ok){j:Nat}{s:UInt8}(hs:u.sig[j]?=some s):(catP u.parts)[65+j]?=some (.int .u8 (s.toNat:Int)):=by
 rw [<-Array.getElem?_toList,uv_cells,dO (by rw [By_len,hu.id];omega),By_len,hu.id,show 65+j-32=32+j+1 by omega,List.getElem?_cons_succ,dO (by rw [By_len,hu.key];omega),By_len,hu.key,kK]
 show(u.sig.map λx=>Value.int .u8 (x.toNat:Int))[j]?=_
 rw [fX,hs]
 rfl
theorem uv_setJ{u:UV}(hu:u.Ok)(j:Nat)(y:UInt8):(catP ({ u with sig:=u.sig.set j y }:UV).parts).toList=(catP u.parts).toList.set (65+j) (.int .u8 (y.toNat:Int)):=by
 rw [uv_cells,uv_cells,fP _ _ (by rw [By_len,hu.id];omega),By_len,hu.id,show 65+j-32=32+j+1 by omega,List.set_cons_succ,fP _ _ (by rw [By_len,hu.key];omega),By_len,hu.key,kK]
 show _++_::(_++(u.sig.set j y).map _)=_++_::(_++(u.sig.map _).set j _)
 rw [List.map_set]
structure BtS where
  i:Nat
  ps:List BaV
  X:KX
  Y:KX
  l:List UV
  U:KX
  V:KX
  n:Nat
  f:Int->Option Int
structure BtI(k:Nat)(s:BtS):Prop where
  i:s.i<=k
  i12:s.i<=12
  tot:(allB s.ps).length+s.l.length<=s.i
  num:s.ps.length<=s.i
  good:∀u∈allB s.ps,GoodU u
  goodl:∀u∈s.l,GoodU u
structure BtX where
  ps:List BaV
  X:KX
  Y:KX
structure BtX.Ok(x:BtX):Prop where
  tot:(allB x.ps).length<=12
  num:x.ps.length<=13
  good:∀u∈allB x.ps,GoodU u
def BtX.F(x:BtX)(w:World):Prop:=Rd 1 eUs x.X.1 x.X.2 x.ps w/\Rd 1 eGs x.Y.1 x.Y.2 x.ps w/\∀p∈x.ps,p.rd w
theorem batches12_S{A:Option Addr}{c:Nat}(acts:List AcV):Spec 8 [.slice A acts.length c] [] (λw=>Ta w/\Rd 5 eAc A c acts w) { ret:=λx:{ x:BtX // x.Ok }=>.t [.c (.v (.slice x.1.X.1 x.1.ps.length x.1.X.2)),.c (.v (.slice x.1.Y.1 x.1.ps.length x.1.Y.2))],p:=λx=>x.1.F }:=by
 refine spec_S [.c (.v (.slice A acts.length c))] 99 Tryz.func8 rfl (by rw [Tryz.ntmps8];rfl) (one_ok trivial) λb=>?_;refine s_pure (acts.length<=9223372036854775807) (λw h _=>bN h.2.1 h.2.2.1) λhmax=>?_;refine s_auto TY_ok rfl ?_;refine s_auto TY_ok rfl ?_;refine s_auto TY_ok rfl ?_;refine s_auto TY_ok rfl ?_;refine s_auto TY_ok rfl ?_;refine s_regA TY_ok rfl λK0 hK0=>?_;refine l_mkG TC okI rfl rfl rfl rfl λm=>?_;refine l_autoS TY_ok rfl ?_;refine s_end (hK0 _ ?_);refine s_seq λK hK=>?_;refine s_auto TY_ok rfl ?_;refine s_block ?_;refine s_nil0 0 42 1 eGs (s_nil0 0 40 1 eUs (s_nil0 0 4 1 eT (s_nil0 0 76 129 eU ?_)))
 let Es:BtS->SE:=λs=>[(18,.v (.int .i64 (s.i:Int))),(17,.v (.int .i64 (acts.length:Int))),(16,.v (.slice A acts.length c)),(4,.v (.slice s.X.1 s.ps.length s.X.2)),(5,.v (.slice s.Y.1 s.ps.length s.Y.2)),(6,.v (.slice s.U.1 s.l.length s.U.2)),(7,.v (.slice s.V.1 s.l.length s.V.2)),(8,.v (.map (some m)))]
 let Rs:BtS->List Res:=λs=>[OwnS 0 76 129 eU s.U.1 s.U.2 s.l,OwnS 0 4 1 eT s.V.1 s.V.2 (s.l.map signB),OwnS 0 40 1 eUs s.X.1 s.X.2 s.ps,OwnS 0 42 1 eGs s.Y.1 s.Y.2 s.ps,MapG TC okI m s.n s.f]
 let Ff:BtS->World->Prop:=λs w=>(Ta w/\Rd 5 eAc A c acts w)/\∀p∈s.ps,p.rd w
 let Fs:BtS->Env:=λs=>⟨Es s,[],Rs s,Ff s,λ_=>True⟩
 refine c_weak (e':=Fs ⟨0,[],(none,0),(none,0),[],(none,0),(none,0),0,λ_=>none⟩) ⟨⟨rfl,rfl,rfl,rfl,rfl,rfl,rfl,rfl,trivial⟩,trivial,.refl _,λ_ h _=>⟨h,(λ_ h=>(by cases h))⟩,λ_ _=>trivial⟩ (s_loop (λs=>acts.length-s.i) Fs (BtI acts.length) ?_ ⟨0,[],(none,0),(none,0),[],(none,0),(none,0),0,λ_=>none⟩ ⟨aI _,aI _,aE _,aE _,(λ_ h=>(by cases h)),(λ_ h=>(by cases h))⟩)
 rintro s ⟨hi,hi12,htot,hnum,hgood,hgoodl⟩
 have hend:∀e',Weak e' (Fs s)->kS b K 99 e':=by
  intro e' hw
  refine k_weak hw (hK _ ?_);refine s_regA TY_ok rfl λK1 hK1=>?_;refine l_push TY_ok 2 (⟨s.U.1,s.U.2,s.V.1,s.V.2,s.l⟩:BaV) rfl rfl rfl rfl rfl rfl rfl (eUs_ok _) (by decide) (by decide) (by show(s.ps.length+1)*24<=_;omega) (by omega) (aI _) λX1 x1=>?_;refine l_autoS TY_ok rfl ?_;refine l_push TY_ok 3 (⟨s.U.1,s.U.2,s.V.1,s.V.2,s.l⟩:BaV) rfl rfl rfl rfl rfl rfl rfl (eGs_ok _) (by decide) (by decide) (by show(s.ps.length+1)*24<=_;omega) (by omega) (aI _) λY1 y1=>?_;refine l_autoS TY_ok rfl ?_;refine l_free 0 rfl (l_free 0 rfl (l_free 0 rfl (l_free 0 rfl ?_)));refine s_end (hK1 _ ?_);refine s_ret (k_drop 0 rfl ?_);refine k_ret TY_ok ⟨⟨s.ps++[(⟨s.U.1,s.U.2,s.V.1,s.V.2,s.l⟩:BaV)],(X1,x1),(Y1,y1)⟩,?_⟩ rfl (by decide) rfl rfl rfl (λw h _=>⟨h.2.1,h.1,λp hp=>?_⟩) (λ_ _=>trivial)
  ·refine⟨?_,?_,λu hu=>?_⟩
   ·show(allB (s.ps++[_])).length<=12
    rw [allB_next,aB];exact bN htot hi12
   ·show(s.ps++[_]).length<=13
    rw [aB]
    show s.ps.length+1<=13
    omega
   ·have hu:u∈allB (s.ps++[_]):=hu
    rw [allB_next] at hu
    rcases cB.1 hu with hu|hu
    ·exact hgood u hu
    ·exact hgoodl u hu
  ·have hp:p∈s.ps++[_]:=hp
   rcases cB.1 hp with hp|hp
   ·exact h.2.2.2.2.2 p hp
   ·rw [aF.1 hp]
    exact⟨h.2.2.2.1,h.2.2.1⟩
 refine s_auto TY_ok rfl ?_;refine s_seq λK5 hK5=>?_;refine s_ifD ((s.i:Int)<(acts.length:Int)) rfl (λhlt=>?_) (λhge=>?_)
 ·have hlt:s.i<acts.length:=by omega
  obtain⟨a,ha⟩:∃a,acts[s.i]?=some a:=⟨_,aJ hlt⟩;refine s_skip (hK5 _ ?_);refine s_seq λK6 hK6=>?_;refine s_block ?_;refine s_regA TY_ok rfl λK7 hK7=>?_;refine l_elem TY_ok rfl rfl rfl s.i rfl ha rfl rfl (rd_fact λ_ h _=>h.1.2) ?_;refine l_autoS TY_ok rfl ?_;refine s_end (hK7 _ ?_);refine s_seq λK8 hK8=>?_;refine s_auto TY_ok rfl ?_;refine s_ifD ((s.i:Int)>=12) rfl (λh12=>?_) (λh12=>?_)
  ·exact s_exit (k_pass (k_passB rfl (k_pass (k_pass (k_out (hend _ ⟨⟨rfl,rfl,rfl,rfl,rfl,rfl,rfl,rfl,trivial⟩,trivial,.refl _,λ_ h _=>h,λ_ h=>h⟩))))))
  refine s_skip (hK8 _ ?_);obtain⟨w4,hw4,_,hww⟩:=wrapU_mod a.who 4 (by decide) (by decide)
  have hwk:okI (w4:Int):=by
   show(Lit.int .i64 (w4:Int)).wf=true
   simp [Lit.wf,IntKind.min,IntKind.max,IntKind.signed,IntKind.bits]
   omega
  refine s_regA TY_ok rfl λK9 hK9=>?_;refine l_num 11 (w4:Int) rfl (by rw [show(IntKind.u64.wrap a.who).tmod 4=(IntKind.u64.wrap a.who).tmod ((4:Nat):Int) from rfl,hww]) ?_;refine s_end (hK9 _ ?_)
  -- the end of a round
  have hF:∀t:BtS,t.i=s.i->(allB t.ps).length+t.l.length<=s.i+1->t.ps.length<=s.i+1->(∀u∈allB t.ps,GoodU u)->(∀u∈t.l,GoodU u)->∀e',Weak e' (Fs t)->kS b K6 99 e':=by
   intro t ht h1 h2 h3 h4 e' hw
   refine k_weak hw (hK6 _ ?_);refine s_autoE TY_ok rfl ?_;exact k_next ({ t with i:=s.i+1 }:BtS) ⟨hlt,(by show s.i+1<=12;omega),h1,h2,h3,h4⟩ (by show acts.length-(s.i+1)<acts.length-s.i;omega) ⟨⟨by rw [ht];exact congrArg (λz=>some (SV.v (.int .i64 z))) (wrapI (m:=(s.i:Int)+1) (r:=((s.i+1:Nat):Int)) (by omega) (by omega) (by omega)),rfl,rfl,rfl,rfl,rfl,rfl,rfl,trivial⟩,trivial,.refl _,λ_ h _=>h,λ_ h=>h⟩
  refine s_auto TY_ok rfl ?_;refine s_seq λK10 hK10=>?_
  have hV:∀v:Int,∀e',Weak e' ⟨(12,.v (.int .i64 v))::(11,.v (.int .i64 (w4:Int)))::(10,.a 10 0)::(9,.v (.int .i64 (s.i:Int)))::Es s,[⟨10,none,80,a.parts⟩],Rs s,Ff s,λ_=>True⟩->kS b K10 99 e':=by
   intro v e' hw
   refine k_weak hw (hK10 _ ?_);obtain⟨kb,hkb⟩:∃kb:UInt8,IntKind.u8.wrap a.key=(kb.toNat:Int):=byte_z (by show 0<=a.key%256/\a.key%256<256;omega);obtain⟨ib,hib⟩:∃ib:UInt8,IntKind.u8.wrap (s.i:Int)=(ib.toNat:Int):=byte_z (by show 0<=(s.i:Int)%256/\(s.i:Int)%256<256;omega)
   have hwb:IntKind.u8.wrap (w4:Int)=((bJ w4).toNat:Int):=by
    rw [gC]
    show(w4:Int)%256=_
    omega
   have hm:=hmake_S (seed:=hB2 (bJ w4) 77) (key:=hB2 kb ib) v rfl rfl;have hgu:GoodU (mkH (hB2 (bJ w4) 77) v (hB2 kb ib)):=⟨mkH_ok _ _ rfl,w4,hw4,rfl⟩;generalize mkH (hB2 (bJ w4) 77) v (hB2 kb ib)=u at *;refine s_regA TY_ok rfl λK11 hK11=>?_;refine l_num 39 ((bJ w4).toNat:Int) rfl hwb ?_;refine l_buildY [(0,.v (.int .u8 ((bJ w4).toNat:Int))),(1,.v (.int .u8 77))] 32 (hB2 (bJ w4) 77) rfl rfl rfl rfl rfl rfl rfl ?_;refine l_autoS TY_ok rfl ?_;refine l_num 44 (kb.toNat:Int) rfl hkb ?_;refine l_num 46 (ib.toNat:Int) rfl hib ?_;refine l_buildY [(0,.v (.int .u8 (kb.toNat:Int))),(1,.v (.int .u8 (ib.toNat:Int)))] 32 (hB2 kb ib) rfl rfl rfl rfl rfl rfl rfl ?_;refine l_call0 [.agg (By (hB2 (bJ w4) 77)).toArray,.int .i64 v,.agg (By (hB2 kb ib)).toArray] rfl rfl rfl own_hmake rfl rfl (λ_ _=>rfl) hm (λ_ h _=>h.1.1) λ_=>?_;refine l_autoS TY_ok rfl ?_;refine s_end (hK11 _ ?_);refine s_seq λK12 hK12=>?_
   have hW:∀u:UV,GoodU u->∀e',Weak e' ⟨(13,.a 13 0)::(12,.v (.int .i64 v))::(11,.v (.int .i64 (w4:Int)))::(10,.a 10 0)::Es s,[⟨13,none,76,u.parts⟩,⟨10,none,80,a.parts⟩],Rs s,Ff s,λ_=>True⟩->kS b K12 99 e':=by
    intro u hgu e' hw
    refine k_weak hw (hK12 _ ?_);refine s_regA TY_ok rfl λK13 hK13=>?_;refine l_call0 [(eU u).den] rfl rfl rfl own_hsigned rfl rfl (λ_ _=>rfl) (hsigned_S hgu.1) (λ_ h _=>h.1.1) λ_=>?_;refine l_autoS TY_ok rfl ?_;refine s_end (hK13 _ ?_);refine s_seq λK14 hK14=>?_
    have hX:∀n f,∀e',Weak e' ⟨(14,.b (signB u))::(13,.a 13 0)::(10,.a 10 0)::Es s,[⟨13,none,76,u.parts⟩,⟨10,none,80,a.parts⟩],Rs { s with n:=n,f:=f },Ff s,λ_=>True⟩->kS b K14 99 e':=by
     intro n f e' hw
     refine k_weak hw (hK14 _ ?_)
     have e1:s.l.map signB++[signB u]=(s.l++[u]).map signB:=by rw [g6];rfl
     refine s_regA TY_ok rfl λK15 hK15=>?_;refine l_push TY_ok 0 u (fe:=eU) rfl rfl rfl rfl rfl rfl rfl (eU_ok hgu.1) (by decide) (by decide) (by show(s.l.length+1)*136<=_;omega) (by show s.l.length<_;omega) (aI _) λU1 u1=>?_;refine l_autoS TY_ok rfl ?_;refine l_push TY_ok 1 (signB u) (fe:=eT) rfl rfl rfl rfl rfl rfl (cC ..).symm (eT_ok _) (by decide) (by decide) (by rw [cC];show(s.l.length+1)*1<=_;omega) (by rw [cC];show s.l.length<_;omega) (aI _) λV1 v1=>?_;rw [e1,cC];refine l_autoS TY_ok rfl ?_;refine s_end (hK15 _ ?_);refine s_auto TY_ok rfl ?_
     have hgl:∀u2∈s.l++[u],GoodU u2:=λu2 h2=>by
      rcases cB.1 h2 with h2|h2
      ·exact hgoodl u2 h2
      ·rw [aF.1 h2]
       exact hgu
     have hll:(s.l++[u]).length=s.l.length+1:=aB;refine s_if a.cut rfl (λ_=>?_) (λ_=>?_)
     ·refine s_regA TY_ok rfl λK16 hK16=>?_
      refine l_push TY_ok 2 (⟨U1,u1,V1,v1,s.l++[u]⟩:BaV) rfl rfl rfl rfl rfl rfl rfl (eUs_ok _) (by decide) (by decide) (by show(s.ps.length+1)*24<=_;omega) (by show s.ps.length<_;omega) (aI _) λX1 x1=>?_;refine l_autoS TY_ok rfl ?_;refine l_push TY_ok 3 (⟨U1,u1,V1,v1,s.l++[u]⟩:BaV) rfl rfl rfl rfl rfl rfl rfl (eGs_ok _) (by decide) (by decide) (by show(s.ps.length+1)*24<=_;omega) (by show s.ps.length<_;omega) (aI _) λY1 y1=>?_;refine l_autoS TY_ok rfl ?_;refine l_free 0 rfl (l_free 0 rfl ?_);refine s_end (hK16 _ ?_);refine s_nil0 0 4 1 eT (s_nil0 0 76 129 eU (s_autoE TY_ok rfl ?_));refine hF ⟨s.i,s.ps++[⟨U1,u1,V1,v1,s.l++[u]⟩],(X1,x1),(Y1,y1),[],(none,0),(none,0),n,f⟩ rfl ?_ ?_ ?_ (λ_ h=>by cases h) _ ⟨⟨rfl,rfl,rfl,rfl,rfl,rfl,rfl,rfl,trivial⟩,trivial,.refl _,λw h _=>⟨h.2.2.1,λp hp=>?_⟩,λ_ h=>h⟩
      ·show(allB (s.ps++[_])).length+0<=_
       rw [allB_next,aB,hll]
       omega
      ·show(s.ps++[_]).length<=_
       rw [aB]
       show s.ps.length+1<=_
       omega
      ·intro u2 h2
       have h2:u2∈allB (s.ps++[_]):=h2;rw [allB_next] at h2
       rcases cB.1 h2 with h2|h2
       ·exact hgood u2 h2
       ·exact hgl u2 h2
      ·have hp:p∈s.ps++[_]:=hp
       rcases cB.1 hp with hp|hp
       ·exact h.2.2.2 p hp
       ·rw [aF.1 hp]
        exact⟨h.2.1,h.1⟩
     ·exact s_skip (hF ⟨s.i,s.ps,s.X,s.Y,s.l++[u],(U1,u1),(V1,v1),n,f⟩ rfl (by show(allB s.ps).length+(s.l++[u]).length<=_;rw [hll];omega) (by show s.ps.length<=_;omega) hgood hgl _ ⟨⟨rfl,rfl,rfl,rfl,rfl,rfl,rfl,rfl,trivial⟩,trivial,.refl _,λ_ h _=>h,λ_ h=>h⟩)
    cases hsb:signB u with
    | false =>
     refine s_regA TY_ok rfl λK15 hK15=>?_;refine l_is 60 false rfl rfl ?_;refine l_autoS TY_ok rfl ?_;refine l_as 14 (.b (signB u)) rfl (λ_=>by rw [hsb];rfl) trivial ?_;refine s_end (hK15 _ ?_);refine s_no rfl ?_;exact s_skip (hX s.n s.f _ ⟨⟨rfl,rfl,rfl,rfl,rfl,rfl,rfl,rfl,rfl,rfl,rfl,trivial⟩,⟨rfl,rfl,rfl,rfl,trivial⟩,.refl _,λ_ h _=>h.2,λ_ _=>trivial⟩)
    | true =>
     refine s_regA TY_ok rfl λK15 hK15=>?_;refine l_is 60 true rfl rfl ?_;refine l_autoS TY_ok rfl ?_;refine l_opV (.q (eI ((s.f (w4:Int)).getD 0))) trivial rfl rfl rfl (runO_count (map_own 4 rfl) (w4:Int) hwk rfl rfl rfl) ?_;refine l_autoS TY_ok rfl ?_;refine l_as 14 (.b (signB u)) rfl (λ_=>by rw [hsb];rfl) trivial ?_;refine s_end (hK15 _ ?_);refine s_ifD (v=IntKind.i64.wrap ((s.f (w4:Int)).getD 0+1)) rfl (λ_=>?_) (λ_=>?_)
     ·refine s_lit ?_
      refine l_autoS TY_ok rfl ?_;refine l_opV (.q (eI ((s.f (w4:Int)).getD 0))) trivial rfl rfl rfl (runO_count (map_own 4 rfl) (w4:Int) hwk rfl rfl rfl) ?_;refine l_autoS TY_ok rfl ?_;refine l_updG TC_ok 4 rfl (w4:Int) (IntKind.i64.wrap ((s.f (w4:Int)).getD 0+1)) hwk rfl rfl rfl rfl rfl rfl ?_;exact s_end (hX (if (s.f (w4:Int)).isSome then s.n else s.n+1) (putF s.f (w4:Int) (IntKind.i64.wrap ((s.f (w4:Int)).getD 0+1))) _ ⟨⟨rfl,rfl,rfl,rfl,rfl,rfl,rfl,rfl,rfl,rfl,rfl,trivial⟩,⟨rfl,rfl,rfl,rfl,trivial⟩,.refl _,λ_ h _=>h.2,λ_ _=>trivial⟩)
     ·exact s_skip (hX s.n s.f _ ⟨⟨rfl,rfl,rfl,rfl,rfl,rfl,rfl,rfl,rfl,rfl,rfl,trivial⟩,⟨rfl,rfl,rfl,rfl,trivial⟩,.refl _,λ_ h _=>h.2,λ_ _=>trivial⟩)
   refine s_auto TY_ok rfl ?_;refine s_if a.wr rfl (λ_=>?_) (λ_=>?_)
   ·obtain⟨sb,hsb⟩:∃sb,u.sig[1]?=some sb:=⟨_,aJ (by rw [hgu.1.sig];decide)⟩
    obtain⟨y,hy⟩:=xor_b2 sb;have hok2:({ u with sig:=u.sig.set 1 y }:UV).Ok:=⟨hgu.1.id,hgu.1.key,by show(u.sig.set 1 y).length=64;rw [List.length_set];exact hgu.1.sig⟩;refine s_lit ?_;refine l_autoS TY_ok rfl ?_;refine l_op (.a 13 (65+1*1)) trivial rfl rfl rfl (runO_ixA 1 rfl Tryz.underlying74 rfl rfl rfl (by decide)) ?_;refine l_opV (.v (.int .u8 (sb.toNat:Int))) trivial rfl rfl rfl (runO_ldA _ rfl rfl rfl (uv_atJ hgu.1 hsb) Tryz.underlying5 rfl) ?_;refine l_op (.v (.int .u8 (bits .xor .u8 (sb.toNat:Int) 2))) trivial rfl rfl rfl (run_xor rfl rfl rfl) ?_;refine l_num 54 (y.toNat:Int) rfl hy ?_;refine l_autoS TY_ok rfl ?_;refine l_op (.a 13 (65+1*1)) trivial rfl rfl rfl (runO_ixA 1 rfl Tryz.underlying74 rfl rfl rfl (by decide)) ?_;refine l_stA ({ u with sig:=u.sig.set 1 y }:UV).parts rfl rfl rfl rfl rfl rfl rfl rfl rfl (by rw [OkP.size hgu.1.parts_ok];show _<129;decide) hok2.parts_ok (uv_setJ hgu.1 1 y) ?_;exact s_end (hW { u with sig:=u.sig.set 1 y } ⟨hok2,hgu.2⟩ _ ⟨⟨rfl,rfl,rfl,rfl,rfl,rfl,rfl,rfl,rfl,rfl,rfl,rfl,trivial⟩,⟨rfl,rfl,rfl,rfl,trivial⟩,.refl _,λ_ h _=>h.2,λ_ _=>trivial⟩)
   ·exact s_skip (hW u hgu _ ⟨⟨rfl,rfl,rfl,rfl,rfl,rfl,rfl,rfl,rfl,rfl,rfl,rfl,trivial⟩,⟨rfl,rfl,rfl,rfl,trivial⟩,.refl _,λ_ h _=>h.2,λ_ _=>trivial⟩)
  refine s_auto TY_ok rfl ?_;refine s_ifD (a.ver=0) rfl (λ_=>?_) (λ_=>?_)
  ·refine s_lit ?_
   refine l_autoS TY_ok rfl ?_;refine l_opV (.q (eI ((s.f (w4:Int)).getD 0))) trivial rfl rfl rfl (runO_count (map_own 4 rfl) (w4:Int) hwk rfl rfl rfl) ?_;refine l_autoS TY_ok rfl ?_;exact s_end (hV _ _ ⟨⟨rfl,rfl,rfl,rfl,rfl,rfl,rfl,rfl,rfl,rfl,rfl,rfl,trivial⟩,⟨rfl,rfl,trivial⟩,.refl _,λ_ h _=>h,λ_ h=>h⟩)
  ·exact s_skip (hV _ _ ⟨⟨rfl,rfl,rfl,rfl,rfl,rfl,rfl,rfl,rfl,rfl,rfl,rfl,trivial⟩,⟨rfl,rfl,trivial⟩,.refl _,λ_ h _=>h,λ_ h=>h⟩)
 ·exact s_exit (k_pass (k_pass (k_out (hend _ ⟨⟨rfl,rfl,rfl,rfl,rfl,rfl,rfl,rfl,trivial⟩,trivial,.refl _,λ_ h _=>h,λ_ h=>h⟩))))
section
variable{b:Base}{ops:Array Oper}{Q:Exit->Act->World->Prop}{N fuel:Nat}{p:Nat->Bool}{Fin:Array Bool->Act->World->Prop}{listed:Array Bool}{E:SE}{L:List LV}{R:List Res}{F M:World->Prop}{Inv:World->Prop}{o:Oper}{k:Nat}
theorem p_frontW(v:SV)(hvo:v.Ok)(i:Nat)(hc:frontP ops p i listed=true)(ho:ops[i]?=some o)(hg:o.guard=none)(hd:o.dst=some k)(hk:Nat.blt k N=true)(hs:stillG o.op=true)
 (hv:∀(G:Nat->Nat) (S:Nat->Prop) (a:Act) (w:World),Fr N (denE G E) a->View G S [] [] Inv (λ_=>True) w->(execOp a.eval o).run Tryz.prog w = .ok (.value (v.den G)) w)
 (hn:pS Tryz.prog b Q N ops Inv p Fin fuel (listed.setIfInBounds i true) ⟨(k,v)::E,L,R,F,M⟩):pS Tryz.prog b Q N ops Inv p Fin (fuel+1) listed ⟨E,L,R,F,M⟩ :=
 p_frontI v hvo i hc ho hg hd hk hs (λG a w hF hI=>hv G (λ_=>False) a w hF ⟨(λ_ h=>(by cases h)),λ_ h=>h,hI,trivial⟩) hn
end
theorem allB_take{ps:List BaV}{j:Nat}{p:BaV}(h:ps[j]?=some p):allB (ps.take (j+1))=allB (ps.take j)++p.l:=by
 rw [List.take_add_one,h];exact allB_next _ _
theorem allB_le(ps:List BaV)(j:Nat):(allB (ps.take j)).length<=(allB ps).length:=by
 have h:allB ps=allB (ps.take j)++allB (ps.drop j):=by
  unfold allB
  rw [<-List.flatten_append,<-g6,List.take_append_drop]
 rw [h,aB]
 omega
theorem BtX.Ok.batch{x:BtX}(h:x.Ok){j:Nat}{p:BaV}(hp:x.ps[j]?=some p):(∀u∈p.l,GoodU u)/\(allB (x.ps.take j)).length+p.l.length<=12:=by
 have h1:=allB_le x.ps (j+1);rw [allB_take hp,aB] at h1;refine⟨λu hu=>h.good u ?_,bN h1 h.tot⟩;exact List.mem_flatten.2 ⟨p.l,List.mem_map.2 ⟨p,aX hp,rfl⟩,hu⟩
abbrev DzV:=DirV×DocV
structure DzOk(z:DzV):Prop where
  ok:z.1.Ok
  l:z.2.l=z.1.l
  ep:z.2.ep=z.1.ep
  len:z.1.l.length<=12
def DzF(z:DzV)(w:World):Prop:=z.1.F w/\z.2.F w
instance dzPst{z:DzV}:Pst (DzF z):=⟨λ_ _ h hb=>⟨Pst.later (p:=z.1.F) _ _ h.1 hb,Pst.later (p:=z.2.F) _ _ h.2 hb⟩⟩
instance btPst{x:BtX}:Pst x.F:=⟨λ_ _ h hb=>⟨h.1.later hb,h.2.1.later hb,λp hp=>Pst.later (p:=p.rd) _ _ (h.2.2 p hp) hb⟩⟩
theorem told_rdG{α:Type}{k:Nat}{fe:α->SQ}{z:PX}{l:List α}{w:World}(h:∃y:PX,(RV.v (.slice z.1 l.length z.2)).den=(RV.v (.slice y.1 l.length y.2)).den/\Rd k fe y.1 y.2 l w):Rd k fe z.1 z.2 l w:=by
 obtain⟨y,h1,h2⟩:=h;have h1:Value.slice z.1 l.length z.2 = .slice y.1 l.length y.2:=h1
 injection h1 with e1 _ e2
 rw [e1,e2];exact h2
theorem told_hs{ks:List (List UInt8)}{s:{ s:HSeg // s.l=ks }}{w:World}(h:∃y:{ s:HSeg // s.l=ks },(RV.q (eHs s.1)).den=(RV.q (eHs y.1)).den/\y.1.rd w):s.1.rd w:=by
 obtain⟨⟨⟨A,c,l⟩,hl⟩,h1,h2⟩:=h;obtain⟨⟨A',c',l'⟩,hl'⟩:=s;have h1:Value.slice A' l'.length c' = .slice A l.length c:=h1
 injection h1 with e1 _ e2
 have hl:l=ks:=hl;have hl':l'=ks:=hl';subst hl hl' e1 e2;exact h2
abbrev newQ(l:List UInt8):Post PX:={ ret:=λx=>.v (.slice x.1 l.length x.2),p:=λx=>Rd 1 eB x.1 x.2 l }
theorem Spec.toldQ{f:FuncId}{args:List Value}{F:World->Prop}{l:List UInt8}(h:Spec f args [] F (newB l)):Spec f args [] F (newQ l):=λw S X hs hX hF=>by
 refine(h w S X hs hX hF).mono ?_
 rintro e w' ⟨x,S',h1,h2,h3,h4,h5,h6,h7⟩
 refine⟨x,S',h1,h2,h3,h4,h5,h7.less λk _ hk=>?_,λ_ _=>trivial⟩
 rcases hk with hk|hk
 ·exact .inl (hX k hk).1
 ·exact .inr hk
structure AwS where
  j:Nat
  d:DirV
  y:DocV
structure AwI(x:BtX)(s:AwS):Prop where
  j:s.j<=x.ps.length
  ok:DzOk (s.d,s.y)
  len:s.d.l.length<=(allB (x.ps.take s.j)).length
structure IdS where
  i:Nat
  ids:List (List UInt8)
  U:KX
structure IdI(n:Nat)(s:IdS):Prop where
  i:s.i<=n
  len:s.ids.length<=s.i+1
  ids:∀k∈s.ids,k.length=32
theorem answers12_S{A:Option Addr}{c:Nat}(acts:List AcV){k:List UInt8}(hk:k.length=32):Spec 4 [.slice A acts.length c,(eY 32 k).den] [] (λw=>Ta w/\Rd 5 eAc A c acts w) (one (.v (.bool true))):=by
 refine spec_S [.c (.v (.slice A acts.length c)),eY 32 k] 97 Tryz.func4 rfl (by rw [Tryz.ntmps4];rfl) (two_ok trivial (eY_ok hk).1) λb=>?_;refine s_auto TY_ok rfl ?_;refine s_seq λK0 hK0=>?_;refine s_regA TY_ok rfl λK1 hK1=>?_;refine l_call0 [] rfl rfl rfl own_first12 rfl rfl (λ_ _=>rfl) first12_S (λ_ h _=>h.1) λ_=>?_;refine l_autoS TY_ok rfl ?_;refine s_end (hK1 _ ?_);refine s_no rfl ?_;refine s_skip (hK0 _ ?_);refine s_regA TY_ok rfl λK2 hK2=>?_;refine l_call0 [.slice A acts.length c] rfl rfl rfl own_batches12 rfl rfl (λ_ _=>rfl) (batches12_S acts) (λ_ h _=>h.2) λx=>?_;obtain⟨x,hx⟩:=x;refine l_autoS TY_ok rfl ?_;refine s_end (hK2 _ ?_);refine s_auto TY_ok rfl ?_;refine s_auto TY_ok rfl ?_;refine s_seq λK hK=>?_;refine s_auto TY_ok rfl ?_;refine s_block ?_
 let Es:AwS->SE:=λs=>[(25,.v (.int .i64 (s.j:Int))),(24,.v (.int .i64 (x.ps.length:Int))),(23,.v (.slice x.X.1 x.ps.length x.X.2)),(8,.a 8 0),(7,.a 7 0),(6,.v (.slice x.Y.1 x.ps.length x.Y.2)),(5,.v (.slice x.X.1 x.ps.length x.X.2)),(3,.a 3 0)]
 let Ls:DirV->DocV->List LV:=λd y=>[⟨8,none,36,y.parts⟩,⟨7,none,33,d.parts⟩,⟨3,none,45,[.agg 32 (By k).toArray]⟩]
 let Ff:DirV->DocV->World->Prop:=λd y w=>(x.F w/\Ta w)/\DzF (d,y) w
 let Fs:AwS->Env:=λs=>⟨Es s,Ls s.d s.y,[],Ff s.d s.y,λ_=>True⟩
 refine c_weak (e':=Fs ⟨0,zDirV,zDocV⟩) ⟨⟨rfl,rfl,rfl,rfl,rfl,rfl,rfl,rfl,trivial⟩,⟨rfl,rfl,rfl,rfl,rfl,rfl,trivial⟩,.refl _,λw h _=>⟨⟨h.1,h.2.2.1⟩,zDirV_F w,zDocV_F w⟩,λ_ _=>trivial⟩ (s_loop (λs=>x.ps.length-s.j) Fs (AwI x) ?_ ⟨0,zDirV,zDocV⟩ ⟨aI _,⟨zDirV_ok,rfl,rfl,aI _⟩,aI _⟩)
 rintro⟨j,d,y⟩ ⟨hj,⟨hd,hyl,hye,hd12⟩,hlen⟩
 dsimp only at hj hd hyl hye hd12 hlen
 have h13:=hx.num;refine s_auto TY_ok rfl ?_;refine s_seq λK5 hK5=>?_;refine s_ifD ((j:Int)<(x.ps.length:Int)) rfl (λhlt=>?_) (λhge=>?_)
 ·have hlt:j<x.ps.length:=by omega
  obtain⟨p,hp⟩:∃p,x.ps[j]?=some p:=⟨_,aJ hlt⟩;obtain⟨hgood,h12⟩:=hx.batch hp;have hpm:=aX hp;have hpu:∀u∈p.l,u.Ok:=λu hu=>(hgood u hu).1;refine s_skip (hK5 _ ?_);refine s_seq λK6 hK6=>?_;refine s_block ?_;refine s_auto TY_ok rfl ?_
  refine s_pure ((∃g o,x.X.1=some ⟨g,o,none⟩)/\∃g o,x.Y.1=some ⟨g,o,none⟩) (λw h _=>by
   obtain⟨g,o,e,_⟩:=h.1.1.1.2.2.2.2 (by omega);obtain⟨g2,o2,e2,_⟩:=h.1.1.2.1.2.2.2.2 (by omega)
   exact⟨⟨g,o,e⟩,g2,o2,e2⟩) λ⟨⟨ga,oa,hXA⟩,gb,ob,hYA⟩=>?_
  have hal:=applyD_len (p.l.map udH) d.l;rw [cC] at hal;have hdl1:=dapply_S (A:=p.A) (c:=p.c) hd (us:=p.l) hpu (by omega);have hyl1:=r12apply_S (A:=p.A) (c:=p.c) (B:=p.B) (c2:=p.d) y (by rw [hyl];exact hd.dir) (by rw [hyl];exact hd.small) (us:=p.l) hpu (by rw [<-y.len,hyl];omega);refine s_locs λG=>?_;refine s_anyP [0,1,2,3,4,6,7,8,9,10,11,12,13,14] 16 2 (λw=>InvL (withG G (Ls d y)) w/\x.F w) (by kernel_rfl) rfl (inv_two withG_is λw h _=>h.1.1) ?_;refine p_frontS TY_ok 0 (by kernel_rfl) rfl rfl rfl rfl rfl rfl (λ_ h=>h) (λ_ h=>h.1) ?_;refine p_frontS TY_ok 1 (by kernel_rfl) rfl rfl rfl rfl rfl rfl (λ_ h=>h) (λ_ h=>h.1) ?_;refine p_frontS TY_ok 2 (by kernel_rfl) rfl rfl rfl rfl rfl rfl (λ_ h=>h) (λ_ h=>h.1) ?_;refine p_frontO (.v (.pointer (some ⟨ga,oa+1*j,none⟩))) trivial 3 (by kernel_rfl) rfl rfl rfl rfl rfl (runO_ixS j rfl Tryz.underlying24 rfl (by rw [<-hXA];rfl) rfl hlt) ?_;refine p_frontW (.q (eUs p)) trivial 4 (by kernel_rfl) rfl rfl rfl rfl rfl (run_ldEl (k':=1) (c:=x.X.2) (j:=j) (off:=0) (g:=ga) (a:=oa) (fe:=eUs) (l:=x.ps) TY_ok rfl rfl hp rfl (eUs_ok p).1 λG S w h=>by rw [<-hXA];exact h.fact.2.1) ?_;refine p_frontS TY_ok 6 (by kernel_rfl) rfl rfl rfl rfl rfl rfl (λ_ h=>h) (λ_ h=>h.1) ?_;refine p_frontS TY_ok 7 (by kernel_rfl) rfl rfl rfl rfl rfl rfl (λ_ h=>h) (λ_ h=>h.1) ?_;refine p_frontS TY_ok 8 (by kernel_rfl) rfl rfl rfl rfl rfl rfl (λ_ h=>h) (λ_ h=>h.1) ?_;refine p_frontO (.v (.pointer (some ⟨ga,oa+1*j,none⟩))) trivial 9 (by kernel_rfl) rfl rfl rfl rfl rfl (runO_ixS j rfl Tryz.underlying24 rfl (by rw [<-hXA];rfl) rfl hlt) ?_;refine p_frontW (.q (eUs p)) trivial 10 (by kernel_rfl) rfl rfl rfl rfl rfl (run_ldEl (k':=1) (c:=x.X.2) (j:=j) (off:=0) (g:=ga) (a:=oa) (fe:=eUs) (l:=x.ps) TY_ok rfl rfl hp rfl (eUs_ok p).1 λG S w h=>by rw [<-hXA];exact h.fact.2.1) ?_;refine p_frontS TY_ok 11 (by kernel_rfl) rfl rfl rfl rfl rfl rfl (λ_ h=>h) (λ_ h=>h.1) ?_;refine p_frontS TY_ok 12 (by kernel_rfl) rfl rfl rfl rfl rfl rfl (λ_ h=>h) (λ_ h=>h.1) ?_;refine p_frontO (.v (.pointer (some ⟨gb,ob+1*j,none⟩))) trivial 13 (by kernel_rfl) rfl rfl rfl rfl rfl (runO_ixS j rfl Tryz.underlying25 rfl (by rw [<-hYA];rfl) rfl hlt) ?_;refine p_frontW (.q (eGs p)) trivial 14 (by kernel_rfl) rfl rfl rfl rfl rfl (run_ldEl (k':=1) (c:=x.Y.2) (j:=j) (off:=0) (g:=gb) (a:=ob) (fe:=eGs) (l:=x.ps) TY_ok rfl rfl hp rfl (eGs_ok p).1 λG S w h=>by rw [<-hYA];exact h.fact.2.2.1) ?_;refine p_step 5 (by kernel_rfl) rfl λKa hKa=>?_;refine l_call0 [(eDv d).den,.slice p.A p.l.length p.c] rfl rfl rfl own_dapply rfl rfl (λ_ _=>rfl) hdl1 (λw h _=>⟨h.1.2,h.2.1,(h.1.1.2.2 p hpm).1⟩) λd2=>?_;refine l_pure (d2.Ok/\d2.ep=IntKind.i64.wrap (d.ep+1)/\d2.l=fJ d.l (p.l.map udH)) (λ_ h _=>⟨h.1.2.1,h.1.2.2⟩) λ⟨hd2,hd2e,hd2l⟩=>?_
  refine s_end (hKa _ (inv_two withG_is λw h _=>h.2.1.1) ?_);refine p_step 15 (by kernel_rfl) rfl λKb hKb=>?_;refine l_call0 [(eDc y).den,.slice p.A p.l.length p.c,.slice p.B p.l.length p.d] rfl rfl rfl own_r12apply rfl rfl (λ_ _=>rfl) hyl1 (λw h _=>⟨h.2.2.2,h.2.1.1.2.2 p hpm⟩) λy2=>?_;obtain⟨y2,hy2e,hy2l⟩:=y2;refine s_end (hKb _ (inv_two withG_is λw h _=>h.2.2.1.1) ?_);refine p_tail [16,17] (by kernel_rfl) rfl ?_;refine l_autoS TY_ok rfl ?_;refine s_end (k_noloc ?_);rw [<-hd2l] at hal;rw [hyl,<-hd2l] at hy2l
  have hd212:d2.l.length<=12:=by omega
  have hd2n:d2.l.length<=(allB (x.ps.take (j+1))).length:=by
   rw [allB_take hp,aB]
   omega
  have hok2:DzOk (d2,y2):=⟨hd2,hy2l,by rw [hy2e,hd2e,hye],hd212⟩;refine k_weak (e':=⟨Es ⟨j,d2,y2⟩,Ls d2 y2,[],Ff d2 y2,λ_=>True⟩) ⟨⟨rfl,rfl,rfl,rfl,rfl,rfl,rfl,rfl,trivial⟩,⟨rfl,rfl,rfl,rfl,rfl,rfl,trivial⟩,.refl _,λ_ h _=>⟨h.2.2.1,h.2.1.1,h.1⟩,λ_ _=>trivial⟩ (hK6 _ ?_);refine s_autoE TY_ok rfl ?_;exact k_next ⟨j+1,d2,y2⟩ ⟨hlt,hok2,hd2n⟩ (by show x.ps.length-(j+1)<x.ps.length-j;omega) ⟨⟨nextI j x.ps.length (by omega) hlt,rfl,rfl,rfl,rfl,rfl,rfl,rfl,trivial⟩,⟨rfl,rfl,rfl,rfl,rfl,rfl,trivial⟩,.refl _,λ_ h _=>h,λ_ h=>h⟩
 refine s_exit (k_pass (k_pass (k_out ?_)));refine hK _ ?_;refine s_pure (∀e∈y.es,e.1.length=32) (λw h _=>en_32 h.2.2) λh32=>?_
 have hyes:y.es.length=d.l.length:=by rw [<-hyl,y.len]
 refine s_regA TY_ok rfl λK7 hK7=>?_;refine l_list (fe:=eY 32) TY_ok 0 [k] rfl rfl rfl rfl rfl (λ_=>rfl) rfl (by decide) (by decide) (okF_Y λl hl=>by rw [aF.1 hl];exact hk) (aI _) λP=>?_;refine l_autoS TY_ok rfl ?_;refine s_end (hK7 _ ?_);refine s_seq λK8 hK8=>?_;refine s_auto TY_ok rfl ?_;refine s_block ?_
 let Gs:IdS->Env:=λs=>⟨[(50,.v (.int .i64 (s.i:Int))),(49,.v (.int .i64 (y.es.length:Int))),(48,.v (.slice y.A y.es.length y.c)),(10,.v (.slice s.U.1 s.ids.length s.U.2)),(8,.a 8 0),(7,.a 7 0)],Ls d y,[KyS s.U.1 s.U.2 s.ids],Ff d y,λ_=>True⟩
 refine c_weak (e':=Gs ⟨0,[k],(P,1)⟩) ⟨⟨rfl,rfl,rfl,rfl,rfl,rfl,trivial⟩,⟨rfl,rfl,rfl,rfl,rfl,rfl,trivial⟩,.refl _,λ_ h _=>h,λ_ _=>trivial⟩ (s_loop (λs=>y.es.length-s.i) Gs (IdI y.es.length) ?_ ⟨0,[k],(P,1)⟩ ⟨aI _,aE _,λx hx=>by rw [aF.1 hx];exact hk⟩)
 rintro⟨i,ids,U⟩ ⟨hi,hil,hids⟩
 dsimp only at hi hil hids
 refine s_auto TY_ok rfl ?_;refine s_seq λK9 hK9=>?_;refine s_ifD ((i:Int)<(y.es.length:Int)) rfl (λhlt=>?_) (λhige=>?_)
 ·have hlt:i<y.es.length:=by omega
  obtain⟨e,he⟩:∃e,y.es[i]?=some e:=⟨_,aJ hlt⟩;have he32:=h32 e (aX he);refine s_skip (hK9 _ ?_);refine s_seq λK10 hK10=>?_;refine s_block ?_;refine s_regA TY_ok rfl λK11 hK11=>?_;refine l_elem TY_ok rfl rfl rfl i rfl he rfl rfl (rd_fact λ_ h _=>h.2.2.1) ?_;refine l_autoS TY_ok rfl ?_;refine s_end (hK11 _ ?_);refine s_lit ?_;refine l_autoS TY_ok rfl ?_;refine l_push TY_ok 0 e.1 (fe:=eY 32) rfl rfl rfl rfl rfl rfl rfl (eY_ok he32) (by decide) (by decide) (by show(ids.length+1)*32<=_;omega) (by show ids.length<_;omega) (aI _) λU1 u1=>?_;refine l_autoS TY_ok rfl ?_;refine s_end (hK10 _ ?_);refine s_autoE TY_ok rfl ?_;refine k_next ⟨i+1,ids++[e.1],(U1,u1)⟩ ⟨hlt,?_,?_⟩ (by show y.es.length-(i+1)<y.es.length-i;omega) ⟨⟨nextI i y.es.length (by omega) hlt,rfl,rfl,rfl,rfl,rfl,trivial⟩,⟨rfl,rfl,rfl,rfl,rfl,rfl,trivial⟩,.refl _,λ_ h _=>h,λ_ h=>h⟩
  ·show(ids++[e.1]).length<=i+1+1
   rw [aB];exact Nat.succ_le_succ hil
  ·intro x hx
   rcases cB.1 hx with hx|hx
   ·exact hids x hx
   ·rw [aF.1 hx]
    exact he32
 refine s_exit (k_pass (k_pass (k_out ?_)));refine hK8 _ ?_;refine s_free 0 rfl ?_;refine s_seq λK12 hK12=>?_;refine s_auto TY_ok rfl ?_;refine s_block ?_
 let Hs:Nat->Env:=λq=>⟨[(62,.v (.int .i64 (q:Int))),(61,.v (.int .i64 (ids.length:Int))),(60,.v (.slice U.1 ids.length U.2)),(8,.a 8 0),(7,.a 7 0)],Ls d y,[],λw=>Rd 32 (eY 32) U.1 U.2 ids w/\Ff d y w,λ_=>True⟩
 refine c_weak (e':=Hs 0) ⟨⟨rfl,rfl,rfl,rfl,rfl,trivial⟩,⟨rfl,rfl,rfl,rfl,rfl,rfl,trivial⟩,.refl _,λ_ h _=>h,λ_ _=>trivial⟩ (s_loop (λq=>ids.length-q) Hs (λq=>q<=ids.length) ?_ 0 (aI _))
 intro q hq
 refine s_auto TY_ok rfl ?_;refine s_seq λK13 hK13=>?_;refine s_ifD ((q:Int)<(ids.length:Int)) rfl (λhlt=>?_) (λhqge=>?_)
 ·have hlt:q<ids.length:=by omega
  obtain⟨id,hid⟩:∃id,ids[q]?=some id:=⟨_,aJ hlt⟩;have hid32:=hids id (aX hid);have hdr:=droot_S hd
  have hr32:(dY 256 (pairsD d.l)).length=32:=by rw [<-hd.tree.root];exact d.t.root_len
  have han:=danswer_S hd (by omega) hid32;have hri:=dright_S hd.dir hd.small hid32;have hrk:=r12keys_S y hid32;have hrp:=r12pairs_S y (by omega)
  have hpl:(pairsD d.l).length<=1000:=by rw [pairsD,cC];omega
  have hrc:=λA c A2 c2=>(rcut_S 256 0 (pairsD d.l) [id] A c A2 c2 rfl hpl (by show 1<=1000;decide) (DirOk.pairs hd.dir).1 shares0).toldQ;have hrc:∀A c A2 c2,Spec 17 [.slice A (pairsD d.l).length c,.slice A2 1 c2,.int .i64 0] [] (λw=>Rd 64 eP A c (pairsD d.l) w/\Rd 32 (eY 32) A2 c2 [id] w) (newQ (partD d.l id).bytes):=hrc;rw [hyl] at hrk hrp
  unfold ansP at han
  clear hdr;have hdr:=droot_S hd;generalize dY 256 (pairsD d.l)=rt at *;generalize partD d.l id=W at *;generalize bS d.l id=ks at *;refine s_skip (hK13 _ ?_);refine s_seq λK14 hK14=>?_;refine s_block ?_;refine s_regA TY_ok rfl λK15 hK15=>?_;refine l_elem TY_ok rfl rfl rfl q rfl hid rfl rfl (rd_fact λ_ h _=>h.1) ?_;refine l_autoS TY_ok rfl ?_;refine s_end (hK15 _ ?_);refine s_regA TY_ok rfl λK16 hK16=>?_;refine l_call0 [(eDv d).den,(eY 32 id).den] rfl rfl rfl own_danswer rfl rfl (λ_ _=>rfl) han (λ_ h _=>h.2.2.1) λx2=>?_;refine l_autoS TY_ok rfl ?_;refine s_end ?_;refine k_weak (e':=⟨[(62,.v (.int .i64 (q:Int))),(61,.v (.int .i64 (ids.length:Int))),(60,.v (.slice U.1 ids.length U.2)),(15,.a 15 0),(14,.a 14 0),(8,.a 8 0),(7,.a 7 0)],⟨15,none,53,[.one (.v (.slice x2.A ks.length x2.c)),.one (.v (.slice x2.B W.bytes.length x2.d))]⟩::⟨14,none,45,[.agg 32 (By id).toArray]⟩::Ls d y,[],λw=>(Rd 32 (eY 32) x2.A x2.c ks w/\Rd 1 eB x2.B x2.d W.bytes w)/\Rd 32 (eY 32) U.1 U.2 ids w/\Ff d y w,λ_=>True⟩) ⟨⟨rfl,rfl,rfl,rfl,rfl,rfl,rfl,trivial⟩,⟨rfl,rfl,rfl,rfl,rfl,rfl,rfl,rfl,rfl,rfl,trivial⟩,.refl _,λ_ h _=>h,λ_ _=>trivial⟩ (hK16 _ ?_);refine s_regH 27 (by decide) (by kernel_rfl) (by kernel_rfl) λK17 hK17 G S w0 hst=>?_;refine h_auto TY_ok hst rfl ?_;refine h_callE (F':=y.F) hst [(eDc y).den,(eY 32 id).den] rfl rfl rfl rfl own_r12keys rfl rfl (λ_=>rfl) hrk (λw hv _=>hv.fact.2.2.2.2) λs _=>?_;refine h_auto TY_ok hst rfl ?_;obtain⟨s,hs⟩:=s;subst hs;refine h_callE (F':=λw=>Rd 32 (eY 32) x2.A x2.c s.l w/\Rd 32 (eY 32) s.A s.c s.l w) (post:=one (.v (.bool true))) hst [.slice x2.A s.l.length x2.c,.slice s.A s.l.length s.c] rfl rfl rfl rfl own_rsame11 rfl rfl (λ_=>rfl) (rsame11_S s.l) (λw hv hu=>⟨hv.fact.1.1,told_hs (hu 4 _ rfl (by kernel_rfl))⟩) λ_ _=>?_;refine h_auto TY_ok hst rfl ?_;refine h_strU W.bytes hst rfl rfl rfl rfl rfl rfl (λw hv _=>hv.fact.1.2) ?_;refine h_auto TY_ok hst rfl ?_;refine h_callE (F':=y.F) hst [(eDc y).den] rfl rfl rfl rfl own_r12pairs rfl rfl (λ_=>rfl) hrp (λw hv _=>hv.fact.2.2.2.2) λz _=>?_;refine h_auto TY_ok hst rfl ?_;refine h_litF (eY 32) TY_ok [id] (okF_Y λl hl=>by rw [aF.1 hl];exact hid32) rfl rfl rfl rfl rfl rfl (λ_=>rfl) rfl (by decide) (by decide) λg=>?_;refine h_auto TY_ok hst rfl ?_;refine h_callE (F':=λw=>Rd 64 eP z.1 z.2 (pairsD d.l) w/\Rd 32 (eY 32) (some ⟨g,0,none⟩) 1 [id] w) hst [.slice z.1 (pairsD d.l).length z.2,.slice (some ⟨g,0,none⟩) 1 1,.int .i64 0] rfl rfl rfl rfl own_rcut10 rfl rfl (λ_=>rfl) (hrc z.1 z.2 (some ⟨g,0,none⟩) 1) (λw _ hu=>⟨told_rdG (hu 12 _ rfl (by kernel_rfl)),hu 14 _ rfl (by kernel_rfl)⟩) λz2 _=>?_;refine h_auto TY_ok hst rfl ?_;refine h_strU W.bytes hst rfl rfl rfl rfl rfl rfl (λw _ hu=>told_rdG (hu 15 _ rfl (by kernel_rfl))) ?_
  refine h_auto TY_ok hst rfl ?_;refine h_op hst (.b (!decide (W.bytes=W.bytes))) trivial rfl rfl rfl rfl (run_neqS rfl rfl rfl) ?_;refine h_is 86 false rfl (by simp) ?_;refine h_auto TY_ok hst rfl ?_;refine h_callS (F':=d.F) (r:=.q (eY 32 rt)) hst [(eDv d).den] rfl rfl rfl rfl own_droot rfl rfl (λ_=>rfl) (eY_ok hr32).1 hdr (λ_ _ _ h=>h.fact.2.2.2.1) ?_;refine h_auto TY_ok hst rfl ?_;refine h_callE (F':=λw=>Ta w/\Rd 32 (eY 32) x2.A x2.c s.l w/\Rd 1 eB x2.B x2.d W.bytes w) (post:=one (.v (.int .i64 0))) hst [(eY 32 rt).den,(eY 32 id).den,(eAn x2 s.l.length W.bytes.length).den] rfl rfl rfl rfl own_dright rfl rfl (λ_=>rfl) (hri x2) (λw hv _=>⟨hv.fact.2.2.1.2,hv.fact.1⟩) λ_ _=>?_;refine h_auto TY_ok hst rfl ?_;refine h_is 95 false rfl rfl ?_;refine h_end hst ?_;refine s_end (hK17 _ ?_);refine s_no rfl ?_;refine s_skip (hK14 _ ?_);refine s_autoE TY_ok rfl ?_;exact k_next (q+1) hlt (by show ids.length-(q+1)<ids.length-q;omega) ⟨⟨nextI q ids.length (by omega) hlt,rfl,rfl,rfl,rfl,trivial⟩,⟨rfl,rfl,rfl,rfl,rfl,rfl,trivial⟩,.refl _,λ_ h _=>h.2,λ_ h=>h⟩
 ·refine s_exit (k_pass (k_pass (k_out ?_)))
  refine hK12 _ ?_;refine s_auto TY_ok rfl ?_;exact s_ret (k_ret TY_ok () rfl (by decide) rfl rfl rfl (λ_ _ _=>trivial) (λ_ _=>trivial))
end Go.Proofs.YtlhlkofpjhpaoaaGreatDoor
namespace Go.Proofs.YtlhlkofpjhpaoaaGreatDoor
open Go.ChangeShapes Go.WideShapes Go.ChangeAt Go.RowKit
theorem own:ownKnob Tryz.prog.godebug=none:=by kernel_rfl
theorem laidOut:laidOutB Tryz.prog=true:=by kernel_rfl
section
variable{H:Type}{enc:TypeId×Value->H}{W W':World}
theorem trodAll_below:∀{ts:List TypeId} {vs:List Value} {ds:List (DataW H)} {p:List MemPlace},(∀t∈ts,Tryz.prog.readableRec t=true/\t<Tryz.prog.types.size) ->
  DataW.TrodAll enc Tryz.prog W 0 (λ_=>true) true ts vs ds p->Below W.heap.size W W'->(∀x∈p,x.block<W.heap.size)->DataW.TrodAll enc Tryz.prog W' 0 (λb=>decide (b<W.heap.size)) true ts vs ds p
 | [],_,_,_,_,h,_,_=>by
  obtain⟨rfl,rfl,rfl⟩:=trodAll_nil h;exact trodAll_mk0
 | t::ts,_,_,_,hts,h,hb,hlt=>by
  obtain⟨v,vs',d,ds',p,q,rfl,rfl,rfl,h0,h1⟩:=trodAll_cons h;obtain⟨hr,hz⟩:=hts t (by simp);exact trodAll_cons_mk (Below.trod laidOut hr hz h0 hb (λx hx=>hlt x (by simp [hx]))) (trodAll_below (λu hu=>hts u (by simp [hu])) h1 hb (λx hx=>hlt x (by simp [hx])))
theorem law_post{f:Func}{s:ChangeSpec}{args:Array Value}{ds gs:List (DataW H)}{before:List MemPlace}(hf:f.resultTypes = #[4])(hvars:s.vars=[])
 (hts:∀t∈f.params.toList,Tryz.prog.readableRec t=true/\t<Tryz.prog.types.size)
 (hW:DataW.Whole enc Tryz.prog f.params.toList s.vars false W args.toList ds gs before)(hs:s.fn H (ds++gs)={ results:=[.lit (.bool true)],args:=ds })(hb:Below W.heap.size W W') :
  s.post enc Tryz.prog f false true false false W args (.bool true) W':=by
 have hW':=hW;obtain⟨p,q,hA,hV,rfl,_,_⟩:=hW;rw [hvars] at hV;obtain⟨rfl,rfl⟩:=trodVars_none hV;have hlt:∀x∈p,x.block<W.heap.size:=λx hx=>hW'.lt x (by simp [hx]);refine⟨ds,[],p++[],[],p,[],hW',?_,?_,?_,hb.frame _,λh=>by cases h⟩
 ·rw [hs,hf]
  exact trodAll_mk1 (shut_bool Tryz.underlying4 true)
 ·rw [hs]
  exact trodAll_below hts hA hb hlt
 ·rw [hs,hvars]
  rfl
end
theorem cells8:Tryz.prog.cellsOf 5 = 1:=by kernel_rfl
theorem cells_h:Tryz.prog.cellsOf 45 = 32:=by kernel_rfl
theorem one_of{l:List Value}{i:Nat}{v:Value}(h:(l.drop (i*1)).take 1=[v]):l[i]?=some v:=by
 rw [Nat.mul_one] at h
 have h1:((l.drop i).take 1)[0]?=some v:=by rw [h];rfl
 rw [List.getElem?_take,if_pos (by omega),List.getElem?_drop] at h1
 simpa using h1
theorem okWide_array{P:Program}{w:World}{r:Reach}{base n:Nat}{t e:TypeId}{v:Value}(ht:P.underlying t=some (.array n e))(h:sQ P w r base t v):∃cs,v = .agg cs/\cs.size=P.cellsOf t:=by
 simp only [sQ,ht] at h;obtain⟨cs,h1,h2,_⟩:=h;exact⟨cs,h1,h2⟩
theorem by_of{cs:List Value}(hl:cs.length=32)(h:∀i,i<32->∃n:Int,cs[i]?=some (.int .u8 n)/\0<=n/\n<256):∃l:List UInt8,l.length=32/\cs=By l:=by
 refine⟨cs.map λv=>match v with | .int _ n=>bJ n.toNat|_=>0,by simp [hl],?_⟩
 apply List.ext_getElem (by simp [By])
 intro i h1 h2
 obtain⟨n,hn,h0,h3⟩:=h i (by omega)
 have e:cs[i] = .int .u8 n:=by
  have:=aJ h1;rw [hn] at this;exact(cO this).symm
 simp only [By,List.getElem_map,e]
 congr 1
 rw [gC]
 omega
theorem open_hash{H:Type}{enc:TypeId×Value->H}{W:World}{base:Nat}{v:Value}{d:DataW H}{p:List MemPlace}(hv:sQ Tryz.prog W .any base 45 v)(h:DataW.Trod enc Tryz.prog W 0 (λ_=>true) true 45 v d p) :
  ∃l:List UInt8,l.length=32/\v = .agg (By l).toArray:=by
 obtain⟨cs,rfl,_⟩:=okWide_array Tryz.underlying45 hv;obtain⟨fuel,hf⟩:=h;obtain⟨xs,m,rfl,_,hlen,hn,hel⟩:=DataW.trod_array Tryz.underlying45 hf;rw [cells_h] at hlen
 obtain⟨l,hl,e⟩:=by_of hlen (λi hi=>by
  have h0:=hel i hi;rw [cells8] at h0;obtain⟨x,hx⟩:∃x,xs[i]?=some x:=⟨xs[i]'(by omega),aJ (by omega)⟩;rw [hx] at h0;obtain⟨n,e1,_,hw⟩:=j7 Tryz.underlying5 h0;have hb:=bounds_u8 hw
  exact⟨n,one_of e1,by omega,by omega⟩)
 refine⟨l,hl,?_⟩
 congr 1
 apply Array.ext'
 exact e
end Go.Proofs.YtlhlkofpjhpaoaaGreatDoor
namespace Go.Proofs.YtlhlkofpjhpaoaaGreatDoor
open Go.RowKit Go.IntWalk
open Go.ChangeShapes Go.WideShapes Go.ChangeAt
theorem pick_list{α:Type}(P:Nat->α->Prop):∀n,(∀i,i<n->∃l,P i l)->∃ks:List α,ks.length=n/\∀i l,ks[i]?=some l->P i l
 | 0,_=>⟨[],rfl,λi l h=>by simp at h⟩
 | n+1,h=>by
  obtain⟨ks,hl,hk⟩:=pick_list P n λi hi=>h i (by omega);obtain⟨l,hp⟩:=h n (by omega);refine⟨ks++[l],by simp [hl],λi x hx=>?_⟩
  by_cases hi:i<ks.length
  ·rw [List.getElem?_append_left hi] at hx
   exact hk i x hx
  ·rw [dO (by omega)] at hx
   have h0:i-ks.length=0:=by
    by_cases e:i-ks.length=0
    ·exact e
    ·rw [List.getElem?_eq_none (by simp;omega)] at hx
     cases hx
   rw [h0] at hx
   obtain rfl:l=x:=by simpa using hx
   obtain rfl:i=n:=by omega
   exact hp
theorem open_rd{α H:Type}{enc:TypeId×Value->H}{W:World}{held:Bool}{fuel:Nat}{t e:TypeId}{k:Nat}{fe:α->SQ}{cs:List Value}{x:DataW H×List MemPlace}(ht:Tryz.prog.underlying t=some (.slice e))(hk:Tryz.prog.cellsOf e=k)(hk0:0<k)
 (hel:∀n cs x,g9 enc Tryz.prog W 0 (λ_=>true) held n e cs=some x->∃a:α,cs=(fe a).cl/\OkP (fe a).parts1/\(fe a).cl.length=k)
 (h:g9 enc Tryz.prog W 0 (λ_=>true) held fuel t cs=some x) :
  ∃(A:Option Addr) (l:List α) (c:Nat),cs=[.slice A l.length c]/\Rd k fe A c l W:=by
 rcases DataW.trod_slice ht h with⟨rfl,_⟩|⟨a,len,cap,elems,rest,n,rfl,rfl,rfl,_,hl,hm,hlen,hel2,_⟩
 ·exact⟨none,[],0,rfl,Rd.nil _ _ _⟩
 ·rw [hk] at hel2
  obtain⟨ks,hk1,hk2⟩:=pick_list (λi (y:α)=>(OkP (fe y).parts1/\(fe y).cl.length=k)/\W.cells? 0 (a.add (i*k)) k=some (fe y).cl) len λi hi=>by
   have h0:=hel2 i hi;rw [aJ (by omega)] at h0
   cases hc:W.cells? 0 (a.add (i*k)) k with
   | none=>rw [hc] at h0;cases h0
   | some cs =>
    rw [hc] at h0;obtain⟨y,rfl,h1⟩:=hel _ _ _ h0;exact⟨y,h1,rfl⟩
  subst hk1;refine⟨some a,ks,cap,rfl,hl,(by unfold maxLen at hm;omega),λe=>(by cases e),λy hy=>?_,λhpos=>?_⟩
  ·obtain⟨i,hi,rfl⟩:=List.getElem_of_mem hy
   exact(hk2 i _ (aJ hi)).1
  have hcell:∀i y,ks[i]?=some y->∀j v,(fe y).cl[j]?=some v->W.cell? (a.add (i*k+j))=some v:=λi y hi j v hj=>by
   obtain⟨⟨_,hkl⟩,hc⟩:=hk2 i y hi;obtain⟨_,_,h3⟩:=World.cells?_some hc
   have hjk:j<k:=by
    have:=(List.getElem?_eq_some_iff.1 hj).1
    omega
   have:=h3 j hjk;rw [Addr.add_add,hj] at this;exact this
  have h00:=hk2 0 _ (aJ hpos);have hb:=World.cells?_block h00.2 hk0;rw [Nat.zero_mul] at hb;obtain⟨b,o,sp⟩:=a
  have hsp0:sp=none:=by
   obtain⟨v,hv⟩:∃v,(fe ks[0]).cl[0]?=some v:=⟨_,aJ (by rw [h00.1.2];exact hk0)⟩;have:=hcell 0 _ (aJ hpos) 0 v hv;rw [Nat.zero_mul,show(⟨b,o,sp⟩:Addr).add (0+0)=⟨b,o,sp⟩ from rfl,World.cell?] at this
   cases sp with
   | none=>rfl
   | some s =>
    exfalso
    dsimp only at this
    split at this
    ·simp at this
    ·cases this
  subst hsp0;refine⟨b,o,rfl,hb,λi y hi j v hj=>?_⟩;have:=hcell i y hi j v hj;rw [Addr.add_mid] at this
  rwa [Nat.add_assoc,Nat.mul_comm k i]
end Go.Proofs.YtlhlkofpjhpaoaaGreatDoor
namespace Go.Proofs.YtlhlkofpjhpaoaaGreatDoor
open Go.RowKit Go.IntWalk
open Go.ChangeShapes Go.WideShapes Go.ChangeAt
end Go.Proofs.YtlhlkofpjhpaoaaGreatDoor
namespace Go.Proofs.YtlhlkofpjhpaoaaGreatDoor
open Go.ChangeShapes Go.WideShapes Go.ChangeAt Go.RowKit
theorem cells64:Tryz.prog.cellsOf 123 = 1:=by kernel_rfl
theorem table_cells{W:World}{nm:String}{g g0 t0 tid n fuel:Nat}{l:List Nat}{datum:DataW Unit}{cs:List Value}{p:List MemPlace}(hg:Tryz.prog.globalNamed nm=some g)(ht:(Tryz.prog.globals[g]?).map (·.type)=some tid)(hu:Tryz.prog.underlying tid=some (.array n 123))
 (hd:datum = .agg (l.map λ(x:Nat)=>.lit (.int .u64 (x:Int))))(hg0:Tryz.prog.globalNamed nm=some g0)(ht0:(Tryz.prog.globals[g0]?).map (·.type)=some t0)(hv0:W.var? Tryz.prog nm=some cs.toArray)(hd0:g9 (λ_=>()) Tryz.prog W 0 (λ_=>true) false fuel t0 cs=some (datum,p)) :
  ∀i,i<n->W.cell? ⟨g,i,none⟩=some (.int .u64 (l[i]! : Nat)):=by
 obtain rfl:=cO (hg.symm.trans hg0);obtain rfl:=cO (ht.symm.trans ht0);obtain⟨xs,m1,rfl,hx1,hlen,hn5,hel⟩:=DataW.trod_array hu hd0;have hx2:=congrArg Prod.fst hx1;rw [hd] at hx2
 injection hx2 with hx2
 intro i hi
 have h0:=hel i hi;rw [cells64] at h0;obtain⟨x,hxi⟩:∃x,xs[i]?=some x:=⟨xs[i]'(by omega),aJ (by omega)⟩;rw [hxi] at h0;obtain⟨n',e1,e2,_⟩:=j7 Tryz.underlying123 h0
 have hll:l.length=n:=by
  have:=congrArg List.length hx2;simp only [cC] at this
  omega
 have h3:(l.map λ(x:Nat)=>(DataW.lit (.int .u64 (x:Int)):DataW Unit))[i]?=(xs.map (·.1))[i]?:=by rw [hx2]
 rw [fX,fX,hxi,aJ (by omega)] at h3;simp only [Option.map_some,aV] at h3;rw [e2] at h3
 have hn:n'=((l[i]! : Nat):Int):=by
  rw [getElem!_pos l i (by omega)]
  injection h3 with h3
  injection h3 with _ h3
  exact h3.symm
 subst hn;have hcell:=World.var?_cell hg hv0 i;rw [hcell];have:=one_of e1
 simpa using this
end Go.Proofs.YtlhlkofpjhpaoaaGreatDoor
namespace Go.Proofs.YtlhlkofpjhpaoaaGreatDoor
open Go.ChangeShapes Go.WideShapes Go.ChangeAt Go.RowKit Nums
def laid3:List (String×DataW Unit):=[("witan/field.twice",Rows.laid_witan_field_twice),("witan/sha.starts",Rows.laid_witan_sha_starts),("witan/sha.steps",Rows.laid_witan_sha_steps)]
theorem door_met(os:Os)(args:Array Value):laidMetH Tryz.prog laid3 ((World.doorLaid Tryz.prog 400 os).forCall (λ_ _=>0) ⟨#[],args,[]⟩).memory :=
 laidMetH_of_parts3 (fuel:=8) (laidMet_of_run' 8 (by kernel_rfl) (by kernel_rfl)) (by kernel_rfl) (by kernel_rfl)
theorem of_laid{W:World}(h:laidMetH Tryz.prog laid3 W):Ta W:=by
 rw [MakeChecks.laidMetH_plain _ _ _ (by kernel_rfl)] at h;obtain⟨ps,⟨g0,t0,cs0,f0,p0,q0,hg0,ht0,hv0,hd0,⟨g1,t1,cs1,f1,p1,q1,hg1,ht1,hv1,hd1,⟨g2,t2,cs2,f2,p2,q2,hg2,ht2,hv2,hd2,_,_⟩,_⟩,_⟩,_,_⟩:=h;have c0:=table_cells (l:=twl) (n:=5) (g:=3) (tid:=191) (by kernel_rfl) (by kernel_rfl) Tryz.underlying191 (by kernel_rfl) hg0 ht0 hv0 hd0;have c1:=table_cells (l:=sqs) (n:=8) (g:=0) (tid:=217) (by kernel_rfl) (by kernel_rfl) Tryz.underlying217 (by kernel_rfl) hg1 ht1 hv1 hd1;have c2:=table_cells (l:=cbs) (n:=80) (g:=1) (tid:=222) (by kernel_rfl) (by kernel_rfl) Tryz.underlying222 (by kernel_rfl) hg2 ht2 hv2 hd2;exact⟨⟨c0,lG W ⟨3,0,none⟩ (c0 0 (by omega))⟩,⟨⟨c2,lG W ⟨1,0,none⟩ (c2 0 (by omega))⟩,c1,lG W ⟨0,0,none⟩ (c1 0 (by omega))⟩⟩
end Go.Proofs.YtlhlkofpjhpaoaaGreatDoor
namespace Go.Proofs.YtlhlkofpjhpaoaaGreatDoor
open Go.RowKit Go.IntWalk
open Go.ChangeShapes Go.WideShapes Go.ChangeAt
theorem eAc_cl(a:AcV):(eAc a).cl=[.int .i64 a.who,.int .i64 a.ver,.int .i64 a.key,.bool a.wr,.bool a.cut]:=by
 simp [SQ.cl,AcV.parts,SQ.den,Value.cells,catP,Pt.cells,SC.den]
theorem eAc_ok(a:AcV):OkP (eAc a).parts1/\(eAc a).cl.length=5:=⟨λq hq=>by
 have hq:q∈a.parts:=hq;simp only [AcV.parts,List.mem_cons,List.not_mem_nil,or_false] at hq
 rcases hq with rfl|rfl|rfl|rfl|rfl<;>exact⟨trivial,rfl,rfl⟩,by rw [eAc_cl];rfl⟩
theorem five_of{α:Type}{l:List α}(h:l.length=5):∃a b c d e,l=[a,b,c,d,e]:=by
 match l,h with
 | [a,b,c,d,e],_=>exact⟨a,b,c,d,e,rfl⟩
theorem act_cells{H:Type}{enc:TypeId×Value->H}{W:World}{held:Bool}(n:Nat)(cs:List Value)(x:DataW H×List MemPlace)(h:g9 enc Tryz.prog W 0 (λ_=>true) held n 80 cs=some x) :
  ∃a:AcV,cs=(eAc a).cl/\OkP (eAc a).parts1/\(eAc a).cl.length=5:=by
 obtain⟨xs,m,_,_,hl,hlen,hf⟩:=DataW.trod_struct Tryz.underlying80 h;obtain⟨a,b,c,d,e,rfl⟩:=five_of (hl.trans (by kernel_rfl));obtain⟨x0,x1,x2,x3,x4,rfl⟩:=five_of (show xs.length=5 from hlen)
 have c0:Tryz.prog.cellsOf 3 = 1:=by kernel_rfl
 have c1:Tryz.prog.cellsOf 4 = 1:=by kernel_rfl
 have h0:g9 enc Tryz.prog W 0 (λ_=>true) held m 3 (([a,b,c,d,e].drop 0).take (Tryz.prog.cellsOf 3))=some x0:=hf 0 _ rfl;have h1:g9 enc Tryz.prog W 0 (λ_=>true) held m 3 (([a,b,c,d,e].drop 1).take (Tryz.prog.cellsOf 3))=some x1:=hf 1 _ rfl;have h2:g9 enc Tryz.prog W 0 (λ_=>true) held m 3 (([a,b,c,d,e].drop 2).take (Tryz.prog.cellsOf 3))=some x2:=hf 2 _ rfl;have h3:g9 enc Tryz.prog W 0 (λ_=>true) held m 4 (([a,b,c,d,e].drop 3).take (Tryz.prog.cellsOf 4))=some x3:=hf 3 _ rfl;have h4:g9 enc Tryz.prog W 0 (λ_=>true) held m 4 (([a,b,c,d,e].drop 4).take (Tryz.prog.cellsOf 4))=some x4:=hf 4 _ rfl;rw [c0] at h0 h1 h2;rw [c1] at h3 h4;obtain⟨n0,e0,_⟩:=j7 Tryz.underlying3 h0;obtain⟨n1,e1,_⟩:=j7 Tryz.underlying3 h1;obtain⟨n2,e2,_⟩:=j7 Tryz.underlying3 h2;obtain⟨n3,e3,_⟩:=DataW.trod_bool Tryz.underlying4 h3;obtain⟨n4,e4,_⟩:=DataW.trod_bool Tryz.underlying4 h4
 injection e0 with e0
 injection e1 with e1
 injection e2 with e2
 injection e3 with e3
 injection e4 with e4
 subst e0 e1 e2 e3 e4;exact⟨⟨n0,n1,n2,n3,n4⟩,(eAc_cl ⟨n0,n1,n2,n3,n4⟩).symm,eAc_ok _⟩
end Go.Proofs.YtlhlkofpjhpaoaaGreatDoor
namespace Go.Proofs.YtlhlkofpjhpaoaaGreatDoor
open Go.ChangeShapes Go.WideShapes Go.ChangeAt Go.RowKit Nums
end Go.Proofs.YtlhlkofpjhpaoaaGreatDoor
