import Derived.Test.YtfkchihlchlfdaaDoorMn
import Derived.Test.YtfkchihlchlfdaaDoorMo
import Derived.Lib.AppendZeros
import Derived.Test.YtfkchihlchlfdaaDoorRows
import Derived.Test.YtfkchihlchlfdaaDoorMa
import Derived.ProofKit
import Derived.OpenShut
import Derived.SizedLaws
import Derived.Deep.Slices
import Derived.LaidMore
import Derived.SevenTiedAt
import Derived.Stop.Joined
import Derived.Test.YtfkchihlchlfdaaDoorCards
import Derived.Test.YtfkchihlchlfdaaDoorTie
open Go.Builtin renaming zeroCells->oN
open Go.Sem renaming run_bind->aJ
open Go.Value renaming int->fD,bool->kI
open Go.World renaming block_lt_of_cell?->tH
open List renaming replicate->aD,length_append->aO,getElem?_eq_getElem->bC,mem_cons->cA,mem_singleton->cG,mem_of_getElem?->fM,nil_append->jD,take_length->nB,length->AW
open Nat renaming le_refl->aF,zero_le->dC,le_trans->jL,le_of_ble_eq_true->CH
open Option.some renaming injEq->bH,inj->eW
namespace Go.Proofs.YtfkchihlchlfdaaDoor
open Go.RowKit Go.IntWalk Nums
theorem Dn : Own 15:=λ_ _=>by go_simp
theorem rQ : Own 6:=λ_ _=>by go_simp
theorem AA : Own 13:=λ_ _=>by go_simp
theorem pV : Own 9:=λ_ _=>by go_simp
theorem Az : Own 12:=λ_ _=>by go_simp
theorem sP : Own 10:=λ_ _=>by go_simp
theorem xC : Own 20:=λ_ _=>by go_simp
set_option maxRecDepth 100000 in
theorem Kb {k : List UInt8} (v : Int) (hk : k.length = 32) : Spec 15 [.int .i64 v,.agg (By k).toArray] [] (λ_=>True) (RW (iI v k)):=by
 refine mN [.c (.v (.int .i64 v)),eY 32 k] 11 Tryd.func15 rfl (by rw [Tryd.ntmps15]; rfl) (sM trivial (mU hk).1) λb=>?_;refine dV aN rfl λK1 hK1=>?_;refine cN (IG 3 rfl (E':=[(0,.v (.int .i64 v)),(4,.v (.slice none 0 0))]) ⟨rfl,rfl,trivial⟩ λg=>hK1 _ ?_);refine Ec 0 rfl ?_;refine fO λK2 hK2=>?_;refine JI 4 [] (by kernel_rfl) (by decide) (λ_ _ _ _ h=>by cases h) ?_;refine oD aN 0 (by kernel_rfl) rfl rfl rfl rfl rfl rfl (λ_ h=>by cases h) ?_;refine oD aN 1 (by kernel_rfl) rfl rfl rfl rfl rfl rfl (λ_ h=>by cases h) ?_;refine zB (.v (.slice (some ⟨g,0,none⟩) 32 32)) trivial 3 (by kernel_rfl) rfl rfl rfl rfl rfl (zN rfl Tryd.underlying24 rfl rfl) ?_;refine Al 2 (by kernel_rfl) rfl λK3 hK3=>?_;refine oZ 6 (tD v : Int) rfl (Jw v) ?_;refine dO [.slice none ([] : List UInt8).length 0,.int .u64 (tD v : Int)] rfl rfl rfl BP rfl rfl (λ_ _=>rfl) (Hw [] (tD v) (Jv v) (by decide)) (λ_ _ _=>Rd.nil _ _ _) λgc=>?_;rw [jD];refine cN (hK3 _ (λ_ _ _ _ h=>by cases h) ?_);refine Ak (by kernel_rfl) ?_;refine QK 8 (.v (.slice (some ⟨g,0,none⟩) k.length 32)) rfl (by rw [hk]) ?_;refine p9 aN b.B.heap.size [⟨some ⟨gc,0,none⟩,(be8 (tD v)).length,be8 (tD v)⟩,⟨some ⟨g,0,none⟩,32,k⟩] (fe:=I5) rfl rfl rfl rfl rfl (λ_=>rfl) rfl (by decide) (by decide) (JX _) (aF _) λP=>?_;refine rC 0 rfl ?_
 have e0 : (List.map Seg.l [⟨some ⟨gc,0,none⟩,(be8 (tD v)).length,be8 (tD v)⟩,⟨some ⟨g,0,none⟩,32,k⟩]).flatten = iI v k:=by simp [iI]
 have hj:=Oe (A:=P) (c:=2) [⟨some ⟨gc,0,none⟩,(be8 (tD v)).length,be8 (tD v)⟩,⟨some ⟨g,0,none⟩,32,k⟩] (by rw [e0,sC hk]; decide);rw [e0] at hj
 refine dO [.slice P 2 2] rfl rfl rfl Gi rfl rfl (λ_ _=>rfl) hj (λw h hM=>⟨h.1,λs hs=>by
  rcases cA.1 hs with rfl | hs
  ·exact hM.1
  ·rw [cG.1 hs]
   exact Iy (n:=32) h.2.2.1 (CH rfl)⟩) λgb=>?_
 refine a5 aN rfl ?_;refine cN (hK2 _ ?_);exact lU (mS aN gb rfl (by decide) rfl rfl rfl (λ_ _ _=>trivial) (λw h=>h.1))
set_option maxRecDepth 100000 in
theorem JR {k : List UInt8} (v : Int) (hk : k.length = 32) : Spec 12 [.int .i64 v,.agg (By k).toArray] [] (λ_=>True) (Fv (iI v k)):=by
 refine mN [.c (.v (.int .i64 v)),eY 32 k] 10 Tryd.func12 rfl (by rw [Tryd.ntmps12]; rfl) (sM trivial (mU hk).1) λb=>?_;refine dV aN rfl λK1 hK1=>?_;refine cN (IG 3 rfl (E':=[(0,.v (.int .i64 v)),(4,.v (.slice none 0 0))]) ⟨rfl,rfl,trivial⟩ λg=>hK1 _ ?_);refine Ec 0 rfl ?_;refine fO λK2 hK2=>?_;refine JI 4 [] (by kernel_rfl) (by decide) (λ_ _ _ _ h=>by cases h) ?_;refine oD aN 0 (by kernel_rfl) rfl rfl rfl rfl rfl rfl (λ_ h=>by cases h) ?_;refine oD aN 1 (by kernel_rfl) rfl rfl rfl rfl rfl rfl (λ_ h=>by cases h) ?_;refine zB (.v (.slice (some ⟨g,0,none⟩) 32 32)) trivial 3 (by kernel_rfl) rfl rfl rfl rfl rfl (zN rfl Tryd.underlying24 rfl rfl) ?_;refine Al 2 (by kernel_rfl) rfl λK3 hK3=>?_;refine oZ 6 (tD v : Int) rfl (Jw v) ?_;refine dO [.int .u64 (tD v : Int)] rfl rfl rfl zR rfl rfl (λ_ _=>rfl) (Spec.SW (F:=λ_=>True) λw _=>BH (tD v) w (Jv v)) (λ_ _ _=>trivial) λ⟨B,d⟩=>?_;refine l_R [gZ 0 5 1 eB B d (be8 (tD v))] rfl ?_;refine cN (hK3 _ (λ_ _ _ _ h=>by cases h) ?_);refine Ak (by kernel_rfl) ?_;refine QK 8 (.v (.slice (some ⟨g,0,none⟩) k.length 32)) rfl (by rw [hk]) ?_;refine EI aN 0 k (fe:=eB) rfl rfl rfl rfl rfl rfl rfl rfl rfl (lN λw h _=>Iy (n:=32) h.2.1 (CH rfl)) (by decide) (by rw [mW,hk]; decide) (by rw [mW,hk]; decide) (dC _) λB' d'=>?_;refine rC 0 rfl ?_;refine a5 aN rfl ?_;refine cN (hK2 _ ?_);exact lU (mS aN (B',d') rfl (by decide) rfl rfl rfl (λw h _=>h.1) (λ_ _=>trivial))
set_option maxRecDepth 100000 in
theorem yQ {seed key : List UInt8} (v : Int) (hs : seed.length = 32) (hk : key.length = 32) : Spec 6 [.agg (By seed).toArray,.int .i64 v,.agg (By key).toArray] [] Ta (one (.q (eU (mkH seed v key)))):=by
 refine mN [eY 32 seed,.c (.v (.int .i64 v)),eY 32 key] 19 Tryd.func6 rfl (by rw [Tryd.ntmps6]; rfl) (EC (mU hs).1 (sM trivial (mU hk).1)) λb=>?_;refine dZ aN rfl ?_;refine Ea 6 (by decide) (by kernel_rfl) (by kernel_rfl) λK hK G S w0 hst=>?_;refine gV aN hst rfl ?_;refine qU (F':=λ_=>True) hst [.int .i64 v,.agg (By key).toArray] rfl rfl rfl rfl Dn rfl rfl (λ_=>rfl) (Kb v hk).p1 (λ_ _ _=>trivial) λgb _=>?_;refine qU (F':=λw=>Ta w /\ Rd 1 eB (some ⟨gb,0,none⟩) (iI v key).length (iI v key) w) hst [.agg (By seed).toArray,.int .u8 1,.slice (some ⟨gb,0,none⟩) (iI v key).length (iI v key).length] rfl rfl rfl rfl Ny rfl rfl (λ_=>rfl) (SI 1 hs (by rw [sC hk]; decide)) (λw hw hu=>⟨hw.fact,Gv (hu 3 _ rfl (by kernel_rfl))⟩) λ_ _=>?_;refine QV (By (aD 64 0)).toArray rfl rfl rfl rfl rfl (by kernel_rfl) λg=>?_;have h64:=kM seed (msg 1 (iI v key));refine Tr hst (ps:=[.agg 64 (By (aD 64 0)).toArray]) 7 5 [(12,.q (eY 64 (jH seed (msg 1 (iI v key))))),(1,.v (.int .i64 v)),(3,.a 3 0),(5,.a 5 0),(6,.a 6 0)] rfl rfl ⟨rfl,rfl,rfl,rfl,rfl,trivial⟩ rfl rfl (mU List.length_replicate).1 ?_;generalize hsg : jH seed (msg 1 (iI v key)) = sg at *;refine a5 aN rfl ?_;refine cN (hK _ ?_);refine Ea 6 (by decide) (by kernel_rfl) (by kernel_rfl) λK2 hK2 G S w0 hst=>?_;have hk0:=lM seed;refine gV aN hst rfl ?_;refine QU (F':=Ta) (r:=.q (eY 32 (gG seed))) hst [.agg (By seed).toArray] rfl rfl rfl rfl Ir rfl rfl (λ_=>rfl) (mU hk0).1 (M9 hs) (λ_ _ _ hv=>hv.fact) ?_;generalize hpk : gG seed = pk at *
 have hmk : mkH seed v key = ⟨pk,v,key,sg⟩:=by unfold mkH; rw [hpk,hsg]
 refine gV aN hst rfl ?_;refine uE hst ?_;refine a5 aN rfl ?_;refine cN (hK2 _ ?_);exact lU (mS aN () rfl (by decide) rfl (by show RV.q (eU (mkH seed v key)) = _; rw [hmk]; rfl) rfl (λ_ _ _=>trivial) (λ_ _=>trivial))
set_option maxRecDepth 100000 in
theorem DH {u : UV} (hu : u.Ok) : Spec 13 [(eU u).den] [] Ta (one (.q (.c (.b (jS u))))):=by
 refine mN [eU u] 23 Tryd.func13 rfl (by rw [Tryd.ntmps13]; rfl) (BX hu.rP) λb=>?_;refine dZ aN rfl ?_;refine Ea 20 (by decide) (by kernel_rfl) (by kernel_rfl) λK hK G S w0 hst=>?_;refine gV aN hst rfl ?_;have hgo : jS u = false -> kS b (bodyPost Tryd.prog Tryd.f13 (Q9 b (one (.q (.c (.b (jS u)))))) .ret) 23 ⟨[(2,.v (.bool false))],[],[],Ta,λ_=>True⟩:=λh=>Oc aN () rfl (by decide) rfl (congrArg kI h) trivial rfl (λ_ _ _=>trivial) (λ_ _=>trivial)
 by_cases h1 : 1 <= u.ver
 ·refine CT 6 true rfl (decide_eq_true h1) ?_
  refine gV aN hst rfl ?_
  by_cases h2 : u.ver <= 64
  ·have hsb : jS u = kO u.id u.sig (msg 1 (iI u.ver u.key)):=by unfold jS; rw [decide_eq_true ⟨h1,h2⟩,Bool.true_and]
   refine CT 11 true rfl (decide_eq_true h2) ?_;refine gV aN hst rfl ?_;refine qU (F':=λ_=>True) hst [.int .i64 u.ver,.agg (By u.key).toArray] rfl rfl rfl rfl Dn rfl rfl (λ_=>rfl) (Kb u.ver hu.key).p1 (λ_ _ _=>trivial) λgb _=>?_;refine gV aN hst rfl ?_;refine qU (F':=λw=>Ta w /\ Rd 1 eB (some ⟨gb,0,none⟩) (iI u.ver u.key).length (iI u.ver u.key) w) hst [.agg (By u.id).toArray,.int .u8 1,.slice (some ⟨gb,0,none⟩) (iI u.ver u.key).length (iI u.ver u.key).length,.agg (By u.sig).toArray] rfl rfl rfl rfl zS rfl rfl (λ_=>rfl) (Ep 1 hu.id hu.sig (by rw [sC hu.key]; decide)) (λw hw hx=>⟨hw.fact,Gv (hx 15 _ rfl (by kernel_rfl))⟩) λ_ _=>?_;refine gV aN hst rfl ?_;refine uE hst ?_;refine a5 aN rfl ?_;refine cN (hK _ ?_);exact lU (Oc aN () rfl (by decide) rfl (congrArg kI hsb) trivial rfl (λ_ _ _=>trivial) (λ_ _=>trivial))
  ·have hsb : jS u = false:=by unfold jS; rw [decide_eq_false (λh=>h2 h.2),Bool.false_and]
   refine CT 11 false rfl (decide_eq_false h2) ?_;refine gV aN hst rfl ?_;refine uE hst ?_;refine a5 aN rfl ?_;exact cN (hK _ (lU (uB (e':=⟨[(2,.v (.bool false))],[],[],Ta,λ_=>True⟩) ⟨⟨rfl,trivial⟩,trivial,.refl _,λ_ h _=>h,λ_ h=>h⟩ (hgo hsb))))
 ·have hsb : jS u = false:=by unfold jS; rw [decide_eq_false (λh=>h1 h.1),Bool.false_and]
  refine CT 6 false rfl (decide_eq_false h1) ?_;refine gV aN hst rfl ?_;refine uE hst ?_;refine a5 aN rfl ?_;exact cN (hK _ (lU (uB (e':=⟨[(2,.v (.bool false))],[],[],Ta,λ_=>True⟩) ⟨⟨rfl,trivial⟩,trivial,.refl _,λ_ h _=>h,λ_ h=>h⟩ (hgo hsb))))
theorem Su {A : Option Addr} {ls : List (List UInt8)} {w : World} (n : Nat) (hn : ls.length = n) (hm : n <= 9223372036854775807) (hT : Ta w) (h : PT w A ls) :
  Calls Tryd.prog 18 #[.slice A n n] w λe w'=>e = .returned (.agg (By (eK b7 ls.flatten)).toArray) /\ Below w.heap.size w w':=by
 subst hn;exact MF A ls _ w hT.2 h (aF _) hm
theorem Ss {A : Option Addr} {ls : List (List UInt8)} {w : World} (n : Nat) (hn : ls.length = n) (hm : n <= 9223372036854775807) (hl : ls.flatten.length <= 70368744177664) (h : PT w A ls) :
  Calls Tryd.prog 20 #[.slice A n n] w λe w'=>e = .returned (.agg (By (eK b7 ls.flatten)).toArray) /\ Below w.heap.size w w':=by
 subst hn;exact SK A ls _ hm hl w h
set_option maxRecDepth 100000 in
set_option maxHeartbeats 1000000 in
theorem uD {A : Option Addr} {c : Nat} (ks : List (List UInt8)) : Spec 9 [.slice A ks.length c] [] (λw=>Ta w /\ Rd 32 (eY 32) A c ks w) (one (.q (eY 32 (rA ks)))):=by
 refine mN [.c (.v (.slice A ks.length c))] 26 Tryd.func9 rfl (by rw [Tryd.ntmps9]; rfl) (BX trivial) λb=>?_;refine BC ((∀ x ∈ ks,x.length = 32) /\ ks.length <= 9223372036854775807) (λw h _=>⟨λx hx=>I4 (h.2.2.2.2.1 x hx).1,jL h.2.1 h.2.2.1⟩) λ⟨h32,hm⟩=>?_;refine dZ aN rfl ?_;refine dZ aN rfl ?_;refine fO λK hK=>?_;refine dZ aN rfl ?_;refine jZ ?_
 let F : Nat -> Env:=λi=>⟨[(8,.v (.int .i64 (i : Int))),(7,.v (.int .i64 (ks.length : Int))),(6,.v (.slice A ks.length c)),(0,.v (.slice A ks.length c)),(3,.a 3 0),(2,.a 2 0)],[⟨3,none,24,[.agg 32 (By (dH (ks.take i))).toArray]⟩,⟨2,none,24,[.agg 32 (By zH).toArray]⟩],[],λw=>Ta w /\ Rd 32 (eY 32) A c ks w,λ_=>True⟩
 refine xO (e':=F 0) ⟨⟨rfl,rfl,rfl,rfl,rfl,rfl,trivial⟩,⟨rfl,rfl,rfl,rfl,trivial⟩,.refl _,λ_ h _=>h,λ_ _=>trivial⟩ (wZ (λi=>ks.length - i) F (λi=>i <= ks.length) ?_ 0 (dC _))
 intro i hi
 refine dZ aN rfl ?_;refine fO λK3 hK3=>?_;refine s9 ((i : Int) < (ks.length : Int)) rfl (λhlt=>?_) (λhge=>?_)
 ·have hlt : i < ks.length:=by omega
  obtain ⟨x,hx⟩ : ∃ x,ks[i]? = some x:=⟨_,bC hlt⟩;have hx2:=h32 x (fM hx);have hd2:=EX (ks.take i);have hn:=Kw hx;refine iK (hK3 _ ?_);refine fO λK4 hK4=>?_;refine jZ ?_;refine dV aN rfl λK5 hK5=>?_;refine xJ aN rfl rfl rfl i rfl hx rfl rfl (lN λ_ h _=>h.2) ?_;refine a5 aN rfl ?_;refine cN (hK5 _ ?_);generalize dH (ks.take i) = d at *;have hkl : (GJ d x).length = 32:=oC _;have hkd : GJ d x = eK b7 ([[3],d,x] : List (List UInt8)).flatten:=rfl;obtain ⟨d2,he⟩ : ∃ d2,GJ d x = d2:=⟨_,rfl⟩;rw [he] at hn hkl hkd;refine H9 5 (by decide) (by kernel_rfl) (by kernel_rfl) λG S w0 hst=>?_;refine R8 aN [(3 : UInt8)] rfl rfl rfl rfl rfl rfl (λ_=>rfl) rfl (by decide) (by decide) λB=>?_;refine QT hst (.s 3 0 32 32) trivial rfl rfl rfl rfl (rL rfl Tryd.underlying24 rfl rfl) ?_;refine QT hst (.s 5 0 32 32) trivial rfl rfl rfl rfl (rL rfl Tryd.underlying24 rfl rfl) ?_;refine Kd [.slice (some ⟨B,0,none⟩) 1 1,(SV.s 3 0 32 32).den G,(SV.s 5 0 32 32).den G] [[3],d,x] hst rfl rfl rfl rfl rfl rfl rfl (by decide) (by decide) (λw hw hu=>?_) λA2=>?_
  ·have h2 : Rd 1 eB (some ⟨B,0,none⟩) 1 [3] w:=hu 0 _ rfl (by kernel_rfl)
   exact ⟨h2.sb,tT (j:=3) rfl hd2 (by decide) G S w hw,tT (j:=5) rfl hx2 (by decide) G S w hw,trivial⟩
  refine IK (r:=.q (eY 32 d2)) hst [.slice (some ⟨A2,0,none⟩) 3 3] rfl rfl rfl rfl xB rfl rfl (λ_=>rfl) (mU hkl).1 (λw hw hu=>?_) ?_
  ·have hA : PT w (some ⟨A2,0,none⟩) [[3],d,x]:=hu 3 _ rfl (by kernel_rfl)
   have hr2:=Su 3 rfl (by decide) hw.fact.1 hA;rw [<-hkd] at hr2;exact hr2
  refine gV aN hst rfl ?_;refine uE hst ?_;refine a5 aN rfl ?_;refine cN (hK4 _ ?_);refine qO aN rfl ?_;exact xK (i + 1) hlt (by show _ - (i + 1) < _ - i; omega) ⟨⟨congrArg some (congrArg SV.v (congrArg (fD .i64) (pK rfl (by omega) (by omega)))),rfl,rfl,rfl,rfl,rfl,trivial⟩,⟨by show DN _ 3 = some ⟨3,none,24,[.agg 32 (By (dH (ks.take (i + 1)))).toArray]⟩; rw [hn]; rfl,rfl,rfl,rfl,trivial⟩,.refl _,λ_ h _=>h,λ_ h=>h⟩
 ·obtain rfl : ks.length = i:=by omega
  have hd2:=EX ks;have hvl : (rA ks).length = 32:=oC _;have hvd : rA ks = eK b7 ([[2],be8 ks.length,dH ks] : List (List UInt8)).flatten:=rfl;have hb8:=mW ks.length;refine xA (mT (mT (Ca ?_)));refine hK _ ?_;rw [nB];generalize dH ks = d at *;obtain ⟨v2,hv2⟩ : ∃ v2,rA ks = v2:=⟨_,rfl⟩;rw [hv2] at hvl hvd;refine fO λK5 hK5=>?_;refine JI 6 [] (by kernel_rfl) (by decide) (λ_ _ _ _ h=>by cases h) ?_;refine oD aN 1 (by kernel_rfl) rfl rfl rfl rfl rfl rfl (λ_ h=>by cases h) ?_;refine oD aN 2 (by kernel_rfl) rfl rfl rfl rfl rfl rfl (λ_ h=>by cases h) ?_;refine oD aN 3 (by kernel_rfl) rfl rfl rfl rfl rfl rfl (λ_ h=>by cases h) ?_;refine zB (.s 3 0 32 32) trivial 5 (by kernel_rfl) rfl rfl rfl rfl rfl (rL rfl Tryd.underlying24 rfl rfl) ?_;refine KG 0 4 (by kernel_rfl) rfl rfl (λK6 hK6=>?_) (λK6 hK6=>?_)
  ·refine p9 aN b.B.heap.size [(2 : UInt8)] rfl rfl rfl rfl rfl (λ_=>rfl) rfl (by decide) (by decide) (wD _) (aF _) λB=>?_
   refine cN (hK6 _ (λ_ _ _ _ h=>by cases h) ?_);refine Al 4 (by kernel_rfl) rfl λK7 hK7=>?_;refine oZ 21 (ks.length : Int) rfl (Jq rfl (by omega) (by omega)) ?_;refine dO [.slice none ([] : List UInt8).length 0,.int .u64 (ks.length : Int)] rfl rfl rfl BP rfl rfl (λ_ _=>rfl) (Hw (A:=none) (c:=0) [] ks.length (by omega) (by decide)) (λ_ _ _=>Rd.nil _ _ _) λgb=>?_;rw [jD];refine cN (hK7 _ (λ_ _ _ _ h=>by cases h) ?_);refine Ak (by kernel_rfl) ?_;refine J6 aN [.v (.slice B 1 1),.v (.slice (some ⟨gb,0,none⟩) (be8 ks.length).length (be8 ks.length).length),.s 3 0 32 32] [[2],be8 ks.length,d] v2 rfl rfl rfl rfl rfl rfl rfl rfl rfl xB (λ_=>rfl) rfl (by decide) (by decide) hvl (λA w h hF hM=>?_) (λG S w h=>?_) λB2=>?_
   ·have hr2:=Su 3 rfl (by decide) hF.2.1 h
    rw [<-hvd] at hr2;exact hr2
   ·have h1 : Rd 1 eB B 1 [2] w:=BJ 0 rfl G S w h
    exact ⟨h1.sb,h.fresh.1.sb,tT (j:=3) rfl hd2 (by decide) G S w h,trivial⟩
   refine a5 aN rfl ?_;refine cN (hK5 _ ?_);refine Ee 0 rfl ?_;exact lU (mS aN () rfl (by decide) rfl (congrArg (λz=>RV.q (eY 32 z)) hv2) rfl (λ_ _ _=>trivial) (λ_ _=>trivial))
  ·refine oZ 21 (ks.length : Int) rfl (Jq rfl (by omega) (by omega)) ?_
   refine dO [.slice none ([] : List UInt8).length 0,.int .u64 (ks.length : Int)] rfl rfl rfl BP rfl rfl (λ_ _=>rfl) (Hw (A:=none) (c:=0) [] ks.length (by omega) (by decide)) (λ_ _ _=>Rd.nil _ _ _) λgb=>?_;rw [jD];refine cN (hK6 _ (λ_ _ _ _ h=>by cases h) ?_);refine Al 0 (by kernel_rfl) rfl λK7 hK7=>?_;refine p9 aN b.B.heap.size [(2 : UInt8)] rfl rfl rfl rfl rfl (λ_=>rfl) rfl (by decide) (by decide) (wD _) (aF _) λB=>?_;refine cN (hK7 _ (λ_ _ _ _ h=>by cases h) ?_);refine Ak (by kernel_rfl) ?_;refine J6 aN [.v (.slice B 1 1),.v (.slice (some ⟨gb,0,none⟩) (be8 ks.length).length (be8 ks.length).length),.s 3 0 32 32] [[2],be8 ks.length,d] v2 rfl rfl rfl rfl rfl rfl rfl rfl rfl xB (λ_=>rfl) rfl (by decide) (by decide) hvl (λA w h hF hM=>?_) (λG S w h=>?_) λB2=>?_
   ·have hr2:=Su 3 rfl (by decide) hF.2.1 h
    rw [<-hvd] at hr2;exact hr2
   ·have h1 : Rd 1 eB B 1 [2] w:=BJ 0 rfl G S w h
    exact ⟨h1.sb,h.fresh.1.sb,tT (j:=3) rfl hd2 (by decide) G S w h,trivial⟩
   refine a5 aN rfl ?_;refine cN (hK5 _ ?_);refine Ee 0 rfl ?_;exact lU (mS aN () rfl (by decide) rfl (congrArg (λz=>RV.q (eY 32 z)) hv2) rfl (λ_ _ _=>trivial) (λ_ _=>trivial))
set_option maxRecDepth 100000 in
set_option maxHeartbeats 1000000 in
theorem BD {A : Option Addr} {c : Nat} (ks : List (List UInt8)) : Spec 10 [.slice A ks.length c] [] (Rd 32 (eY 32) A c ks) (one (.q (eY 32 (rA ks)))):=by
 refine mN [.c (.v (.slice A ks.length c))] 27 Tryd.func10 rfl (by rw [Tryd.ntmps10]; rfl) (BX trivial) λb=>?_;refine BC ((∀ x ∈ ks,x.length = 32) /\ ks.length <= 9223372036854775807) (λw h _=>⟨λx hx=>I4 (h.2.2.2.1 x hx).1,jL h.1 h.2.1⟩) λ⟨h32,hm⟩=>?_;refine dZ aN rfl ?_;refine dZ aN rfl ?_;refine fO λK hK=>?_;refine dZ aN rfl ?_;refine jZ ?_
 let F : Nat -> Env:=λi=>⟨[(9,.v (.int .i64 (i : Int))),(8,.v (.int .i64 (ks.length : Int))),(7,.v (.slice A ks.length c)),(0,.v (.slice A ks.length c)),(3,.a 3 0),(2,.a 2 0)],[⟨3,none,24,[.agg 32 (By (dH (ks.take i))).toArray]⟩,⟨2,none,24,[.agg 32 (By zH).toArray]⟩],[],λw=>Rd 32 (eY 32) A c ks w,λ_=>True⟩
 refine xO (e':=F 0) ⟨⟨rfl,rfl,rfl,rfl,rfl,rfl,trivial⟩,⟨rfl,rfl,rfl,rfl,trivial⟩,.refl _,λ_ h _=>h,λ_ _=>trivial⟩ (wZ (λi=>ks.length - i) F (λi=>i <= ks.length) ?_ 0 (dC _))
 intro i hi
 refine dZ aN rfl ?_;refine fO λK3 hK3=>?_;refine s9 ((i : Int) < (ks.length : Int)) rfl (λhlt=>?_) (λhge=>?_)
 ·have hlt : i < ks.length:=by omega
  obtain ⟨x,hx⟩ : ∃ x,ks[i]? = some x:=⟨_,bC hlt⟩;have hx2:=h32 x (fM hx);have hd2:=EX (ks.take i);have hn:=Kw hx;refine iK (hK3 _ ?_);refine fO λK4 hK4=>?_;refine jZ ?_;refine dV aN rfl λK5 hK5=>?_;refine xJ aN rfl rfl rfl i rfl hx rfl rfl (lN λ_ h _=>h) ?_;refine a5 aN rfl ?_;refine cN (hK5 _ ?_);generalize dH (ks.take i) = d at *;have hkl : (GJ d x).length = 32:=oC _;have hkd : GJ d x = eK b7 ([[3],d,x] : List (List UInt8)).flatten:=rfl;obtain ⟨d2,he⟩ : ∃ d2,GJ d x = d2:=⟨_,rfl⟩;rw [he] at hn hkl hkd;refine H9 5 (by decide) (by kernel_rfl) (by kernel_rfl) λG S w0 hst=>?_;refine R8 aN [(3 : UInt8)] rfl rfl rfl rfl rfl rfl (λ_=>rfl) rfl (by decide) (by decide) λB=>?_;refine QT hst (.s 3 0 32 32) trivial rfl rfl rfl rfl (rL rfl Tryd.underlying24 rfl rfl) ?_;refine QT hst (.s 5 0 32 32) trivial rfl rfl rfl rfl (rL rfl Tryd.underlying24 rfl rfl) ?_;refine Kd [.slice (some ⟨B,0,none⟩) 1 1,(SV.s 3 0 32 32).den G,(SV.s 5 0 32 32).den G] [[3],d,x] hst rfl rfl rfl rfl rfl rfl rfl (by decide) (by decide) (λw hw hu=>?_) λA2=>?_
  ·have h2 : Rd 1 eB (some ⟨B,0,none⟩) 1 [3] w:=hu 0 _ rfl (by kernel_rfl)
   exact ⟨h2.sb,tT (j:=3) rfl hd2 (by decide) G S w hw,tT (j:=5) rfl hx2 (by decide) G S w hw,trivial⟩
  refine IK (r:=.q (eY 32 d2)) hst [.slice (some ⟨A2,0,none⟩) 3 3] rfl rfl rfl rfl xC rfl rfl (λ_=>rfl) (mU hkl).1 (λw hw hu=>?_) ?_
  ·have hA : PT w (some ⟨A2,0,none⟩) [[3],d,x]:=hu 3 _ rfl (by kernel_rfl)
   have hr2:=Ss 3 rfl (by decide) (by simp [hd2,hx2]) hA;rw [<-hkd] at hr2;exact hr2
  refine gV aN hst rfl ?_;refine uE hst ?_;refine a5 aN rfl ?_;refine cN (hK4 _ ?_);refine qO aN rfl ?_;exact xK (i + 1) hlt (by show _ - (i + 1) < _ - i; omega) ⟨⟨congrArg some (congrArg SV.v (congrArg (fD .i64) (pK rfl (by omega) (by omega)))),rfl,rfl,rfl,rfl,rfl,trivial⟩,⟨by show DN _ 3 = some ⟨3,none,24,[.agg 32 (By (dH (ks.take (i + 1)))).toArray]⟩; rw [hn]; rfl,rfl,rfl,rfl,trivial⟩,.refl _,λ_ h _=>h,λ_ h=>h⟩
 ·obtain rfl : ks.length = i:=by omega
  have hd2:=EX ks;have hvl : (rA ks).length = 32:=oC _;have hvd : rA ks = eK b7 ([[2],be8 ks.length,dH ks] : List (List UInt8)).flatten:=rfl;have hb8:=mW ks.length;refine xA (mT (mT (Ca ?_)));refine hK _ ?_;rw [nB];generalize dH ks = d at *;obtain ⟨v2,hv2⟩ : ∃ v2,rA ks = v2:=⟨_,rfl⟩;rw [hv2] at hvl hvd;refine fO λK5 hK5=>?_;refine JI 6 [] (by kernel_rfl) (by decide) (λ_ _ _ _ h=>by cases h) ?_;refine oD aN 1 (by kernel_rfl) rfl rfl rfl rfl rfl rfl (λ_ h=>by cases h) ?_;refine oD aN 2 (by kernel_rfl) rfl rfl rfl rfl rfl rfl (λ_ h=>by cases h) ?_;refine oD aN 3 (by kernel_rfl) rfl rfl rfl rfl rfl rfl (λ_ h=>by cases h) ?_;refine zB (.s 3 0 32 32) trivial 5 (by kernel_rfl) rfl rfl rfl rfl rfl (rL rfl Tryd.underlying24 rfl rfl) ?_;refine KG 0 4 (by kernel_rfl) rfl rfl (λK6 hK6=>?_) (λK6 hK6=>?_)
  ·refine p9 aN b.B.heap.size [(2 : UInt8)] rfl rfl rfl rfl rfl (λ_=>rfl) rfl (by decide) (by decide) (wD _) (aF _) λB=>?_
   refine cN (hK6 _ (λ_ _ _ _ h=>by cases h) ?_);refine Al 4 (by kernel_rfl) rfl λK7 hK7=>?_;refine oZ 22 (ks.length : Int) rfl (Jq rfl (by omega) (by omega)) ?_;refine dO [.int .u64 (ks.length : Int)] rfl rfl rfl zR rfl rfl (λ_ _=>rfl) (JQ ks.length (by omega)) (λ_ _ _=>trivial) λgb=>?_;refine cN (hK7 _ (λ_ _ _ _ h=>by cases h) ?_);refine Ak (by kernel_rfl) ?_;refine J6 aN [.v (.slice B 1 1),.v (.slice (some ⟨gb,0,none⟩) (be8 ks.length).length (be8 ks.length).length),.s 3 0 32 32] [[2],be8 ks.length,d] v2 rfl rfl rfl rfl rfl rfl rfl rfl rfl xC (λ_=>rfl) rfl (by decide) (by decide) hvl (λA w h hF hM=>?_) (λG S w h=>?_) λB2=>?_
   ·have hr2:=Ss 3 rfl (by decide) (by simp [hd2,hb8]) h
    rw [<-hvd] at hr2;exact hr2
   ·have h1 : Rd 1 eB B 1 [2] w:=BJ 0 rfl G S w h
    exact ⟨h1.sb,h.fresh.1.sb,tT (j:=3) rfl hd2 (by decide) G S w h,trivial⟩
   refine a5 aN rfl ?_;refine cN (hK5 _ ?_);refine Ee 0 rfl ?_;exact lU (mS aN () rfl (by decide) rfl (congrArg (λz=>RV.q (eY 32 z)) hv2) rfl (λ_ _ _=>trivial) (λ_ _=>trivial))
  ·refine oZ 22 (ks.length : Int) rfl (Jq rfl (by omega) (by omega)) ?_
   refine dO [.int .u64 (ks.length : Int)] rfl rfl rfl zR rfl rfl (λ_ _=>rfl) (JQ ks.length (by omega)) (λ_ _ _=>trivial) λgb=>?_;refine cN (hK6 _ (λ_ _ _ _ h=>by cases h) ?_);refine Al 0 (by kernel_rfl) rfl λK7 hK7=>?_;refine p9 aN b.B.heap.size [(2 : UInt8)] rfl rfl rfl rfl rfl (λ_=>rfl) rfl (by decide) (by decide) (wD _) (aF _) λB=>?_;refine cN (hK7 _ (λ_ _ _ _ h=>by cases h) ?_);refine Ak (by kernel_rfl) ?_;refine J6 aN [.v (.slice B 1 1),.v (.slice (some ⟨gb,0,none⟩) (be8 ks.length).length (be8 ks.length).length),.s 3 0 32 32] [[2],be8 ks.length,d] v2 rfl rfl rfl rfl rfl rfl rfl rfl rfl xC (λ_=>rfl) rfl (by decide) (by decide) hvl (λA w h hF hM=>?_) (λG S w h=>?_) λB2=>?_
   ·have hr2:=Ss 3 rfl (by decide) (by simp [hd2,hb8]) h
    rw [<-hvd] at hr2;exact hr2
   ·have h1 : Rd 1 eB B 1 [2] w:=BJ 0 rfl G S w h
    exact ⟨h1.sb,h.fresh.1.sb,tT (j:=3) rfl hd2 (by decide) G S w h,trivial⟩
   refine a5 aN rfl ?_;refine cN (hK5 _ ?_);refine Ee 0 rfl ?_;exact lU (mS aN () rfl (by decide) rfl (congrArg (λz=>RV.q (eY 32 z)) hv2) rfl (λ_ _ _=>trivial) (λ_ _=>trivial))
section
variable {α : Type} {fe : α -> SQ} {T : List TyR} {b : iF} {ops : Array Oper} {Q : Exit -> Act -> World -> Prop} {N : Nat} {E : SE} {L : List LV} {R : List Res} {F M : World -> Prop} {o : Oper} {rest : List Oper} {k e sz bs : Nat} {t tn : TypeId} {x y : Operand} {K kn : IntKind}
theorem QJ (hT : OkT Tryd.prog T) (lo n : Nat) (fe : α -> SQ) (hg : o.guard = none) (hd : o.dst = some k) (hk : Nat.blt k N = true) (ho : o.op = .call { callee:=.builtin .append,args:=#[x,y],argTypes:=#[t,tn] }) (hs : slS T t = some (e,sz,bs)) (htn : Tryd.prog.underlying tn = some (.int kn))
  (hx : evS E x = some (.v (.slice none 0 0))) (hy : evS E y = some (.v (.int K (n : Int)))) (h0 : 0 < n) (hsz : 0 < sz) (hb : n * bs <= 281474976710656) (hm : n <= 9223372036854775807) (hlo : lo <= b.B.heap.size)
  (hc : ∀ g c,n <= c -> lS Tryd.prog b ops Q N rest ⟨(k,.v (.slice (some ⟨g,0,none⟩) n c)) :: E,L,gZ lo e sz fe (some ⟨g,0,none⟩) c [] :: R,F,M⟩) : lS Tryd.prog b ops Q N (o :: rest) ⟨E,L,R,F,M⟩:=λa w ⟨G,S,h1,h2,h3⟩=>by
 obtain ⟨ht,ie,z,hi,hz,hsz2,hbs,hzs,_⟩:=zK hT hs;have e1:=h1.eval (eF hx);have e2:=h1.eval (eF hy);have hr:=Lib.run_append_nil_zeros (P:=Tryd.prog) w t tn o.type e ie z K kn ht htn hi hz n h0 (by omega) (by omega) (by rw [hbs]; exact hb)
 refine pL (v:=.slice (some ⟨w.heap.size,0,none⟩) n (grownCap w n 0 e)) (Gl hg) (by
  unfold execOp
  simp only [ho,resolve,invoke,builtin,aJ,Sem.run_pure,Result.andThen_ok,List.map_toArray,List.map_cons,List.map_nil,e1,e2]
  show ((Builtin.append_ #[t,tn] o.type #[.slice none 0 0,.int K (n : Int)]).run Tryd.prog w).andThen _ = _
  rw [hr]
  rfl) ?_
 rw [hd];have hge:=grownCap_ge w n 0 e;have hle:=grownCap_le_maxLen w n 0 e (by unfold maxLen; omega);generalize grownCap w n 0 e = c at *
 have hcs : (oN z.cells n ++ oN z.cells (c - n)).size = c * sz:=by
  simp only [Array.size_append,size_zeroCells,hzs,<-Nat.add_mul];rw [show n + (c - n) = c by omega]
 generalize oN z.cells n ++ oN z.cells (c - n) = cs at *
 have hown : (gZ lo e sz fe (some ⟨w.heap.size,0,none⟩) c []).holds (w.drew.alloc (.cells cs e)) λj=>j = w.heap.size:=by
  have hb : Blk (w.drew.alloc (.cells cs e)) w.heap.size e cs:=Blk.new w.drew _ _;have hlo2 : lo <= w.heap.size:=jL hlo h3.chg.size
  have h5 : cs.toList.take (0 * sz) = []:=by rw [Nat.zero_mul]; rfl
  have h6 : (iH fe ([] : List α)).length = 0 * sz:=by rw [Nat.zero_mul]; rfl
  exact ⟨λ_ h=>(by cases h),⟨h6,.inr ⟨w.heap.size,c,cs,rfl,hlo2,hb,dC _,hle,hcs,h5⟩⟩,λj=>⟨λh=>(by rw [h]; rfl),λh=>(eW h).symm⟩⟩
 obtain ⟨S',h4⟩:=h3.Tu (((Below.refl w.heap.size w).drew).alloc (aF _) _) hown (λj hj=>Nat.le_of_eq hj.symm);exact hc _ _ hge _ _ ⟨G,S',h1.put hk _,h2.cons trivial,h4⟩
end
theorem JL {N : Nat} {E : SE} {o : Oper} {x : Operand} {t : TypeId} {A : Option Addr} {n c : Nat} (ho : o.op = .call { callee:=.builtin .cap,args:=#[x],argTypes:=#[t] }) (ht : ∃ e,Tryd.prog.underlying t = some (.slice e)) (hx : evS E x = some (.v (.slice A n c))) :
  ∀ (G : Nat -> Nat) (a : Act) (w : World),Fr N (fY G E) a -> (execOp a.eval o).run Tryd.prog w = .ok (.value ((SV.v (.int .i64 (c : Int))).den G)) w:=λG a w ha=>by
 have h1 : a.eval x = .slice A n c:=ha.eval (eF hx);obtain ⟨e,ht⟩:=ht
 unfold execOp
 simp only [ho];generalize a.eval = ρ at *
 show _ = Result.ok (Next.value (.int .i64 (c : Int))) w
 simp [resolve,invoke,builtin,h1,aJ,run_underlying ht,Builtin.cap_,goInt]
abbrev KX:=Option Addr × Nat
theorem It : Own 28:=λ_ _=>by go_simp
theorem Eu : Own 17:=λ_ _=>by go_simp
theorem pG : Own 7:=λ_ _=>by go_simp
theorem Ay : Own 8:=λ_ _=>by go_simp
set_option maxRecDepth 100000 in
theorem Tt (n : Nat) (h0 : 0 < n) (hn : n <= 1000000) : Spec 28 [.slice none 0 0,.int .i64 (n : Int)] [] (λ_=>True) { ret:=λx : KX=>.v (.slice x.1 0 x.2),own:=λx=>[gZ 0 24 32 (eY 32) x.1 x.2 []] }:=by
 refine mN [.c (.v (.slice none 0 0)),.c (.v (.int .i64 (n : Int)))] 27 Tryd.func28 rfl (by rw [Tryd.ntmps28]; rfl) (sM trivial trivial) λb=>?_;refine dZ aN rfl ?_;refine fO λK1 hK1=>?_;refine dZ aN rfl ?_;refine s9 ((n : Int) < 0) rfl (λh=>absurd h (by omega)) (λ_=>?_);refine iK (hK1 _ ?_);refine fO λK2 hK2=>?_;refine dV aN rfl λK3 hK3=>?_;refine tE (.v (.int .i64 ((0 : Nat) : Int))) trivial rfl rfl rfl (JL rfl ⟨_,Tryd.underlying22⟩ rfl) ?_;refine a5 aN rfl ?_;refine oZ 1 (n : Int) rfl (pK (by show (n : Int) - IntKind.i64.wrap (0 - 0) = n; rw [pK (r:=0) (by decide) (by decide) (by decide)]; omega) (by omega) (by omega)) ?_;refine cN (hK3 _ ?_);refine dZ aN rfl ?_;refine s9 ((n : Int) > 0) rfl (λ_=>?_) (λh=>absurd h (by omega));refine FI ?_;refine a5 aN rfl ?_;refine tE (.v (.int .i64 ((0 : Nat) : Int))) trivial rfl rfl rfl (JL rfl ⟨_,Tryd.underlying22⟩ rfl) ?_;refine tE (.v (.slice none 0 0)) trivial rfl rfl rfl (zM (A:=none) (n:=0) (c:=0) (j:=0) (sz:=32) rfl (aF _) (λ_=>rfl) rfl Tryd.underlying22 rfl rfl) ?_;refine a5 aN rfl ?_;refine QJ aN 0 n (eY 32) rfl rfl rfl rfl rfl Tryd.underlying3 rfl rfl h0 (by decide) (by show n * 32 <= _; omega) (by omega) (dC _) λg c hc=>?_;refine a5 aN rfl ?_;refine tE (.v (.slice (some ⟨g,0,none⟩) 0 c)) trivial rfl rfl rfl (zM (A:=some ⟨g,0,none⟩) (n:=n) (c:=c) (j:=0) (sz:=32) rfl (dC _) (λh=>by cases h) rfl Tryd.underlying22 rfl rfl) ?_;refine a5 aN rfl ?_;refine cN (hK2 _ ?_);refine dZ aN rfl ?_;exact lU (mS aN (some ⟨g,0,none⟩,c) rfl (by decide) rfl rfl rfl (λ_ _ _=>trivial) (λ_ _=>trivial))
structure CE where
  A : Option Addr
  c : Nat
  l : List (List UInt8)
def eHs (s : CE) : SQ:=.c (.v (.slice s.A s.l.length s.c))
def CE.rd (s : CE) (w : World) : Prop:=Rd 32 (eY 32) s.A s.c s.l w
instance {s : CE} : Pst s.rd:=⟨λ_ _ h hb=>h.later hb⟩
theorem TP (s : CE) : OkP (eHs s).j6 /\ (eHs s).cl.length = 1:=⟨λp hp=>by
 simp only [eHs,SQ.j6,cG] at hp;subst hp
 exact ⟨trivial,rfl,rfl⟩,rfl⟩
abbrev flH (ss : List CE) : List (List UInt8):=(ss.map CE.l).flatten
theorem GP {ss : List CE} {i : Nat} {s : CE} (h : ss[i]? = some s) : flH (ss.take (i + 1)) = flH (ss.take i) ++ s.l:=by
 unfold flH
 rw [List.take_add_one,h]
 simp
theorem Ow (ss : List CE) (i : Nat) : (flH (ss.take i)).length <= (flH ss).length:=by
 have e : flH ss = flH (ss.take i) ++ flH (ss.drop i):=by
  unfold flH
  rw [<-List.flatten_append,<-List.map_append,List.take_append_drop]
 rw [e,aO]
 omega
set_option maxRecDepth 100000 in
set_option maxHeartbeats 1000000 in
theorem O0 {A : Option Addr} {c : Nat} (ss : List CE) (h0 : 0 < (flH ss).length) (ht : (flH ss).length <= 1000000) : Spec 17 [.slice A ss.length c] [] (λw=>Rd 1 eHs A c ss w /\ ∀ s ∈ ss,s.rd w)
  { ret:=λx : KX=>.v (.slice x.1 (flH ss).length x.2),own:=λx=>[gZ 0 24 32 (eY 32) x.1 x.2 (flH ss)] }:=by
 refine mN [.c (.v (.slice A ss.length c))] 36 Tryd.func17 rfl (by rw [Tryd.ntmps17]; rfl) (BX trivial) λb=>?_;refine BC (ss.length <= 9223372036854775807) (λw h _=>jL h.1.1 h.1.2.1) λhm=>?_;refine dZ aN rfl ?_;refine dZ aN rfl ?_;refine fO λK1 hK1=>?_;refine dZ aN rfl ?_;refine jZ ?_
 let F : Nat -> Env:=λi=>⟨[(11,.v (.int .i64 (i : Int))),(10,.v (.int .i64 (ss.length : Int))),(9,.v (.slice A ss.length c)),(0,.v (.slice A ss.length c)),(3,.v (.int .i64 ((flH (ss.take i)).length : Int)))],[],[],λw=>Rd 1 eHs A c ss w /\ ∀ s ∈ ss,s.rd w,λ_=>True⟩
 refine xO (e':=F 0) ⟨⟨rfl,rfl,rfl,rfl,rfl,trivial⟩,trivial,.refl _,λ_ h _=>h,λ_ _=>trivial⟩ (wZ (λi=>ss.length - i) F (λi=>i <= ss.length) ?_ 0 (dC _))
 ·intro i hi
  refine dZ aN rfl ?_;refine fO λK3 hK3=>?_;refine s9 ((i : Int) < (ss.length : Int)) rfl (λhlt=>?_) (λhge=>?_)
  ·have hlt : i < ss.length:=by omega
   obtain ⟨s,hs⟩ : ∃ s,ss[i]? = some s:=⟨_,bC hlt⟩;have hn:=GP hs;have hle:=Ow ss (i + 1);have hnl:=congrArg AW hn;rw [aO] at hnl;refine iK (hK3 _ ?_);refine fO λK4 hK4=>?_;refine jZ ?_;refine dV aN rfl λK5 hK5=>?_;refine xJ aN rfl rfl rfl i rfl hs rfl rfl (lN λ_ h _=>h.1) ?_;refine a5 aN rfl ?_;refine cN (hK5 _ ?_);refine dV aN rfl λK6 hK6=>?_;refine oZ 3 ((flH (ss.take (i + 1))).length : Int) rfl (pK (by omega) (by omega) (by omega)) ?_;refine cN (hK6 _ ?_);refine dZ aN rfl ?_;refine s9 (((flH (ss.take (i + 1))).length : Int) < 0) rfl (λh=>absurd h (by omega)) (λ_=>?_);refine iK (hK4 _ ?_);refine qO aN rfl ?_;exact xK (i + 1) hlt (by show _ - (i + 1) < _ - i; omega) ⟨⟨congrArg some (congrArg SV.v (congrArg (fD .i64) (pK rfl (by omega) (by omega)))),rfl,rfl,rfl,rfl,trivial⟩,trivial,.refl _,λ_ h _=>h,λ_ h=>h⟩
  ·obtain rfl : ss.length = i:=by omega
   refine xA (mT (mT (Ca ?_)));refine hK1 _ ?_;rw [nB];refine dV aN rfl λK5 hK5=>?_;refine dO [.slice none 0 0,.int .i64 ((flH ss).length : Int)] rfl rfl rfl It rfl rfl (λ_ _=>rfl) (Tt (flH ss).length h0 ht) (λ_ _ _=>trivial) λ⟨B,d⟩=>?_;refine l_R [gZ 0 24 32 (eY 32) B d []] rfl ?_;refine a5 aN rfl ?_;refine cN (hK5 _ ?_);refine fO λK7 hK7=>?_;refine dZ aN rfl ?_;refine jZ ?_
   let F2 : Nat × KX -> Env:=λ⟨i,B,d⟩=>⟨[(27,.v (.int .i64 (i : Int))),(26,.v (.int .i64 (ss.length : Int))),(25,.v (.slice A ss.length c)),(6,.v (.slice B (flH (ss.take i)).length d))],[],[gZ 0 24 32 (eY 32) B d (flH (ss.take i))],λw=>Rd 1 eHs A c ss w /\ ∀ s ∈ ss,s.rd w,λ_=>True⟩
   refine xO (e':=F2 (0,B,d)) ⟨⟨rfl,rfl,rfl,rfl,trivial⟩,trivial,.refl _,λ_ h _=>h.2,λ_ _=>trivial⟩ (wZ (λx=>ss.length - x.1) F2 (λx=>x.1 <= ss.length) ?_ (0,B,d) (dC _))
   rintro ⟨i,B,d⟩ hi
   dsimp only at hi
   refine dZ aN rfl ?_;refine fO λK3 hK3=>?_;refine s9 ((i : Int) < (ss.length : Int)) rfl (λhlt=>?_) (λhge=>?_)
   ·have hlt : i < ss.length:=by omega
    obtain ⟨s,hs⟩ : ∃ s,ss[i]? = some s:=⟨_,bC hlt⟩;have hn:=GP hs;have hle:=Ow ss (i + 1);have hnl:=congrArg AW hn;rw [aO] at hnl;refine iK (hK3 _ ?_);refine fO λK4 hK4=>?_;refine jZ ?_;refine dV aN rfl λK5 hK5=>?_;refine xJ aN rfl rfl rfl i rfl hs rfl rfl (lN λ_ h _=>h.1) ?_;refine a5 aN rfl ?_;refine cN (hK5 _ ?_);refine FI ?_;refine a5 aN rfl ?_;refine EI aN 0 s.l (fe:=eY 32) rfl rfl rfl rfl rfl rfl rfl rfl rfl (lN λw h _=>h.2 s (fM hs)) (by decide) (by show (_ + _) * 32 <= _; omega) (by omega) (dC _) λB' d'=>?_;rw [<-hn];refine a5 aN rfl ?_;refine cN (hK4 _ ?_);refine qO aN rfl ?_;exact xK (i + 1,B',d') hlt (by show _ - (i + 1) < _ - i; omega) ⟨⟨congrArg some (congrArg SV.v (congrArg (fD .i64) (pK rfl (by omega) (by omega)))),rfl,rfl,rfl,trivial⟩,trivial,.refl _,λ_ h _=>h,λ_ h=>h⟩
   ·obtain rfl : ss.length = i:=by omega
    refine xA (mT (mT (Ca ?_)));refine hK7 _ ?_;rw [nB];refine dZ aN rfl ?_;exact lU (mS aN (B,d) rfl (by decide) rfl rfl rfl (λ_ _ _=>trivial) (λ_ _=>trivial))
noncomputable def nxE (ks : List (List UInt8)) (u : UV) : Nat:=if jS u = true then (if u.ver = (ks.length : Int) + 1 then 0 else 111) else 110
noncomputable def nxK (ks : List (List UInt8)) (u : UV) : List (List UInt8):=if nxE ks u = 0 then ks ++ [u.key] else []
abbrev nxQ (l : List (List UInt8)) (e : Nat) : xQ KX:={ ret:=λx=>.t [.c (.v (.slice x.1 l.length x.2)),.c (.v (.int .i64 (e : Int)))],p:=λx=>Rd 32 (eY 32) x.1 x.2 l }
noncomputable abbrev nxP (ks : List (List UInt8)) (u : UV) : xQ KX:=nxQ (nxK ks u) (nxE ks u)
set_option maxRecDepth 100000 in
set_option maxHeartbeats 1000000 in
theorem QR {A : Option Addr} {c : Nat} (ks : List (List UInt8)) {u : UV} (hu : u.Ok) (hl : ks.length <= 1000) : Spec 7 [.slice A ks.length c,(eU u).den] [] (λw=>Ta w /\ Rd 32 (eY 32) A c ks w) (nxP ks u):=by
 refine mN [.c (.v (.slice A ks.length c)),eU u] 21 Tryd.func7 rfl (by rw [Tryd.ntmps7]; rfl) (sM trivial hu.rP) λb=>?_;refine dZ aN rfl ?_;refine fO λK1 hK1=>?_;refine dV aN rfl λK2 hK2=>?_;refine dO [(eU u).den] rfl rfl rfl AA rfl rfl (λ_ _=>rfl) (DH hu) (λ_ h _=>h.1) λ_=>?_;refine a5 aN rfl ?_;refine cN (hK2 _ ?_);obtain ⟨sb,hsb⟩ : ∃ sb,jS u = sb:=⟨_,rfl⟩;rw [hsb];refine P2 (!sb) rfl (λh=>?_) (λh=>?_)
 ·have h1 : nxE ks u = 110:=by unfold nxE; rw [if_neg (by rw [hsb]; simpa using h)]
  have h2 : nxK ks u = []:=by unfold nxK; rw [h1]; rfl
  refine dZ aN rfl ?_;exact lU (mS aN (none,0) rfl (by decide) rfl (by show RV.t [.c (.v (.slice none (nxK ks u).length 0)),.c (.v (.int .i64 (nxE ks u : Int)))] = _; rw [h1,h2]; rfl) rfl (λw _ _=>by show Rd 32 (eY 32) none 0 (nxK ks u) w; rw [h2]; exact Rd.nil _ _ _) (λ_ _=>trivial))
 have hst : sb = true:=by simpa using h
 refine iK (hK1 _ ?_);refine fO λK3 hK3=>?_;refine dV aN rfl λK4 hK4=>?_;refine cN (hK4 _ ?_);have hw : IntKind.i64.wrap ((ks.length : Int) + 1) = (ks.length : Int) + 1:=pK rfl (by omega) (by omega);refine s9 (u.ver ≠ IntKind.i64.wrap ((ks.length : Int) + 1)) rfl (λh=>?_) (λh=>?_)
 ·have h1 : nxE ks u = 111:=by unfold nxE; rw [if_pos (by rw [hsb]; exact hst),if_neg (by rw [hw] at h; exact h)]
  have h2 : nxK ks u = []:=by unfold nxK; rw [h1]; rfl
  refine dZ aN rfl ?_;exact lU (mS aN (none,0) rfl (by decide) rfl (by show RV.t [.c (.v (.slice none (nxK ks u).length 0)),.c (.v (.int .i64 (nxE ks u : Int)))] = _; rw [h1,h2]; rfl) rfl (λw _ _=>by show Rd 32 (eY 32) none 0 (nxK ks u) w; rw [h2]; exact Rd.nil _ _ _) (λ_ _=>trivial))
 have h1 : nxE ks u = 0:=by unfold nxE; rw [if_pos (by rw [hsb]; exact hst),if_pos (by rw [hw] at h; exact Decidable.of_not_not h)]
 have h2 : nxK ks u = ks ++ [u.key]:=by unfold nxK; rw [h1]; rfl
 refine iK (hK3 _ ?_);refine dV aN rfl λK5 hK5=>?_;refine p9 aN 0 [u.key] (fe:=eY 32) rfl rfl rfl rfl rfl (λ_=>rfl) rfl (by decide) (by decide) (NG λl hl=>by rw [cG.1 hl]; exact hu.key) (dC _) λB=>?_;refine rC 0 rfl ?_;refine p9 aN 0 [⟨A,c,ks⟩,⟨B,1,[u.key]⟩] (fe:=eHs) rfl rfl rfl rfl rfl (λ_=>rfl) rfl (by decide) (by decide) (λs _=>TP s) (dC _) λD=>?_;refine rC 0 rfl ?_
 have e0 : flH [⟨A,c,ks⟩,⟨B,1,[u.key]⟩] = nxK ks u:=by rw [h2]; simp [flH]
 have hcc:=O0 (A:=D) (c:=2) [⟨A,c,ks⟩,⟨B,1,[u.key]⟩] (by rw [e0,h2]; simp) (by rw [e0,h2]; simp; omega);rw [e0] at hcc
 refine dO [.slice D 2 2] rfl rfl rfl Eu rfl rfl (λ_ _=>rfl) hcc (λw h _=>⟨h.1,λs hs=>by
  rcases cA.1 hs with rfl | hs
  ·exact h.2.2.2.2
  ·rw [cG.1 hs]
   exact h.2.1⟩) λ⟨X,d⟩=>?_
 refine l_R [gZ 0 24 32 (eY 32) X d (nxK ks u)] rfl ?_;refine rC 0 rfl ?_;refine a5 aN rfl ?_;refine cN (hK5 _ ?_);exact lU (mS aN (X,d) rfl (by decide) rfl (by show RV.t [.c (.v (.slice X (nxK ks u).length d)),.c (.v (.int .i64 (nxE ks u : Int)))] = _; rw [h1]; rfl) rfl (λw h _=>h.1) (λ_ _=>trivial))
theorem vN {A : Option Addr} {c : Nat} {ks l : List (List UInt8)} {u : UV} {e : Nat} (he : nxE ks u = e) (hk : nxK ks u = l) (hu : u.Ok) (hl : ks.length <= 1000) : Spec 7 [.slice A ks.length c,(eU u).den] [] (λw=>Ta w /\ Rd 32 (eY 32) A c ks w) (nxQ l e):=by
 subst he hk;exact QR ks hu hl
set_option maxRecDepth 100000 in
theorem Dd {A A2 : Option Addr} {c c2 : Nat} (ks : List (List UInt8)) : Spec 8 [.slice A ks.length c,.slice A2 ks.length c2] [] (λw=>Rd 32 (eY 32) A c ks w /\ Rd 32 (eY 32) A2 c2 ks w) (one (.v (.bool true))):=by
 refine mN [.c (.v (.slice A ks.length c)),.c (.v (.slice A2 ks.length c2))] 26 Tryd.func8 rfl (by rw [Tryd.ntmps8]; rfl) (sM trivial trivial) λb=>?_;refine BC ((∀ x ∈ ks,x.length = 32) /\ ks.length <= 9223372036854775807) (λw h _=>⟨λx hx=>I4 (h.1.2.2.2.1 x hx).1,jL h.1.1 h.1.2.1⟩) λ⟨h32,hm⟩=>?_;refine dZ aN rfl ?_;refine fO λK1 hK1=>?_;refine dV aN rfl λK2 hK2=>?_;refine qK 10 false rfl (by simp) ?_;refine cN (hK2 _ ?_);refine Eb rfl ?_;refine iK (hK1 _ ?_);refine fO λK3 hK3=>?_;refine dZ aN rfl ?_;refine jZ ?_
 let F : Nat -> Env:=λi=>⟨[(13,.v (.int .i64 (i : Int))),(12,.v (.int .i64 (ks.length : Int))),(0,.v (.slice A ks.length c)),(1,.v (.slice A2 ks.length c2))],[],[],λw=>Rd 32 (eY 32) A c ks w /\ Rd 32 (eY 32) A2 c2 ks w,λ_=>True⟩
 refine xO (e':=F 0) ⟨⟨rfl,rfl,rfl,rfl,trivial⟩,trivial,.refl _,λ_ h _=>h,λ_ _=>trivial⟩ (wZ (λi=>ks.length - i) F (λi=>i <= ks.length) ?_ 0 (dC _))
 intro i hi
 refine dZ aN rfl ?_;refine fO λK4 hK4=>?_;refine s9 ((i : Int) < (ks.length : Int)) rfl (λhlt=>?_) (λhge=>?_)
 ·have hlt : i < ks.length:=by omega
  obtain ⟨x,hx⟩ : ∃ x,ks[i]? = some x:=⟨_,bC hlt⟩;have hx2:=h32 x (fM hx);refine iK (hK4 _ ?_);refine fO λK5 hK5=>?_;refine jZ ?_;refine dZ aN rfl ?_;refine MT 9 (by decide) (by kernel_rfl) (by kernel_rfl) λK6 hK6 G S w0 hst=>?_;refine Kh aN hst rfl ?_;refine Ol aN hst rfl rfl rfl i rfl hx rfl rfl (lN λw h _=>h.1) ?_;refine Kh aN hst rfl ?_;refine Ol aN hst rfl rfl rfl i rfl hx rfl rfl (lN λw h _=>h.2) ?_;refine U1 (.b (!decide (x = x))) trivial rfl rfl rfl (yC rfl rfl rfl Tryd.underlying24 (by kernel_rfl) hx2 hx2) ?_;refine Tv hst ?_;refine qK 24 false rfl (by simp) ?_;refine cN (hK6 _ ?_);refine Eb rfl ?_;refine iK (hK5 _ ?_);refine qO aN rfl ?_;exact xK (i + 1) hlt (by show _ - (i + 1) < _ - i; omega) ⟨⟨congrArg some (congrArg SV.v (congrArg (fD .i64) (pK rfl (by omega) (by omega)))),rfl,rfl,rfl,trivial⟩,trivial,.refl _,λ_ h _=>h,λ_ h=>h⟩
 ·refine xA (mT (mT (Ca ?_)))
  refine hK3 _ ?_;refine dZ aN rfl ?_;exact lU (mS aN () rfl (by decide) rfl rfl rfl (λ_ _ _=>trivial) (λ_ _=>trivial))
def hB (x : UInt8) : List UInt8:=x :: aD 31 0
def hB2 (x y : UInt8) : List UInt8:=x :: y :: aD 30 0
theorem xX (u : UV) : (eO u.parts).toList = By u.id ++ (.int .i64 u.ver :: (By u.key ++ By u.sig)):=by
 show (eO [Pt.agg 32 (By u.id).toArray,.one (.v (.int .i64 u.ver)),.agg 32 (By u.key).toArray,.agg 64 (By u.sig).toArray]).toList = _
 rw [fW,fW,fW,fW]
 simp [Pt.cells,eO,SC.den]
theorem AD : Own 5:=λ_ _=>by go_simp
set_option maxRecDepth 100000 in
set_option maxHeartbeats 1000000 in
theorem DM : Spec 5 [] [] Ta (one (.v (.bool true))):=by
 refine mN [] 49 Tryd.func5 rfl (by rw [Tryd.ntmps5]; rfl) (λ_ h=>by cases h) λb=>?_;have hm:=yQ (seed:=hB 5) (key:=hB 6) 1 rfl rfl
 have hs : jS (mkH (hB 5) 1 (hB 6)) = true:=by rw [wY]; decide
 have hv : (mkH (hB 5) 1 (hB 6)).ver = 1:=rfl;have hk : (mkH (hB 5) 1 (hB 6)).key = hB 6:=rfl;have hok : (mkH (hB 5) 1 (hB 6)).Ok:=B6 _ _ rfl;generalize mkH (hB 5) 1 (hB 6) = u at *
 have e1 : nxE [] u = 0:=by unfold nxE; rw [if_pos hs,if_pos (by rw [hv]; rfl)]
 have k1 : nxK [] u = [hB 6]:=by unfold nxK; rw [e1,hk]; rfl
 have e2 : nxE [hB 6] u = 111:=by unfold nxE; rw [if_pos hs,if_neg (by rw [hv]; decide)]
 have k2 : nxK [hB 6] u = []:=by unfold nxK; rw [e2]; rfl
 have hsg:=DH hok;rw [hs] at hsg;have h9:=λA c=>uD (A:=A) (c:=c) [];have h10:=λA c=>uD (A:=A) (c:=c) [zH];have l9 : (rA []).length = 32:=oC _;have l10 : (rA [zH]).length = 32:=oC _;have hne:=PN;generalize rA [] = va at *;generalize rA [zH] = vb at *;refine dZ aN rfl ?_;refine dV aN rfl λK1 hK1=>?_;refine lE [(0,.v (.int .u8 5))] 32 (hB 5) rfl rfl rfl rfl rfl rfl rfl ?_;refine lE [(0,.v (.int .u8 6))] 32 (hB 6) rfl rfl rfl rfl rfl rfl rfl ?_;refine dO [.agg (By (hB 5)).toArray,.int .i64 1,.agg (By (hB 6)).toArray] rfl rfl rfl rQ rfl rfl (λ_ _=>rfl) hm (λ_ h _=>h) λ_=>?_;refine a5 aN rfl ?_;refine cN (hK1 _ ?_);refine dV aN rfl λK2 hK2=>?_;refine dO [.slice none ([] : List (List UInt8)).length 0,(eU u).den] rfl rfl rfl pG rfl rfl (λ_ _=>rfl) (vN e1 k1 hok (by decide)) (λ_ h _=>⟨h.2,Rd.nil _ _ _⟩) λ⟨X,d⟩=>?_;refine a5 aN rfl ?_;refine cN (hK2 _ ?_);refine dV aN rfl λK3 hK3=>?_;refine dO [.slice X [hB 6].length d,(eU u).den] rfl rfl rfl pG rfl rfl (λ_ _=>rfl) (vN e2 k2 hok (by decide)) (λ_ h _=>⟨h.2.2,h.1⟩) λ⟨X2,d2⟩=>?_;refine a5 aN rfl ?_;refine cN (hK3 _ ?_);refine dV aN rfl λK4 hK4=>?_;refine dO [(eU u).den] rfl rfl rfl AA rfl rfl (λ_ _=>rfl) hsg (λ_ h _=>h.2.2.2) λ_=>?_;refine qK 21 true rfl rfl ?_;refine a5 aN rfl ?_;refine qK 26 true rfl rfl ?_;refine a5 aN rfl ?_;refine qK 31 true rfl rfl ?_;refine a5 aN rfl ?_;refine xJ aN rfl rfl rfl 0 rfl rfl rfl rfl (lN λ_ h _=>h.2.2.1) ?_;refine a5 aN rfl ?_;refine lE [(0,.v (.int .u8 6))] 32 (hB 6) rfl rfl rfl rfl rfl rfl rfl ?_;refine a5 aN rfl ?_;refine tE (.b (decide (hB 6 = hB 6))) trivial rfl rfl rfl (Ei rfl rfl rfl Tryd.underlying24 (by kernel_rfl) rfl rfl) ?_;refine a5 aN rfl ?_;refine qK 38 true rfl (decide_eq_true rfl) ?_;refine a5 aN rfl ?_;refine qK 42 true rfl rfl ?_;refine a5 aN rfl ?_;refine dO [.slice none ([] : List (List UInt8)).length 0] rfl rfl rfl pV rfl rfl (λ_ _=>rfl) (h9 none 0) (λ_ h _=>⟨h.2.2.2.2,Rd.nil _ _ _⟩) λ_=>?_;refine a5 aN rfl ?_;refine p9 aN 0 [zH] (fe:=eY 32) rfl rfl rfl rfl rfl (λ_=>rfl) rfl (by decide) (by decide) (NG λl hl=>by rw [cG.1 hl]; rfl) (dC _) λB=>?_;refine rC 0 rfl ?_;refine a5 aN rfl ?_;refine dO [.slice B [zH].length 1] rfl rfl rfl pV rfl rfl (λ_ _=>rfl) (h10 B 1) (λ_ h _=>⟨h.2.2.2.2.2.2,h.1⟩) λ_=>?_;refine a5 aN rfl ?_;refine tE (.b (!decide (va = vb))) trivial rfl rfl rfl (yC rfl rfl rfl Tryd.underlying24 (by kernel_rfl) l9 l10) ?_;refine a5 aN rfl ?_;refine qK 0 true rfl (by simp [hne]) ?_
 refine cN (hK4 _ ?_);exact lU (mS aN () rfl (by decide) rfl rfl rfl (λ_ _ _=>trivial) (λ_ _=>trivial))
end Go.Proofs.YtfkchihlchlfdaaDoor
namespace Go.Proofs.YtfkchihlchlfdaaDoor
open Go.ChangeShapes Go.WideShapes Go.ChangeAt Go.RowKit
theorem own : ownKnob Tryd.prog.godebug = none:=by kernel_rfl
theorem laidOut : laidOutB Tryd.prog = true:=by kernel_rfl
section
variable {H : Type} {enc : TypeId × Value -> H} {W W' : World}
theorem vZ : ∀ {ts : List TypeId} {vs : List Value} {ds : List (DataW H)} {p : List MemPlace},(∀ t ∈ ts,Tryd.prog.readableRec t = true /\ t < Tryd.prog.types.size) ->
  DataW.TrodAll enc Tryd.prog W 0 (λ_=>true) true ts vs ds p -> Below W.heap.size W W' -> (∀ x ∈ p,x.block < W.heap.size) -> DataW.TrodAll enc Tryd.prog W' 0 (λb=>decide (b < W.heap.size)) true ts vs ds p
 | [],_,_,_,_,h,_,_=>by
  obtain ⟨rfl,rfl,rfl⟩:=trodAll_nil h;exact trodAll_mk0
 | t :: ts,_,_,_,hts,h,hb,hlt=>by
  obtain ⟨v,vs',d,ds',p,q,rfl,rfl,rfl,h0,h1⟩:=trodAll_cons h;obtain ⟨hr,hz⟩:=hts t (by simp);exact trodAll_cons_mk (Below.trod laidOut hr hz h0 hb (λx hx=>hlt x (by simp [hx]))) (vZ (λu hu=>hts u (by simp [hu])) h1 hb (λx hx=>hlt x (by simp [hx])))
theorem GD {f : Func} {s : ChangeSpec} {args : Array Value} {ds gs : List (DataW H)} {before : List MemPlace} (hf : f.resultTypes = #[4]) (hvars : s.vars = [])
  (hts : ∀ t ∈ f.params.toList,Tryd.prog.readableRec t = true /\ t < Tryd.prog.types.size)
  (hW : DataW.Whole enc Tryd.prog f.params.toList s.vars false W args.toList ds gs before) (hs : s.fn H (ds ++ gs) = { results:=[.lit (.bool true)],args:=ds }) (hb : Below W.heap.size W W') :
  s.post enc Tryd.prog f false true false false W args (.bool true) W':=by
 have hW':=hW;obtain ⟨p,q,hA,hV,rfl,_,_⟩:=hW;rw [hvars] at hV;obtain ⟨rfl,rfl⟩:=trodVars_none hV;have hlt : ∀ x ∈ p,x.block < W.heap.size:=λx hx=>hW'.lt x (by simp [hx]);refine ⟨ds,[],p ++ [],[],p,[],hW',?_,?_,?_,hb.frame _,λh=>by cases h⟩
 ·rw [hs,hf]
  exact trodAll_mk1 (shut_bool Tryd.underlying4 true)
 ·rw [hs]
  exact vZ hts hA hb hlt
 ·rw [hs,hvars]
  rfl
end
theorem TZ : Tryd.prog.cellsOf 5 = 1:=by kernel_rfl
theorem Rh : Tryd.prog.cellsOf 24 = 32:=by kernel_rfl
theorem NF {l : List Value} {i : Nat} {v : Value} (h : (l.drop (i * 1)).take 1 = [v]) : l[i]? = some v:=by
 rw [Nat.mul_one] at h
 have h1 : ((l.drop i).take 1)[0]? = some v:=by rw [h]; rfl
 rw [List.getElem?_take,if_pos (by omega),List.getElem?_drop] at h1
 simpa using h1
theorem Vu {cs : List Value} (hl : cs.length = 32) (h : ∀ i,i < 32 -> ∃ n : Int,cs[i]? = some (.int .u8 n) /\ 0 <= n /\ n < 256) : ∃ l : List UInt8,l.length = 32 /\ cs = By l:=by
 refine ⟨cs.map λv=>match v with | .int _ n=>UInt8.ofNat n.toNat | _=>0,by simp [hl],?_⟩
 apply List.ext_getElem (by simp [By])
 intro i h1 h2
 obtain ⟨n,hn,h0,h3⟩:=h i (by omega)
 have e : cs[i] = .int .u8 n:=by
  have:=bC h1;rw [hn] at this;exact (eW this).symm
 simp only [By,List.getElem_map,e]
 congr 1
 rw [UInt8.toNat_ofNat']
 omega
end Go.Proofs.YtfkchihlchlfdaaDoor
namespace Go.Proofs.YtfkchihlchlfdaaDoor
open Go.RowKit Go.IntWalk
open Go.ChangeShapes Go.WideShapes Go.ChangeAt
end Go.Proofs.YtfkchihlchlfdaaDoor
namespace Go.Proofs.YtfkchihlchlfdaaDoor
open Go.ChangeShapes Go.WideShapes Go.ChangeAt Go.RowKit
theorem Ri : Tryd.prog.cellsOf 49 = 1:=by kernel_rfl
set_option maxRecDepth 20000 in
theorem tO {W : World} {nm : String} {g g0 t0 tid n fuel : Nat} {l : List Nat} {datum : DataW Unit} {cs : List Value} {p : List MemPlace} (hg : Tryd.prog.globalNamed nm = some g) (ht : (Tryd.prog.globals[g]?).map (·.type) = some tid) (hu : Tryd.prog.underlying tid = some (.array n 49))
  (hd : datum = .agg (l.map λ(x : Nat)=>.lit (.int .u64 (x : Int)))) (hg0 : Tryd.prog.globalNamed nm = some g0) (ht0 : (Tryd.prog.globals[g0]?).map (·.type) = some t0) (hv0 : W.var? Tryd.prog nm = some cs.toArray) (hd0 : DataW.trod (λ_=>()) Tryd.prog W 0 (λ_=>true) false fuel t0 cs = some (datum,p)) :
  ∀ i,i < n -> W.cell? ⟨g,i,none⟩ = some (.int .u64 (l[i]! : Nat)):=by
 obtain rfl:=eW (hg.symm.trans hg0);obtain rfl:=eW (ht.symm.trans ht0);obtain ⟨xs,m1,rfl,hx1,hlen,hn5,hel⟩:=DataW.trod_array hu hd0;have hx2:=congrArg Prod.fst hx1;rw [hd] at hx2
 injection hx2 with hx2
 intro i hi
 have h0:=hel i hi;rw [Ri] at h0;obtain ⟨x,hxi⟩ : ∃ x,xs[i]? = some x:=⟨xs[i]'(by omega),bC (by omega)⟩;rw [hxi] at h0;obtain ⟨n',e1,e2,_⟩:=DataW.trod_int Tryd.underlying49 h0
 have hll : l.length = n:=by
  have:=congrArg AW hx2;simp only [List.length_map] at this
  omega
 have h3 : (l.map λ(x : Nat)=>(DataW.lit (.int .u64 (x : Int)) : DataW Unit))[i]? = (xs.map (·.1))[i]?:=by rw [hx2]
 rw [List.getElem?_map,List.getElem?_map,hxi,bC (by omega)] at h3;simp only [Option.map_some,bH] at h3;rw [e2] at h3
 have hn : n' = ((l[i]! : Nat) : Int):=by
  rw [getElem!_pos l i (by omega)]
  injection h3 with h3
  injection h3 with _ h3
  exact h3.symm
 subst hn;have hcell:=World.var?_cell hg hv0 i;rw [hcell];have:=NF e1
 simpa using this
end Go.Proofs.YtfkchihlchlfdaaDoor
namespace Go.Proofs.YtfkchihlchlfdaaDoor
open Go.ChangeShapes Go.WideShapes Go.ChangeAt Go.RowKit Nums
def AK : List (String × DataW Unit):=[("witan/field.twice",Rows.laid_witan_field_twice),("witan/sha.starts",Rows.laid_witan_sha_starts),("witan/sha.steps",Rows.laid_witan_sha_steps)]
theorem G7 (os : Os) (args : Array Value) : laidMetH Tryd.prog AK ((World.doorLaid Tryd.prog 400 os).forCall (λ_ _=>0) ⟨#[],args,[]⟩).memory :=
 laidMetH_of_parts3 (fuel:=8) (laidMet_of_run' 8 (by kernel_rfl) (by kernel_rfl)) (by kernel_rfl) (by kernel_rfl)
set_option maxRecDepth 20000 in
theorem JY {W : World} (h : laidMetH Tryd.prog AK W) : Ta W:=by
 rw [MakeChecks.laidMetH_plain _ _ _ (by kernel_rfl)] at h;obtain ⟨ps,⟨g0,t0,cs0,f0,p0,q0,hg0,ht0,hv0,hd0,⟨g1,t1,cs1,f1,p1,q1,hg1,ht1,hv1,hd1,⟨g2,t2,cs2,f2,p2,q2,hg2,ht2,hv2,hd2,_,_⟩,_⟩,_⟩,_,_⟩:=h;have c0:=tO (l:=twl) (n:=5) (g:=2) (tid:=73) (by kernel_rfl) (by kernel_rfl) Tryd.underlying73 (by kernel_rfl) hg0 ht0 hv0 hd0;have c1:=tO (l:=sqs) (n:=8) (g:=0) (tid:=91) (by kernel_rfl) (by kernel_rfl) Tryd.underlying91 (by kernel_rfl) hg1 ht1 hv1 hd1;have c2:=tO (l:=cbs) (n:=80) (g:=1) (tid:=96) (by kernel_rfl) (by kernel_rfl) Tryd.underlying96 (by kernel_rfl) hg2 ht2 hv2 hd2;exact ⟨⟨c0,tH W ⟨2,0,none⟩ (c0 0 (by omega))⟩,⟨⟨c2,tH W ⟨1,0,none⟩ (c2 0 (by omega))⟩,c1,tH W ⟨0,0,none⟩ (c1 0 (by omega))⟩⟩
end Go.Proofs.YtfkchihlchlfdaaDoor
