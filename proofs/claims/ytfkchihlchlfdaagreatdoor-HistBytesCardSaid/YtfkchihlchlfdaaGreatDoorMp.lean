import Derived.Test.YtfkchihlchlfdaaGreatDoorMo
import Derived.Laws.StructEq
import Derived.Test.YtfkchihlchlfdaaGreatDoorMn
import Derived.Test.YtfkchihlchlfdaaGreatDoorMm
import Derived.Test.YtfkchihlchlfdaaGreatDoorRows
import Derived.Test.YtfkchihlchlfdaaGreatDoorMa
import Derived.ProofKit
import Derived.OpenShut
import Derived.SizedLaws
import Derived.Test.YtfkchihlchlfdaaGreatDoorMe
set_option maxRecDepth 100000
set_option maxHeartbeats 4000000
open Bool renaming and_eq_true->aW
open Go.DataW renaming trod->nB
open Go.Op renaming equalIn->fH,eqFields->AP
open Go.Region renaming wanted->aN,ready->bC,binds->eN,noSelect_spec->nM,free_spec->wY
open Go.Result renaming andThen_ok->aF
open Go.Sem renaming run_bind->aJ,run_pure->aK
open Go.Value renaming int->eG
open List renaming replicate->aE,length_append->aI,getElem?_eq_getElem->aX,length_take->aY,size_toArray->a9,length_replicate->bH,mem_singleton->bK,mem_cons->b7,getElem?_eq_some_iff->dI,length_drop->fW,mem_of_getElem?->gK,take_length->iD,getElem?_append_right->iL,drop_replicate->iZ,getElem?_append_left->lM,getElem?_cons_succ->Aa,set_append_right->Bz,take_add_one->IX,perm_append_comm->NM
open Nat renaming le_refl->aH,blt->aQ,zero_le->bZ,zero_add->cK,one_mul->rZ,sub_self->sT
open Option.some renaming inj->fV
namespace Go.Proofs.YtfkchihlchlfdaaGreatDoor
open Go.RowKit Go.IntWalk Nums
theorem J8 {A B Z : List Value} {off n : Nat} (hA : A.length = off) (hB : B.length = n) : (A ++ (B ++ Z)).toArray.extract off (off + n) = B.toArray:=by
 subst hA hB
 apply Array.ext'
 simp
theorem Cq {t n off : Nat} {cs : Array Value} {l : List UInt8} (ht : Tryz.prog.underlying t = some (.array n 5)) (hs : (Tryz.prog.info? t).map (·.size) = some n) (h : cs.extract off (off + n) = (By l).toArray) (w : World) : (Go.part t cs off).run Tryz.prog w = .ok (.agg (By l).toArray) w:=by
 have hagg : (isAgg t).run Tryz.prog w = .ok true w:=by
  unfold isAgg
  rw [aJ,run_underlying ht w]
  rfl
 unfold Go.part
 simp only [aJ,hagg,aF,if_true,run_sizeOf hs w,aK,h]
theorem Po {off : Nat} {cs : Array Value} {z : Int} (h : cs[off]? = some (.int .i64 z)) (w : World) : (Go.part 3 cs off).run Tryz.prog w = .ok (.int .i64 z) w:=by
 have hagg : (isAgg 3).run Tryz.prog w = .ok false w:=by
  unfold isAgg
  rw [aJ,run_underlying Tryz.underlying3 w]
  rfl
 unfold Go.part
 simp only [aJ,hagg,aF,h]
 rfl
theorem C2 : Tryz.prog.underlying 40 = some (.struct (Tryz.prog.fieldsOf 40)) /\ (Tryz.prog.fieldsOf 40).toList = [{ name := "Id",type:=27,offset:=0,embedded:=false,tag := "",pkgPath := "",byteOffset:=0 },{ name := "Version",type:=3,offset:=32,embedded:=false,tag := "",pkgPath := "",byteOffset:=32 },{ name := "Key",type:=27,offset:=33,embedded:=false,tag := "",pkgPath := "",byteOffset:=40 },{ name := "Sig",type:=38,offset:=65,embedded:=false,tag := "",pkgPath := "",byteOffset:=72 }]:=by
 unfold Program.fieldsOf
 rw [Tryz.underlying40];exact ⟨rfl,rfl⟩
theorem Mq : Tryz.prog.stoodInHeld 40 = false:=by kernel_rfl
theorem Nr (d : Nat) (w : World) {u : UV} (hu : u.Ok) : (fH (d + 3) 40 (.agg (eI u.parts)) (.agg (eI u.parts))).run Tryz.prog w = .ok true w:=by
 have e : eI u.parts = (By u.id ++ (.int .i64 u.ver :: (By u.key ++ By u.sig))).toArray:=by
  apply Array.ext'
  rw [B8]
 have l1 : (By u.id).length = 32:=by rw [cD,hu.id]
 have l3 : (By u.key).length = 32:=by rw [cD,hu.key]
 have l4 : (By u.sig).length = 64:=by rw [cD,hu.sig]
 have x1 : (eI u.parts).extract 0 (0 + 32) = (By u.id).toArray:=by rw [e]; exact J8 (A:=[]) rfl l1
 have x2 : (eI u.parts)[32]? = some (.int .i64 u.ver):=by rw [e]; simp [l1]
 have x3 : (eI u.parts).extract 33 (33 + 32) = (By u.key).toArray:=by
  rw [e,show By u.id ++ (.int .i64 u.ver :: (By u.key ++ By u.sig)) = (By u.id ++ [.int .i64 u.ver]) ++ (By u.key ++ By u.sig) by simp];exact J8 (by rw [aI,l1]; rfl) l3
 have x4 : (eI u.parts).extract 65 (65 + 64) = (By u.sig).toArray:=by
  rw [e,show By u.id ++ (.int .i64 u.ver :: (By u.key ++ By u.sig)) = (By u.id ++ (.int .i64 u.ver :: By u.key)) ++ (By u.sig ++ []) by simp];exact J8 (by rw [aI,l1,List.length_cons,l3]) l4
 generalize eI u.parts = cs at *;have p1:=Cq (t:=27) Tryz.underlying27 (by kernel_rfl) x1 w;have p2:=Po x2 w;have p3:=Cq (t:=27) Tryz.underlying27 (by kernel_rfl) x3 w;have p4:=Cq (t:=38) Tryz.underlying38 (by kernel_rfl) x4 w;have e1:=lB d 32 27 u.id u.id Tryz.underlying27 hu.id hu.id w
 have e2 : (fH (d + 2) 3 (.int .i64 u.ver) (.int .i64 u.ver)).run Tryz.prog w = .ok true w:=by
  rw [fH]
  simp [aJ,run_underlying Tryz.underlying3]
 have e3:=lB d 32 27 u.key u.key Tryz.underlying27 hu.key hu.key w;have e4:=lB d 64 38 u.sig u.sig Tryz.underlying38 hu.sig hu.sig w;rw [decide_eq_true rfl] at e1 e3 e4;generalize (By u.id).toArray = c1 at *;generalize (By u.key).toArray = c3 at *;generalize (By u.sig).toArray = c4 at *;rw [run_equalIn_struct w (d + 2) _ _ _ C2.1 Mq,C2.2]
 have n1 : ("Id" : String) ≠ "_" := by decide
 have n2 : ("Version" : String) ≠ "_" := by decide
 have n3 : ("Key" : String) ≠ "_" := by decide
 have n4 : ("Sig" : String) ≠ "_" := by decide
 rw [AP,if_pos n1,aJ]
 dsimp only
 rw [p1,aF,aJ,p1,aF,aJ,e1,aF,if_neg (by decide)];rw [AP,if_pos n2,aJ]
 dsimp only
 rw [p2,aF,aJ,p2,aF,aJ,e2,aF,if_neg (by decide)];rw [AP,if_pos n3,aJ]
 dsimp only
 rw [p3,aF,aJ,p3,aF,aJ,e3,aF,if_neg (by decide)];rw [AP,if_pos n4,aJ]
 dsimp only
 rw [p4,aF,aJ,p4,aF,aJ,e4,aF,if_neg (by decide),AP,aK]
theorem OI {N : Nat} {E : SE} {o : Oper} {x y : Operand} {t' : TypeId} {u : UV} (ho : o.op = .binOp .neq 40 x y t') (hx : evS E x = some (.q (eU u))) (hy : evS E y = some (.q (eU u))) (hu : u.Ok) :
  ∀ (G : Nat -> Nat) (a : Act) (w : World),Fr N (fS G E) a -> (execOp a.eval o).run Tryz.prog w = .ok (.value ((SV.v (.bool false)).den G)) w:=λG a w ha=>by
 have h1 : a.eval x = .agg (eI u.parts):=ha.eval (cU hx);have h2 : a.eval y = .agg (eI u.parts):=ha.eval (cU hy)
 unfold execOp
 simp only [ho,h1,h2,aJ,run_eqGuard_agg (hm:=(by kernel_rfl : Tryz.prog.eqGuardType Tryz.prog.depth 40 = false)),aF,run_neq_struct,Nr 9997 w hu,aK]
 rfl
theorem OY {g t off n : Nat} {cs : Array Value} {l : List UInt8} {w : World} (hb : Blk w g t cs) (hl : l.length = n) (hm : n <= 9223372036854775807) (hc : ∀ (j : Nat) v,(By l)[j]? = some v -> cs[off + j]? = some v) : Rd 1 eB (some ⟨g,off,none⟩) n l w:=by
 refine ⟨Nat.le_of_eq hl,hm,λh=>(by cases h),uY l,λ_=>⟨g,off,rfl,hb.lt,λi x hi j v hj=>?_⟩⟩
 cases j with
 | zero =>
  have e : v = .int .u8 (x.toNat : Int):=(fV ((show (eB x).cl[0]? = some (.int .u8 (x.toNat : Int)) from rfl).symm.trans hj)).symm;rw [hb.cell,e,rZ,Nat.add_zero];exact hc i _ (by simp [By,hi])
 | succ j =>
  have : (eB x).cl[j + 1]? = none:=rfl;rw [this] at hj
  cases hj
theorem KD {g t : Nat} {u : UV} {w : World} (hu : u.Ok) (h : yH g t u.parts w) : Rd 1 eB (some ⟨g,0,none⟩) 32 u.id w /\ Rd 1 eB (some ⟨g,33,none⟩) 32 u.key w /\ Rd 1 eB (some ⟨g,65,none⟩) 64 u.sig w:=by
 have l1 : (By u.id).length = 32:=by rw [cD,hu.id]
 have l3 : (By u.key).length = 32:=by rw [cD,hu.key]
 have at_ : ∀ j,(eI u.parts)[j]? = (By u.id ++ (.int .i64 u.ver :: (By u.key ++ By u.sig)))[j]?:=λj=>by rw [<-Array.getElem?_toList,B8]
 refine ⟨OY h.1 hu.id (by decide) λj v hj=>?_,OY h.1 hu.key (by decide) λj v hj=>?_,OY h.1 hu.sig (by decide) λj v hj=>?_⟩
 ·have hlt:=(dI.1 hj).1
  rw [at_,cK,lM hlt];exact hj
 ·have hlt:=(dI.1 hj).1
  rw [at_,iL (by omega),l1,show 33 + j - 32 = j + 1 by omega,Aa,lM hlt];exact hj
 ·rw [at_,iL (by omega),l1,show 65 + j - 32 = (32 + j) + 1 by omega,Aa,iL (by omega),l3,Nat.add_sub_cancel_left]
  exact hj
end Go.Proofs.YtfkchihlchlfdaaGreatDoor
namespace Go.Proofs.YtfkchihlchlfdaaGreatDoor
open Go.RowKit Go.IntWalk
def tpW (A : Option Addr) (c : Nat) (B : List UInt8) (p e : Nat) : List Pt:=[.one (.v (.slice A B.length c)),.one (.v (.int .i64 (p : Int))),.one (.v (.int .i64 (e : Int)))]
abbrev mH (g : Nat) (A : Option Addr) (c : Nat) (B : List UInt8) (p e : Nat) : Res:=DJ g 62 (tpW A c B p e)
theorem An : Own 62:=λ_ _=>by go_simp
theorem G9 : Own 48:=λ_ _=>by go_simp
theorem MO : Own 46:=λ_ _=>by go_simp
theorem Pw : Own 49:=λ_ _=>by go_simp
theorem Px : Own 27:=λ_ _=>by go_simp
section
variable {N : Nat} {E : SE} {o : Oper} {x y z : Operand}
theorem OK {A : Option Addr} {n c i j : Nat} (hi : i <= j) (hj : j <= c) (hA : A = none -> c = 0) (ho : o.op = .slice 23 x (some y) (some z) none) (hx : evS E x = some (.v (.slice A n c))) (hy : evS E y = some (.v (.int .i64 (i : Int)))) (hz : evS E z = some (.v (.int .i64 (j : Int)))) :
  ∀ (G : Nat -> Nat) (a : Act) (w : World),Fr N (fS G E) a -> (execOp a.eval o).run Tryz.prog w = .ok (.value ((SV.v (.slice (C9 A c i) (j - i) (c - i))).den G)) w:=λG a w ha=>by
 have h1 : a.eval x = .slice A n c:=ha.eval (cU hx);have h2 : a.eval y = .int .i64 (i : Int):=ha.eval (cU hy);have h6 : a.eval z = .int .i64 (j : Int):=ha.eval (cU hz)
 have h3 : (i : Int) <= (j : Int):=by omega
 have h4 : (0 : Int) <= (i : Int):=by omega
 have h5 : (j : Int) <= (c : Int):=by omega
 have h7 : (0 : Int) <= (j : Int):=by omega
 unfold execOp
 simp only [ho];generalize a.eval = ρ at *;simp only [Option.map,h1,h2,h6]
 show _ = Result.ok (Next.value (.slice (C9 A c i) (j - i) (c - i))) w
 cases A with
 | none =>
  obtain rfl : c = 0:=hA rfl
  obtain rfl : j = 0:=by omega
  obtain rfl : i = 0:=by omega
  go_simp
  rfl
 | some ad =>
  unfold C9
  by_cases e : c = i
  ·rw [if_pos e]
   obtain rfl : j = i:=by omega
   subst e
   go_simp
  ·rw [if_neg e]
   go_simp
end
theorem ES (g : Nat) {A : Option Addr} {c p : Nat} {B : List UInt8} (s : Rds) (k : Nat) (hp : p <= B.length) (hs : B.drop p = s.1) : Spec 62 [ptr g,.int .i64 (k : Int)] [mH g A c B p s.2] (Rd 1 eB A c B)
  { ret:=λx : Option Addr × Nat × Nat=>.v (.slice x.1 (tkO k s).length x.2.1),own:=λx=>[mH g A c B x.2.2 (tkS k s).2],p:=λx w=>(x.2.2 <= B.length /\ B.drop x.2.2 = (tkS k s).1) /\ Rd 1 eB x.1 x.2.1 (tkO k s) w }:=by
 refine fD [.c (.v (ptr g)),.c (.v (.int .i64 (k : Int)))] 48 Tryz.func62 rfl (by rw [Tryz.ntmps62]; rfl) (qE trivial trivial) λb=>?_;refine rP (B.length <= c /\ (A = none -> c = 0) /\ c <= 9223372036854775807) (λw h _=>⟨h.1,h.2.2.1,h.2.1⟩) λ⟨hlc,hA,hcm⟩=>?_
 have hsl : s.1.length = B.length - p:=by rw [<-hs,fW]
 refine bB aD rfl ?_;refine dJ λK hK=>?_;refine bS aD rfl λK1 hK1=>?_;refine tZ aD rfl rfl rfl rfl rfl rfl (iO 0 rfl) ?_;refine aR aD rfl ?_;refine bJ (hK1 _ ?_);refine jK ((s.2 : Int) ≠ 0) rfl (λh0=>?_) (λh0=>?_)
 ·have h0 : s.2 ≠ 0:=by omega
  obtain ⟨e1,e2⟩:=qF (k:=k) h0;refine bB aD rfl ?_;exact eK (eR aD (none,0,p) rfl (by decide) rfl (by rw [e1]; rfl) (by rw [e2]) (λw hF _=>by rw [e1,e2]; exact ⟨⟨hp,hs⟩,Rd.nil _ _ _⟩) (λ_ _=>trivial))
 have h0 : s.2 = 0:=by omega
 refine eW (hK _ ?_);refine dJ λK2 hK2=>?_;refine Ch 12 (by decide) (by kernel_rfl) (by kernel_rfl) λK3 hK3 G S w0 hst=>?_;refine kO aD hst rfl ?_;refine Bg aD hst rfl rfl rfl rfl rfl rfl (iO 0 rfl) ?_;refine kO aD hst rfl ?_;refine Bg aD hst rfl rfl rfl rfl rfl rfl (iO 0 rfl) ?_;refine kO aD hst rfl ?_;refine CT hst ?_;refine Bs 21 (.b (decide (B.length - p < k))) rfl (congrArg SV.b (decide_eq_decide.2 (by rw [mD (r:=((B.length - p : Nat) : Int)) (by omega) (by omega) (by omega)]; omega))) ?_;refine bJ (hK3 _ ?_);refine jK (B.length - p < k) rfl (λh1=>?_) (λh1=>?_)
 ·obtain ⟨e1,e2⟩:=BI (k:=k) h0 (by omega)
  refine bS aD rfl λK4 hK4=>?_;refine Et aD 0 rfl rfl rfl rfl rfl rfl rfl ?_;refine bJ (hK4 _ ?_);refine bB aD rfl ?_;exact eK (eR aD (none,0,p) rfl (by decide) rfl (by rw [e1]; rfl) (by rw [e2]; rfl) (λw hF _=>by rw [e1,e2]; exact ⟨⟨hp,hs⟩,Rd.nil _ _ _⟩) (λ_ _=>trivial))
 have hkl : k <= s.1.length:=by omega
 obtain ⟨e1,e2⟩:=BH (k:=k) h0 hkl;refine eW (hK2 _ ?_);refine bS aD rfl λK5 hK5=>?_;refine tZ aD rfl rfl rfl rfl rfl rfl (iO 0 rfl) ?_;refine aR aD rfl ?_;refine tY 30 ((p + k : Nat) : Int) rfl (mD (by omega) (by omega) (by omega)) ?_;refine Et aD 0 rfl rfl rfl rfl rfl rfl rfl ?_;refine bJ (hK5 _ ?_);refine Ch 16 (by decide) (by kernel_rfl) (by kernel_rfl) λK6 hK6 G S w0 hst=>?_;refine kO aD hst rfl ?_;refine Bg aD hst rfl rfl rfl rfl rfl rfl (iO 0 rfl) ?_;refine kO aD hst rfl ?_;refine Bg aD hst rfl rfl rfl rfl rfl rfl (iO 0 rfl) ?_;refine kO aD hst rfl ?_;refine XN 42 (p : Int) rfl (mD (by omega) (by omega) (by omega)) ?_;refine Bg aD hst rfl rfl rfl rfl rfl rfl (iO 0 rfl) ?_;refine UR (.v (.slice (C9 A c p) (p + k - p) (c - p))) trivial rfl rfl rfl (OK (by omega) (by omega) hA rfl rfl rfl rfl) ?_;refine kO aD hst rfl ?_;refine CT hst ?_;refine bJ (hK6 _ ?_)
 have e4 : (tkO k s).length = p + k - p:=by rw [e1,aY]; omega
 refine eK (eR aD (C9 A c p,c - p,p + k) rfl (by decide) rfl (by rw [e4]; rfl) (by rw [e2]; dsimp only [mH,tpW]; rw [h0]; rfl) (λw hF _=>?_) (λ_ _=>trivial));rw [e1,e2];refine ⟨⟨by show p + k <= _; omega,by show B.drop (p + k) = s.1.drop k; rw [<-hs,List.drop_drop]⟩,?_⟩;rw [<-hs];exact (hF.part hp).take k
theorem Vg (a : Nat) (x : UInt8) : IntKind.u64.wrap (IntKind.u64.wrap (256 * (a : Int)) + IntKind.u64.wrap (x.toNat : Int)) = (step a x : Int):=by
 rw [Ag,Ag,Ag]
 unfold step
 have:=x.toNat_lt
 omega
theorem Oc (g : Nat) {A : Option Addr} {c p : Nat} {B : List UInt8} (s : Rds) (hp : p <= B.length) (hs : B.drop p = s.1) : Spec 48 [ptr g] [mH g A c B p s.2] (Rd 1 eB A c B)
  { ret:=λ_ : Nat=>.v (.int .u64 (nuO s : Int)),own:=λx=>[mH g A c B x (nuS s).2],p:=λx _=>x <= B.length /\ B.drop x = (nuS s).1 }:=by
 refine fD [.c (.v (ptr g))] 20 Tryz.func48 rfl (by rw [Tryz.ntmps48]; rfl) (jB trivial) λb=>?_;refine bB aD rfl ?_;refine bB aD rfl ?_;refine dJ λK hK=>?_;refine bS aD rfl λK1 hK1=>?_;refine fQ [ptr g,.int .i64 ((8 : Nat) : Int)] rfl rfl rfl An rfl rfl (λ_ _=>rfl) (ES g s 8 hp hs) (λw h _=>h) λ⟨A1,c1,p'⟩=>?_;refine l_R [mH g A c B p' (nuS s).2] rfl ?_;refine aR aD rfl ?_;refine bJ (hK1 _ ?_);have hl : (tkO 8 s).length <= 8:=(xR 8 s).1;have hv0 : nuO s = val (tkO 8 s):=rfl;generalize tkO 8 s = l at *;refine fB ?_
 let F : Nat -> Env:=λi=>⟨[(9,.v (.int .i64 (i : Int))),(8,.v (.int .i64 (l.length : Int))),(7,.v (.slice A1 l.length c1)),(3,.v (.int .u64 (val (l.take i) : Int)))],[],[mH g A c B p' (nuS s).2],λw=>(p' <= B.length /\ B.drop p' = (nuS s).1) /\ Rd 1 eB A1 c1 l w,λ_=>True⟩
 refine oM (e':=F 0) ⟨⟨rfl,rfl,rfl,rfl,trivial⟩,trivial,.refl _,λ_ h _=>h.1,λ_ _=>trivial⟩ (oG (λi=>l.length - i) F (λi=>i <= l.length) ?_ 0 (bZ _))
 intro i hi
 refine bB aD rfl ?_;refine dJ λK1 hK1=>?_;refine jK ((i : Int) < (l.length : Int)) rfl (λhlt=>?_) (λhge=>?_)
 ·have hlt : i < l.length:=by omega
  obtain ⟨x,hx⟩ : ∃ x,l[i]? = some x:=⟨_,aX hlt⟩;have hv:=Gk hx;refine eW (hK1 _ ?_);refine dJ λK2 hK2=>?_;refine fB ?_;refine bS aD rfl λK3 hK3=>?_;refine qQ aD rfl rfl rfl i rfl hx rfl rfl (fX λw h _=>h.2) ?_;refine aR aD rfl ?_;refine bJ (hK3 _ ?_);refine tU ?_;refine aR aD rfl ?_;refine tY 3 (val (l.take (i + 1)) : Int) rfl (by rw [hv]; exact Vg _ _) ?_;refine bJ (hK2 _ ?_);refine l7 aD rfl ?_;exact oK (i + 1) hlt (by omega) ⟨⟨congrArg some (congrArg SV.v (congrArg (eG .i64) (mD rfl (by omega) (by omega)))),rfl,rfl,rfl,trivial⟩,trivial,.refl _,λ_ h _=>h,λ_ h=>h⟩
 ·obtain rfl : l.length = i:=by omega
  refine mT (fY (fY (qS ?_)));refine hK _ ?_;rw [iD];refine bB aD rfl ?_;exact eK (eR aD p' rfl (by decide) rfl (by rw [hv0]; rfl) rfl (λ_ h _=>h.1) (λ_ _=>trivial))
theorem Se (g : Nat) {A : Option Addr} {c p : Nat} {B : List UInt8} (s : Rds) (m : Nat) (hm : m <= 9223372036854775807) (hp : p <= B.length) (hs : B.drop p = s.1) : Spec 46 [ptr g,.int .u64 (m : Int)] [mH g A c B p s.2] (Rd 1 eB A c B)
  { ret:=λ_ : Nat=>.v (.int .i64 (moO m s : Int)),own:=λx=>[mH g A c B x (moS m s).2],p:=λx _=>x <= B.length /\ B.drop x = (moS m s).1 }:=by
 refine fD [.c (.v (ptr g)),.c (.v (.int .u64 (m : Int)))] 16 Tryz.func46 rfl (by rw [Tryz.ntmps46]; rfl) (qE trivial trivial) λb=>?_;refine bB aD rfl ?_;refine bS aD rfl λK1 hK1=>?_;refine fQ [ptr g] rfl rfl rfl G9 rfl rfl (λ_ _=>rfl) (Oc g s hp hs) (λw h _=>h) λp'=>?_;refine l_R [mH g A c B p' (nuS s).2] rfl ?_;refine aR aD rfl ?_;refine bJ (hK1 _ ?_);refine dJ λK2 hK2=>?_;refine bB aD rfl ?_;refine jK ((nuO s : Int) > (m : Int)) rfl (λh1=>?_) (λh1=>?_)
 ·have e1 : moO m s = 0:=if_pos (by omega)
  have e2 : moS m s = ((nuS s).1,12):=if_pos (by omega);refine bS aD rfl λK4 hK4=>?_;refine Et aD 0 rfl rfl rfl rfl rfl rfl rfl ?_;refine bJ (hK4 _ ?_);refine bB aD rfl ?_;exact eK (eR aD p' rfl (by decide) rfl (by rw [e1]; rfl) (by rw [e2]; rfl) (λw h _=>by rw [e2]; exact h.1) (λ_ _=>trivial))
 ·have e1 : moO m s = nuO s:=if_neg (by omega)
  have e2 : moS m s = nuS s:=if_neg (by omega);refine eW (hK2 _ ?_);refine bS aD rfl λK4 hK4=>?_;refine tY 4 (nuO s : Int) rfl (mD rfl (by omega) (by omega)) ?_;refine bJ (hK4 _ ?_);exact eK (eR aD p' rfl (by decide) rfl (by rw [e1]; rfl) (by rw [e2]) (λw h _=>by rw [e2]; exact h.1) (λ_ _=>trivial))
def cpI (l : List UInt8) (i : Nat) : List UInt8:=l.take i ++ (aE 64 0).drop i
theorem Rb {l : List UInt8} {i : Nat} {x : UInt8} (hl : l.length <= 64) (h : l[i]? = some x) : cpI l (i + 1) = (cpI l i).set i x:=by
 have hi:=(dI.1 h).1
 have e : (l.take i).length = i:=by rw [aY]; omega
 unfold cpI
 rw [IX,h,Bz _ _ (by omega),e,sT,iZ,iZ,show 64 - i = (64 - (i + 1)) + 1 by omega,List.replicate_succ]
 simp
theorem LO {l : List UInt8} {i : Nat} (hl : l.length <= 64) (hi : i <= l.length) : (cpI l i).length = 64:=by
 unfold cpI
 rw [aI,aY,fW,bH]
 omega
theorem L7 (l : List UInt8) (i : Nat) (y : UInt8) : By (l.set i y) = (By l).set i (.int .u8 (y.toNat : Int)):=List.map_set
theorem Vb (g : Nat) {A : Option Addr} {c p : Nat} {B : List UInt8} (s : Rds) (hp : p <= B.length) (hs : B.drop p = s.1) : Spec 49 [ptr g] [mH g A c B p s.2] (Rd 1 eB A c B)
  { ret:=λ_ : Nat=>.q (eY 64 (sgO s)),own:=λx=>[mH g A c B x (uD s).2],p:=λx _=>x <= B.length /\ B.drop x = (uD s).1 }:=by
 refine fD [.c (.v (ptr g))] 19 Tryz.func49 rfl (by rw [Tryz.ntmps49]; rfl) (jB trivial) λb=>?_;refine bB aD rfl ?_;refine bB aD rfl ?_;refine dJ λK hK=>?_;refine bS aD rfl λK1 hK1=>?_;refine fQ [ptr g,.int .i64 ((64 : Nat) : Int)] rfl rfl rfl An rfl rfl (λ_ _=>rfl) (ES g s 64 hp hs) (λw h _=>h) λ⟨A1,c1,p'⟩=>?_;refine l_R [mH g A c B p' (uD s).2] rfl ?_;refine aR aD rfl ?_;refine bJ (hK1 _ ?_);have hl : (tkO 64 s).length <= 64:=(xR 64 s).1;have hv0 : sgO s = A9 (tkO 64 s):=rfl;generalize tkO 64 s = l at *;refine fB ?_
 let F : Nat -> Env:=λi=>⟨[(9,.v (.int .i64 (i : Int))),(8,.v (.int .i64 (l.length : Int))),(7,.v (.slice A1 l.length c1)),(3,.a 3 0),(2,.a 2 0)],[⟨3,none,38,[.agg 64 (By (cpI l i)).toArray]⟩,⟨2,none,38,[.agg 64 (By (aE 64 0)).toArray]⟩],[mH g A c B p' (uD s).2],λw=>(p' <= B.length /\ B.drop p' = (uD s).1) /\ Rd 1 eB A1 c1 l w,λ_=>True⟩
 refine oM (e':=F 0) ⟨⟨rfl,rfl,rfl,rfl,rfl,trivial⟩,⟨rfl,rfl,rfl,rfl,trivial⟩,.refl _,λ_ h _=>h.1,λ_ _=>trivial⟩ (oG (λi=>l.length - i) F (λi=>i <= l.length) ?_ 0 (bZ _))
 intro i hi
 refine bB aD rfl ?_;refine dJ λK1 hK1=>?_;refine jK ((i : Int) < (l.length : Int)) rfl (λhlt=>?_) (λhge=>?_)
 ·have hlt : i < l.length:=by omega
  obtain ⟨x,hx⟩ : ∃ x,l[i]? = some x:=⟨_,aX hlt⟩;have hn:=Rb hl hx;have h64:=LO hl hi;have h65:=LO hl hlt;refine eW (hK1 _ ?_);refine dJ λK2 hK2=>?_;refine fB ?_;refine bS aD rfl λK3 hK3=>?_;refine qQ aD rfl rfl rfl i rfl hx rfl rfl (fX λw h _=>h.2) ?_;refine aR aD rfl ?_;refine bJ (hK3 _ ?_);refine tU ?_;refine aR aD rfl ?_;refine rR (.a 3 (0 + 1 * i)) trivial rfl rfl rfl (GK i rfl Tryz.underlying38 rfl rfl rfl (by omega)) ?_;refine UM [.agg 64 (By (cpI l (i + 1))).toArray] rfl rfl rfl rfl rfl rfl rfl rfl rfl (by show 0 + 1 * i < (By (cpI l i)).toArray.size; rw [a9,cD]; omega) (nJ h65).1 (by show By (cpI l (i + 1)) = (By (cpI l i)).set (0 + 1 * i) _; rw [hn,L7,rZ,cK]) ?_;refine bJ (hK2 _ ?_);refine l7 aD rfl ?_;exact oK (i + 1) hlt (by omega) ⟨⟨congrArg some (congrArg SV.v (congrArg (eG .i64) (mD rfl (by omega) (by omega)))),rfl,rfl,rfl,rfl,trivial⟩,⟨rfl,rfl,rfl,rfl,trivial⟩,.refl _,λ_ h _=>h,λ_ h=>h⟩
 ·obtain rfl : l.length = i:=by omega
  have ep : cpI l l.length = sgO s:=by
   rw [hv0]
   unfold cpI A9
   rw [iD,iZ]
  refine mT (fY (fY (qS ?_)));refine hK _ ?_;rw [ep];refine bB aD rfl ?_;exact eK (eR aD p' rfl (by decide) rfl rfl rfl (λ_ h _=>h.1) (λ_ _=>trivial))
theorem Vc (g : Nat) {A : Option Addr} {c p : Nat} {B : List UInt8} (s : Rds) (hp : p <= B.length) (hs : B.drop p = s.1) : Spec 27 [ptr g] [mH g A c B p s.2] (Rd 1 eB A c B)
  { ret:=λ_ : Unit=>.v (.int .i64 (pR s : Int)),own:=λ_=>[mH g A c B p s.2] }:=by
 refine fD [.c (.v (ptr g))] 24 Tryz.func27 rfl (by rw [Tryz.ntmps27]; rfl) (jB trivial) λb=>?_
 have hsl : s.1.length = B.length - p:=by rw [<-hs,fW]
 refine bB aD rfl ?_;refine dJ λK hK=>?_
 have hrest : ∀ e,pR s = s.2 -> FW e ⟨[(0,.v (ptr g))],[],[mH g A c B p s.2],λ_=>True,λ_=>True⟩ -> kS b K 24 e:=by
  intro e he hw
  refine tI hw (hK _ ?_);refine bS aD rfl λK2 hK2=>?_;refine tZ aD rfl rfl rfl rfl rfl rfl (iO 0 rfl) ?_;refine aR aD rfl ?_;refine bJ (hK2 _ ?_);exact eK (eR aD () rfl (by decide) rfl (by rw [he]; rfl) rfl (λ_ _ _=>trivial) (λ_ _=>trivial))
 refine Ch 17 (by decide) (by kernel_rfl) (by kernel_rfl) λK3 hK3 G S w0 hst=>?_;refine kO aD hst rfl ?_;refine Bg aD hst rfl rfl rfl rfl rfl rfl (iO 0 rfl) ?_;refine kO aD hst rfl ?_
 by_cases h0 : (s.2 : Int) = 0
 ·have e0 : pR s = if s.1.length = 0 then 0 else 11:=if_pos (by omega)
  refine XO 8 true rfl (decide_eq_true h0) ?_;refine kO aD hst rfl ?_;refine Bg aD hst rfl rfl rfl rfl rfl rfl (iO 0 rfl) ?_;refine kO aD hst rfl ?_;refine Bg aD hst rfl rfl rfl rfl rfl rfl (iO 0 rfl) ?_;refine kO aD hst rfl ?_;refine CT hst ?_;refine bJ (hK3 _ ?_);refine jK ((p : Int) < (B.length : Int)) rfl (λh1=>?_) (λh1=>?_)
  ·rw [if_neg (by omega)] at e0
   refine bB aD rfl ?_;exact eK (eR aD () rfl (by decide) rfl (by rw [e0]; rfl) rfl (λ_ _ _=>trivial) (λ_ _=>trivial))
  ·rw [if_pos (by omega)] at e0
   exact eW (hrest _ (by rw [e0]; omega) ⟨⟨rfl,trivial⟩,trivial,.refl _,λ_ _ _=>trivial,λ_ _=>trivial⟩)
 ·have e0 : pR s = s.2:=if_neg (by omega)
  refine XO 8 false rfl (decide_eq_false h0) ?_;refine kO aD hst rfl ?_;refine CT hst ?_;refine bJ (hK3 _ ?_);refine E5 rfl ?_;exact eW (hrest _ e0 ⟨⟨rfl,trivial⟩,trivial,.refl _,λ_ _ _=>trivial,λ_ _=>trivial⟩)
theorem Cz : Own 43:=λ_ _=>by go_simp
theorem Cv : Own 47:=λ_ _=>by go_simp
theorem GQ (g : Nat) {A : Option Addr} {c : Nat} (s : Rds) : Spec 43 [ptr g] [mU g A c s] (Rd 1 eB A c s.1)
  { ret:=λ_ : RX=>.q (eY 32 (haO s)),own:=λx=>[mU g x.1 x.2 (haS s)],p:=λx=>Rd 1 eB x.1 x.2 (haS s).1 }:=by
 refine fD [.c (.v (ptr g))] 9 Tryz.func43 rfl (by rw [Tryz.ntmps43]; rfl) (jB trivial) λb=>?_;have hl:=(xR 32 s).1
 have ep : tkO 32 s ++ (aE 32 (0 : UInt8)).drop (tkO 32 s).length = haO s:=by
  unfold haO D8
  rw [iZ]
 refine bB aD rfl ?_;refine bB aD rfl ?_;refine dJ λK hK=>?_;refine KR 3 [] (by kernel_rfl) (by decide) (λ_ _ _ _ h=>by cases h) ?_;refine zW (.s 3 0 32 32) trivial 0 (by kernel_rfl) rfl rfl rfl rfl rfl (uQ rfl Tryz.underlying27 rfl rfl) ?_;refine tR aD 1 (by kernel_rfl) rfl rfl rfl rfl rfl rfl (λ_ h=>by cases h) ?_;refine Dk 2 (by kernel_rfl) rfl λK1 hK1=>?_;refine fQ [ptr g,.int .i64 ((32 : Nat) : Int)] rfl rfl rfl Cw rfl rfl (λ_ _=>rfl) (Ja g s 32) (λw h _=>h) λ⟨A1,c1,A2,c2⟩=>?_;refine l_R [mU g A2 c2 (haS s)] rfl ?_;refine bJ (hK1 _ (λ_ _ _ _ h=>by cases h) ?_);refine Dj (by kernel_rfl) ?_;refine Ln (z:=aE 32 0) rfl rfl rfl rfl rfl rfl rfl bH hl (fX λw h _=>h.1.1) ?_;rw [ep];refine bJ (hK _ ?_);refine bB aD rfl ?_;exact eK (eR aD (A2,c2) rfl (by decide) rfl rfl rfl (λw h _=>h.1.2) (λ_ _=>trivial))
def Bx (l : List UInt8) (i : Nat) : List UInt8:=l.take i ++ (aE 32 0).drop i
theorem Nv {l : List UInt8} {i : Nat} {x : UInt8} (hl : l.length <= 32) (h : l[i]? = some x) : Bx l (i + 1) = (Bx l i).set i x:=by
 have hi:=(dI.1 h).1
 have e : (l.take i).length = i:=by rw [aY]; omega
 unfold Bx
 rw [IX,h,Bz _ _ (by omega),e,sT,iZ,iZ,show 32 - i = (32 - (i + 1)) + 1 by omega,List.replicate_succ]
 simp
theorem Ix {l : List UInt8} {i : Nat} (hl : l.length <= 32) (hi : i <= l.length) : (Bx l i).length = 32:=by
 unfold Bx
 rw [aI,aY,fW,bH]
 omega
theorem Gm (g : Nat) {A : Option Addr} {c p : Nat} {B : List UInt8} (s : Rds) (hp : p <= B.length) (hs : B.drop p = s.1) : Spec 47 [ptr g] [mH g A c B p s.2] (Rd 1 eB A c B)
  { ret:=λ_ : Nat=>.q (eY 32 (haO s)),own:=λx=>[mH g A c B x (haS s).2],p:=λx _=>x <= B.length /\ B.drop x = (haS s).1 }:=by
 refine fD [.c (.v (ptr g))] 19 Tryz.func47 rfl (by rw [Tryz.ntmps47]; rfl) (jB trivial) λb=>?_;refine bB aD rfl ?_;refine bB aD rfl ?_;refine dJ λK hK=>?_;refine bS aD rfl λK1 hK1=>?_;refine fQ [ptr g,.int .i64 ((32 : Nat) : Int)] rfl rfl rfl An rfl rfl (λ_ _=>rfl) (ES g s 32 hp hs) (λw h _=>h) λ⟨A1,c1,p'⟩=>?_;refine l_R [mH g A c B p' (haS s).2] rfl ?_;refine aR aD rfl ?_;refine bJ (hK1 _ ?_);have hl : (tkO 32 s).length <= 32:=(xR 32 s).1;have hv0 : haO s = D8 (tkO 32 s):=rfl;generalize tkO 32 s = l at *;refine fB ?_
 let F : Nat -> Env:=λi=>⟨[(9,.v (.int .i64 (i : Int))),(8,.v (.int .i64 (l.length : Int))),(7,.v (.slice A1 l.length c1)),(3,.a 3 0),(2,.a 2 0)],[⟨3,none,27,[.agg 32 (By (Bx l i)).toArray]⟩,⟨2,none,27,[.agg 32 (By (aE 32 0)).toArray]⟩],[mH g A c B p' (haS s).2],λw=>(p' <= B.length /\ B.drop p' = (haS s).1) /\ Rd 1 eB A1 c1 l w,λ_=>True⟩
 refine oM (e':=F 0) ⟨⟨rfl,rfl,rfl,rfl,rfl,trivial⟩,⟨rfl,rfl,rfl,rfl,trivial⟩,.refl _,λ_ h _=>h.1,λ_ _=>trivial⟩ (oG (λi=>l.length - i) F (λi=>i <= l.length) ?_ 0 (bZ _))
 intro i hi
 refine bB aD rfl ?_;refine dJ λK1 hK1=>?_;refine jK ((i : Int) < (l.length : Int)) rfl (λhlt=>?_) (λhge=>?_)
 ·have hlt : i < l.length:=by omega
  obtain ⟨x,hx⟩ : ∃ x,l[i]? = some x:=⟨_,aX hlt⟩;have hn:=Nv hl hx;have h32:=Ix hl hi;have h33:=Ix hl hlt;refine eW (hK1 _ ?_);refine dJ λK2 hK2=>?_;refine fB ?_;refine bS aD rfl λK3 hK3=>?_;refine qQ aD rfl rfl rfl i rfl hx rfl rfl (fX λw h _=>h.2) ?_;refine aR aD rfl ?_;refine bJ (hK3 _ ?_);refine tU ?_;refine aR aD rfl ?_;refine rR (.a 3 (0 + 1 * i)) trivial rfl rfl rfl (GK i rfl Tryz.underlying27 rfl rfl rfl (by omega)) ?_;refine UM [.agg 32 (By (Bx l (i + 1))).toArray] rfl rfl rfl rfl rfl rfl rfl rfl rfl (by show 0 + 1 * i < (By (Bx l i)).toArray.size; rw [a9,cD]; omega) (nJ h33).1 (by show By (Bx l (i + 1)) = (By (Bx l i)).set (0 + 1 * i) _; rw [hn,L7,rZ,cK]) ?_;refine bJ (hK2 _ ?_);refine l7 aD rfl ?_;exact oK (i + 1) hlt (by omega) ⟨⟨congrArg some (congrArg SV.v (congrArg (eG .i64) (mD rfl (by omega) (by omega)))),rfl,rfl,rfl,rfl,trivial⟩,⟨rfl,rfl,rfl,rfl,trivial⟩,.refl _,λ_ h _=>h,λ_ h=>h⟩
 ·obtain rfl : l.length = i:=by omega
  have ep : Bx l l.length = haO s:=by
   rw [hv0]
   unfold Bx D8
   rw [iD,iZ]
  refine mT (fY (fY (qS ?_)));refine hK _ ?_;rw [ep];refine bB aD rfl ?_;exact eK (eR aD p' rfl (by decide) rfl rfl rfl (λ_ h _=>h.1) (λ_ _=>trivial))
section
variable {P : Program} {ops : Array Oper} {Q : Exit -> Act -> World -> Prop} {Inv : World -> Prop}
def Af (P : Program) (ops : Array Oper) (Q : Exit -> Act -> World -> Prop) (Inv : World -> Prop) (p : Nat -> Bool) (Fin : Array Bool -> Act -> World -> Prop) : Nat -> Array Bool -> Act -> World -> Prop
  | 0,listed,a,w=>(∀ j ∈ bC .any ops listed,∀ i,p i = true -> iM .any ops ops.size j i = true) /\ Fin listed a w
  | fuel + 1,listed,a,w=>bC .any ops listed ≠ [] /\ ∀ i ∈ bC .any ops listed,wpOp P ops Q i (λa' w'=>Inv w' /\ Af P ops Q Inv p Fin fuel (listed.setIfInBounds i true) a' w') a w
abbrev WT (P : Program) (ops : Array Oper) (Q : Exit -> Act -> World -> Prop) (m : Nat) : Array Bool -> Act -> World -> Prop:=λlisted a w=>wpAny P .any ops Q m listed a w
theorem B5 {p : Nat -> Bool} {m : Nat} : ∀ (fuel : Nat) (listed : Array Bool) (a : Act) (w : World),Af P ops Q Inv p (WT P ops Q m) fuel listed a w -> wpAny P .any ops Q (m + fuel) listed a w
 | 0,_,_,_,h=>h.2
 | fuel + 1,_,_,_,h=>⟨λh0=>absurd h0 h.1,λi hi=>wpOp_mono (λa' w' h'=>B5 fuel _ a' w' h'.2) (h.2 i hi)⟩
theorem FZ {p : Nat -> Bool} {Fin : Array Bool -> Act -> World -> Prop} {i : Nat} {oi : Oper} {v : Value} (hin : p i = true) (hi : ops[i]? = some oi) (hst : mE oi.op = true) (hsel : ∀ (j : Nat) (o : Oper) cs b,ops[j]? = some o -> o.op ≠ .select cs b) (hQ : ∀ c a d v w,Q (.panic c) (a.put d v) w -> Q (.panic c) a w) :
  ∀ (fuel : Nat) (listed : Array Bool) (a : Act) (w : World),Inv w -> iQ .any ops listed ->
   (∀ j oj,ops[j]? = some oj -> j ≠ i -> listed.getD j true = false -> (∀ e ∈ oj.after,eN .any e = true -> e.on ≠ i) -> oi.apart ops oj = true) ->
   i ∈ bC .any ops listed -> jA P ops Inv oi (· = v) a -> Af P ops Q Inv p Fin fuel (listed.setIfInBounds i true) (a.put oi.dst v) w -> Af P ops Q Inv p Fin (fuel + 1) listed a w:=by
 intro fuel
 induction fuel with
 | zero =>
  intro listed a w hC hcs _ hr hy H
  refine ⟨λh=>(by rw [h] at hr; cases hr),λj hj=>?_⟩
  by_cases hji : j = i
  ·subst hji
   exact s8 hi hst hy hC ⟨hC,H⟩
  ·have h1:=H.1 j (ready_mono hj hji) i hin
   obtain ⟨_,oj,hoj,hall⟩:=mem_ready.1 hj;have h6:=hcs.waits _ j i oj hoj hall h1;rw [lU hr] at h6
   cases h6
 | succ fuel ih =>
  intro listed a w hC hcs hfree hr hy H
  refine ⟨λh=>(by rw [h] at hr; cases hr),λj hj=>?_⟩
  by_cases hji : j = i
  ·subst hji
   exact s8 hi hst hy hC ⟨hC,H⟩
  ·obtain ⟨hjun,oj,hoj,hall⟩:=mem_ready.1 hj
   have hnot : ∀ e ∈ oj.after,eN .any e = true -> e.on ≠ i:=λe he hb heq=>by
    have h1:=hall e he hb;rw [heq,lU hr] at h1
    cases h1
   have h2:=Ae (V:=(· = v)) hoj (hfree j oj hoj hji hjun hnot) (λcs b=>hsel i oi cs b hi) (λcs b=>hsel j oj cs b hoj) ⟨v,rfl⟩ (.inr ⟨v,λ_ h=>h⟩) hQ hy (λu hu=>by
    subst hu
    exact H.2 j (ready_mono hj hji))
   have hun' : ∀ k,(listed.setIfInBounds j true).getD k true = false -> listed.getD k true = false:=λk hun=>by
    by_cases hjk : j = k
    ·subst hjk; exact hjun
    ·rw [getD_set_ne true hjk] at hun; exact hun
   refine wpOp_mono (λa' w' h3=>?_) h2;obtain ⟨hy',h4⟩:=h3;obtain ⟨hC',h5⟩:=h4 v rfl;refine ⟨hC',ih (listed.setIfInBounds j true) a' w' hC' (hcs.set hj) (λk ok hk hki hun hno=>hfree k ok hk hki (hun' k hun) hno) (ready_mono hr (Ne.symm hji)) hy' ?_⟩;rw [Array.setIfInBounds_comm _ _ hji];exact h5
end
def pS (P : Program) (b : iI) (Q : Exit -> Act -> World -> Prop) (N : Nat) (ops : Array Oper) (Inv : World -> Prop) (p : Nat -> Bool) (Fin : Array Bool -> Act -> World -> Prop) (fuel : Nat) (listed : Array Bool) (e : Env) : Prop:=iQ .any ops listed -> ∀ a w,St b N e a w -> Inv w -> Af P ops (NoPanic Q) Inv p Fin fuel listed a w
def yB (ops : Array Oper) (p : Nat -> Bool) (i : Nat) (listed : Array Bool) : Bool:=p i && (bC .any ops listed).contains i && Region.free .any ops listed i && Region.noSelect ops
section
variable {P : Program} {T : List TyR} {b : iI} {ops : Array Oper} {Q : Exit -> Act -> World -> Prop} {N fuel : Nat} {p : Nat -> Bool} {Fin : Array Bool -> Act -> World -> Prop} {listed : Array Bool} {E : SE} {L L0 : List LV} {R : List Res} {F M : World -> Prop} {Inv : World -> Prop} {e : Env}
theorem xU : ∀ c (a : Act) d v w,NoPanic Q (.panic c) (a.put d v) w -> NoPanic Q (.panic c) a w:=λ_ _ _ _ _ h=>h
theorem G7 {o : Oper} {k : Nat} (v : SV) (hvo : v.Ok) (i : Nat) (hc : yB ops p i listed = true) (ho : ops[i]? = some o) (hg : o.guard = none) (hd : o.dst = some k) (hk : aQ k N = true) (hs : mE o.op = true) (hv : ∀ (G : Nat -> Nat) (a : Act) (w : World),Fr N (fS G E) a -> (execOp a.eval o).run P w = .ok (.value (v.den G)) w)
  (hn : pS P b Q N ops Inv p Fin fuel (listed.setIfInBounds i true) ⟨(k,v) :: E,L,R,F,M⟩) : pS P b Q N ops Inv p Fin (fuel + 1) listed ⟨E,L,R,F,M⟩:=λhcs a w hst hI=>by
 obtain ⟨G,S,h1,h2,h3⟩:=hst;simp only [yB,aW] at hc;obtain ⟨⟨⟨hin,hr⟩,hfr⟩,hsel⟩:=hc
 have hr' : i ∈ bC .any ops listed:=by simpa using hr
 have h6:=hn (hcs.set hr') (a.put (some k) (v.den G)) w ⟨G,S,h1.put hk _,h2.cons hvo,h3⟩ hI;refine FZ hin ho hs (nM hsel) xU fuel listed a w hI hcs (wY ho hfr) hr' (v:=v.den G) (.inl ⟨by simp [aN,hg],λw' _=>?_⟩) (by rw [hd]; exact h6)
 unfold atB
 rw [hv G a w' h1];exact ⟨rfl,rfl⟩
theorem Ps {o : Oper} (i : Nat) (hr : bC .any ops listed = [i]) (ho : ops[i]? = some o) (h : ∀ K : Act -> World -> Prop,(∀ e',(∀ a w,St b N e' a w -> Inv w) -> pS P b Q N ops Inv p Fin fuel (listed.setIfInBounds i true) e' -> kS b K N e') -> lS P b ops (Exit.then K (NoPanic Q)) N [o] e) : pS P b Q N ops Inv p Fin (fuel + 1) listed e:=λhcs a w hst _ =>
 ⟨by rw [hr]; simp,λj hj=>by
  rw [hr,bK] at hj;subst hj;have hcs':=hcs.set (i:=j) (by rw [hr]; simp)
  exact sY ho (h (λa' w'=>Inv w' /\ Af P ops (NoPanic Q) Inv p Fin fuel (listed.setIfInBounds j true) a' w') (λe' hI' ha a' w' hs'=>⟨hI' a' w' hs',ha hcs' a' w' hs' (hI' a' w' hs')⟩) a w hst)⟩
theorem Pv {o : Oper} {k : Nat} (v : SV) (hvo : v.Ok) (i : Nat) (hc : yB ops p i listed = true) (ho : ops[i]? = some o) (hg : o.guard = none) (hd : o.dst = some k) (hk : aQ k N = true) (hs : mE o.op = true) (hv : ∀ (G : Nat -> Nat) (a : Act) (w : World),Fr N (fS G E) a -> Inv w -> (execOp a.eval o).run P w = .ok (.value (v.den G)) w)
  (hn : pS P b Q N ops Inv p Fin fuel (listed.setIfInBounds i true) ⟨(k,v) :: E,L,R,F,M⟩) : pS P b Q N ops Inv p Fin (fuel + 1) listed ⟨E,L,R,F,M⟩:=λhcs a w hst hI=>by
 obtain ⟨G,S,h1,h2,h3⟩:=hst;simp only [yB,aW] at hc;obtain ⟨⟨⟨hin,hr⟩,hfr⟩,hsel⟩:=hc
 have hr' : i ∈ bC .any ops listed:=by simpa using hr
 have h6:=hn (hcs.set hr') (a.put (some k) (v.den G)) w ⟨G,S,h1.put hk _,h2.cons hvo,h3⟩ hI;refine FZ hin ho hs (nM hsel) xU fuel listed a w hI hcs (wY ho hfr) hr' (v:=v.den G) (.inl ⟨by simp [aN,hg],λw' hw'=>?_⟩) (by rw [hd]; exact h6)
 unfold atB
 rw [hv G a w' h1 hw'];exact ⟨rfl,rfl⟩
theorem uS {o : Oper} {k : Nat} {v : SV} (hT : OkT P T) (i : Nat) (hc : yB ops p i listed = true) (ho : ops[i]? = some o) (hg : o.guard = none) (hd : o.dst = some k) (hk : aQ k N = true) (hs : mE o.op = true) (hv : nD T E L0 o.op = some v) (hsub : ∀ x ∈ L0,x ∈ L) (hI : ∀ w,Inv w -> IV L0 w)
  (hn : pS P b Q N ops Inv p Fin fuel (listed.setIfInBounds i true) ⟨(k,v) :: E,L,R,F,M⟩) : pS P b Q N ops Inv p Fin (fuel + 1) listed ⟨E,L,R,F,M⟩:=λhcs a w hst hI0=>by
 obtain ⟨G,S,h1,h2,h3⟩:=hst;simp only [yB,aW] at hc;obtain ⟨⟨⟨hin,hr⟩,hfr⟩,hsel⟩:=hc
 have hr' : i ∈ bC .any ops listed:=by simpa using hr
 obtain ⟨h4,h5⟩:=qG hT h2 (λx hx=>(h3.var x (hsub x hx)).2.1) hv;have h6:=hn (hcs.set hr') (a.put (some k) (v.den G)) w ⟨G,S,h1.put hk _,h2.cons h4,h3⟩ hI0;refine FZ hin ho hs (nM hsel) xU fuel listed a w hI0 hcs (wY ho hfr) hr' (v:=v.den G) (.inl ⟨by simp [aN,hg],λw' hw'=>?_⟩) (by rw [hd]; exact h6)
 unfold atB
 rw [h5 h1 λx hx=>by
  obtain ⟨g,e1,e2⟩:=hI w' hw' x hx;rw [(h3.var x (hsub x hx)).2.2 g e1]
  exact e2]
 exact ⟨rfl,rfl⟩
theorem UF {o : Oper} {k : Nat} {t ty : TypeId} {x : Operand} {g off : Nat} {ps : List Pt} {q : SQ} (hT : OkT P T) (i : Nat) (hc : yB ops p i listed = true) (ho : ops[i]? = some o) (hg : o.guard = none) (hd : o.dst = some k) (hk : aQ k N = true) (hop : o.op = .load t x) (hx : evS E x = some (.v (.pointer (some ⟨g,off,none⟩)))) (hl : tX T ps t off = some q) (hok : OkP ps) (hI : ∀ w,Inv w -> yH g ty ps w)
  (hn : pS P b Q N ops Inv p Fin fuel (listed.setIfInBounds i true) ⟨(k,.q q) :: E,L,R,F,M⟩) : pS P b Q N ops Inv p Fin (fuel + 1) listed ⟨E,L,R,F,M⟩ :=
 Pv (.q q) (CK hT hok hl).1 i hc ho hg hd hk (by rw [hop]; rfl) (λ_ _ w ha hw=>(CJ hT hop hx hl ha (hI w hw)).2) hn
theorem FA {E' : SE} {L' : List LV} {R' : List Res} {F' M' : World -> Prop} {p : World -> Prop} (hsub : ∀ x ∈ L0,x ∈ L' /\ x.g.isSome = true) (hp : ∀ w,F' w -> M' w -> p w) : ∀ a w,St b N ⟨E',L',R',F',M'⟩ a w -> IV L0 w /\ p w:=λa w hst=>by
 refine ⟨?_,?_⟩
 ·obtain ⟨G,S,_,_,h3⟩:=hst
  intro x hx
  obtain ⟨h1,h2⟩:=hsub x hx;obtain ⟨g,hg⟩:=Option.isSome_iff_exists.1 h2;have h4:=h3.var x h1;refine ⟨g,hg,?_⟩;rw [<-h4.2.2 g hg];exact h4.1
 ·obtain ⟨G,S,_,_,h3⟩:=hst
  exact hp w h3.view.fact h3.view.fresh
def zM (ops : Array Oper) : List Nat -> Array Bool -> Bool
  | [],listed=>(bC .any ops listed).isEmpty
  | k :: ks,listed=>decide (bC .any ops listed = [k]) && zM ops ks (listed.setIfInBounds k true)
def Tc (l : List Oper) : List Nat -> List Oper
  | []=>[]
  | k :: ks=>match l[k]? with
    | some o=>o :: Tc l ks
    | none=>[]
theorem rN {l : List Oper} : ∀ (ks : List Nat) (listed : Array Bool) (a : Act) (w : World),(∀ k ∈ ks,k < l.length) -> zM l.toArray ks listed = true ->
  wpList P l.toArray Q (Tc l ks) a w -> wpAny P .any l.toArray Q ks.length listed a w
 | [],_,_,_,_,hB,h=>⟨by simpa [zM] using hB,h⟩
 | k :: ks,listed,a,w,hl,hB,h=>by
  obtain ⟨o,ho⟩ : ∃ o,l[k]? = some o:=⟨_,aX (hl k List.mem_cons_self)⟩
  have h0 : l.toArray[k]? = some o:=by simpa using ho
  simp only [zM,aW,decide_eq_true_eq] at hB;obtain ⟨hr,hB'⟩:=hB
  unfold Tc at h
  rw [ho] at h
  dsimp only at h
  refine ⟨λe=>(by rw [hr] at e; cases e),λi hi=>?_⟩;rw [hr,bK] at hi;subst hi;have hl' : ∀ j ∈ ks,j < l.length:=λj hj=>hl j (List.mem_cons_of_mem _ hj)
  unfold wpOp
  simp only [h0]
  unfold wpList at h
  split
  ·rename_i hw
   simp only [hw,if_true] at h;exact h.imp (Oper.wp_mono λa' w' h'=>rN ks _ a' w' hl' hB' h') id
  ·rename_i hw
   simp only [hw] at h;exact rN ks _ _ _ hl' hB' (by simpa using h)
def XB (ks : List Nat) (i : Nat) : Bool:=ks.any λk=>Nat.beq k i
theorem VD {ks : List Nat} (js : List Nat) {l l' : List Oper} (hB : ((bC .any l.toArray listed).all (λj=>ks.all λi=>iM .any l.toArray l.toArray.size j i) && js.all (λk=>decide (k < l.length)) && zM l.toArray js listed) = true) (hl : Tc l js = l') (h : lS P b l.toArray (NoPanic Q) N l' e) :
  pS P b Q N l.toArray Inv (XB ks) (WT P l.toArray (NoPanic Q) js.length) 0 listed e:=λ_ a w hst _=>by
 subst hl;simp only [aW,List.all_eq_true,decide_eq_true_eq] at hB;refine ⟨λj hj i hi=>?_,rN js listed a w hB.1.2 hB.2 (h a w hst)⟩;obtain ⟨k,hk,e⟩:=List.any_eq_true.1 hi;obtain rfl:=Nat.eq_of_beq_eq_true e;exact hB.1.1 j hj k hk
theorem Vu {l : List Oper} {id : Nat} (ks : List Nat) (n m : Nat) (Inv : World -> Prop) (hm : P.follows .mixedOrders = true) (hn : m + n = l.length) (h0 : ∀ a w,St b N e a w -> Inv w) (h : pS P b Q N l.toArray Inv (XB ks) (WT P l.toArray (NoPanic Q) m) n (Array.replicate l.toArray.size false) e) : cS P b (.region id l.toArray true) Q N e:=λa w hst=>by
 refine wp_region_noPanic (wp_region_any hm ?_);obtain ⟨G,S,h1,h2,h3⟩:=hst;have hd : St b N e a w.drew:=⟨G,S,h1,h2,h3.drew⟩;have h4:=B5 n _ a w.drew (h (iQ.none _) a w.drew hd (h0 a _ hd))
 have e1 : m + n = l.toArray.size:=by simpa using hn
 rw [e1] at h4;exact h4
end
end Go.Proofs.YtfkchihlchlfdaaGreatDoor
namespace Go.Proofs.YtfkchihlchlfdaaGreatDoor
open Go.RowKit Go.IntWalk Nums
theorem xW : Own 5:=λ_ _=>by go_simp
theorem Hj : Own 7:=λ_ _=>by go_simp
theorem Fi : Own 6:=λ_ _=>by go_simp
theorem Xb {u : UV} (h : OkP (eU u).iN) : u.Ok:=by
 have h1:=(h (.agg 32 (By u.id).toArray) (by simp [SQ.iN,UV.parts])).1;have h2:=(h (.agg 32 (By u.key).toArray) (by simp [SQ.iN,UV.parts])).1;have h3:=(h (.agg 64 (By u.sig).toArray) (by simp [SQ.iN,UV.parts])).1;rw [a9,cD] at h1 h2 h3;exact ⟨h1,h2,h3⟩
theorem ER {A : Option Addr} {c : Nat} {us : List UV} {w : World} (h : Rd 129 eU A c us w) : ∀ u ∈ us,u.Ok:=λu hu=>Xb (h.2.2.2.1 u hu).1
abbrev N8 (gu gb : Nat) (u : UV) : List Seg:=[⟨some ⟨gu,0,none⟩,32,u.id⟩,⟨some ⟨gb,0,none⟩,(lK u.ver u.key).length,lK u.ver u.key⟩,⟨some ⟨gu,65,none⟩,64,u.sig⟩]
theorem CR {A : Option Addr} {c : Nat} (us : List UV) (hl : us.length <= 65536) : Spec 5 [.slice A us.length c] [] (Rd 129 eU A c us) (PY (yG us)):=by
 refine fD [.c (.v (.slice A us.length c))] 32 Tryz.func5 rfl (by rw [Tryz.ntmps5]; rfl) (jB trivial) λb=>?_;refine rP (∀ u ∈ us,u.Ok) (λw h _=>ER h) λhok=>?_;have hbl:=IJ hok;refine bB aD rfl ?_;refine bS aD rfl λK1 hK1=>?_;refine tY 8 (us.length : Int) rfl (Ky rfl (by omega) (by omega)) ?_;refine eM [.slice none ([] : List UInt8).length 0,.int .u64 (us.length : Int)] rfl rfl rfl y8 rfl rfl (λ_ _=>rfl) (EO [] us.length (by omega) (by decide)) (λ_ _ _=>Rd.nil _ _ _) λgc=>?_;rw [List.nil_append];refine pF aD b.B.heap.size [⟨some ⟨gc,0,none⟩,(be8 us.length).length,be8 us.length⟩] (fe:=zO) rfl rfl rfl rfl rfl (λ_=>rfl) rfl (by decide) (by decide) (wD _) (aH _) λP=>?_;refine aR aD rfl ?_;refine bJ (hK1 _ ?_);refine dJ λK2 hK2=>?_;refine bB aD rfl ?_;refine fB ?_
 let F : Nat × List Seg × Option Addr × Nat -> Env:=λ⟨i,ss,PA,pc⟩=>⟨[(13,.v (.int .i64 (i : Int))),(12,.v (.int .i64 (us.length : Int))),(11,.v (.slice A us.length c)),(3,.v (.slice PA ss.length pc))],[],[gA b.B.heap.size 23 1 zO PA pc ss],λw=>(∀ s ∈ ss,s.rd w) /\ Rd 129 eU A c us w,λ_=>True⟩
 refine oM (e':=F (0,[⟨some ⟨gc,0,none⟩,(be8 us.length).length,be8 us.length⟩],P,1)) ⟨⟨rfl,rfl,rfl,rfl,trivial⟩,trivial,.refl _,λw h hM=>⟨λs hs=>by rw [bK.1 hs]; exact hM.1,h.2⟩,λ_ _=>trivial⟩
  (oG (λx=>us.length - x.1) F (λx=>x.1 <= us.length /\ (x.2.1.map Seg.l).flatten = be8 us.length ++ ((us.take x.1).map sZ).flatten /\ x.2.1.length = 1 + 3 * x.1) ?_ (0,[⟨some ⟨gc,0,none⟩,(be8 us.length).length,be8 us.length⟩],P,1) ⟨bZ _,by simp,rfl⟩)
 rintro ⟨i,ss,PA,pc⟩ ⟨hi,hss,hsn⟩
 dsimp only at hi hss hsn
 refine bB aD rfl ?_;refine dJ λK3 hK3=>?_;refine jK ((i : Int) < (us.length : Int)) rfl (λhlt=>?_) (λhge=>?_)
 ·have hlt : i < us.length:=by omega
  obtain ⟨u,hu⟩ : ∃ u,us[i]? = some u:=⟨_,aX hlt⟩;have huo:=hok u (gK hu);have hnx:=DV hu;refine eW (hK3 _ ?_);refine dJ λK4 hK4=>?_;refine fB ?_;refine bS aD rfl λK5 hK5=>?_;refine qQ aD rfl rfl rfl i rfl hu rfl rfl (fX λ_ h _=>h.2) ?_;refine aR aD rfl ?_;refine bJ (Ay 5 rfl (E':=[(13,.v (.int .i64 (i : Int))),(12,.v (.int .i64 (us.length : Int))),(11,.v (.slice A us.length c)),(3,.v (.slice PA ss.length pc))]) ⟨rfl,rfl,rfl,rfl,trivial⟩ λgu=>hK5 _ ?_);refine BL 0 rfl ?_;refine Vu [0,1,2,3,4,5,6,8,9] 11 2 (λw=>IV [] w /\ yH gu 40 u.parts w) (by kernel_rfl) rfl (FA (λ_ h=>by cases h) λ_ h _=>h.1) ?_;refine uS (L0:=[]) aD 0 (by kernel_rfl) rfl rfl rfl rfl rfl rfl (λ_ h=>by cases h) (λ_ h=>h.1) ?_;refine uS (L0:=[]) aD 1 (by kernel_rfl) rfl rfl rfl rfl rfl rfl (λ_ h=>by cases h) (λ_ h=>h.1) ?_;refine G7 (.v (.slice (some ⟨gu,0,none⟩) 32 32)) trivial 2 (by kernel_rfl) rfl rfl rfl rfl rfl (oH (off:=0) rfl Tryz.underlying27 rfl rfl) ?_;refine uS (L0:=[]) aD 3 (by kernel_rfl) rfl rfl rfl rfl rfl rfl (λ_ h=>by cases h) (λ_ h=>h.1) ?_;refine UF aD 4 (by kernel_rfl) rfl rfl rfl rfl rfl rfl rfl huo.oY (λ_ h=>h.2) ?_;refine uS (L0:=[]) aD 5 (by kernel_rfl) rfl rfl rfl rfl rfl rfl (λ_ h=>by cases h) (λ_ h=>h.1) ?_;refine UF aD 6 (by kernel_rfl) rfl rfl rfl rfl rfl rfl rfl huo.oY (λ_ h=>h.2) ?_;refine uS (L0:=[]) aD 8 (by kernel_rfl) rfl rfl rfl rfl rfl rfl (λ_ h=>by cases h) (λ_ h=>h.1) ?_;refine G7 (.v (.slice (some ⟨gu,65,none⟩) 64 64)) trivial 9 (by kernel_rfl) rfl rfl rfl rfl rfl (oH (off:=65) rfl Tryz.underlying38 rfl rfl) ?_;refine Ps 7 (by kernel_rfl) rfl λK6 hK6=>?_;refine eM [.int .i64 u.ver,.agg (By u.key).toArray] rfl rfl rfl Ap rfl rfl (λ_ _=>rfl) (FD u.ver huo.key) (λ_ _ _=>trivial) λgb=>?_;refine bJ (hK6 _ (FA (λ_ h=>by cases h) λ_ h _=>h.2.1) ?_);refine Ps 10 (by kernel_rfl) rfl λK7 hK7=>?_;refine Bs 19 (.v (.slice (some ⟨gu,0,none⟩) u.id.length 32)) rfl (by rw [huo.id]) ?_;refine Bs 26 (.v (.slice (some ⟨gu,65,none⟩) u.sig.length 64)) rfl (by rw [huo.sig]) ?_;refine pF aD b.B.heap.size (N8 gu gb u) (fe:=zO) rfl rfl rfl rfl rfl (λ_=>rfl) rfl (by decide) (by decide) (wD _) (aH _) λP2=>?_;refine bJ (hK7 _ (FA (λ_ h=>by cases h) λ_ h _=>h.2.1) ?_);refine VD [11,12] (by kernel_rfl) rfl ?_;refine tH 0 rfl ?_;refine Ax aD 0 (N8 gu gb u) rfl rfl rfl rfl rfl rfl rfl rfl rfl (fX λw h _=>h.1) (by decide) (by rw [hsn]; show (_ + 3) * 24 <= _; omega) (by rw [hsn]; show _ + 3 <= _; omega) (aH _) λPA' pc'=>?_
  refine aR aD rfl ?_;refine bJ (hK4 _ ?_);refine l7 aD rfl ?_
  exact oK (i + 1,ss ++ N8 gu gb u,PA',pc') ⟨hlt,by show (List.map Seg.l (ss ++ _)).flatten = _; rw [List.map_append,List.flatten_append,hss,hnx,List.append_assoc]; simp [sZ],by show (ss ++ _).length = _; rw [aI,hsn]; show 1 + 3 * i + 3 = 1 + 3 * (i + 1); omega⟩ (by show _ - (i + 1) < _ - i; omega) ⟨⟨congrArg some (congrArg SV.v (congrArg (eG .i64) (mD rfl (by omega) (by omega)))),rfl,rfl,rfl,trivial⟩,trivial,.refl _,λw h hM=>by
   have hr:=KD huo h.2.2.1;refine ⟨λs hs=>?_,h.2.2.2.2⟩
   rcases List.mem_append.1 hs with hs | hs
   ·exact h.2.2.2.1 s hs
   ·rcases b7.1 hs with rfl | hs
    ·exact hr.1
    ·rcases b7.1 hs with rfl | hs
     ·exact hM.1
     ·rw [bK.1 hs]
      exact hr.2.2,λ_ _=>trivial⟩
 ·obtain rfl : us.length = i:=by omega
  have e0 : (List.map Seg.l ss).flatten = yG us:=by rw [hss,iD]; rfl
  have hj:=Fz (A:=PA) (c:=pc) ss (by rw [e0]; omega);rw [e0] at hj;refine mT (fY (fY (qS ?_)));refine hK2 _ ?_;refine xT 0 rfl ?_;refine bS aD rfl λK8 hK8=>?_;refine eM [.slice PA ss.length pc] rfl rfl rfl zB rfl rfl (λ_ _=>rfl) hj (λw h _=>⟨h.1,h.2.1⟩) λgb=>?_;refine aR aD rfl ?_;refine bJ (hK8 _ ?_);exact eK (eR aD gb rfl (by decide) rfl rfl rfl (λ_ _ _=>trivial) (λw h=>h.1))
theorem Ju {A : Option Addr} {c : Nat} (us : List UV) (hl : us.length <= 65536) : Spec 6 [.slice A us.length c] [] (Rd 129 eU A c us) (Gr (yG us)):=by
 refine fD [.c (.v (.slice A us.length c))] 36 Tryz.func6 rfl (by rw [Tryz.ntmps6]; rfl) (jB trivial) λb=>?_;refine rP (∀ u ∈ us,u.Ok) (λw h _=>ER h) λhok=>?_;refine bB aD rfl ?_;refine bS aD rfl λK1 hK1=>?_;refine tY 8 (us.length : Int) rfl (Ky rfl (by omega) (by omega)) ?_;refine eM [.int .u64 (us.length : Int)] rfl rfl rfl Ec rfl rfl (λ_ _=>rfl) (Spec.VH (F:=λ_=>True) λw _=>Cm us.length w (by omega)) (λ_ _ _=>trivial) λ⟨B,d⟩=>?_;refine l_R [gA 0 5 1 eB B d (be8 us.length)] rfl ?_;refine aR aD rfl ?_;refine bJ (hK1 _ ?_);refine dJ λK2 hK2=>?_;refine bB aD rfl ?_;refine fB ?_
 let X : Nat -> List UInt8:=λi=>be8 us.length ++ ((us.take i).map sZ).flatten
 have hX0 : X 0 = be8 us.length:=by simp [X]
 let F : Nat × Option Addr × Nat -> Env:=λ⟨i,B,d⟩=>⟨[(12,.v (.int .i64 (i : Int))),(11,.v (.int .i64 (us.length : Int))),(10,.v (.slice A us.length c)),(3,.v (.slice B (X i).length d))],[],[gA 0 5 1 eB B d (X i)],Rd 129 eU A c us,λ_=>True⟩
 refine oM (e':=F (0,B,d)) ⟨⟨rfl,rfl,rfl,by show iU _ 3 = some (.v (.slice B (X 0).length d)); rw [hX0]; rfl,trivial⟩,trivial,by show List.Perm _ [gA 0 5 1 eB B d (X 0)]; rw [hX0],λ_ h _=>h.2,λ_ _=>trivial⟩ (oG (λx=>us.length - x.1) F (λx=>x.1 <= us.length) ?_ (0,B,d) (bZ _))
 rintro ⟨i,B,d⟩ hi
 dsimp only at hi
 have hXl : ∀ i,i <= us.length -> (X i).length = 8 + 136 * i:=λi hi=>by
  show (be8 us.length ++ ((us.take i).map sZ).flatten).length = _
  rw [aI,nL,Ca λu hu=>hok u (List.mem_of_mem_take hu),aY]
  omega
 have hx:=hXl i hi;refine bB aD rfl ?_;refine dJ λK3 hK3=>?_;refine jK ((i : Int) < (us.length : Int)) rfl (λhlt=>?_) (λhge=>?_)
 ·have hlt : i < us.length:=by omega
  obtain ⟨u,hu⟩ : ∃ u,us[i]? = some u:=⟨_,aX hlt⟩;have huo:=hok u (gK hu)
  have hnx : X (i + 1) = X i ++ u.id ++ be8 (rO u.ver) ++ u.key ++ u.sig:=by
   show be8 us.length ++ ((us.take (i + 1)).map sZ).flatten = be8 us.length ++ ((us.take i).map sZ).flatten ++ _ ++ _ ++ _ ++ _
   rw [DV hu]
   simp [sZ,lK]
  have hb8:=nL (rO u.ver);have hid:=huo.id;have hke:=huo.key;have hsi:=huo.sig;generalize X i = xi at *;refine eW (hK3 _ ?_);refine dJ λK4 hK4=>?_;refine fB ?_;refine bS aD rfl λK5 hK5=>?_;refine qQ aD rfl rfl rfl i rfl hu rfl rfl (fX λ_ h _=>h) ?_;refine aR aD rfl ?_;refine bJ (Ay 5 rfl (E':=[(12,.v (.int .i64 (i : Int))),(11,.v (.int .i64 (us.length : Int))),(10,.v (.slice A us.length c)),(3,.v (.slice B xi.length d))]) ⟨rfl,rfl,rfl,rfl,trivial⟩ λgu=>hK5 _ ?_);refine BL 0 rfl ?_;refine bS aD rfl λK6 hK6=>?_;refine rR (.v (.slice (some ⟨gu,0,none⟩) 32 32)) trivial rfl rfl rfl (oH (off:=0) rfl Tryz.underlying27 rfl rfl) ?_;refine Bs 18 (.v (.slice (some ⟨gu,0,none⟩) u.id.length 32)) rfl (by rw [huo.id]) ?_;refine Ax aD 0 u.id (fe:=eB) rfl rfl rfl rfl rfl rfl rfl rfl rfl (fX λw h _=>(KD huo h.1).1) (by decide) (by rw [hx,hid]; show (_ + 32) * 1 <= _; omega) (by omega) (bZ _) λB1 d1=>?_;refine aR aD rfl ?_;refine bJ (hK6 _ ?_);refine bS aD rfl λK7 hK7=>?_;refine tZ aD rfl rfl rfl rfl rfl rfl (PK λw h _=>h.1) ?_;refine aR aD rfl ?_;refine tY 23 (rO u.ver : Int) rfl (KF u.ver) ?_;refine eM [.int .u64 (rO u.ver : Int)] rfl rfl rfl Ec rfl rfl (λ_ _=>rfl) (SF (rO u.ver) (KE _)) (λ_ _ _=>trivial) λgn=>?_;refine Ax aD 0 (be8 (rO u.ver)) (fe:=eB) rfl rfl rfl rfl rfl rfl rfl rfl rfl (fX λw _ hM=>hM.1) (by decide) (by rw [aI,hx,hid,hb8]; show (_ + 8) * 1 <= _; omega) (by rw [aI]; omega) (bZ _) λB2 d2=>?_;refine aR aD rfl ?_;refine bJ (hK7 _ ?_);refine bS aD rfl λK8 hK8=>?_;refine rR (.v (.slice (some ⟨gu,33,none⟩) 32 32)) trivial rfl rfl rfl (oH (off:=33) rfl Tryz.underlying27 rfl rfl) ?_;refine Bs 28 (.v (.slice (some ⟨gu,33,none⟩) u.key.length 32)) rfl (by rw [huo.key]) ?_;refine Ax aD 0 u.key (fe:=eB) rfl rfl rfl rfl rfl rfl rfl rfl rfl (fX λw h _=>(KD huo h.2.1).2.1) (by decide) (by rw [aI,aI,hx,hid,hb8,hke]; show (_ + 32) * 1 <= _; omega) (by rw [aI,aI]; omega) (bZ _) λB3 d3=>?_;refine aR aD rfl ?_;refine bJ (hK8 _ ?_);refine tU ?_;refine aR aD rfl ?_;refine rR (.v (.slice (some ⟨gu,65,none⟩) 64 64)) trivial rfl rfl rfl (oH (off:=65) rfl Tryz.underlying38 rfl rfl) ?_;refine Bs 32 (.v (.slice (some ⟨gu,65,none⟩) u.sig.length 64)) rfl (by rw [huo.sig]) ?_;refine Ax aD 0 u.sig (fe:=eB) rfl rfl rfl rfl rfl rfl rfl rfl rfl (fX λw h _=>(KD huo h.2.1).2.2) (by decide) (by rw [aI,aI,aI,hx,hid,hb8,hke,hsi]; show (_ + 64) * 1 <= _; omega) (by rw [aI,aI,aI]; omega) (bZ _) λB4 d4=>?_
  refine aR aD rfl ?_;refine bJ (hK4 _ ?_);refine l7 aD rfl ?_;exact oK (i + 1,B4,d4) hlt (by show _ - (i + 1) < _ - i; omega) ⟨⟨congrArg some (congrArg SV.v (congrArg (eG .i64) (mD rfl (by omega) (by omega)))),rfl,rfl,by show iU _ 3 = some (.v (.slice B4 (X (i + 1)).length d4)); rw [hnx]; rfl,trivial⟩,trivial,by show List.Perm _ [gA 0 5 1 eB B4 d4 (X (i + 1))]; rw [hnx]; exact .refl _,λ_ h _=>h.2.2,λ_ _=>trivial⟩
 ·obtain rfl : us.length = i:=by omega
  have e0 : X us.length = yG us:=by show be8 us.length ++ ((us.take us.length).map sZ).flatten = _; rw [iD]; rfl
  refine mT (fY (fY (qS ?_)));refine hK2 _ ?_;rw [e0];refine xT 0 rfl ?_;refine bB aD rfl ?_;exact eK (eR aD (B,d) rfl (by decide) rfl rfl rfl (λw h _=>h.1) (λ_ _=>trivial))
def dgB (us : List UV) : List UInt8:=eO cH ([[4],yG us] : List (List UInt8)).flatten
theorem Nf {A : Option Addr} {c : Nat} (us : List UV) (hl : us.length <= 65536) : Spec 7 [.slice A us.length c] [] (λw=>Ta w /\ Rd 129 eU A c us w) (one (.q (eY 32 (dgB us)))):=by
 refine fD [.c (.v (.slice A us.length c))] 8 Tryz.func7 rfl (by rw [Tryz.ntmps7]; rfl) (jB trivial) λb=>?_;have hdl : (dgB us).length = 32:=tL _;have hdd : dgB us = eO cH ([[4],yG us] : List (List UInt8)).flatten:=rfl;obtain ⟨v2,hv2⟩ : ∃ v2,dgB us = v2:=⟨_,rfl⟩;rw [hv2] at hdl hdd;refine bB aD rfl ?_;refine bS aD rfl λK1 hK1=>?_;refine pF aD b.B.heap.size [(4 : UInt8)] rfl rfl rfl rfl rfl (λ_=>rfl) rfl (by decide) (by decide) (uY _) (aH _) λB=>?_;refine aR aD rfl ?_;refine eM [.slice A us.length c] rfl rfl rfl xW rfl rfl (λ_ _=>rfl) (CR us hl) (λ_ h _=>h.2) λgb=>?_;refine Qh aD [.v (.slice B 1 1),.v (.slice (some ⟨gb,0,none⟩) (yG us).length (yG us).length)] [[4],yG us] v2 rfl rfl rfl rfl rfl rfl rfl rfl rfl tA (λ_=>rfl) rfl (by decide) (by decide) hdl (λA w h hF hM=>?_) (λG S w h=>?_) λB2=>?_
 ·have hr2:=Sh 2 rfl (by decide) hF.2.1 h
  rw [<-hdd] at hr2;exact hr2
 ·have h1 : Rd 1 eB B 1 [4] w:=Jt 0 rfl G S w h
  exact ⟨h1.sb,h.fresh.1.sb,trivial⟩
 refine aR aD rfl ?_;refine bJ (hK1 _ ?_);refine xT 0 rfl ?_;exact eK (eR aD () rfl (by decide) rfl (congrArg (λz=>RV.q (eY 32 z)) hv2) rfl (λ_ _ _=>trivial) (λ_ _=>trivial))
end Go.Proofs.YtfkchihlchlfdaaGreatDoor
namespace Go.Proofs.YtfkchihlchlfdaaGreatDoor
open Go.RowKit Go.IntWalk
theorem MW : Own 25:=λ_ _=>by go_simp
theorem JD : Own 9:=λ_ _=>by go_simp
theorem TA (g : Nat) {A : Option Addr} {c : Nat} (s : Rds) : Spec 25 [ptr g] [mU g A c s] (Rd 1 eB A c s.1)
  { ret:=λ_ : RX=>.t [eU (upO s),.c (.v (.int .u64 (upV s : Int)))],own:=λx=>[mU g x.1 x.2 (upS s)],p:=λx=>Rd 1 eB x.1 x.2 (upS s).1 }:=by
 refine fD [.c (.v (ptr g))] 22 Tryz.func25 rfl (by rw [Tryz.ntmps25]; rfl) (jB trivial) λb=>?_;have hh1:=wK s;have hh2:=wK (nuS (haS s));have hh3:=EW (haS (nuS (haS s)));have e1 : upO s = ⟨haO s,IntKind.i64.wrap (upV s : Int),haO (nuS (haS s)),sgO (haS (nuS (haS s)))⟩:=rfl;have e2 : upS s = uD (haS (nuS (haS s))):=rfl;refine bB aD rfl ?_;refine bS aD rfl λK1 hK1=>?_;refine fQ [ptr g] rfl rfl rfl Cz rfl rfl (λ_ _=>rfl) (GQ g s) (λw h _=>h) λ⟨A1,c1⟩=>?_;refine l_R [mU g A1 c1 (haS s)] rfl ?_;generalize haO s = h1 at *;refine aR aD rfl ?_;refine bJ (hK1 _ ?_);refine bS aD rfl λK2 hK2=>?_;refine fQ [ptr g] rfl rfl rfl Hc rfl rfl (λ_ _=>rfl) (OS g (haS s)) (λw h _=>h.1) λ⟨A2,c2⟩=>?_;refine l_R [mU g A2 c2 (nuS (haS s))] rfl ?_;refine Bs 10 (.v (.int .u64 (upV s : Int))) rfl rfl ?_;generalize upV s = uv at *;refine aR aD rfl ?_;refine bJ (hK2 _ ?_);refine bS aD rfl λK3 hK3=>?_;refine fQ [ptr g] rfl rfl rfl Cz rfl rfl (λ_ _=>rfl) (GQ g (nuS (haS s))) (λw h _=>h.1) λ⟨A3,c3⟩=>?_;refine l_R [mU g A3 c3 (haS (nuS (haS s)))] rfl ?_;generalize haO (nuS (haS s)) = h2 at *;refine aR aD rfl ?_;refine fQ [ptr g] rfl rfl rfl PC rfl rfl (λ_ _=>rfl) (Vw g (haS (nuS (haS s)))) (λw h _=>h.1) λ⟨A4,c4⟩=>?_;refine l_R [mU g A4 c4 (uD (haS (nuS (haS s))))] rfl ?_;generalize sgO (haS (nuS (haS s))) = h3 at *;refine aR aD rfl ?_;refine bJ (hK3 _ ?_);refine bB aD rfl ?_;exact eK (eR aD (A4,c4) rfl (by decide) rfl (by show RV.t [eU (upO s),.c (.v (.int .u64 (uv : Int)))] = _; rw [e1]; rfl) rfl (λw h _=>h.1) (λ_ _=>trivial))
theorem Wt {s : Rds} (h : pR s = 10) : s.2 ≠ 0:=λh0=>by
 unfold pR don at h
 rw [if_pos h0] at h
 split at h <;> cases h
abbrev Yi (us : List UV) (e : Nat) : wX KX:={ ret:=λx=>.t [.c (.v (.slice x.1 us.length x.2)),.c (.v (.int .i64 (e : Int)))],p:=λx=>Rd 129 eU x.1 x.2 us }
theorem Qp {A : Option Addr} {c : Nat} (l : List UInt8) (hl : l.length <= 281474976710656) : Spec 9 [.slice A l.length c] [] (Rd 1 eB A c l) (Yi (hpU l) (hpE l)):=by
 refine fD [.c (.v (.slice A l.length c))] 46 Tryz.func9 rfl (by rw [Tryz.ntmps9]; rfl) (jB trivial) λb=>?_;refine bB aD rfl ?_;refine bS aD rfl λK1 hK1=>?_;refine eM [.slice A l.length c] rfl rfl rfl MT rfl rfl (λ_ _=>rfl) (SJ l hl) (λw h _=>h) λ⟨g,g0⟩=>?_;refine aR aD rfl ?_;refine bJ (hK1 _ ?_);refine bS aD rfl λK2 hK2=>?_;refine l_R [mU g (some ⟨g0,0,none⟩) l.length (l,0)] rfl ?_;refine fQ [ptr g] rfl rfl rfl JB rfl rfl (λ_ _=>rfl) (OZ g (l,0)) (λw _ h=>h.1) λ⟨A1,c1⟩=>?_;refine l_R [mU g A1 c1 (hpS l)] rfl ?_;refine aR aD rfl ?_;refine bJ (hK2 _ ?_);obtain ⟨n,hn⟩ : ∃ n,n = hpN l:=⟨_,rfl⟩
 have hn6 : n <= 65536:=by rw [hn]; exact JM _ _
 have hn' : moO 65536 (l,0) = n:=hn.symm;rw [hn'];refine bB aD rfl ?_;refine bB aD rfl ?_;refine OE 0 40 129 eU ?_;refine dJ λK3 hK3=>?_;refine bB aD rfl ?_;refine fB ?_
 let F : Nat × RX × KX -> Env:=λ⟨i,r,x⟩=>⟨[(8,.v (.int .i64 (i : Int))),(5,.v (.int .i64 (n : Int))),(4,.v (ptr g)),(6,.v (.slice x.1 (usI (hpS l) i).length x.2)),(7,.v (.int .u64 (mxI (hpS l) i : Int)))],[],[mU g r.1 r.2 (stU (hpS l) i),gA 0 40 129 eU x.1 x.2 (usI (hpS l) i)],Rd 1 eB r.1 r.2 (stU (hpS l) i).1,λ_=>True⟩
 have hfin : ∀ (i : Nat) (r : RX) (x : KX),i <= n -> ((stU (hpS l) i).2 ≠ 0 \/ i = n) -> ∀ e,FW e (F (i,r,x)) -> kS b K3 46 e:=by
  intro i r x hi hor e hw
  refine tI hw (hK3 _ ?_);obtain ⟨he,hkn⟩:=H7 (l:=l) (k:=i) (by omega) (by rw [hn] at hor; exact hor);have hrd:=La g (A:=r.1) (c:=r.2) (stU (hpS l) i);rw [he] at hrd;refine dJ λK4 hK4=>?_;refine bS aD rfl λK5 hK5=>?_;refine fQ [ptr g] rfl rfl rfl Ee rfl rfl (λ_ _=>rfl) hrd (λ_ _ _=>trivial) λ_=>?_;refine aR aD rfl ?_;refine bJ (hK5 _ ?_);refine bB aD rfl ?_;refine jK ((pR (hpR l) : Int) ≠ 0) rfl (λh1=>?_) (λh1=>?_)
  ·have e3 : hpE l = pR (hpR l):=by unfold hpE; rw [if_neg (by omega)]
   have e4 : hpU l = []:=by unfold hpU; rw [if_neg (by omega)]
   refine bB aD rfl ?_;exact eK (uZ 0 rfl (uZ 0 rfl (eR aD (none,0) rfl (by decide) rfl (by show RV.t [.c (.v (.slice none (hpU l).length 0)),.c (.v (.int .i64 (hpE l : Int)))] = _; rw [e3,e4]; rfl) rfl (λw _ _=>by show Rd 129 eU none 0 (hpU l) w; rw [e4]; exact Rd.nil _ _ _) (λ_ _=>trivial))))
  have h1 : pR (hpR l) = 0:=by omega
  have hk2:=hkn h1;refine eW (hK4 _ ?_);refine dJ λK6 hK6=>?_;refine bB aD rfl ?_;refine jK ((mxI (hpS l) i : Int) > 64) rfl (λh2=>?_) (λh2=>?_)
  ·have e3 : hpE l = 13:=by unfold hpE; rw [if_pos h1,<-hk2,if_pos (by omega)]
   have e4 : hpU l = []:=by unfold hpU; rw [if_neg (by omega)]
   refine bB aD rfl ?_;exact eK (uZ 0 rfl (uZ 0 rfl (eR aD (none,0) rfl (by decide) rfl (by show RV.t [.c (.v (.slice none (hpU l).length 0)),.c (.v (.int .i64 (hpE l : Int)))] = _; rw [e3,e4]; rfl) rfl (λw _ _=>by show Rd 129 eU none 0 (hpU l) w; rw [e4]; exact Rd.nil _ _ _) (λ_ _=>trivial))))
  ·have e3 : hpE l = 0:=by unfold hpE; rw [if_pos h1,<-hk2,if_neg (by omega)]
   have e4 : hpU l = usI (hpS l) i:=by unfold hpU; rw [if_pos e3,<-hk2]
   refine eW (hK6 _ ?_);refine xT 1 rfl ?_;refine bB aD rfl ?_;exact eK (uZ 0 rfl (eR aD x rfl (by decide) rfl (by show RV.t [.c (.v (.slice x.1 (hpU l).length x.2)),.c (.v (.int .i64 (hpE l : Int)))] = _; rw [e3,e4]; rfl) rfl (λw h _=>by show Rd 129 eU x.1 x.2 (hpU l) w; rw [e4]; exact h.1) (λ_ _=>trivial)))
 refine oM (e':=F (0,(A1,c1),(none,0))) ⟨⟨rfl,rfl,rfl,rfl,rfl,trivial⟩,trivial,(NM (l₁:=[_]) (l₂:=[_])),λ_ h _=>h.1,λ_ _=>trivial⟩ (oG (λx=>n - x.1) F (λx=>x.1 <= n) ?_ (0,(A1,c1),(none,0)) (bZ _))
 rintro ⟨i,r,x⟩ hi
 dsimp only at hi
 have hul:=BG (hpS l) i;refine dJ λK4 hK4=>?_;refine bS aD rfl λK5 hK5=>?_
 by_cases hlt : ¬ (i : Int) < (n : Int)
 ·refine tG 19 false rfl (decide_eq_false hlt) ?_
  refine aR aD rfl ?_;refine bJ (hK5 _ ?_);refine E5 rfl ?_;refine mT (fY (fY (qS ?_)));exact hfin i r x hi (.inr (by omega)) _ ⟨⟨rfl,rfl,rfl,rfl,rfl,trivial⟩,trivial,.refl _,λ_ h _=>h,λ_ h=>h⟩
 have hlt' : i < n:=by omega
 refine tG 19 true rfl (decide_eq_true (by omega)) ?_;refine aR aD rfl ?_;refine fQ [ptr g] rfl rfl rfl Ee rfl rfl (λ_ _=>rfl) (La g (A:=r.1) (c:=r.2) (stU (hpS l) i)) (λ_ _ _=>trivial) λ_=>?_;refine l_R [mU g r.1 r.2 (stU (hpS l) i),gA 0 40 129 eU x.1 x.2 (usI (hpS l) i)] rfl ?_;refine aR aD rfl ?_;refine bJ (hK5 _ ?_);refine jK ((pR (stU (hpS l) i) : Int) ≠ 10) rfl (λh0=>?_) (λh0=>?_)
 ·refine eW (hK4 _ ?_)
  refine dJ λK6 hK6=>?_;refine fB ?_;refine bS aD rfl λK7 hK7=>?_;refine fQ [ptr g] rfl rfl rfl MW rfl rfl (λ_ _=>rfl) (TA g (stU (hpS l) i)) (λw h _=>h.2) λ⟨A2,c2⟩=>?_;refine l_R [mU g A2 c2 (stU (hpS l) (i + 1)),gA 0 40 129 eU x.1 x.2 (usI (hpS l) i)] rfl ?_;have hoo:=N6 (stU (hpS l) i);have hun:=B9 (hpS l) i;have hmx : mxI (hpS l) (i + 1) = max (mxI (hpS l) i) (upV (stU (hpS l) i)):=rfl;generalize upO (stU (hpS l) i) = u at *;generalize upV (stU (hpS l) i) = uv at *;refine aR aD rfl ?_;refine bJ (hK7 _ ?_);refine bS aD rfl λK8 hK8=>?_;refine Qe aD 1 u rfl rfl rfl rfl rfl rfl rfl (Q1 hoo) (by decide) (by decide) (by rw [hul]; show (_ + 1) * 136 <= _; omega) (by omega) (bZ _) λB' d'=>?_;rw [<-hun];refine aR aD rfl ?_;refine bJ (hK8 _ ?_);refine tU ?_;refine aR aD rfl ?_;refine rR (.v (.int .u64 ((max (mxI (hpS l) i) uv : Nat) : Int))) trivial rfl rfl rfl (OJ rfl rfl rfl) ?_;refine aR aD rfl ?_;refine bJ (hK6 _ ?_);refine l7 aD rfl ?_;exact oK (i + 1,(A2,c2),(B',d')) hlt' (by show n - (i + 1) < n - i; omega) ⟨⟨congrArg some (congrArg SV.v (congrArg (eG .i64) (mD rfl (by omega) (by omega)))),rfl,rfl,rfl,by show iU _ 7 = some (.v (.int .u64 (mxI (hpS l) (i + 1) : Int))); rw [hmx]; rfl,trivial⟩,trivial,.refl _,λ_ h _=>h.1,λ_ _=>trivial⟩
 ·refine mT (fY (fY (qS ?_)))
  exact hfin i r x hi (.inl (Wt (by omega))) _ ⟨⟨rfl,rfl,rfl,rfl,rfl,trivial⟩,trivial,.refl _,λ_ h _=>h.2,λ_ _=>trivial⟩
theorem Hb : Own 26:=λ_ _=>by go_simp
theorem Fg : Own 10:=λ_ _=>by go_simp
theorem JA : Own 11:=λ_ _=>by go_simp
def grI (s : Rds) (n : Nat) : Bool:=decide (64 < mxI s n)
theorem Qu (s : Rds) (n : Nat) : grI s (n + 1) = (grI s n || decide (64 < upV (stU s n))):=by
 unfold grI
 rw [<-Bool.decide_or];refine decide_eq_decide.2 ?_
 show 64 < max _ _ ↔ _
 omega
theorem Mz (g : Nat) {A : Option Addr} {c : Nat} (l : List UInt8) : Spec 26 [ptr g] [mH g A c l 0 0] (Rd 1 eB A c l)
    { ret:=λx : KX × Nat × Nat=>.t [.c (.v (.slice x.1.1 (usI (hpS l) x.2.1).length x.1.2)),.c (.b (grI (hpS l) x.2.1))],own:=λx=>[mH g A c l x.2.2 (stU (hpS l) x.2.1).2],
       p:=λx w=>((x.2.1 <= hpN l /\ ((stU (hpS l) x.2.1).2 ≠ 0 \/ x.2.1 = hpN l)) /\ x.2.2 <= l.length /\ l.drop x.2.2 = (stU (hpS l) x.2.1).1) /\ Rd 129 eU x.1.1 x.1.2 (usI (hpS l) x.2.1) w }:=by
  refine fD [.c (.v (ptr g))] 49 Tryz.func26 rfl (by rw [Tryz.ntmps26]; rfl) (jB trivial) λb=>?_;refine bB aD rfl ?_;refine bB aD rfl ?_;refine bB aD rfl ?_;refine bS aD rfl λK2 hK2=>?_;refine l_R [mH g A c l 0 ((l,0) : Rds).2] rfl ?_;refine fQ [ptr g,.int .u64 ((65536 : Nat) : Int)] rfl rfl rfl MO rfl rfl (λ_ _=>rfl) (Se g (l,0) 65536 (by decide) (bZ _) rfl) (λw h _=>h) λp2=>?_;refine l_R [mH g A c l p2 (hpS l).2] rfl ?_;refine Aw (p2 <= l.length /\ l.drop p2 = (hpS l).1) (λw h _=>h.1) λ⟨hp2,hs2⟩=>?_;refine aR aD rfl ?_;refine bJ (hK2 _ ?_);obtain ⟨n,hn⟩ : ∃ n,n = hpN l:=⟨_,rfl⟩
  have hn6 : n <= 65536:=by rw [hn]; exact JM _ _
  have hn' : moO 65536 (l,0) = n:=hn.symm;rw [hn'];refine OE 0 40 129 eU ?_;refine dJ λK5 hK5=>?_;refine bS aD rfl λK51 hK51=>?_;refine XK 5 (.b (grI (hpS l) 0)) rfl (λ_=>rfl) trivial ?_;refine bJ (hK51 _ ?_);refine fB ?_
  let F : Nat × Nat × KX -> Env:=λ⟨i,p,x⟩=>⟨[(7,.v (.int .i64 (i : Int))),(6,.v (.int .i64 (n : Int))),(0,.v (ptr g)),(4,.v (.slice x.1 (usI (hpS l) i).length x.2)),(5,.b (grI (hpS l) i))],[],[mH g A c l p (stU (hpS l) i).2,gA 0 40 129 eU x.1 x.2 (usI (hpS l) i)],Rd 1 eB A c l,λ_=>True⟩
  have hfin : ∀ (i p : Nat) (x : KX),i <= n -> p <= l.length -> l.drop p = (stU (hpS l) i).1 -> ((stU (hpS l) i).2 ≠ 0 \/ i = n) -> ∀ e,FW e (F (i,p,x)) -> kS b K5 49 e:=by
    intro i p x hi hp hs hor e hw
    refine tI hw (hK5 _ ?_);refine xT 1 rfl ?_;refine bB aD rfl ?_;exact eK (eR aD (x,i,p) rfl (by decide) rfl rfl rfl (λw h _=>⟨⟨⟨by rw [<-hn]; exact hi,by rw [<-hn]; exact hor⟩,hp,hs⟩,h.1⟩) (λ_ _=>trivial))
  refine oM (e':=F (0,p2,(none,0))) ⟨⟨rfl,rfl,rfl,rfl,rfl,trivial⟩,trivial,(NM (l₁:=[_]) (l₂:=[_])),λ_ h _=>h.2,λ_ _=>trivial⟩ (oG (λx=>n - x.1) F (λx=>x.1 <= n /\ x.2.1 <= l.length /\ l.drop x.2.1 = (stU (hpS l) x.1).1) ?_ (0,p2,(none,0)) ⟨bZ _,hp2,hs2⟩)
  rintro ⟨i,p,x⟩ ⟨hi,hp,hs⟩
  dsimp only at hi hp hs
  have hul:=BG (hpS l) i;refine dJ λK6 hK6=>?_;refine bS aD rfl λK7 hK7=>?_
  by_cases hlt : ¬ (i : Int) < (n : Int)
  · refine tG 15 false rfl (decide_eq_false hlt) ?_
    refine aR aD rfl ?_;refine bJ (hK7 _ ?_);refine E5 rfl ?_;refine mT (fY (fY (qS ?_)));exact hfin i p x hi hp hs (.inr (by omega)) _ ⟨⟨rfl,rfl,rfl,rfl,rfl,trivial⟩,trivial,.refl _,λ_ h _=>h,λ_ h=>h⟩
  have hlt' : i < n:=by omega
  refine tG 15 true rfl (decide_eq_true (by omega)) ?_;refine aR aD rfl ?_;refine tZ aD rfl rfl rfl rfl rfl rfl (iO 0 rfl) ?_;refine aR aD rfl ?_;refine bJ (hK7 _ ?_);refine jK (((stU (hpS l) i).2 : Int) = 0) rfl (λh0=>?_) (λh0=>?_)
  · refine eW (hK6 _ ?_)
    have hG:=Qu (hpS l) i;have hun:=B9 (hpS l) i;have hsn : stU (hpS l) (i + 1) = uD (haS (nuS (haS (stU (hpS l) i)))):=rfl;have hoo:=N6 (stU (hpS l) i);have hoe : upO (stU (hpS l) i) = ⟨haO (stU (hpS l) i),IntKind.i64.wrap (upV (stU (hpS l) i) : Int),haO (nuS (haS (stU (hpS l) i))),sgO (haS (nuS (haS (stU (hpS l) i))))⟩:=rfl;have hve : upV (stU (hpS l) i) = nuO (haS (stU (hpS l) i)):=rfl;have hh1:=wK (stU (hpS l) i);have hh2:=wK (nuS (haS (stU (hpS l) i)));have hh3:=EW (haS (nuS (haS (stU (hpS l) i))));generalize upV (stU (hpS l) i) = uv at *;generalize upO (stU (hpS l) i) = u at *;generalize grI (hpS l) i = gr at *;refine dJ λK8 hK8=>?_;refine fB ?_;refine bB aD rfl ?_;refine bS aD rfl λK9 hK9=>?_;refine fQ [ptr g] rfl rfl rfl Cv rfl rfl (λ_ _=>rfl) (Gm g (stU (hpS l) i) hp hs) (λw h _=>h) λp3=>?_;refine l_R [mH g A c l p3 (haS (stU (hpS l) i)).2,gA 0 40 129 eU x.1 x.2 (usI (hpS l) i)] rfl ?_;refine Aw (p3 <= l.length /\ l.drop p3 = (haS (stU (hpS l) i)).1) (λw h _=>h.1) λ⟨hp3,hs3⟩=>?_;generalize haO (stU (hpS l) i) = h1 at *;refine aR aD rfl ?_;refine bJ (hK9 _ ?_);refine bS aD rfl λK10 hK10=>?_;refine fQ [ptr g] rfl rfl rfl G9 rfl rfl (λ_ _=>rfl) (Oc g (haS (stU (hpS l) i)) hp3 hs3) (λw h _=>h.2) λp4=>?_;refine l_R [mH g A c l p4 (nuS (haS (stU (hpS l) i))).2,gA 0 40 129 eU x.1 x.2 (usI (hpS l) i)] rfl ?_;refine Aw (p4 <= l.length /\ l.drop p4 = (nuS (haS (stU (hpS l) i))).1) (λw h _=>h.1) λ⟨hp4,hs4⟩=>?_;refine Bs 28 (.v (.int .u64 (uv : Int))) rfl (by rw [hve]; rfl) ?_;refine aR aD rfl ?_;refine bJ (hK10 _ ?_);refine dJ λK11 hK11=>?_
    have hgo : ∀ e,FW e ⟨[(7,.v (.int .i64 (i : Int))),(6,.v (.int .i64 (n : Int))),(0,.v (ptr g)),(4,.v (.slice x.1 (usI (hpS l) i).length x.2)),(9,.v (.int .u64 (uv : Int))),(8,.a 8 0),(5,.b (grI (hpS l) (i + 1)))],[⟨8,none,40,[.agg 32 (By h1).toArray,.one (.v (.int .i64 0)),.agg 32 (By (aE 32 0)).toArray,.agg 64 (By (aE 64 0)).toArray]⟩],[mH g A c l p4 (nuS (haS (stU (hpS l) i))).2,gA 0 40 129 eU x.1 x.2 (usI (hpS l) i)],Rd 1 eB A c l,λ_=>True⟩ -> kS b K11 49 e:=by
      intro e hw
      refine tI hw (hK11 _ ?_);refine bB aD rfl ?_;refine bS aD rfl λK12 hK12=>?_;refine fQ [ptr g] rfl rfl rfl Cv rfl rfl (λ_ _=>rfl) (Gm g (nuS (haS (stU (hpS l) i))) hp4 hs4) (λw h _=>h) λp5=>?_;refine l_R [mH g A c l p5 (haS (nuS (haS (stU (hpS l) i)))).2,gA 0 40 129 eU x.1 x.2 (usI (hpS l) i)] rfl ?_;refine Aw (p5 <= l.length /\ l.drop p5 = (haS (nuS (haS (stU (hpS l) i)))).1) (λw h _=>h.1) λ⟨hp5,hs5⟩=>?_;generalize haO (nuS (haS (stU (hpS l) i))) = h2 at *;refine aR aD rfl ?_;refine bJ (hK12 _ ?_);refine bS aD rfl λK13 hK13=>?_;refine fQ [ptr g] rfl rfl rfl Pw rfl rfl (λ_ _=>rfl) (Vb g (haS (nuS (haS (stU (hpS l) i)))) hp5 hs5) (λw h _=>h.2) λp6=>?_;refine l_R [mH g A c l p6 (uD (haS (nuS (haS (stU (hpS l) i))))).2,gA 0 40 129 eU x.1 x.2 (usI (hpS l) i)] rfl ?_;refine Aw (p6 <= l.length /\ l.drop p6 = (uD (haS (nuS (haS (stU (hpS l) i))))).1) (λw h _=>h.1) λ⟨hp6,hs6⟩=>?_;rw [<-hsn] at hs6;generalize sgO (haS (nuS (haS (stU (hpS l) i)))) = h3 at *;refine aR aD rfl ?_;refine bJ (hK13 _ ?_);subst hoe;refine tU ?_;refine aR aD rfl ?_;refine Qe aD 1 (⟨h1,IntKind.i64.wrap (uv : Int),h2,h3⟩ : UV) rfl rfl rfl rfl rfl rfl rfl (Q1 hoo) (by decide) (by decide) (by rw [hul]; show (_ + 1) * 136 <= _; omega) (by omega) (bZ _) λB' d'=>?_;rw [<-hun];refine aR aD rfl ?_;refine bJ (hK8 _ ?_);refine l7 aD rfl ?_;exact oK (i + 1,p6,(B',d')) ⟨hlt',hp6,hs6⟩ (by show n - (i + 1) < n - i; omega) ⟨⟨congrArg some (congrArg SV.v (congrArg (eG .i64) (mD rfl (by omega) (by omega)))),rfl,rfl,rfl,rfl,trivial⟩,trivial,.refl _,λ_ h _=>h.2.2,λ_ _=>trivial⟩
    refine tU ?_;refine aR aD rfl ?_
    cases hg : gr with
    | true =>
      rw [hg,Bool.true_or] at hG;refine tG 30 true rfl rfl ?_;refine aR aD rfl ?_;refine XK 5 (.b (grI (hpS l) (i + 1))) rfl (λ_=>by rw [hG]; rfl) trivial ?_;exact bJ (hgo _ ⟨⟨rfl,rfl,rfl,rfl,rfl,rfl,rfl,trivial⟩,⟨rfl,rfl,trivial⟩,.refl _,λ_ h _=>h.2.2,λ_ _=>trivial⟩)
    | false =>
      rw [hg,Bool.false_or] at hG;refine tG 30 false rfl rfl ?_;refine aR aD rfl ?_;refine Bs 5 (.b (grI (hpS l) (i + 1))) rfl (congrArg SV.b (by rw [hG]; exact decide_eq_decide.2 (by show (uv : Int) > 64 ↔ _; omega))) ?_;exact bJ (hgo _ ⟨⟨rfl,rfl,rfl,rfl,rfl,rfl,rfl,trivial⟩,⟨rfl,rfl,trivial⟩,.refl _,λ_ h _=>h.2.2,λ_ _=>trivial⟩)
  · refine mT (fY (fY (qS ?_)))
    exact hfin i p x hi hp hs (.inl (by omega)) _ ⟨⟨rfl,rfl,rfl,rfl,rfl,trivial⟩,trivial,.refl _,λ_ h _=>h,λ_ h=>h⟩
theorem Jp {A : Option Addr} {c : Nat} (l : List UInt8) : Spec 10 [.slice A l.length c] [] (Rd 1 eB A c l) (Yi (hpU l) (hpE l)):=by
 refine fD [.c (.v (.slice A l.length c))] 23 Tryz.func10 rfl (by rw [Tryz.ntmps10]; rfl) (jB trivial) λb=>?_;refine bB aD rfl ?_;refine bS aD rfl λK1 hK1=>?_;refine bJ (Ay 4 rfl (E':=[(0,.v (.slice A l.length c))]) ⟨rfl,trivial⟩ λg=>hK1 _ ?_);refine bS aD rfl λK2 hK2=>?_;refine l_R [mH g A c l 0 0] rfl ?_;refine fQ [ptr g] rfl rfl rfl Hb rfl rfl (λ_ _=>rfl) (Mz g l) (λw h _=>h) λ⟨x,k,p⟩=>?_;refine l_R [mH g A c l p (stU (hpS l) k).2] rfl ?_;refine Aw ((k <= hpN l /\ ((stU (hpS l) k).2 ≠ 0 \/ k = hpN l)) /\ p <= l.length /\ l.drop p = (stU (hpS l) k).1) (λw h _=>h.1.1) λ⟨⟨hk,hor⟩,hp,hs⟩=>?_;refine aR aD rfl ?_;refine bJ (hK2 _ ?_);obtain ⟨he,hkn⟩:=H7 hk hor;have hte:=Vc (A:=A) (c:=c) g (stU (hpS l) k) hp hs;rw [he] at hte;refine dJ λK3 hK3=>?_;refine bS aD rfl λK4 hK4=>?_;refine fQ [ptr g] rfl rfl rfl Px rfl rfl (λ_ _=>rfl) hte (λw h _=>h.2) λ_=>?_;refine aR aD rfl ?_;refine bJ (hK4 _ ?_);refine bB aD rfl ?_;refine jK ((pR (hpR l) : Int) ≠ 0) rfl (λh1=>?_) (λh1=>?_)
 ·have e3 : hpE l = pR (hpR l):=by unfold hpE; rw [if_neg (by omega)]
  have e4 : hpU l = []:=by unfold hpU; rw [if_neg (by omega)]
  refine bB aD rfl ?_;exact eK (uZ 0 rfl (eR aD (none,0) rfl (by decide) rfl (by show RV.t [.c (.v (.slice none (hpU l).length 0)),.c (.v (.int .i64 (hpE l : Int)))] = _; rw [e3,e4]; rfl) rfl (λw _ _=>by show Rd 129 eU none 0 (hpU l) w; rw [e4]; exact Rd.nil _ _ _) (λ_ _=>trivial)))
 have h1 : pR (hpR l) = 0:=by omega
 have hk2:=hkn h1;refine eW (hK3 _ ?_);refine dJ λK5 hK5=>?_;refine bB aD rfl ?_;refine Vt (grI (hpS l) k) rfl (λh2=>?_) (λh2=>?_)
 ·have e3 : hpE l = 13:=by unfold hpE; rw [if_pos h1,<-hk2,if_pos (of_decide_eq_true h2)]
  have e4 : hpU l = []:=by unfold hpU; rw [if_neg (by omega)]
  refine bB aD rfl ?_;exact eK (uZ 0 rfl (eR aD (none,0) rfl (by decide) rfl (by show RV.t [.c (.v (.slice none (hpU l).length 0)),.c (.v (.int .i64 (hpE l : Int)))] = _; rw [e3,e4]; rfl) rfl (λw _ _=>by show Rd 129 eU none 0 (hpU l) w; rw [e4]; exact Rd.nil _ _ _) (λ_ _=>trivial)))
 ·have e3 : hpE l = 0:=by unfold hpE; rw [if_pos h1,<-hk2,if_neg (of_decide_eq_false h2)]
  have e4 : hpU l = usI (hpS l) k:=by unfold hpU; rw [if_pos e3,<-hk2]
  refine eW (hK5 _ ?_);refine bB aD rfl ?_;exact eK (uZ 0 rfl (eR aD x rfl (by decide) rfl (by show RV.t [.c (.v (.slice x.1 (hpU l).length x.2)),.c (.v (.int .i64 (hpE l : Int)))] = _; rw [e3,e4]; rfl) rfl (λw h _=>by show Rd 129 eU x.1 x.2 (hpU l) w; rw [e4]; exact h.2.1.2) (λ_ _=>trivial)))
theorem ON {A A2 : Option Addr} {c c2 : Nat} (ks : List UV) : Spec 11 [.slice A ks.length c,.slice A2 ks.length c2] [] (λw=>Rd 129 eU A c ks w /\ Rd 129 eU A2 c2 ks w) (one (.v (.bool true))):=by
 refine fD [.c (.v (.slice A ks.length c)),.c (.v (.slice A2 ks.length c2))] 26 Tryz.func11 rfl (by rw [Tryz.ntmps11]; rfl) (qE trivial trivial) λb=>?_;refine rP ((∀ x ∈ ks,x.Ok) /\ ks.length <= 9223372036854775807) (λw h _=>⟨ER h.1,Nat.le_trans h.1.1 h.1.2.1⟩) λ⟨h32,hm⟩=>?_;refine bB aD rfl ?_;refine dJ λK1 hK1=>?_;refine bS aD rfl λK2 hK2=>?_;refine tG 10 false rfl (by simp) ?_;refine bJ (hK2 _ ?_);refine E5 rfl ?_;refine eW (hK1 _ ?_);refine dJ λK3 hK3=>?_;refine bB aD rfl ?_;refine fB ?_
 let F : Nat -> Env:=λi=>⟨[(13,.v (.int .i64 (i : Int))),(12,.v (.int .i64 (ks.length : Int))),(0,.v (.slice A ks.length c)),(1,.v (.slice A2 ks.length c2))],[],[],λw=>Rd 129 eU A c ks w /\ Rd 129 eU A2 c2 ks w,λ_=>True⟩
 refine oM (e':=F 0) ⟨⟨rfl,rfl,rfl,rfl,trivial⟩,trivial,.refl _,λ_ h _=>h,λ_ _=>trivial⟩ (oG (λi=>ks.length - i) F (λi=>i <= ks.length) ?_ 0 (bZ _))
 intro i hi
 refine bB aD rfl ?_;refine dJ λK4 hK4=>?_;refine jK ((i : Int) < (ks.length : Int)) rfl (λhlt=>?_) (λhge=>?_)
 ·have hlt : i < ks.length:=by omega
  obtain ⟨x,hx⟩ : ∃ x,ks[i]? = some x:=⟨_,aX hlt⟩;have hx2:=h32 x (gK hx);refine eW (hK4 _ ?_);refine dJ λK5 hK5=>?_;refine fB ?_;refine bB aD rfl ?_;refine Ch 9 (by decide) (by kernel_rfl) (by kernel_rfl) λK6 hK6 G S w0 hst=>?_;refine kO aD hst rfl ?_;refine Qy aD hst rfl rfl rfl i rfl hx rfl rfl (fX λw h _=>h.1) ?_;refine kO aD hst rfl ?_;refine Qy aD hst rfl rfl rfl i rfl hx rfl rfl (fX λw h _=>h.2) ?_;refine UR (.v (.bool false)) trivial rfl rfl rfl (OI rfl rfl rfl hx2) ?_;refine CT hst ?_;refine bJ (hK6 _ ?_);refine E5 rfl ?_;refine eW (hK5 _ ?_);refine l7 aD rfl ?_;exact oK (i + 1) hlt (by show _ - (i + 1) < _ - i; omega) ⟨⟨congrArg some (congrArg SV.v (congrArg (eG .i64) (mD rfl (by omega) (by omega)))),rfl,rfl,rfl,trivial⟩,trivial,.refl _,λ_ h _=>h,λ_ h=>h⟩
 ·refine mT (fY (fY (qS ?_)))
  refine hK3 _ ?_;refine bB aD rfl ?_;exact eK (eR aD () rfl (by decide) rfl rfl rfl (λ_ _ _=>trivial) (λ_ _=>trivial))
end Go.Proofs.YtfkchihlchlfdaaGreatDoor
namespace Go.Proofs.YtfkchihlchlfdaaGreatDoor
open Go.RowKit Go.IntWalk Nums
theorem H8 {A A2 : Option Addr} {c c2 : Nat} (us : List UV) (y : List UInt8) (hy : y.length <= 140737488355312) : Spec 3 [.slice A us.length c,.slice A2 y.length c2] [] (λw=>Ta w /\ Rd 129 eU A c us w /\ Rd 1 eB A2 c2 y w) (one (.v (.bool true))):=by
 refine fD [.c (.v (.slice A us.length c)),.c (.v (.slice A2 y.length c2))] 85 Tryz.func3 rfl (by rw [Tryz.ntmps3]; rfl) (qE trivial trivial) λb=>?_;refine rP (us.length <= c /\ c <= 9223372036854775807 /\ (A = none -> c = 0)) (λw h _=>⟨h.2.1.1,h.2.1.2.1,h.2.1.2.2.1⟩) λ⟨hkc,hcm,hA⟩=>?_;refine bB aD rfl ?_;refine dJ λK1 hK1=>?_;refine bS aD rfl λK2 hK2=>?_;refine eM [] rfl rfl rfl Hk rfl rfl (λ_ _=>rfl) Nm (λ_ h _=>h.1) λ_=>?_;refine aR aD rfl ?_;refine bJ (hK2 _ ?_);refine E5 rfl ?_;refine eW (hK1 _ ?_);obtain ⟨l,hl⟩ : ∃ l,l = us.take (min us.length 20):=⟨_,rfl⟩
 have hll : l.length = min us.length 20:=by rw [hl,aY]; omega
 refine bS aD rfl λK3 hK3=>?_;refine rR (.v (.int .i64 ((min us.length 20 : Nat) : Int))) trivial rfl rfl rfl (Sw rfl rfl rfl) ?_;refine rR (.v (.slice A (min us.length 20) c)) trivial rfl rfl rfl (vY (sz:=129) rfl (by omega) hA rfl Tryz.underlying22 rfl rfl) ?_;refine aR aD rfl ?_;refine Bs 5 (.v (.slice A l.length c)) rfl (by rw [hll]) ?_
 have hl20 : l.length <= 20:=by omega
 clear hll;refine bJ (tI (e':=⟨[(5,.v (.slice A l.length c)),(1,.v (.slice A2 y.length c2))],[],[],λw=>Ta w /\ Rd 129 eU A c l w /\ Rd 1 eB A2 c2 y w,λ_=>True⟩) ⟨⟨rfl,rfl,trivial⟩,trivial,.refl _,λw h _=>⟨h.2.1,by rw [hl]; exact h.2.2.1.take _,h.2.2.2⟩,λ_ _=>trivial⟩ (hK3 _ ?_));clear hl hA hkc;refine rP (∀ u ∈ l,u.Ok) (λw h _=>ER h.2.1) λhok=>?_;have hXl:=IJ hok;have hbS:=λA c=>CR (A:=A) (c:=c) l (by omega);have rbS:=λA c=>Ju (A:=A) (c:=c) l (by omega);have dgS:=λA c=>Nf (A:=A) (c:=c) l (by omega);have hdl : (dgB l).length = 32:=tL _;have hdd : dgB l = eO cH ([[4],yG l] : List (List UInt8)).flatten:=rfl;generalize dgB l = dg at *;generalize yG l = X at *;refine bS aD rfl λK4 hK4=>?_;refine eM [.slice A l.length c] rfl rfl rfl xW rfl rfl (λ_ _=>rfl) (hbS A c) (λ_ h _=>h.2.1) λgx=>?_;refine aR aD rfl ?_;refine bJ (hK4 _ ?_);refine dJ λK5 hK5=>?_;refine E4 15 (by decide) (by kernel_rfl) (by kernel_rfl) λK6 hK6 G S w0 hst=>?_;refine j5 aD hst rfl ?_;refine Qs X hst rfl rfl rfl rfl rfl rfl (λw hw _=>hw.fresh.1) ?_;refine j5 aD hst rfl ?_;refine zJ (F':=Rd 129 eU A c l) hst [.slice A l.length c] rfl rfl rfl rfl Fi rfl rfl (λ_=>rfl) (rbS A c) (λ_ hv _=>hv.fact.2.2.1) λx _=>?_;refine Qs X hst rfl rfl rfl rfl rfl rfl (λw _ hu=>Of (hu 3 _ rfl (by kernel_rfl))) ?_;refine TG hst (.b (!decide (X = X))) trivial rfl rfl rfl rfl (Ci rfl rfl rfl) ?_;refine j5 aD hst rfl ?_;refine Qt 29 false rfl (by simp) ?_;refine j5 aD hst rfl ?_;refine Lu (F':=λw=>Ta w /\ Rd 129 eU A c l w) (r:=.q (eY 32 dg)) hst [.slice A l.length c] rfl rfl rfl rfl Hj rfl rfl (λ_=>rfl) (nJ hdl).1 (dgS A c) (λ_ _ _ hv=>⟨hv.fact.2.1,hv.fact.2.2.1⟩) ?_;refine j5 aD hst rfl ?_;refine UQ aD [(4 : UInt8)] rfl rfl rfl rfl rfl rfl (λ_=>rfl) rfl (by decide) (by decide) λB=>?_;refine j5 aD hst rfl ?_;refine Lt [.slice (some ⟨B,0,none⟩) 1 1,.slice (some ⟨gx,0,none⟩) X.length X.length] [[4],X] hst rfl rfl rfl rfl rfl rfl rfl (by decide) (by decide) (λw hw hu=>?_) λD=>?_
 ·have h2 : Rd 1 eB (some ⟨B,0,none⟩) 1 [4] w:=hu 9 _ rfl (by kernel_rfl)
  exact ⟨h2.sb,hw.fresh.1.sb,trivial⟩
 refine j5 aD hst rfl ?_;refine JU (r:=.q (eY 32 dg)) hst [.slice (some ⟨D,0,none⟩) 2 2] rfl rfl rfl rfl Jz rfl rfl (λ_=>rfl) (nJ hdl).1 (λw hw hu=>?_) ?_
 ·have hD : PT w (some ⟨D,0,none⟩) [[4],X]:=hu 11 _ rfl (by kernel_rfl)
  have hr2:=Yp 2 rfl (by decide) (by show ([4] ++ (X ++ [])).length <= _; rw [aI,List.append_nil,hXl]; simp; omega) hD;rw [<-hdd] at hr2;exact hr2
 refine j5 aD hst rfl ?_;refine TG hst (.b (!decide (dg = dg))) trivial rfl rfl rfl rfl (GJ rfl rfl rfl Tryz.underlying27 (by kernel_rfl) hdl hdl) ?_;refine j5 aD hst rfl ?_;refine Ew hst ?_;refine tG 37 false rfl (by simp) ?_;refine bJ (tI (e':=⟨[(37,.v (.bool false)),(6,.v (.slice (some ⟨gx,0,none⟩) X.length X.length)),(1,.v (.slice A2 y.length c2))],[],[],λw=>Rd 1 eB A2 c2 y w,λw=>Rd 1 eB (some ⟨gx,0,none⟩) X.length X w⟩) ⟨⟨rfl,rfl,rfl,trivial⟩,trivial,.refl _,λw h _=>h.2.2.2,λ_ h=>h.1⟩ (hK6 _ ?_));refine E5 rfl ?_;refine eW (hK5 _ ?_);clear hbS rbS dgS hdl hdd;refine dJ λK7 hK7=>?_;refine bS aD rfl λK8 hK8=>?_;refine pF aD 0 [⟨some ⟨gx,0,none⟩,X.length,X⟩,⟨A2,c2,y⟩] (fe:=zO) rfl rfl rfl rfl rfl (λ_=>rfl) rfl (by decide) (by decide) (wD _) (bZ _) λP=>?_;refine tH 0 rfl ?_;refine aR aD rfl ?_;refine bJ (hK8 _ ?_);refine fB ?_;obtain ⟨ss,hss⟩ : ∃ ss : List Seg,ss = [⟨some ⟨gx,0,none⟩,X.length,X⟩,⟨A2,c2,y⟩]:=⟨_,rfl⟩
 have hs2 : ss.length = 2:=by rw [hss]; rfl
 have hsl : ∀ s ∈ ss,s.l.length <= 140737488355312:=by
  rw [hss]
  intro s hs
  rcases b7.1 hs with rfl | hs
  ·show X.length <= _
   omega
  ·rw [bK.1 hs]
   exact hy
 let F : Nat -> Env:=λq=>⟨[(42,.v (.int .i64 (q : Int))),(41,.v (.int .i64 ((2 : Nat) : Int))),(40,.v (.slice P 2 2))],[],[],λw=>Rd 1 zO P 2 ss w /\ ∀ s ∈ ss,s.rd w,λ_=>True⟩
 refine oM (e':=F 0) ⟨⟨rfl,rfl,rfl,trivial⟩,trivial,.refl _,λw h hM=>⟨by rw [hss]; exact h.1,by
  rw [hss]
  intro s hs
  rcases b7.1 hs with rfl | hs
  ·exact hM
  ·rw [bK.1 hs]
   exact h.2⟩,λ_ _=>trivial⟩ (oG (λq=>2 - q) F (λq=>q <= 2) ?_ 0 (bZ _))
 clear hss
 intro q hq
 refine bB aD rfl ?_;refine dJ λK9 hK9=>?_;refine jK ((q : Int) < ((2 : Nat) : Int)) rfl (λhq2=>?_) (λhq2=>?_)
 ·have hq2 : q < 2:=by omega
  obtain ⟨s,hs⟩ : ∃ s,ss[q]? = some s:=⟨_,aX (by omega)⟩;have hsm:=gK hs;have hs47:=hsl s hsm;refine eW (hK9 _ ?_);refine dJ λK10 hK10=>?_;refine fB ?_;refine bS aD rfl λK11 hK11=>?_;refine qQ aD rfl rfl rfl q rfl hs hs2.symm rfl (fX λ_ h _=>h.1) ?_;refine aR aD rfl ?_;refine bJ (hK11 _ ?_);have hp:=λA c=>Qp (A:=A) (c:=c) s.l (by omega);have rp:=λA c=>Jp (A:=A) (c:=c) s.l;have hul:=TB s.l;have hback:=Yj (l:=s.l);generalize hpU s.l = pu at *;generalize hpE s.l = pe at *;refine bS aD rfl λK12 hK12=>?_;refine JQ s.l rfl rfl rfl rfl rfl (fX λw h _=>h.2 s hsm) ?_;refine aR aD rfl ?_;refine bJ (hK12 _ ?_);refine bS aD rfl λK13 hK13=>?_;refine eM [.slice s.A s.l.length s.c] rfl rfl rfl JD rfl rfl (λ_ _=>rfl) (hp s.A s.c) (λ_ h _=>h.2 s hsm) λ⟨P1,d1⟩=>?_;refine aR aD rfl ?_;refine bJ (hK13 _ ?_);refine bS aD rfl λK14 hK14=>?_;refine eM [.slice s.A s.l.length s.c] rfl rfl rfl Fg rfl rfl (λ_ _=>rfl) (rp s.A s.c) (λ_ h _=>h.2.2 s hsm) λ⟨P2,d2⟩=>?_;refine aR aD rfl ?_;refine bJ (hK14 _ ?_);refine bS aD rfl λK15 hK15=>?_;refine tG 61 false rfl (by simp) ?_;refine aR aD rfl ?_;refine eM [.slice P1 pu.length d1,.slice P2 pu.length d2] rfl rfl rfl JA rfl rfl (λ_ _=>rfl) (ON pu) (λ_ h _=>⟨h.2.1,h.1⟩) λ_=>?_;refine aR aD rfl ?_;refine JQ s.l rfl rfl rfl rfl rfl (fX λw h _=>h.2.2.2.2 s hsm) ?_;refine aR aD rfl ?_;refine rR (.b (!decide (s.l = s.l))) trivial rfl rfl rfl (Ci rfl rfl rfl) ?_;refine aR aD rfl ?_;refine tG 73 false rfl (by simp) ?_;refine aR aD rfl ?_
  have hend : ∀ e,FW e ⟨[(83,.v (.bool false)),(42,.v (.int .i64 (q : Int))),(41,.v (.int .i64 ((2 : Nat) : Int))),(40,.v (.slice P 2 2))],[],[],λw=>Rd 1 zO P 2 ss w /\ ∀ s ∈ ss,s.rd w,λ_=>True⟩ -> kS b K15 85 e:=by
   intro e hw
   refine tI hw (hK15 _ ?_);refine E5 rfl ?_;refine eW (hK10 _ ?_);refine l7 aD rfl ?_;exact oK (q + 1) hq2 (by show 2 - (q + 1) < 2 - q; omega) ⟨⟨congrArg some (congrArg SV.v (congrArg (eG .i64) (mD rfl (by omega) (by omega)))),rfl,rfl,trivial⟩,trivial,.refl _,λ_ h _=>h,λ_ h=>h⟩
  by_cases h0 : pe = 0
  ·have hbS:=λA c=>CR (A:=A) (c:=c) pu hul
   rw [hback h0] at hbS;refine tG 76 true rfl (decide_eq_true (by omega)) ?_;refine aR aD rfl ?_;refine eM [.slice P1 pu.length d1] rfl rfl rfl xW rfl rfl (λ_ _=>rfl) (hbS P1 d1) (λ_ h _=>h.2.2.1) λgz=>?_;refine aR aD rfl ?_;refine JQ s.l rfl rfl rfl rfl rfl (fX λw _ hM=>hM.1) ?_;refine aR aD rfl ?_;refine rR (.b (!decide (s.l = s.l))) trivial rfl rfl rfl (Ci rfl rfl rfl) ?_;refine aR aD rfl ?_;refine tG 83 false rfl (by simp) ?_;exact bJ (hend _ ⟨⟨rfl,rfl,rfl,rfl,trivial⟩,trivial,.refl _,λ_ h _=>h.2.2.2.2,λ_ _=>trivial⟩)
  ·refine tG 76 false rfl (decide_eq_false (by omega)) ?_
   refine aR aD rfl ?_;exact bJ (hend _ ⟨⟨rfl,rfl,rfl,rfl,trivial⟩,trivial,.refl _,λ_ h _=>h.2.2.2,λ_ _=>trivial⟩)
 ·refine mT (fY (fY (qS ?_)))
  refine hK7 _ ?_;refine bB aD rfl ?_;exact eK (eR aD () rfl (by decide) rfl rfl rfl (λ_ _ _=>trivial) (λ_ _=>trivial))
end Go.Proofs.YtfkchihlchlfdaaGreatDoor
namespace Go.Proofs.YtfkchihlchlfdaaGreatDoor
open Go.ChangeShapes Go.WideShapes Go.ChangeAt Go.RowKit
theorem own : ownKnob Tryz.prog.godebug = none:=by kernel_rfl
theorem laidOut : laidOutB Tryz.prog = true:=by kernel_rfl
section
variable {H : Type} {enc : TypeId × Value -> H} {W W' : World}
theorem xB : ∀ {ts : List TypeId} {vs : List Value} {ds : List (DataW H)} {p : List MemPlace},(∀ t ∈ ts,Tryz.prog.readableRec t = true /\ t < Tryz.prog.types.size) ->
  DataW.TrodAll enc Tryz.prog W 0 (λ_=>true) true ts vs ds p -> Below W.heap.size W W' -> (∀ x ∈ p,x.block < W.heap.size) -> DataW.TrodAll enc Tryz.prog W' 0 (λb=>decide (b < W.heap.size)) true ts vs ds p
 | [],_,_,_,_,h,_,_=>by
  obtain ⟨rfl,rfl,rfl⟩:=trodAll_nil h;exact trodAll_mk0
 | t :: ts,_,_,_,hts,h,hb,hlt=>by
  obtain ⟨v,vs',d,ds',p,q,rfl,rfl,rfl,h0,h1⟩:=trodAll_cons h;obtain ⟨hr,hz⟩:=hts t (by simp);exact trodAll_cons_mk (Below.trod laidOut hr hz h0 hb (λx hx=>hlt x (by simp [hx]))) (xB (λu hu=>hts u (by simp [hu])) h1 hb (λx hx=>hlt x (by simp [hx])))
theorem P9 {f : Func} {s : ChangeSpec} {args : Array Value} {ds gs : List (DataW H)} {before : List MemPlace} (hf : f.resultTypes = #[4]) (hvars : s.vars = [])
  (hts : ∀ t ∈ f.params.toList,Tryz.prog.readableRec t = true /\ t < Tryz.prog.types.size)
  (hW : DataW.Whole enc Tryz.prog f.params.toList s.vars false W args.toList ds gs before) (hs : s.fn H (ds ++ gs) = { results:=[.lit (.bool true)],args:=ds }) (hb : Below W.heap.size W W') :
  s.post enc Tryz.prog f false true false false W args (.bool true) W':=by
 have hW':=hW;obtain ⟨p,q,hA,hV,rfl,_,_⟩:=hW;rw [hvars] at hV;obtain ⟨rfl,rfl⟩:=trodVars_none hV;have hlt : ∀ x ∈ p,x.block < W.heap.size:=λx hx=>hW'.lt x (by simp [hx]);refine ⟨ds,[],p ++ [],[],p,[],hW',?_,?_,?_,hb.frame _,λh=>by cases h⟩
 ·rw [hs,hf]
  exact trodAll_mk1 (shut_bool Tryz.underlying4 true)
 ·rw [hs]
  exact xB hts hA hb hlt
 ·rw [hs,hvars]
  rfl
end
theorem Kg : Tryz.prog.cellsOf 5 = 1:=by kernel_rfl
theorem LW : Tryz.prog.cellsOf 27 = 32:=by kernel_rfl
theorem JJ {l : List Value} {i : Nat} {v : Value} (h : (l.drop (i * 1)).take 1 = [v]) : l[i]? = some v:=by
 rw [Nat.mul_one] at h
 have h1 : ((l.drop i).take 1)[0]? = some v:=by rw [h]; rfl
 rw [List.getElem?_take,if_pos (by omega),List.getElem?_drop] at h1
 simpa using h1
theorem Yh {cs : List Value} (hl : cs.length = 32) (h : ∀ i,i < 32 -> ∃ n : Int,cs[i]? = some (.int .u8 n) /\ 0 <= n /\ n < 256) : ∃ l : List UInt8,l.length = 32 /\ cs = By l:=by
 refine ⟨cs.map λv=>match v with | .int _ n=>UInt8.ofNat n.toNat | _=>0,by simp [hl],?_⟩
 apply List.ext_getElem (by simp [By])
 intro i h1 h2
 obtain ⟨n,hn,h0,h3⟩:=h i (by omega)
 have e : cs[i] = .int .u8 n:=by
  have:=aX h1;rw [hn] at this;exact (fV this).symm
 simp only [By,List.getElem_map,e]
 congr 1
 rw [UInt8.toNat_ofNat']
 omega
end Go.Proofs.YtfkchihlchlfdaaGreatDoor
namespace Go.Proofs.YtfkchihlchlfdaaGreatDoor
open Go.RowKit Go.IntWalk
open Go.ChangeShapes Go.WideShapes Go.ChangeAt
theorem CS {H : Type} {enc : TypeId × Value -> H} {W : World} {held : Bool} {fuel : Nat} {cs : List Value} {x : DataW H × List MemPlace} (h : nB enc Tryz.prog W 0 (λ_=>true) held fuel 27 cs = some x) :
  ∃ l : List UInt8,l.length = 32 /\ cs = By l:=by
 obtain ⟨xs,m,rfl,_,hlen,hn,hel⟩:=DataW.trod_array Tryz.underlying27 h;rw [LW] at hlen
 exact Yh hlen (λi hi=>by
  have h0:=hel i hi;rw [Kg] at h0;obtain ⟨x,hx⟩ : ∃ x,xs[i]? = some x:=⟨xs[i]'(by omega),aX (by omega)⟩;rw [hx] at h0;obtain ⟨n,e1,_,hw⟩:=DataW.trod_int Tryz.underlying5 h0;have hb:=bounds_u8 hw
  exact ⟨n,JJ e1,by omega,by omega⟩)
theorem D4 {α : Type} (P : Nat -> α -> Prop) : ∀ n,(∀ i,i < n -> ∃ l,P i l) -> ∃ ks : List α,ks.length = n /\ ∀ i l,ks[i]? = some l -> P i l
 | 0,_=>⟨[],rfl,λi l h=>by simp at h⟩
 | n + 1,h=>by
  obtain ⟨ks,hl,hk⟩:=D4 P n λi hi=>h i (by omega);obtain ⟨l,hp⟩:=h n (by omega);refine ⟨ks ++ [l],by simp [hl],λi x hx=>?_⟩
  by_cases hi : i < ks.length
  ·rw [lM hi] at hx
   exact hk i x hx
  ·rw [iL (by omega)] at hx
   have h0 : i - ks.length = 0:=by
    by_cases e : i - ks.length = 0
    ·exact e
    ·rw [List.getElem?_eq_none (by simp; omega)] at hx
     cases hx
   rw [h0] at hx
   obtain rfl : l = x:=by simpa using hx
   obtain rfl : i = n:=by omega
   exact hp
theorem Td {α H : Type} {enc : TypeId × Value -> H} {W : World} {held : Bool} {fuel : Nat} {t e : TypeId} {k : Nat} {fe : α -> SQ} {cs : List Value} {x : DataW H × List MemPlace} (ht : Tryz.prog.underlying t = some (.slice e)) (hk : Tryz.prog.cellsOf e = k) (hk0 : 0 < k)
  (hel : ∀ n cs x,nB enc Tryz.prog W 0 (λ_=>true) held n e cs = some x -> ∃ a : α,cs = (fe a).cl /\ OkP (fe a).iN /\ (fe a).cl.length = k)
  (h : nB enc Tryz.prog W 0 (λ_=>true) held fuel t cs = some x) :
  ∃ (A : Option Addr) (l : List α) (c : Nat),cs = [.slice A l.length c] /\ Rd k fe A c l W:=by
 rcases DataW.trod_slice ht h with ⟨rfl,_⟩ | ⟨a,len,cap,elems,rest,n,rfl,rfl,rfl,_,hl,hm,hlen,hel2,_⟩
 ·exact ⟨none,[],0,rfl,Rd.nil _ _ _⟩
 ·rw [hk] at hel2
  obtain ⟨ks,hk1,hk2⟩:=D4 (λi (y : α)=>(OkP (fe y).iN /\ (fe y).cl.length = k) /\ W.cells? 0 (a.add (i * k)) k = some (fe y).cl) len λi hi=>by
   have h0:=hel2 i hi;rw [aX (by omega)] at h0
   cases hc : W.cells? 0 (a.add (i * k)) k with
   | none=>rw [hc] at h0; cases h0
   | some cs =>
    rw [hc] at h0;obtain ⟨y,rfl,h1⟩:=hel _ _ _ h0;exact ⟨y,h1,rfl⟩
  subst hk1;refine ⟨some a,ks,cap,rfl,hl,(by unfold maxLen at hm; omega),λe=>(by cases e),λy hy=>?_,λhpos=>?_⟩
  ·obtain ⟨i,hi,rfl⟩:=List.getElem_of_mem hy
   exact (hk2 i _ (aX hi)).1
  have hcell : ∀ i y,ks[i]? = some y -> ∀ j v,(fe y).cl[j]? = some v -> W.cell? (a.add (i * k + j)) = some v:=λi y hi j v hj=>by
   obtain ⟨⟨_,hkl⟩,hc⟩:=hk2 i y hi;obtain ⟨_,_,h3⟩:=World.cells?_some hc
   have hjk : j < k:=by
    have:=(dI.1 hj).1
    omega
   have:=h3 j hjk;rw [Addr.add_add,hj] at this;exact this
  have h00:=hk2 0 _ (aX hpos);have hb:=World.cells?_block h00.2 hk0;rw [Nat.zero_mul] at hb;obtain ⟨b,o,sp⟩:=a
  have hsp0 : sp = none:=by
   obtain ⟨v,hv⟩ : ∃ v,(fe ks[0]).cl[0]? = some v:=⟨_,aX (by rw [h00.1.2]; exact hk0)⟩;have:=hcell 0 _ (aX hpos) 0 v hv;rw [Nat.zero_mul,show (⟨b,o,sp⟩ : Addr).add (0 + 0) = ⟨b,o,sp⟩ from rfl,World.cell?] at this
   cases sp with
   | none=>rfl
   | some s =>
    exfalso
    dsimp only at this
    split at this
    ·simp at this
    ·cases this
  subst hsp0;refine ⟨b,o,rfl,hb,λi y hi j v hj=>?_⟩;have:=hcell i y hi j v hj;rw [Addr.add_mid] at this
  rwa [Nat.add_assoc,Nat.mul_comm k i]
end Go.Proofs.YtfkchihlchlfdaaGreatDoor
