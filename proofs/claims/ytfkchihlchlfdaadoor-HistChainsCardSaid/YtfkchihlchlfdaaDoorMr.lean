import Derived.Test.YtfkchihlchlfdaaDoorMp
open Go.Instr renaming field->Hu
open Go.Result renaming andThen_ok->aG
open Go.Sem renaming run_pure->aI,run_bind->aJ
open Go.Value renaming int->fD
open Nat renaming zero_le->dC
open UInt8 renaming ofNat->aX
namespace Go.Proofs.YtfkchihlchlfdaaDoor
open Go.RowKit Go.IntWalk Nums
theorem Mm {n : Nat} (h : n < 256) : IntKind.u8.wrap (n : Int) = ((aX n).toNat : Int):=by
 have h1 : (aX n).toNat = n:=by simp; omega
 rw [h1]
 show (n : Int) % 256 = n
 omega
theorem Qm (w : World) (cs : Array Value) (l : List UInt8) (h : cs.extract 0 (0 + 32) = (By l).toArray) : (Go.part 24 cs 0).run Tryd.prog w = .ok (.agg (By l).toArray) w:=by
 have hagg : (isAgg 24).run Tryd.prog w = .ok true w:=by
  unfold isAgg
  rw [aJ,run_underlying Tryd.underlying24 w]
  rfl
 have hsz : (sizeOf 24).run Tryd.prog w = .ok 32 w:=run_sizeOf (by kernel_rfl) w
 unfold Go.part
 simp only [aJ,hagg,aG,if_true,hsz,aI,h]
theorem FO {N : Nat} {E : SE} {o : Oper} {x : Operand} {u : UV} (hu : u.Ok) (ho : o.op = .field 27 x 0) (hx : evS E x = some (.q (eU u))) :
  ∀ (G : Nat -> Nat) (a : Act) (w : World),Fr N (fY G E) a -> (execOp a.eval o).run Tryd.prog w = .ok (.value ((SV.q (eY 32 u.id)).den G)) w:=λG a w ha=>by
 have h1 : a.eval x = .agg (eO u.parts):=ha.eval (eF hx)
 have hc : (eO u.parts).extract 0 (0 + 32) = (By u.id).toArray:=by
  have e : eO u.parts = (By u.id ++ (.int .i64 u.ver :: (By u.key ++ By u.sig))).toArray:=by
   apply Array.ext'
   rw [xX]
  rw [e]
  simp [b6,hu.id]
 have hp:=Qm w _ u.id hc
 have hr : (Hu 27 (.agg (eO u.parts)) 0).run Tryd.prog w = .ok (.agg (By u.id).toArray) w:=by
  unfold Hu
  simp only [aJ,run_underlying Tryd.underlying27,aG];exact hp
 unfold execOp
 simp only [ho,h1,aJ,hr,aG,aI]
 rfl
def mD (bb : UInt8) (j : Nat) : List (List UInt8):=(List.range j).map λi=>hB2 (aX (i + 1)) bb
theorem yR (bb : UInt8) (j : Nat) : (mD bb j).length = j:=by simp [mD]
theorem DI (bb : UInt8) (j : Nat) : mD bb (j + 1) = mD bb j ++ [hB2 (aX (j + 1)) bb]:=by simp [mD,List.range_succ]
theorem SX {l : List (List UInt8)} {u : UV} (h : jS u = true) (hv : u.ver = (l.length : Int) + 1) : nxE l u = 0 /\ nxK l u = l ++ [u.key]:=by
 have h1 : nxE l u = 0:=by unfold nxE; rw [if_pos h,if_pos hv]
 exact ⟨h1,by unfold nxK; rw [h1]; rfl⟩
theorem NJ {l : List (List UInt8)} {u : UV} : nxE l u = 0 ↔ (jS u = true /\ u.ver = (l.length : Int) + 1):=by
 unfold nxE
 split
 ·rename_i h
  split <;> simp_all
 ·rename_i h
  simp [h]
theorem Lw {l : List (List UInt8)} {u : UV} : nxE l u = 110 ↔ ¬ jS u = true:=by
 unfold nxE
 split
 ·rename_i h
  split <;> simp_all
 ·rename_i h
  simp [h]
set_option maxRecDepth 100000 in
set_option maxHeartbeats 4000000 in
theorem EK (n a b0 : Int) : Spec 4 [.int .i64 n,.int .i64 a,.int .i64 b0] [] Ta (one (.v (.bool true))):=by
 refine mN [.c (.v (.int .i64 n)),.c (.v (.int .i64 a)),.c (.v (.int .i64 b0))] 138 Tryd.func4 rfl (by rw [Tryd.ntmps4]; rfl) (EC trivial (sM trivial trivial)) λb=>?_;refine dZ aN rfl ?_;refine fO λK1 hK1=>?_;refine dV aN rfl λK2 hK2=>?_;refine dO [] rfl rfl rfl AD rfl rfl (λ_ _=>rfl) DM (λ_ h _=>h) λ_=>?_;refine a5 aN rfl ?_;refine cN (hK2 _ ?_);refine Eb rfl ?_;refine iK (hK1 _ ?_);obtain ⟨k0,hk0,_,hkw⟩:=C6 n 8 (by decide) (by decide);obtain ⟨m0,hm0,_,hmw⟩:=C6 a 70 (by decide) (by decide);obtain ⟨bb,hbb⟩:=O3 (z:=IntKind.u8.wrap b0) (by show 0 <= b0 % 256 /\ b0 % 256 < 256; omega);refine dV aN rfl λK3 hK3=>?_;refine oZ 7 ((k0 + 1 : Nat) : Int) rfl (by rw [show (IntKind.u64.wrap n).tmod 8 = (IntKind.u64.wrap n).tmod ((8 : Nat) : Int) from rfl,hkw]; exact pK (by omega) (by omega) (by omega)) ?_;refine cN (hK3 _ ?_);refine dZ aN rfl ?_;refine fO λK4 hK4=>?_;refine dZ aN rfl ?_;refine jZ ?_
 let F : Nat × KX -> Env:=λ⟨j,X,d⟩=>⟨[(9,.v (.int .i64 ((j + 1 : Nat) : Int))),(8,.v (.slice X (mD bb j).length d)),(7,.v (.int .i64 ((k0 + 1 : Nat) : Int))),(1,.v (.int .i64 a)),(2,.v (.int .i64 b0))],[],[],λw=>Ta w /\ Rd 32 (eY 32) X d (mD bb j) w,λ_=>True⟩
 refine xO (e':=F (0,none,0)) ⟨⟨rfl,rfl,rfl,rfl,rfl,trivial⟩,trivial,.refl _,λw h _=>⟨h.2,Rd.nil _ _ _⟩,λ_ _=>trivial⟩ (wZ (λx=>k0 + 1 - x.1) F (λx=>x.1 <= k0 + 1) ?_ (0,none,0) (dC _))
 rintro ⟨j,X,d⟩ hj
 dsimp only at hj
 have hll:=yR bb j;refine fO λK5 hK5=>?_;refine dZ aN rfl ?_;refine s9 (((j + 1 : Nat) : Int) <= ((k0 + 1 : Nat) : Int)) rfl (λhlt=>?_) (λhge=>?_)
 ·have hlt : j < k0 + 1:=by omega
  have hw8 : IntKind.u8.wrap ((j + 1 : Nat) : Int) = ((aX (j + 1)).toNat : Int):=Mm (by omega);refine iK (hK5 _ ?_);refine fO λK6 hK6=>?_;refine jZ ?_;refine fO λK7 hK7=>?_;refine dV aN rfl λK8 hK8=>?_;refine p9 aN 0 [IntKind.i64.wrap (((j + 1 : Nat) : Int) - 1),IntKind.i64.wrap (((j + 1 : Nat) : Int) + 1),IntKind.i64.wrap ((IntKind.u64.wrap a).tmod 70)] (fe:=eI) rfl rfl rfl rfl rfl (λ_=>rfl) rfl (by decide) (by decide) (UE _) (dC _) λP=>?_;refine rC 0 rfl ?_;refine a5 aN rfl ?_;refine cN (hK8 _ ?_);refine jZ ?_;generalize hws : [IntKind.i64.wrap (((j + 1 : Nat) : Int) - 1),IntKind.i64.wrap (((j + 1 : Nat) : Int) + 1),IntKind.i64.wrap ((IntKind.u64.wrap a).tmod 70)] = ws
  have hw3 : ws.length = 3:=by rw [<-hws]; rfl
  clear hws
  let F2 : Nat -> Env:=λq=>⟨[(42,.v (.int .i64 (q : Int))),(41,.v (.int .i64 ((3 : Nat) : Int))),(40,.v (.slice P 3 3)),(9,.v (.int .i64 ((j + 1 : Nat) : Int))),(8,.v (.slice X (mD bb j).length d)),(7,.v (.int .i64 ((k0 + 1 : Nat) : Int))),(1,.v (.int .i64 a)),(2,.v (.int .i64 b0))],[],[],λw=>Ta w /\ Rd 32 (eY 32) X d (mD bb j) w /\ Rd 1 eI P 3 ws w,λ_=>True⟩
  refine xO (e':=F2 0) ⟨⟨rfl,rfl,rfl,rfl,rfl,rfl,rfl,rfl,trivial⟩,trivial,.refl _,λw h _=>⟨h.2.1,h.2.2,h.1⟩,λ_ _=>trivial⟩ (wZ (λq=>3 - q) F2 (λq=>q <= 3) ?_ 0 (dC _))
  intro q hq
  refine dZ aN rfl ?_;refine fO λK9 hK9=>?_;refine s9 ((q : Int) < ((3 : Nat) : Int)) rfl (λhq3=>?_) (λhq3=>?_)
  ·have hq3 : q < 3:=by omega
   obtain ⟨w1,hw1⟩ : ∃ w1,ws[q]? = some w1:=⟨_,List.getElem?_eq_getElem (by omega)⟩;refine iK (hK9 _ ?_);refine fO λK10 hK10=>?_;refine jZ ?_;refine dV aN rfl λK11 hK11=>?_;refine xJ aN rfl rfl rfl q rfl hw1 hw3.symm rfl (lN λ_ h _=>h.2.2) ?_;refine a5 aN rfl ?_;refine cN (hK11 _ ?_);have hm:=yQ (seed:=hB 7) (key:=hB (aX (j + 1))) w1 rfl rfl;have hs : jS (mkH (hB 7) w1 (hB (aX (j + 1)))) = decide (1 <= w1 /\ w1 <= 64):=wY _ _ _;have hv : (mkH (hB 7) w1 (hB (aX (j + 1)))).ver = w1:=rfl;have hok : (mkH (hB 7) w1 (hB (aX (j + 1)))).Ok:=B6 _ _ rfl;generalize mkH (hB 7) w1 (hB (aX (j + 1))) = u at *
   have hz : nxE (mD bb j) u = 0 ↔ w1 = ((j + 1 : Nat) : Int):=by
    rw [NJ,hs,hv,hll]
    constructor
    ·exact λh=>by rw [h.2]; omega
    ·exact λh=>⟨decide_eq_true (by omega),by omega⟩
   have hnx:=vN (A:=X) (c:=d) (ks:=mD bb j) (u:=u) rfl rfl hok (by omega);generalize nxE (mD bb j) u = ee at *;generalize nxK (mD bb j) u = kk at *;refine dV aN rfl λK12 hK12=>?_;refine lE [(0,.v (.int .u8 7))] 32 (hB 7) rfl rfl rfl rfl rfl rfl rfl ?_;refine a5 aN rfl ?_;refine oZ 51 ((aX (j + 1)).toNat : Int) rfl hw8 ?_;refine lE [(0,.v (.int .u8 ((aX (j + 1)).toNat : Int)))] 32 (hB (aX (j + 1))) rfl rfl rfl rfl rfl rfl rfl ?_;refine dO [.agg (By (hB 7)).toArray,.int .i64 w1,.agg (By (hB (aX (j + 1)))).toArray] rfl rfl rfl rQ rfl rfl (λ_ _=>rfl) hm (λ_ h _=>h.1) λ_=>?_;refine dO [.slice X (mD bb j).length d,(eU u).den] rfl rfl rfl pG rfl rfl (λ_ _=>rfl) hnx (λ_ h _=>⟨h.2.1,h.2.2.1⟩) λ⟨X2,d2⟩=>?_;refine a5 aN rfl ?_;refine cN (hK12 _ ?_);refine dV aN rfl λK13 hK13=>?_;refine tE (.b (!(decide ((ee : Int) = 0) == decide (w1 = ((j + 1 : Nat) : Int))))) trivial rfl rfl rfl (Ef rfl rfl rfl (λ_=>rfl) (λ_=>rfl)) ?_
   refine qK 62 false rfl (by
    have : (decide ((ee : Int) = 0)) = decide (w1 = ((j + 1 : Nat) : Int)):=decide_eq_decide.2 (by rw [<-hz]; omega);rw [this]
    simp) ?_
   refine cN (hK13 _ ?_);refine Eb rfl ?_;refine iK (hK10 _ ?_);refine qO aN rfl ?_;exact xK (q + 1) hq3 (by show 3 - (q + 1) < 3 - q; omega) ⟨⟨congrArg some (congrArg SV.v (congrArg (fD .i64) (pK rfl (by omega) (by omega)))),rfl,rfl,rfl,rfl,rfl,rfl,rfl,trivial⟩,trivial,.refl _,λ_ h _=>h.2.2,λ_ h=>h.2.2⟩
  refine xA (mT (mT (Ca ?_)));refine hK7 _ ?_;refine SJ [9,8,7,1,2] [] rfl rfl ?_;have hm:=yQ (seed:=hB 7) (key:=hB2 (aX (j + 1)) bb) ((j + 1 : Nat) : Int) rfl rfl
  have hs : jS (mkH (hB 7) ((j + 1 : Nat) : Int) (hB2 (aX (j + 1)) bb)) = true:=by rw [wY]; exact decide_eq_true (by omega)
  have hv : (mkH (hB 7) ((j + 1 : Nat) : Int) (hB2 (aX (j + 1)) bb)).ver = ((j + 1 : Nat) : Int):=rfl;have hk : (mkH (hB 7) ((j + 1 : Nat) : Int) (hB2 (aX (j + 1)) bb)).key = hB2 (aX (j + 1)) bb:=rfl;have hok : (mkH (hB 7) ((j + 1 : Nat) : Int) (hB2 (aX (j + 1)) bb)).Ok:=B6 _ _ rfl;generalize mkH (hB 7) ((j + 1 : Nat) : Int) (hB2 (aX (j + 1)) bb) = u at *;have hm8:=yQ (seed:=hB 8) (key:=zH) 1 rfl rfl;have hok8 : (mkH (hB 8) 1 zH).Ok:=B6 _ _ rfl;generalize mkH (hB 8) 1 zH = u8 at *;refine dV aN rfl λK8 hK8=>?_;refine lE [(0,.v (.int .u8 7))] 32 (hB 7) rfl rfl rfl rfl rfl rfl rfl ?_;refine a5 aN rfl ?_;refine oZ 67 ((aX (j + 1)).toNat : Int) rfl hw8 ?_;refine oZ 69 (bb.toNat : Int) rfl hbb ?_;refine lE [(0,.v (.int .u8 ((aX (j + 1)).toNat : Int))),(1,.v (.int .u8 (bb.toNat : Int)))] 32 (hB2 (aX (j + 1)) bb) rfl rfl rfl rfl rfl rfl rfl ?_;refine dO [.agg (By (hB 7)).toArray,.int .i64 ((j + 1 : Nat) : Int),.agg (By (hB2 (aX (j + 1)) bb)).toArray] rfl rfl rfl rQ rfl rfl (λ_ _=>rfl) hm (λ_ h _=>h.1) λ_=>?_;refine a5 aN rfl ?_;refine cN (hK8 _ ?_);refine dZ aN rfl ?_;refine dV aN rfl λK9 hK9=>?_;refine lE [(0,.v (.int .u8 8))] 32 (hB 8) rfl rfl rfl rfl rfl rfl rfl ?_;refine a5 aN rfl ?_;refine dO [.agg (By (hB 8)).toArray,.int .i64 1,.agg (By zH).toArray] rfl rfl rfl rQ rfl rfl (λ_ _=>rfl) hm8 (λ_ h _=>h.2.1) λ_=>?_;refine tE (.q (eY 32 u8.id)) (mU hok8.id).1 rfl rfl rfl (FO hok8 rfl rfl) ?_;refine a5 aN rfl ?_;have hokx : (⟨u8.id,u.ver,u.key,u.sig⟩ : UV).Ok:=⟨hok8.id,hok.key,hok.sig⟩;refine cN (uB (e':=⟨[(9,.v (.int .i64 ((j + 1 : Nat) : Int))),(8,.v (.slice X (mD bb j).length d)),(7,.v (.int .i64 ((k0 + 1 : Nat) : Int))),(1,.v (.int .i64 a)),(2,.v (.int .i64 b0)),(14,.a 14 0),(15,.a 15 0)],[⟨15,none,27,(⟨u8.id,u.ver,u.key,u.sig⟩ : UV).parts⟩,⟨14,none,27,u.parts⟩],[],λw=>Ta w /\ Rd 32 (eY 32) X d (mD bb j) w,λ_=>True⟩) ⟨⟨rfl,rfl,rfl,rfl,rfl,rfl,rfl,trivial⟩,⟨rfl,rfl,rfl,rfl,trivial⟩,.refl _,λw h _=>⟨h.2.2.1,h.2.2.2.1⟩,λ_ _=>trivial⟩ (hK9 _ ?_));have hsx : jS ⟨u8.id,u.ver,u.key,u.sig⟩ = (decide (1 <= u.ver /\ u.ver <= 64) && kO u8.id u.sig (msg 1 (iI u.ver u.key))):=rfl;generalize hxe : (⟨u8.id,u.ver,u.key,u.sig⟩ : UV) = x at *;have hnx:=vN (A:=X) (c:=d) (ks:=mD bb j) (u:=x) rfl rfl hokx (by omega);have h110 : nxE (mD bb j) x = 110 ↔ ¬ jS x = true:=Lw;generalize nxE (mD bb j) x = ee at *;generalize nxK (mD bb j) x = kk at *;refine fO λK10 hK10=>?_;refine dV aN rfl λK11 hK11=>?_;refine dO [.slice X (mD bb j).length d,(eU x).den] rfl rfl rfl pG rfl rfl (λ_ _=>rfl) hnx (λ_ h _=>h) λ⟨X2,d2⟩=>?_
  refine a5 aN rfl ?_;refine cN (hK11 _ ?_)
  have hgo : ∀ e,Jh e ⟨[(9,.v (.int .i64 ((j + 1 : Nat) : Int))),(8,.v (.slice X (mD bb j).length d)),(7,.v (.int .i64 ((k0 + 1 : Nat) : Int))),(1,.v (.int .i64 a)),(2,.v (.int .i64 b0)),(14,.a 14 0)],[⟨14,none,27,u.parts⟩],[],λw=>Ta w /\ Rd 32 (eY 32) X d (mD bb j) w,λ_=>True⟩ -> kS b K10 138 e:=by
   intro e hw
   refine uB hw (hK10 _ ?_);obtain ⟨z1,z2⟩:=SX (l:=mD bb j) hs (by rw [hv,hll]; omega);rw [hk,<-DI] at z2;have hnl:=yR bb (j + 1);have hnx:=vN (A:=X) (c:=d) z1 z2 hok (by omega);have h9:=λA c=>uD (A:=A) (c:=c) (mD bb (j + 1));have h10:=λA c=>BD (A:=A) (c:=c) (mD bb (j + 1));have l9 : (rA (mD bb (j + 1))).length = 32:=oC _;generalize rA (mD bb (j + 1)) = va at *;refine dV aN rfl λK12 hK12=>?_;refine dO [.slice X (mD bb j).length d,(eU u).den] rfl rfl rfl pG rfl rfl (λ_ _=>rfl) hnx (λ_ h _=>h) λ⟨X3,d3⟩=>?_;refine a5 aN rfl ?_;refine cN (hK12 _ ?_);refine fO λK13 hK13=>?_;refine dV aN rfl λK14 hK14=>?_;refine qK 107 false rfl rfl ?_;refine a5 aN rfl ?_;refine qK 113 false rfl (by rw [hnl]; simp) ?_;refine a5 aN rfl ?_;refine dO [.slice X3 (mD bb (j + 1)).length d3] rfl rfl rfl pV rfl rfl (λ_ _=>rfl) (h9 X3 d3) (λ_ h _=>⟨h.2.1,h.1⟩) λ_=>?_;refine a5 aN rfl ?_;refine dO [.slice X3 (mD bb (j + 1)).length d3] rfl rfl rfl sP rfl rfl (λ_ _=>rfl) (h10 X3 d3) (λ_ h _=>h.2.1) λ_=>?_;refine a5 aN rfl ?_;refine tE (.b (!decide (va = va))) trivial rfl rfl rfl (yC rfl rfl rfl Tryd.underlying24 (by kernel_rfl) l9 l9) ?_;refine a5 aN rfl ?_;refine qK 119 false rfl (by simp) ?_;refine cN (hK14 _ ?_);refine Eb rfl ?_;refine iK (hK13 _ ?_);refine qO aN rfl ?_;refine hK6 _ ?_;refine qO aN rfl ?_;exact xK (j + 1,X3,d3) hlt (by show k0 + 1 - (j + 1) < k0 + 1 - j; omega) ⟨⟨congrArg some (congrArg SV.v (congrArg (fD .i64) (pK (by omega) (by omega) (by omega)))),rfl,rfl,rfl,rfl,trivial⟩,trivial,.refl _,λ_ h _=>⟨h.2.2.2.1,h.2.2.1⟩,λ_ _=>trivial⟩
  refine Ea 15 (by decide) (by kernel_rfl) (by kernel_rfl) λK12 hK12 G S w0 hst=>?_;refine gV aN hst rfl ?_
  by_cases h1 : ee = 110
  ·refine CT 86 false rfl (decide_eq_false (by omega)) ?_
   refine gV aN hst rfl ?_;refine uE hst ?_;refine cN (hK12 _ ?_);refine Eb rfl ?_;exact iK (hgo _ ⟨⟨rfl,rfl,rfl,rfl,rfl,rfl,trivial⟩,⟨rfl,rfl,trivial⟩,.refl _,λ_ h _=>h.2,λ_ _=>trivial⟩)
  have hsb : jS x = true:=Decidable.of_not_not λh=>h1 (h110.2 h)
  have hr : kO x.id x.sig (msg 1 (iI x.ver x.key)) = true:=by
   unfold jS at hsb
   exact (Bool.and_eq_true _ _ ▸ hsb).2
  refine CT 86 true rfl (decide_eq_true (by omega)) ?_;refine gV aN hst rfl ?_;refine qU (F':=λ_=>True) hst [.int .i64 x.ver,.agg (By x.key).toArray] rfl rfl rfl rfl Az rfl rfl (λ_=>rfl) (JR x.ver hokx.key) (λ_ _ _=>trivial) λy _=>?_;refine gV aN hst rfl ?_;have hos:=λA c=>Ep (A:=A) (c:=c) (b:=iI x.ver x.key) 1 hokx.id hokx.sig (by rw [sC hokx.key]; decide);rw [hr] at hos;refine qU (F':=λw=>Ta w /\ Rd 1 eB y.1 y.2 (iI x.ver x.key) w) hst [.agg (By x.id).toArray,.int .u8 1,.slice y.1 (iI x.ver x.key).length y.2,.agg (By x.sig).toArray] rfl rfl rfl rfl zS rfl rfl (λ_=>rfl) (hos y.1 y.2) (λw hw hx=>⟨hw.fact.2.1,Fu (hx 9 _ rfl (by kernel_rfl))⟩) λ_ _=>?_;refine gV aN hst rfl ?_;refine uE hst ?_;refine qK 98 false rfl rfl ?_;refine cN (hK12 _ ?_);refine Eb rfl ?_;exact iK (hgo _ ⟨⟨rfl,rfl,rfl,rfl,rfl,rfl,trivial⟩,⟨rfl,rfl,trivial⟩,.refl _,λ_ h _=>h.2,λ_ _=>trivial⟩)
 ·obtain rfl : j = k0 + 1:=by omega
  refine xA (mT (mT (Ca ?_)));refine hK4 _ ?_;refine dV aN rfl λK6 hK6=>?_;refine qK 125 true rfl (by rw [hll]; simp) ?_;refine a5 aN rfl ?_;refine oZ 128 (k0 : Int) rfl (pK (by omega) (by omega) (by omega)) ?_;refine xJ (x:=hB2 (aX (k0 + 1)) bb) aN rfl rfl rfl k0 rfl (by rw [DI,List.getElem?_append_right (by rw [yR]; exact Nat.le_refl _),yR,Nat.sub_self]; rfl) rfl rfl (lN λ_ h _=>h.2) ?_;refine a5 aN rfl ?_;refine oZ 132 ((aX (k0 + 1)).toNat : Int) rfl (Mm (by omega)) ?_;refine oZ 134 (bb.toNat : Int) rfl hbb ?_;refine lE [(0,.v (.int .u8 ((aX (k0 + 1)).toNat : Int))),(1,.v (.int .u8 (bb.toNat : Int)))] 32 (hB2 (aX (k0 + 1)) bb) rfl rfl rfl rfl rfl rfl rfl ?_;refine a5 aN rfl ?_;refine tE (.b (decide (hB2 (aX (k0 + 1)) bb = hB2 (aX (k0 + 1)) bb))) trivial rfl rfl rfl (Ei rfl rfl rfl Tryd.underlying24 (by kernel_rfl) rfl rfl) ?_;refine a5 aN rfl ?_;refine qK 6 true rfl (decide_eq_true rfl) ?_;refine cN (hK6 _ ?_);exact lU (mS aN () rfl (by decide) rfl rfl rfl (λ_ _ _=>trivial) (λ_ _=>trivial))
end Go.Proofs.YtfkchihlchlfdaaDoor
