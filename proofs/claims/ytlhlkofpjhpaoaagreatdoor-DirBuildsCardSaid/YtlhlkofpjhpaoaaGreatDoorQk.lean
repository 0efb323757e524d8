import Derived.Test.YtlhlkofpjhpaoaaGreatDoorQj
import Derived.Test.YtlhlkofpjhpaoaaGreatDoorQf
import Derived.Test.YtlhlkofpjhpaoaaGreatDoorQa
import Derived.Test.YtlhlkofpjhpaoaaGreatDoorQh
import Derived.Test.YtlhlkofpjhpaoaaGreatDoorQi
import Derived.Test.YtlhlkofpjhpaoaaGreatDoorQe
import Derived.Test.YtlhlkofpjhpaoaaGreatDoorQg
set_option maxHeartbeats 1000000
open Go.Value renaming int->cC
open Int renaming fdiv_eq_ediv_of_nonneg->qX,fdiv->qY
open List renaming replicate->aA,mem_singleton->aE,mem_cons->aJ,getElem?_eq_getElem->aP,size_toArray->aV,length_take->aY,append_assoc->a7,getElem?_eq_some_iff->bC,mem_map->bO,length_set->bR,map_set->dR,length_drop->eK,drop_zero->kH,getElem_mem->oM
open Nat renaming le_of_ble_eq_true->aD,le_refl->aH,zero_le->aQ,mod_eq_of_lt->aW,zero_add->aX,min_eq_left->cA,pow_succ->cG,mul_assoc->fN,pow_add->kB,pow_zero->kV,le_of_eq->mX,add_mul_div_left->o7,pow_pos->sX
open Option.some renaming injEq->aT
open Prod.mk renaming injEq->cP
open UInt8 renaming ofNat->bD,toNat_ofNat_of_lt'->kU
namespace Go.Proofs.YtlhlkofpjhpaoaaGreatDoor
open Go.RowKit Go.IntWalk Nums
def iml:List Nat:=[1718705420411056,234908883556509,2233514472574048,2117202627021982,765476049583133]
def imf:F:=fof (lv iml)
theorem eb_im:EB iml imf:=EB.mk5 (by omega) (by omega) (by omega) (by omega) (by omega) rfl
theorem imf_sq:imf*imf = -1:=by
 unfold imf
 rw [<-dM];have:fof (lv iml*lv iml)=fof (p-1):=iK (by decide +kernel);rw [this,n6 (by decide),fQ,show fof p=0 from iK (a:=p) (b:=0) (by decide)];generalize (1:F)=u
 grind only
theorem cand3(u v:F)(c:F)(hc:dU (u*(v*v*v)*(v*v*v)*v) (2^252-3)=c) :
  u*(v*v*v)*c*(u*(v*v*v)*c)*v=u*dU (u*(v*v*v)*(v*v*v)*v) pq:=by
 have e:pq=(2^252-3)+(2^252-3)+1:=by decide
 rw [e,dO,lG,hc];generalize hs:u*(v*v*v)*(v*v*v)*v=s;subst hs
 grind only
theorem quarter{u v y:F}(hu:u≠0)(h:v*y*y=u) :
  dU (u*(v*v*v)*(v*v*v)*v) pq=1\/dU (u*(v*v*v)*(v*v*v)*v) pq = -1:=by
 have hs:u*(v*v*v)*(v*v*v)*v=(v*v*v*v*y)*(v*v*v*v*y):=by
  rw [<-h]
  grind only
 have hne:v*v*v*v*y≠0:=by
  intro h0
  apply hu
  rw [<-h]
  by_cases hv:v=0
  ·rw [hv]
   grind only
  ·have hvv:=cL cX (cL cX (cL cX hv hv) hv) hv
   rcases zero_or cX h0 with h1|h1
   ·exact absurd h1 hvv
   ·rw [h1]
    grind only
 have h2:=qM hne;rw [<-vX,uE] at h2;rw [hs];generalize dU (v*v*v*v*y*(v*v*v*v*y)) pq=t at *
 have h3:t*t=1*1:=by
  rw [show dU t 2=t*t from by rw [dO,mR]] at h2;rw [h2]
  grind only
 exact rT cX h3
theorem root_none{u v X:F}(hX:u*(v*v*v)*dU (u*(v*v*v)*(v*v*v)*v) (2^252-3)=X)(h1:¬X*X*v=u)(h2:¬X*imf*(X*imf)*v=u)(y:F):v*y*y≠u:=by
 intro h
 have hc:=cand3 u v _ rfl;rw [hX] at hc
 have hu:u≠0:=by
  rintro rfl
  apply h1
  rw [hc]
  grind only
 rcases quarter hu h with h3|h3
 ·apply h1
  rw [hc,h3]
  grind only
 ·apply h2
  rw [h3] at hc;have hi:=imf_sq;generalize imf=i at *;clear h h1 h2 hX h3 hu
  grind only
theorem root_even{u v X:F}(h:X*X*v=u)(ho:¬X.val%2=1):v*X*X=u/\X.val%2=0:=by
 refine⟨?_,by omega⟩;rw [<-h]
 grind only
theorem root_odd{u v X:F}(h:X*X*v=u)(ho:X.val%2=1):v*(0-X)*(0-X)=u/\(0-X).val%2=0:=by
 have hne:X≠0:=by
  rintro rfl
  revert ho
  decide
 have e:0-X = -X:=by grind only
 refine⟨?_,?_⟩
 ·rw [<-h]
  grind only
 ·rw [e,n5 hne]
  omega
section
variable{F:World->Prop}[Pst F]{a b:List Nat}{x:Nums.F}
theorem own_squared:Own 170:=λ_ _=>by go_simp
theorem own_ones:Own 171:=λ_ _=>by go_simp
theorem own_eighth:Own 178:=λ_ _=>by go_simp
theorem own_is:Own 177:=λ_ _=>by go_simp
theorem own_inv3:Own 141:=λ_ _=>by go_simp
theorem own_root3:Own 146:=λ_ _=>by go_simp
omit [Pst F] in
theorem is_C{y:Nums.F}(ha:EB a x)(hb:EB b y):Ct F 177 [eE a,eE b] (one (.q (.c (.b (decide (x=y)))))):=⟨own_is,Spec.pure trivial λw _=>is_f ha hb w⟩
theorem mul_p{d e:Nat}(ha:EB a (dU x d))(hb:EB b (dU x e)):Ct F 142 [eE a,eE b] (elP (dU x (d+e))):=by
 rw [lG];exact mul_C ha hb
theorem _root_.Nums.EB.pow{r:List Nat}{d e:Nat}(h:EB r (dU x d))(he:d=e):EB r (dU x e):=he▸h
theorem sq_p{d:Nat}(ha:EB a (dU x d))(n:Nat)(hn:n<300):Ct F 170 [eE a,.c (.v (.int .i64 (n:Int)))] (elP (dU x (d*2^n))):=⟨own_squared,by
 refine spec_S [eE a,.c (.v (.int .i64 (n:Int)))] 13 Tryz.func170 rfl (by rw [Tryz.ntmps170];rfl) (two_ok (eE_p ha.len) trivial) λB=>?_;refine s_auto TY_ok rfl ?_;refine s_seq λK hK=>?_;refine s_auto TY_ok rfl ?_;refine s_block ?_
 let V:Nat×List Nat->Env:=λs=>⟨[(6,.v (.int .i64 (s.1:Int))),(5,.v (.int .i64 (n:Int))),(4,.a 4 0),(2,.a 2 0)],[⟨4,none,193,[.agg 5 (Us [0,0,0,0,0]).toArray]⟩,⟨2,none,193,[.agg 5 (Us s.2).toArray]⟩],[],F,λ_=>True⟩
 refine c_weak (e':=V (0,a)) ⟨⟨rfl,rfl,rfl,rfl,trivial⟩,⟨rfl,rfl,rfl,rfl,trivial⟩,.refl _,λ_ h _=>h,λ_ _=>trivial⟩ (s_loop (λs=>n-s.1) V (λs=>s.1<=n/\EB s.2 (dU x (d*2^s.1))) ?_ (0,a) ⟨aQ _,ha.pow (Nat.mul_one d).symm⟩)
 rintro⟨i,l⟩ ⟨hi,hl⟩
 dsimp only at hi hl
 refine s_auto TY_ok rfl ?_;refine s_seq λK1 hK1=>?_;refine s_ifD ((i:Int)<(n:Int)) rfl (λhlt=>?_) (λhge=>?_)
 ·refine s_skip (hK1 _ ?_)
  refine s_seq λK2 hK2=>?_;refine s_block (s_lit ?_);refine l_X (mul_p hl hl) (λ_=>rfl) rfl λ⟨r,v⟩=>?_;refine l_E rfl (hK2 _ ?_);refine s_autoE TY_ok rfl ?_;exact k_next (i+1,r) ⟨by show i+1<=n;omega,v.pow (by rw [<-Nat.mul_two,fN,<-cG])⟩ (by show n-(i+1)<n-i;omega) ⟨⟨congrArg (λx=>some (SV.v (.int .i64 x))) (addI i 1 (by omega)),rfl,rfl,rfl,trivial⟩,⟨rfl,rfl,rfl,rfl,trivial⟩,.refl _,λ_ h _=>h,λ_ h=>h⟩
 ·obtain rfl:i=n:=by omega
  refine s_exit (k_pass (k_pass (k_out (hK _ ?_))));refine s_auto TY_ok rfl (s_ret ?_)
  exact k_el l hl rfl (by decide) rfl⟩
theorem ones_C(ha:EB a x):Ct F 171 [eE a] (elP (dU x (2^250-1))):=⟨own_ones,by
 refine spec_S [eE a] 50 Tryz.func171 rfl (by rw [Tryz.ntmps171];rfl) (one_ok (eE_p ha.len)) λB=>?_
 have h:EB a (dU x 1):=by rw [mR];exact ha
 refine s_auto TY_ok rfl ?_;refine s_N 4 [(3,193)] (by kernel_rfl) λK hK G S w0 hst=>n_X hst (sq_p h 1 (by decide)) rfl λ⟨_,v⟩=>n_X hst (mul_p v h) rfl λ⟨_,h2⟩=>n_N hst rfl hK rfl ?_;refine s_N 4 [(4,193)] (by kernel_rfl) λK hK G S w0 hst=>n_X hst (sq_p h2 2 (by decide)) rfl λ⟨_,v⟩=>n_X hst (mul_p v h2) rfl λ⟨_,h4⟩=>n_N hst rfl hK rfl ?_;refine s_N 4 [(5,193)] (by kernel_rfl) λK hK G S w0 hst=>n_X hst (sq_p h4 1 (by decide)) rfl λ⟨_,v⟩=>n_X hst (mul_p v h) rfl λ⟨_,h5⟩=>n_N hst rfl hK rfl ?_;refine s_N 4 [(6,193)] (by kernel_rfl) λK hK G S w0 hst=>n_X hst (sq_p h5 5 (by decide)) rfl λ⟨_,v⟩=>n_X hst (mul_p v h5) rfl λ⟨_,h10⟩=>n_N hst rfl hK rfl ?_;refine s_N 4 [(7,193)] (by kernel_rfl) λK hK G S w0 hst=>n_X hst (sq_p h10 10 (by decide)) rfl λ⟨_,v⟩=>n_X hst (mul_p v h10) rfl λ⟨_,h20⟩=>n_N hst rfl hK rfl ?_;refine s_N 4 [(8,193)] (by kernel_rfl) λK hK G S w0 hst=>n_X hst (sq_p h20 20 (by decide)) rfl λ⟨_,v⟩=>n_X hst (mul_p v h20) rfl λ⟨_,h40⟩=>n_N hst rfl hK rfl ?_;refine s_N 4 [(9,193)] (by kernel_rfl) λK hK G S w0 hst=>n_X hst (sq_p h40 10 (by decide)) rfl λ⟨_,v⟩=>n_X hst (mul_p v h10) rfl λ⟨_,h50⟩=>n_N hst rfl hK rfl ?_;refine s_N 4 [(10,193)] (by kernel_rfl) λK hK G S w0 hst=>n_X hst (sq_p h50 50 (by decide)) rfl λ⟨_,v⟩=>n_X hst (mul_p v h50) rfl λ⟨_,h100⟩=>n_N hst rfl hK rfl ?_;refine s_N 7 [] (by kernel_rfl) λK hK G S w0 hst=>n_X hst (sq_p h100 100 (by decide)) rfl λ⟨_,v⟩=>n_X hst (mul_p v h100) rfl λ⟨_,v2⟩=>n_X hst (sq_p v2 50 (by decide)) rfl λ⟨_,v3⟩=>n_X hst (mul_p v3 h50) rfl λ⟨r,v4⟩=>n_N hst rfl hK rfl (s_ret ?_)
 exact k_el r (v4.pow (by decide +kernel)) rfl (by decide) rfl⟩
theorem eighth_C(ha:EB a x):Ct F 178 [eE a] (elP (dU x (2^252-3))):=⟨own_eighth,by
 refine spec_S [eE a] 8 Tryz.func178 rfl (by rw [Tryz.ntmps178];rfl) (one_ok (eE_p ha.len)) λB=>?_
 have h:EB a (dU x 1):=by rw [mR];exact ha
 refine s_auto TY_ok rfl ?_;refine s_N 5 [] (by kernel_rfl) λK hK G S w0 hst=>n_X hst (ones_C ha) rfl λ⟨_,v⟩=>n_X hst (sq_p v 2 (by decide)) rfl λ⟨_,v2⟩=>n_X hst (mul_p v2 h) rfl λ⟨r,v3⟩=>n_N hst rfl hK rfl (s_ret ?_)
 exact k_el r (v3.pow (by decide +kernel)) rfl (by decide) rfl⟩
theorem inv_C(ha:EB a x):Ct F 141 [eE a] (elP (fL x)):=⟨own_inv3,by
 refine spec_S [eE a] 19 Tryz.func141 rfl (by rw [Tryz.ntmps141];rfl) (one_ok (eE_p ha.len)) λB=>?_
 have h:EB a (dU x 1):=by rw [mR];exact ha
 refine s_auto TY_ok rfl ?_;refine s_reg λK hK=>l_X (mul_p h h) (λ_=>rfl) rfl λ⟨_,h2⟩=>l_N hK rfl ?_;refine s_N 6 [(4,193)] (by kernel_rfl) λK hK G S w0 hst=>n_X hst (sq_p h2 2 (by decide)) rfl λ⟨_,v⟩=>n_X hst (mul_p v h2) rfl λ⟨_,v2⟩=>n_X hst (mul_p v2 h) rfl λ⟨_,h11⟩=>n_N hst rfl hK rfl ?_;refine s_N 5 [] (by kernel_rfl) λK hK G S w0 hst=>n_X hst (ones_C ha) rfl λ⟨_,v⟩=>n_X hst (sq_p v 5 (by decide)) rfl λ⟨_,v2⟩=>n_X hst (mul_p v2 h11) rfl λ⟨r,v3⟩=>n_N hst rfl hK rfl (s_ret ?_)
 exact k_el r (v3.pow (by decide +kernel)) rfl (by decide) rfl⟩
end
abbrev tupP(x:Nums.F):Post {r:List Nat // EB r x}:={ ret:=λr=>.t [eE r.1,.c (.v (.bool true))] }
abbrev noP:Post Unit:=one (.t [eE zl,.c (.v (.bool false))])
structure RootR(u v:Nums.F) where
  r:List Nat
  ok:Bool
  h:(∃x,EB r x/\v≠0/\(v*x*x=u/\x.val%2=0)/\ok=true)\/((v=0\/∀x,v*x*x≠u)/\r=[0,0,0,0,0]/\ok=false)
abbrev rootP(u v:Nums.F):Post (RootR u v):={ ret:=λr=>.t [eE r.r,.c (.v (.bool r.ok))] }
theorem Ct.to{α β:Type}{F:World->Prop}{fn:FuncId}{qs:List SQ}{f:α->RV}{g:β->RV}(c:Ct F fn qs ({ ret:=f }:Post α))(h:∀x,∃y,f x=g y):Ct F fn qs ({ ret:=g }:Post β):=⟨c.own,λw S X h1 h2 h3=>(c.spec w S X h1 h2 h3).mono λ_ _ ⟨x,S',i1,i2,i3,i4,i5,_⟩=>by
 obtain⟨y,e⟩:=h x
 exact⟨y,S',by rw [i1];exact congrArg (λr:RV=>Ending.returned r.den) e,by show(g y).sv.Ok;rw [<-e];exact i2,i3,i4,i5,λ_ _=>trivial,λ_ _=>trivial⟩⟩
theorem root_C{a b:List Nat}{u v:Nums.F}(hA:EB a u)(hB:EB b v):Ct Tw 146 [eE a,eE b] (rootP u v):=⟨own_root3,by
 refine spec_S [eE a,eE b] 56 Tryz.func146 rfl (by rw [Tryz.ntmps146];rfl) (two_ok (eE_p hA.len) (eE_p hB.len)) λB=>?_;refine s_auto TY_ok rfl ?_;refine s_seq λK0 hK0=>?_;refine s_reg λK hK=>l_X (is_C hB eb_zero) (λ_=>rfl) rfl λ_=>l_N hK rfl ?_;refine s_ifD (v=0) rfl (λh0=>?_) (λh0=>s_skip (hK0 _ ?_))
 ·refine s_auto TY_ok rfl (s_ret ?_)
  exact k_ret TY_ok (⟨[0,0,0,0,0],false,.inr ⟨.inl h0,rfl,rfl⟩⟩:RootR u v) rfl (by decide) rfl rfl rfl (λ_ _ _=>trivial) λ_ _=>trivial
 refine s_N 5 [(6,193)] (by kernel_rfl) λK hK G S w0 hst=>n_X hst (mul_C hB hB) rfl λ⟨_,v1⟩=>n_X hst (mul_C v1 hB) rfl λ⟨_,v2⟩=>n_N hst rfl hK rfl ?_;refine s_N 12 [(7,193)] (by kernel_rfl) λK hK G S w0 hst=>n_X hst (mul_C hA v2) rfl λ⟨_,v3⟩=>n_X hst (mul_C hA v2) rfl λ⟨_,v4⟩=>n_X hst (mul_C v4 v2) rfl λ⟨_,v5⟩=>n_X hst (mul_C v5 hB) rfl λ⟨_,v6⟩=>n_X hst (eighth_C v6) rfl λ⟨_,v7⟩=>n_X hst (mul_C v3 v7) rfl λ⟨r,hr⟩=>n_N hst rfl hK rfl ?_;obtain⟨X,hX⟩:∃X,u*(v*v*v)*dU (u*(v*v*v)*(v*v*v)*v) (2^252-3)=X:=⟨_,rfl⟩;have hnone:=root_none hX;rw [hX] at hr;refine s_seq λK0 hK0=>?_;have go:∀(r:List Nat) (Y:Nums.F),EB r Y->(¬Y*Y*v=u->∀y,v*y*y≠u)->∀e,Weak e ⟨[(2,.a 2 0),(3,.a 3 0),(4,.a 4 0),(7,.a 7 0)],[⟨7,none,193,[.agg 5 (Us r).toArray]⟩,⟨4,none,193,[.agg 5 (Us [0,0,0,0,0]).toArray]⟩,⟨3,none,193,[.agg 5 (Us b).toArray]⟩,⟨2,none,193,[.agg 5 (Us a).toArray]⟩],[],Tw,λ_=>True⟩->kS B K0 56 e:=λr Y hr hn e he=>k_weak he (hK0 _ ?_)
 ·refine s_N 8 [] (by kernel_rfl) λK hK G S w0 hst=>n_X hst (mul_C hr hr) rfl λ⟨_,v1⟩=>n_X hst (mul_C v1 hB) rfl λ⟨_,v2⟩=>n_X hst (is_C v2 hA) rfl λ_=>n_N hst rfl hK rfl ?_
  by_cases h1:X*X*v=u
  ·refine s_if false (congrArg (λq=>some (SV.b (!q))) (decide_eq_true h1)) (λh=>by cases h) λ_=>s_skip ?_
   exact go r X hr (λh=>absurd h1 h) _ ⟨⟨rfl,rfl,rfl,rfl,trivial⟩,⟨rfl,rfl,rfl,rfl,rfl,rfl,rfl,rfl,trivial⟩,.refl _,λ_ h _=>h,λ_ h=>h⟩
  ·refine s_if true (congrArg (λq=>some (SV.b (!q))) (decide_eq_false h1)) (λ_=>s_lit ?_) λh=>by cases h
   refine l_auto2 rfl ?_;refine l_f (.p [.agg 5 (Us iml).toArray]) (eE_p (l:=iml) rfl) (λG S w C0 Q' _ _ hQ=>f_build [(0,.int .u64 1718705420411056),(1,.int .u64 234908883556509),(2,.int .u64 2233514472574048),(3,.int .u64 2117202627021982),(4,.int .u64 765476049583133)] (Us iml).toArray rfl rfl rfl rfl rfl (by kernel_rfl) hQ) rfl ?_;refine l_X (mul_C hr eb_im) (λ_=>rfl) rfl λ⟨r2,v3⟩=>l_E rfl ?_;exact go r2 _ v3 (λh=>hnone h1 h) _ ⟨⟨rfl,rfl,rfl,rfl,trivial⟩,⟨rfl,rfl,rfl,rfl,rfl,rfl,rfl,rfl,trivial⟩,.refl _,λ_ h _=>h,λ_ h=>h⟩
 refine s_seq λK1 hK1=>?_;refine s_N 8 [] (by kernel_rfl) λK hK G S w0 hst=>n_X hst (mul_C hr hr) rfl λ⟨_,v1⟩=>n_X hst (mul_C v1 hB) rfl λ⟨_,v2⟩=>n_X hst (is_C v2 hA) rfl λ_=>n_N hst rfl hK rfl ?_
 by_cases h1:Y*Y*v=u
 ·refine s_if false (congrArg (λq=>some (SV.b (!q))) (decide_eq_true h1)) (λh=>by cases h) λ_=>s_skip (hK1 _ ?_)
  refine s_seq λK2 hK2=>?_;refine s_reg λK hK=>l_X (odd_C hr) (λ_=>rfl) rfl λ_=>l_N hK rfl ?_;refine s_ifD (Y.val%2=1) rfl (λho=>s_lit ?_) (λho=>s_skip (hK2 _ ?_))
  ·refine l_X (sub_C eb_zero hr) (λ_=>rfl) rfl λ⟨r2,v3⟩=>l_E rfl (hK2 _ ?_)
   refine s_auto TY_ok rfl (s_ret ?_);exact k_ret TY_ok (⟨r2,true,.inl ⟨0-Y,v3,h0,root_odd h1 ho,rfl⟩⟩:RootR u v) rfl (by decide) rfl rfl rfl (λ_ _ _=>trivial) λ_ _=>trivial
  ·refine s_auto TY_ok rfl (s_ret ?_)
   exact k_ret TY_ok (⟨r,true,.inl ⟨Y,hr,h0,root_even h1 ho,rfl⟩⟩:RootR u v) rfl (by decide) rfl rfl rfl (λ_ _ _=>trivial) λ_ _=>trivial
 ·refine s_if true (congrArg (λq=>some (SV.b (!q))) (decide_eq_false h1)) (λ_=>?_) λh=>by cases h
  refine s_auto TY_ok rfl (s_ret ?_)
  exact k_ret TY_ok (⟨[0,0,0,0,0],false,.inr ⟨.inr (hn h1),rfl,rfl⟩⟩:RootR u v) rfl (by decide) rfl rfl rfl (λ_ _ _=>trivial) λ_ _=>trivial⟩
theorem newc_C{F:World->Prop}[Pst F]{b:List UInt8}{x:Nums.F}(hb:b.length=32)(hg:isGood b=true)(hx:fof (le b%57896044618658097711785492504343953926634992332820282019728792003956564819968)=x):Ct F 136 [eY 32 b] (tupP x):=new_W hb (λ_ r hr=>⟨⟨r,hx▸hr⟩,rfl⟩) λh=>by
 rw [hg] at h
 cases h
theorem neg_mul1{n:Nat}[NeZero n](t z:Fin n):(0-t)*z=0-t*z:=by grind only
theorem neg_mul2{n:Nat}[NeZero n](x y:Fin n):(0-x)*y=0-x*y:=neg_mul1 x y
theorem _root_.Nums.Ed.Rep.xB{n:Nat}[NeZero n]{X Y Z:Fin n}{P:Ed.Pt n}(r:Ed.Rep X Y Z P):Ed.Rep (0-X) Y Z (Ed.neg P):=by
 have h:=r.neg
 have e : -X=0-X:=by grind only
 rwa [e] at h
section
variable{F:World->Prop}[Pst F]
theorem at_C{X Y:List Nat}{x y:Nums.F}(hX:EB X x)(hY:EB Y y)(hon:Ed.On dd ⟨x,y⟩):Ct F 137 [eE X,eE Y] (ptP (QB · ⟨x,y⟩)):=⟨own_at,by
 refine spec_S [eE X,eE Y] 12 Tryz.func137 rfl (by rw [Tryz.ntmps137];rfl) (two_ok (eE_p hX.len) (eE_p hY.len)) λb=>?_;refine s_auto TY_ok rfl ?_;refine s_N 7 [] (by kernel_rfl) λK hK G S w0 hst=>?_;refine n_X hst small1_C rfl λ⟨r,v⟩=>?_;refine n_X hst (mul_C hX hY) rfl λ⟨s,u⟩=>?_;refine n_N hst rfl hK rfl (s_ret ?_)
 exact k_pt ⟨X,Y,r,s⟩ (QB.of hX hY v u (Ed.Rep.one cX x y) (by grind only) hon) rfl (by decide) rfl⟩
theorem factor_C:Ct F 148 [] (elP dd):=⟨own_factor,by
 refine spec_S [] 9 Tryz.func148 rfl (by rw [Tryz.ntmps148];rfl) no_ok λb=>?_;refine s_auto TY_ok rfl ?_;refine s_reg λK hK=>?_;refine l_buildC 32 facB rfl rfl rfl rfl (by kernel_rfl) (by kernel_rfl) rfl ?_;refine l_X (newc_C rfl good_fac le_fac) (λ_=>rfl) rfl λ⟨r,v⟩=>?_;refine l_N hK rfl ?_;refine s_auto TY_ok rfl (s_ret ?_)
 exact k_el r v rfl (by decide) rfl⟩
theorem own_cbase5:Own 103:=λ_ _=>by go_simp
theorem base_C:Ct F 103 [] (ptP (QB · base)):=⟨own_cbase5,by
 refine spec_S [] 18 Tryz.func103 rfl (by rw [Tryz.ntmps103];rfl) no_ok λb=>?_;refine s_auto TY_ok rfl ?_;refine s_reg λK hK=>?_;refine l_buildC 32 bxB rfl rfl rfl rfl (by kernel_rfl) (by kernel_rfl) rfl ?_;refine l_X (newc_C rfl good_bx le_bx) (λ_=>rfl) rfl λ⟨r,v⟩=>?_;refine l_N hK rfl ?_;refine s_reg λK hK=>?_;refine l_buildC 32 byB rfl rfl rfl rfl (by kernel_rfl) (by kernel_rfl) rfl ?_;refine l_X (newc_C rfl good_by le_by) (λ_=>rfl) rfl λ⟨s,u⟩=>?_;refine l_N hK rfl ?_;refine s_reg λK hK=>?_;refine l_X (at_C v u fO) (λ_=>rfl) rfl λ⟨P,hP⟩=>?_;refine l_N hK rfl (s_ret ?_)
 exact k_pt P hP rfl (by decide) rfl⟩
theorem cat_pt(P:PtV):catP P.ps=(Us P.l).toArray:=by
 have h:=den_pt P
 injection h
theorem whole_C{P:PtV}{A:Ed.Pt p}(h:PB P.l A)(hP:P.Ok):Ct F 140 [ePt P] (ptP (QB · A)):=⟨own_pwhole,by
 refine spec_S [ePt P] 10 Tryz.func140 rfl (by rw [Tryz.ntmps140];rfl) (one_ok hP.ps) λb=>?_;have hq:=cat_pt P;refine s_auto TY_ok rfl ?_;refine s_seq λK0 hK0=>?_;refine s_reg λK hK=>?_;refine l_autoS TY_ok rfl ?_
 rcases h with⟨h,rfl⟩|h
 ·refine l_f (.v (.bool true)) trivial (λG S w C0 Q' _ _ hQ=>f_eq (catP P.ps) (Us pz).toArray rfl rfl rfl rfl rfl rfl (by kernel_rfl) (by rw [hq,h];exact eq_pz) hQ) rfl ?_
  refine l_N hK rfl ?_;refine s_yes rfl ?_;refine s_reg λK2 hK2=>?_;refine l_X small1_C (λ_=>rfl) rfl λ⟨r,v⟩=>?_;refine l_X (at_C eb_zero v Ed.jR) (λ_=>rfl) rfl λ⟨P,hP⟩=>?_;refine l_N hK2 rfl (s_ret ?_);exact k_pt P hP rfl (by decide) rfl
 ·refine l_f (.v (.bool false)) trivial (λG S w C0 Q' _ _ hQ=>f_eq (catP P.ps) (Us pz).toArray rfl rfl rfl rfl rfl rfl (by kernel_rfl) (by rw [hq];exact ne_pz h) hQ) rfl ?_
  refine l_N hK rfl ?_;refine s_no rfl (s_skip (hK0 _ ?_));refine s_auto TY_ok rfl (s_ret ?_)
  exact k_pt P ⟨h,hP⟩ rfl (by decide) rfl⟩
end
theorem addend_C{P:PtV}{A:Ed.Pt p}(h:PB P.l A)(hP:P.Ok):Ct Tw 169 [ePt P] (ptP (AB · A)):=⟨own_addend,by
 refine spec_S [ePt P] 28 Tryz.func169 rfl (by rw [Tryz.ntmps169];rfl) (one_ok hP.ps) λb=>?_;refine s_auto TY_ok rfl ?_;refine s_reg λK hK=>?_;refine l_X (whole_C h hP) (λ_=>rfl) rfl λ⟨P,h,hP⟩=>?_;refine l_N hK rfl ?_;obtain⟨x,y,z,t,hX,hY,hZ,hT,hR,ht⟩:=h.nums hP;refine s_N 23 [] (by kernel_rfl) λK hK G S w0 hst=>?_;refine n_X hst (add_C hY hX) rfl λ⟨r1,v1⟩=>?_;refine n_X hst (sub_C hY hX) rfl λ⟨r2,v2⟩=>?_;refine n_X hst (add_C hZ hZ) rfl λ⟨r3,v3⟩=>?_;refine n_X hst (add_C hT hT) rfl λ⟨r4,v4⟩=>?_;refine n_X hst factor_C rfl λ⟨r5,v5⟩=>?_;refine n_X hst (mul_C v4 v5) rfl λ⟨r6,v6⟩=>?_;refine n_N hst rfl hK rfl (s_ret ?_)
 exact k_pt ⟨r1,r2,r3,r6⟩ ⟨⟨⟨_,_,_,_,x,y,z,t,rfl,v1,v2,v3,v6,hR,ht⟩,h.on⟩,ptv_ok v1 v2 v3 v6⟩ rfl (by decide) rfl⟩
theorem plus_C{P Q:PtV}{A B:Ed.Pt p}(h:PB P.l A)(hP:P.Ok)(h':AB Q.l B)(hQ:Q.Ok):Ct Tw 167 [ePt P,ePt Q] (ptP (QB · (Ed.add dd A B))):=⟨own_plus,by
 refine spec_S [ePt P,ePt Q] 66 Tryz.func167 rfl (by rw [Tryz.ntmps167];rfl) (two_ok hP.ps hQ.ps) λb=>?_;obtain⟨x',y',z',t',hX',hY',hZ',hT',hR',ht'⟩:=h'.nums hQ;refine s_auto TY_ok rfl ?_;refine s_reg λK hK=>?_;refine l_X (whole_C h hP) (λ_=>rfl) rfl λ⟨P,h,hP⟩=>?_;refine l_N hK rfl ?_;obtain⟨x,y,z,t,hX,hY,hZ,hT,hR,ht⟩:=h.nums hP;refine s_N 16 [(5,193),(6,193)] (by kernel_rfl) λK hK G S w0 hst=>?_;refine n_X hst (sub_C hY hX) rfl λ⟨r,v⟩=>?_;refine n_X hst (mul_C v hY') rfl λ⟨r1,v1⟩=>?_;refine n_X hst (add_C hY hX) rfl λ⟨r,v⟩=>?_;refine n_X hst (mul_C v hX') rfl λ⟨r2,v2⟩=>?_;refine n_N hst rfl hK rfl ?_;refine s_N 10 [(7,193),(8,193)] (by kernel_rfl) λK hK G S w0 hst=>?_;refine n_X hst (mul_C hZ hZ') rfl λ⟨r3,v3⟩=>?_;refine n_X hst (mul_C hT hT') rfl λ⟨r4,v4⟩=>?_;refine n_N hst rfl hK rfl ?_;refine s_N 12 [(9,193),(10,193),(11,193),(12,193)] (by kernel_rfl) λK hK G S w0 hst=>?_;refine n_X hst (sub_C v2 v1) rfl λ⟨e,ve⟩=>?_;refine n_X hst (sub_C v3 v4) rfl λ⟨f,vf⟩=>?_;refine n_X hst (add_C v3 v4) rfl λ⟨g,vg⟩=>?_;refine n_X hst (add_C v2 v1) rfl λ⟨i,vi⟩=>?_;refine n_N hst rfl hK rfl ?_;refine s_N 13 [] (by kernel_rfl) λK hK G S w0 hst=>?_;refine n_X hst (mul_C ve vf) rfl λ⟨r5,v5⟩=>?_;refine n_X hst (mul_C vg vi) rfl λ⟨r6,v6⟩=>?_;refine n_X hst (mul_C vf vg) rfl λ⟨r7,v7⟩=>?_;refine n_X hst (mul_C ve vi) rfl λ⟨r8,v8⟩=>?_;refine n_N hst rfl hK rfl (s_ret ?_);have hE:=Ed.Rep.plus good h.on h'.on hR ht hR' ht' rfl rfl rfl rfl rfl rfl rfl rfl
 exact k_pt ⟨r5,r6,r7,r8⟩ (QB.of v5 v6 v7 v8 hE.1 hE.2 (Ed.jE good h.on h'.on)) rfl (by decide) rfl⟩
theorem own_neg:Own 110:=λ_ _=>by go_simp
theorem neg_C{P:PtV}{A:Ed.Pt p}(h:PB P.l A)(hP:P.Ok):Ct Tw 110 [ePt P] (ptP (QB · (Ed.neg A))):=⟨own_neg,by
 refine spec_S [ePt P] 18 Tryz.func110 rfl (by rw [Tryz.ntmps110];rfl) (one_ok hP.ps) λb=>?_;refine s_auto TY_ok rfl ?_;refine s_reg λK hK=>?_;refine l_X (whole_C h hP) (λ_=>rfl) rfl λ⟨P,h,hP⟩=>?_;refine l_N hK rfl ?_;obtain⟨x,y,z,t,hX,hY,hZ,hT,hR,ht⟩:=h.nums hP;refine s_N 13 [] (by kernel_rfl) λK hK G S w0 hst=>?_;refine n_X hst (sub_C eb_zero hX) rfl λ⟨r,v⟩=>?_;refine n_X hst (sub_C eb_zero hT) rfl λ⟨s,u⟩=>?_;refine n_N hst rfl hK rfl (s_ret ?_)
 exact k_pt ⟨r,P.Y,P.Z,s⟩ (QB.of v hY hZ u (Ed.Rep.xB hR) (by rw [neg_mul1,neg_mul2,ht]) (Ed.kL h.on)) rfl (by decide) rfl⟩
theorem dbl_pow{A:Ed.Pt p}(hon:Ed.On dd A){i:Nat}:Ed.mul dd (2^(i+1)) A=Ed.add dd (Ed.mul dd (2^i) A) (Ed.mul dd (2^i) A):=by
 rw [cG,Nat.mul_two,Ed.mul_add good hon]
def DC(n:Nat)(A:Ed.Pt p)(i:Nat)(P:PtV):Prop:=∃x y z t,EB P.X x/\EB P.Y y/\EB P.Z z/\EB P.T t/\Ed.Rep x y z (Ed.mul dd (2^i) A)/\(i=0\/i=n->t*z=x*y)
theorem doubled_C{P:PtV}{A:Ed.Pt p}(h:PB P.l A)(hP:P.Ok)(n:Nat)(hn:n<4294967296):Ct Tw 150 [ePt P,.c (.v (.int .i64 (n:Int)))] (ptP (PB · (Ed.mul dd (2^n) A))):=⟨own_doubled,by
 refine spec_S [ePt P,.c (.v (.int .i64 (n:Int)))] 76 Tryz.func150 rfl (by rw [Tryz.ntmps150];rfl) (two_ok hP.ps trivial) λb=>?_;have hq:=cat_pt P;refine s_auto TY_ok rfl ?_;refine s_seq λK0 hK0=>?_;refine s_reg λK hK=>?_;refine l_autoS TY_ok rfl ?_
 rcases h with⟨h,rfl⟩|h
 ·refine l_f (.v (.bool true)) trivial (λG S w C0 Q' _ _ hQ=>f_eq (catP P.ps) (Us pz).toArray rfl rfl rfl rfl rfl rfl (by kernel_rfl) (by rw [hq,h];exact eq_pz) hQ) rfl ?_
  refine l_N hK rfl ?_;refine s_yes rfl ?_;refine s_auto TY_ok rfl (s_ret ?_);exact k_pt P ⟨.inl ⟨h,Ed.mul_zero good _⟩,hP⟩ rfl (by decide) rfl
 ·refine l_f (.v (.bool false)) trivial (λG S w C0 Q' _ _ hQ=>f_eq (catP P.ps) (Us pz).toArray rfl rfl rfl rfl rfl rfl (by kernel_rfl) (by rw [hq];exact ne_pz h) hQ) rfl ?_
  refine l_N hK rfl ?_;refine s_no rfl (s_skip (hK0 _ ?_));refine s_seq λK hK=>?_;refine s_auto TY_ok rfl ?_;refine s_block ?_
  let F:Nat×PtV->Env:=λs=>⟨[(19,.v (.int .i64 (s.1:Int))),(18,.v (.int .i64 (n:Int))),(1,.v (.int .i64 (n:Int))),(4,.a 4 0),(2,.a 2 0)],[⟨4,none,195,(⟨zl,zl,zl,zl⟩:PtV).ps⟩,⟨2,none,195,s.2.ps⟩],[],Tw,λ_=>True⟩
  obtain⟨x,y,z,t,hX,hY,hZ,hT,hR,ht⟩:=h.nums hP;have hon:=h.on;refine c_weak (e':=F (0,P)) ⟨⟨rfl,rfl,rfl,rfl,rfl,trivial⟩,⟨rfl,rfl,rfl,rfl,trivial⟩,.refl _,λ_ h _=>h,λ_ _=>trivial⟩ (s_loop (λs=>n-s.1) F (λs=>s.1<=n/\DC n A s.1 s.2/\s.2.Ok) ?_ (0,P) ⟨aQ _,⟨x,y,z,t,hX,hY,hZ,hT,by rw [kV,Ed.qJ good];exact hR,λ_=>ht⟩,hP⟩);clear hX hY hZ hT hR ht h hP hq P
  rintro⟨i,P⟩ ⟨hi,hD,hP⟩
  dsimp only at hi hD hP
  refine s_auto TY_ok rfl ?_;refine s_seq λK1 hK1=>?_;refine s_ifD ((i:Int)<(n:Int)) rfl (λhlt=>?_) (λhge=>?_)
  ·refine s_skip (hK1 _ ?_)
   refine s_seq λK2 hK2=>?_;refine s_block ?_;refine s_auto TY_ok rfl ?_;obtain⟨x,y,z,t,hX,hY,hZ,hT,hR,ht⟩:=hD;refine s_N 20 [(6,193),(7,193),(8,193),(9,193)] (by kernel_rfl) λK hK G S w0 hst=>?_;refine n_X hst (mul_C hX hX) rfl λ⟨r1,v1⟩=>?_;refine n_X hst (mul_C hY hY) rfl λ⟨r2,v2⟩=>?_;refine n_X hst (mul_C hZ hZ) rfl λ⟨r3,v3⟩=>?_;refine n_X hst (mul_C hX hY) rfl λ⟨r4,v4⟩=>?_;refine n_N hst rfl hK rfl ?_;refine s_N 9 [(10,193),(11,193),(12,193)] (by kernel_rfl) λK hK G S w0 hst=>?_;refine n_X hst (add_C v4 v4) rfl λ⟨e,ve⟩=>?_;refine n_X hst (sub_C v2 v1) rfl λ⟨g,vg⟩=>?_;refine n_X hst (add_C v2 v1) rfl λ⟨j,vj⟩=>?_;refine n_N hst rfl hK rfl ?_;refine s_N 5 [(13,193)] (by kernel_rfl) λK hK G S w0 hst=>?_;refine n_X hst (add_C v3 v3) rfl λ⟨f0,vf0⟩=>?_;refine n_X hst (sub_C vf0 vg) rfl λ⟨f,vf⟩=>?_;refine n_N hst rfl hK rfl ?_;refine s_N 10 [] (by kernel_rfl) λK hK G S w0 hst=>?_;refine n_X hst (mul_C ve vf) rfl λ⟨r5,v5⟩=>?_;refine n_X hst (mul_C vg vj) rfl λ⟨r6,v6⟩=>?_;refine n_X hst (mul_C vf vg) rfl λ⟨r7,v7⟩=>?_;refine n_N hst rfl hK rfl ?_;have hE:=Ed.Rep.dbl good (Ed.fB good hon (2^i)) hR rfl rfl rfl rfl rfl rfl rfl rfl;rw [<-dbl_pow hon] at hE;have hw:IntKind.i64.wrap ((n:Int)-1)=(n:Int)-1:=wrapI rfl (by omega) (by omega);refine s_auto TY_ok rfl ?_;refine s_ifD ((i:Int)=IntKind.i64.wrap ((n:Int)-1)) rfl (λhl=>?_) (λhl=>?_)
   ·refine s_lit ?_
    refine l_X (mul_C ve vj) (λ_=>rfl) rfl λ⟨r8,v8⟩=>?_;refine l_autoS TY_ok rfl (s_end (hK2 _ ?_));refine s_autoE TY_ok rfl ?_;exact k_next (i+1,⟨r5,r6,r7,r8⟩) ⟨by show i+1<=n;omega,⟨_,_,_,_,v5,v6,v7,v8,hE.1,λ_=>hE.2⟩,ptv_ok v5 v6 v7 v8⟩ (by show n-(i+1)<n-i;omega) ⟨⟨congrArg some (congrArg SV.v (congrArg (cC .i64) (wrapI rfl (by omega) (by omega)))),rfl,rfl,rfl,rfl,trivial⟩,⟨rfl,rfl,rfl,rfl,trivial⟩,.refl _,λ_ h _=>h,λ_ h=>h⟩
   ·refine s_skip (hK2 _ ?_)
    refine s_autoE TY_ok rfl ?_;exact k_next (i+1,⟨r5,r6,r7,zl⟩) ⟨by show i+1<=n;omega,⟨_,_,_,0,v5,v6,v7,eb_zero,hE.1,λh=>by rw [hw] at hl;omega⟩,ptv_ok v5 v6 v7 eb_zero⟩ (by show n-(i+1)<n-i;omega) ⟨⟨congrArg some (congrArg SV.v (congrArg (cC .i64) (wrapI rfl (by omega) (by omega)))),rfl,rfl,rfl,rfl,trivial⟩,⟨rfl,rfl,rfl,rfl,trivial⟩,.refl _,λ_ h _=>h,λ_ h=>h⟩
  ·obtain rfl:i=n:=by omega
   refine s_exit (k_pass (k_pass (k_out (hK _ ?_))));obtain⟨x,y,z,t,hX,hY,hZ,hT,hR,ht⟩:=hD;refine s_auto TY_ok rfl (s_ret ?_)
   exact k_pt P ((QB.of hX hY hZ hT hR (ht (.inr rfl)) (Ed.fB good hon _)).imp_left .inr) rfl (by decide) rfl⟩
theorem PB.yz{l:List Nat}{A:Ed.Pt p}(h:PB l A):∃X Y Z T x y z t,l=pc X Y Z T/\EB X x/\EB Y y/\EB Z z/\EB T t/\(y=z↔A=Ed.zero):=by
 rcases h with⟨rfl,rfl⟩|⟨⟨X,Y,Z,T,x,y,z,t,rfl,hX,hY,hZ,hT,hR,_⟩,hon⟩
 ·exact⟨zl,zl,zl,zl,0,0,0,0,rfl,eb_zero,eb_zero,eb_zero,eb_zero,by simp⟩
 ·exact⟨X,Y,Z,T,x,y,z,t,rfl,hX,hY,hZ,hT,hR.wI good hon⟩
theorem on_vxx{x y:F}:Ed.On dd ⟨x,y⟩↔(y*y*dd+1)*x*x=y*y-1:=by
 show y*y-x*x=1+dd*x*x*y*y↔_
 constructor<;>intro h<;>grind only
theorem dec_y{b:List UInt8}{A:Ed.Pt p}{y:F}{s:Nat}(hle:le b=y.val+57896044618658097711785492504343953926634992332820282019728792003956564819968*s)(h:dX A=b):A.y=y/\A.x.val%2=s:=by
 rw [<-h,kN] at hle
 unfold mU at hle
 have h1:=y.isLt;have h2:=A.y.isLt;have h3:=tW;exact⟨Fin.ext (by omega),by omega⟩
theorem dec_enc{b:List UInt8}(hb:b.length=32){x y:F}{s:Nat}(hle:le b=y.val+57896044618658097711785492504343953926634992332820282019728792003956564819968*s)(hs:x.val%2=s):dX ⟨x,y⟩=b:=by
 apply mA (by rw [jF,hb])
 rw [kN,hle]
 unfold mU
 rw [hs]
theorem bit7(m:Nat)(h:m<128):bits .or .u8 (m:Int) 128=((m+128:Nat):Int):=by
 have key:∀m:Nat,m<128->bits .or .u8 (m:Int) 128=((m+128:Nat):Int)   := by decide +kernel
 exact key m h
theorem low7(m:Nat)(h:m<256):bits .and .u8 (m:Int) 127=((m%128:Nat):Int):=by
 have key:∀m:Nat,m<256->bits .and .u8 (m:Int) 127=((m%128:Nat):Int)   := by decide +kernel
 exact key m h
theorem croot_C{a b:List Nat}{y:F}(hA:EB a (y*y-1))(hB:EB b (y*y*dd+1)) :
  ((∃x,x.val%2=0/\Ed.On dd ⟨x,y⟩/\Ct Tw 146 [eE a,eE b] (tupP x))\/((∀x,¬Ed.On dd ⟨x,y⟩)/\Ct Tw 146 [eE a,eE b] noP)):=by
 have hv:=rN y
 by_cases hx:∃x,Ed.On dd ⟨x,y⟩
 ·left
  obtain⟨x0,h0⟩:=hx
  have key:∀x:F,(y*y*dd+1)*x*x=y*y-1/\x.val%2=0->x=mC x0:=λx hx=>by
   have h1:=on_vxx.1 h0
   have h2:x*x=x0*x0:=by
    refine cancel cX hv ?_
    have e1:x*x*(y*y*dd+1)=(y*y*dd+1)*x*x:=by grind only
    have e2:x0*x0*(y*y*dd+1)=(y*y*dd+1)*x0*x0:=by grind only
    rw [e1,e2,hx.1,h1]
   exact qE (h2.trans (pH x0).symm) (by rw [hx.2,nO])
  refine⟨mC x0,nO x0,?_,(root_C hA hB).to ?_⟩
  ·rw [pQ,pH]
   exact(pQ _ _).1 h0
  ·rintro⟨r,ok,⟨x,hr,_,hx,rfl⟩|⟨h|h,_⟩⟩
   ·exact⟨⟨r,key x hx▸hr⟩,rfl⟩
   ·exact absurd h hv
   ·exact absurd (on_vxx.1 h0) (h x0)
 ·refine .inr ⟨λx h=>hx ⟨x,h⟩,(root_C hA hB).to ?_⟩
  rintro⟨r,ok,⟨x,_,_,h,_⟩|⟨_,rfl,rfl⟩⟩
  ·exact absurd ⟨x,on_vxx.2 h.1⟩ hx
  ·exact⟨(),rfl⟩
theorem own_hash2:Own 105:=λ_ _=>by go_simp
theorem eqdC(x y:Nums.F)(w:World):(Op.equalIn 10000 45 (.agg (By (enc x)).toArray) (.agg (By (enc y)).toArray)).run Tryz.prog w = .ok (decide (x=y)) w:=by
 rw [equal32 _ _ (fX _) (fX _)]
 congr 1
 exact decide_eq_decide.2 ⟨vH,congrArg enc⟩
theorem own_csmall:Own 107:=λ_ _=>by go_simp
theorem small_C{P:PtV}{A:Ed.Pt p}(h:PB P.l A)(hP:P.Ok):Ct Tw 107 [ePt P] (one (.q (.c (.b (decide (dX (Ed.mul dd 8 A)=dX Ed.zero)))))):=⟨own_csmall,by
 refine spec_S [ePt P] 12 Tryz.func107 rfl (by rw [Tryz.ntmps107];rfl) (one_ok hP.ps) λb=>?_;refine s_auto TY_ok rfl ?_;refine s_reg λK hK=>?_;refine l_X (doubled_C h hP 3 (by decide)) (λ_=>rfl) rfl λ⟨P,h,hP⟩=>?_;refine l_N hK rfl ?_;obtain⟨X,Y,Z,T,x,y,z,t,e,hX,hY,hZ,hT,hi⟩:=h.yz;obtain rfl:=pc_inj hP hX hY hZ e;have hi:=hi.trans ⟨congrArg dX,mT h.on Ed.jR⟩;refine s_N 8 [] (by kernel_rfl) λK hK G S w0 hst=>?_;refine n_X hst (hash_C hY) rfl λ_=>?_;refine n_X hst (hash_C hZ) rfl λ_=>?_;refine n_f hst (.b (decide (dX (Ed.mul dd (2^3) A)=dX Ed.zero))) trivial (λC0 Q' _ hQ=>f_eq (By (enc y)).toArray (By (enc z)).toArray rfl rfl rfl rfl rfl rfl (by kernel_rfl) (by rw [<-decide_eq_decide.2 hi];exact eqdC y z) hQ) ?_;refine n_N hst rfl hK rfl (s_ret ?_)
 exact k_ret TY_ok () rfl (by decide) rfl rfl rfl (λ_ _ _=>trivial) λ_ _=>trivial⟩
theorem phash_C{P:PtV}{A:Ed.Pt p}(h:PB P.l A)(hP:P.Ok):Ct Tw 105 [ePt P] (one (.q (eY 32 (dX A)))):=⟨own_hash2,by
 refine spec_S [ePt P] 25 Tryz.func105 rfl (by rw [Tryz.ntmps105];rfl) (one_ok hP.ps) λb=>?_;refine s_auto TY_ok rfl ?_;refine s_reg λK hK=>?_;refine l_X (whole_C h hP) (λ_=>rfl) rfl λ⟨P,h,hP⟩=>?_;refine l_N hK rfl ?_;obtain⟨x,y,z,t,hX,hY,hZ,hT,hR,ht⟩:=h.nums hP;have haf:=hR.aff cX;refine s_reg λK hK=>?_;refine l_X (inv_C hZ) (λ_=>rfl) rfl λ⟨r,v⟩=>?_;refine l_N hK rfl ?_;refine s_reg λK hK=>?_;refine l_X (mul_C hY v) (λ_=>rfl) rfl λ⟨s,u⟩=>?_;rw [haf.2] at u;refine l_X (hash_C u) (λ_=>rfl) rfl λ_=>?_;refine l_N hK rfl ?_;refine s_seq λK0 hK0=>?_;refine s_reg λK hK=>?_;refine l_X (mul_C hX v) (λ_=>rfl) rfl λ⟨s,u⟩=>?_;rw [haf.1] at u;refine l_X (odd_C u) (λ_=>rfl) rfl λ_=>?_;refine l_N hK rfl ?_;have h31:=pU A.y;refine s_ifD (A.x.val%2=1) rfl (λho=>?_) (λho=>?_)
 ·refine s_lit ?_
  refine l_cell rfl arr32 (aD rfl) _ (By_get (l:=enc A.y) (j:=31) (by rw [fX];decide)) ?_;refine l_auto2 rfl ?_;refine l_put rfl arr32 (aD rfl) [.agg 32 (By (dX A)).toArray] (eY_ok (jF A)).1 ?_ ?_ (s_end (hK0 _ ?_))
  ·show _<(By (enc A.y)).toArray.size
   rw [len_by (fX _)];exact aD rfl
  ·show By (dX A)=(By (enc A.y)).set 31 (.int .u8 (bits .or .u8 ((enc A.y)[31]!.toNat:Int) 128))
   rw [bit7 _ h31,uH ho,By,By,dR,kU (by show _<256;omega)]
  ·refine s_auto TY_ok rfl (s_ret ?_)
   exact k_ret TY_ok () rfl (by decide) rfl rfl rfl (λ_ _ _=>trivial) λ_ _=>trivial
 ·refine s_skip (hK0 _ ?_)
  refine s_auto TY_ok rfl (s_ret ?_);rw [<-sQ ho]
  exact k_ret TY_ok () rfl (by decide) rfl rfl rfl (λ_ _ _=>trivial) λ_ _=>trivial⟩
theorem le_bit{n:List UInt8}(i:Nat)(hi:i/8<n.length):(n[i/8]!).toNat/2^(i%8)%2=le n/2^i%2:=by
 have e1:n=n.take (i/8)++(n[i/8]! :: n.drop (i/8+1)):=by
  conv=>lhs;rw [<-List.take_append_drop (i/8) n]
  rw [List.drop_eq_getElem_cons hi,getElem!_pos n (i/8) hi]
 have e2:le n=le (n.take (i/8))+256^(i/8)*((n[i/8]!).toNat+256*le (n.drop (i/8+1))):=by
  conv=>lhs;rw [e1]
  rw [gD,aY,cA (by omega)]
  rfl
 have h1:=nL (n.take (i/8));rw [aY,cA (by omega)] at h1
 have e3:(2:Nat)^i=256^(i/8)*2^(i%8):=by
  rw [show(256:Nat)=2^8 by decide,<-Nat.pow_mul,<-kB]
  congr 1
  omega
 rw [e2,e3,<-Nat.div_div_eq_div_mul,o7 _ _ (by exact sX (by decide)),Nat.div_eq_of_lt h1,aX];have h8:i%8<8:=Nat.mod_lt _ (by decide);generalize (n[i/8]!).toNat=c;generalize le (n.drop (i/8+1))=d;generalize i%8=k at *
 have e4:(256:Nat)=2^k*2^(8-k):=by
  rw [<-kB,show k+(8-k)=8 by omega]
 rw [e4,fN,o7 _ _ (sX (by decide))]
 have e5:2^(8-k)*d=2*(2^(7-k)*d):=by
  rw [show 8-k=(7-k)+1 by omega,cG]
  grind only
 rw [e5]
 omega
def cutb(b:List UInt8):List UInt8:=b.set 31 (bD ((b[31]!).toNat%128))
theorem cutb_len{b:List UInt8}(hb:b.length=32):(cutb b).length=32:=by rw [cutb,bR,hb]
theorem le_cutb{b:List UInt8}(hb:b.length=32):le b=le (cutb b)+57896044618658097711785492504343953926634992332820282019728792003956564819968*((b[31]!).toNat/128)/\le (cutb b)<57896044618658097711785492504343953926634992332820282019728792003956564819968:=by
 have h1:=le_top hb;have h2:=rZ hb;have h3:=vN hb (bD ((b[31]!).toNat%128));rw [kU (by show _<256;omega)] at h3
 unfold cutb
 omega
theorem good_cutb{b:List UInt8}(hb:b.length=32):isGood (cutb b)=decide (le (cutb b)<p):=by
 have h:=(le_cutb hb).2;have hl:=cutb_len hb;have h128:=(rQ hl).2 h
 unfold isGood
 rw [aW h,decide_eq_true h128,Bool.true_and]
 congr 1
 refine propext ⟨λe=>?_,λe=>?_⟩
 ·rw [<-e,mB]
  exact(fof _).isLt
 ·exact(wE hl (x:=fof (le (cutb b))) (by rw [jS,aW e])).symm
theorem not_good{b:List UInt8}(hb:b.length=32)(h:¬le (cutb b)<p):¬ ∃A,Ed.On dd A/\dX A=b:=by
 rintro⟨A,_,rfl⟩
 have h1:=le_cutb hb;rw [kN] at h1
 unfold mU at h1
 have h2:=A.y.isLt;have h3:=tW
 omega
structure DecR(b:List UInt8) where
  P:PtV
  e:Int
  ok:(∃A,QB P.l A/\P.Ok/\dX A=b/\e=0)\/((¬ ∃A,Ed.On dd A/\dX A=b)/\P=⟨zl,zl,zl,zl⟩/\e=50)
abbrev decP(b:List UInt8):Post (DecR b):={ ret:=λr=>.t [ePt r.P,.c (.v (.int .i64 r.e))] }
theorem newno_C{F:World->Prop}[Pst F]{b:List UInt8}(hb:b.length=32)(hg:isGood b=false):Ct F 136 [eY 32 b] noP:=new_W hb (λh=>by
 rw [hg] at h
 cases h) λ_=>⟨(),rfl⟩
theorem own_decodeC:Own 106:=λ_ _=>by go_simp
theorem decode_C{b:List UInt8}(hb:b.length=32):Ct Tw 106 [eY 32 b] (decP b):=⟨own_decodeC,by
 refine spec_S [eY 32 b] 57 Tryz.func106 rfl (by rw [Tryz.ntmps106];rfl) (one_ok (eY_ok hb).1) λB=>?_;have hle:=le_cutb hb;have hgc:=good_cutb hb;have hcl:=cutb_len hb;have hlt:=(b[31]!).toNat_lt;have h31:(catP [.agg 32 (By b).toArray])[31]?=some (.int .u8 (b[31]!.toNat:Int)):=By_get (l:=b) (j:=31) (by omega);obtain⟨od,hod⟩:∃od:Bool,decide (qY (b[31]!.toNat:Int) (2^min 7 IntKind.u8.bits)=1)=od:=⟨_,rfl⟩
 have hod2:od=decide (b[31]!.toNat/128=1):=by
  rw [<-hod];refine decide_eq_decide.2 ?_
  show qY (b[31]!.toNat:Int) 128=1↔_
  rw [qX _ (by decide)]
  omega
 refine s_auto TY_ok rfl ?_;refine s_reg λK hK=>?_;refine l_cell rfl arr32 (aD rfl) _ h31 ?_;refine l_auto2 rfl ?_;refine l_eq 4 (.b od) rfl (congrArg _ hod) (s_end (hK _ ?_));refine s_reg λK hK=>?_;refine l_cell rfl arr32 (aD rfl) _ h31 ?_;refine l_auto2 rfl ?_;refine l_put rfl arr32 (aD rfl) [.agg 32 (By (cutb b)).toArray] (eY_ok hcl).1 ?_ ?_ (s_end (hK _ ?_))
 ·show _<(By b).toArray.size
  rw [len_by hb];exact aD rfl
 ·show By (cutb b)=(By b).set 31 (.int .u8 (bits .and .u8 (b[31]!.toNat:Int) 127))
  rw [low7 _ hlt,cutb,By,By,dR,kU (by show _<256;omega)]
 refine s_reg λK hK=>?_
 by_cases hg:le (cutb b)<p
 ·have hle2:le b=(fof (le (cutb b))).val+57896044618658097711785492504343953926634992332820282019728792003956564819968*(b[31]!.toNat/128):=by rw [jS,aW hg];exact hle.1
  refine l_X (newc_C (x:=fof (le (cutb b))) hcl (by rw [hgc,decide_eq_true hg]) (by rw [aW hle.2])) (λ_=>rfl) rfl λ⟨r,v⟩=>?_;generalize fof (le (cutb b))=y at *;refine l_N hK rfl ?_;refine s_seq λK0 hK0=>?_;refine s_auto TY_ok rfl ?_;refine s_no rfl (s_skip (hK0 _ ?_));refine s_N 4 [(7,193),(8,193)] (by kernel_rfl) λK hK G S w0 hst=>?_;refine n_X hst small1_C rfl λ⟨r1,v1⟩=>?_;refine n_X hst (mul_C v v) rfl λ⟨r2,v2⟩=>?_;refine n_N hst rfl hK rfl ?_;refine s_T (x:=.tmp 40) (z:=.tmp 41) 12 9 6 193 (by kernel_rfl) λK hK G S w0 hst=>?_;refine n_X hst (sub_C v2 v1) rfl λ⟨r3,v3⟩=>?_;refine n_X hst factor_C rfl λ⟨r4,v4⟩=>?_;refine n_X hst (mul_C v2 v4) rfl λ⟨r5,v5⟩=>?_;refine n_X hst (add_C v5 v1) rfl λ⟨r6,v6⟩=>?_
  rcases croot_C v3 v6 with⟨x,hev,hon,hR⟩|⟨hno,hR⟩
  ·refine n_X hst hR rfl λ⟨r7,v7⟩=>?_
   refine n_T hst hK rfl ?_;refine s_seq λK0 hK0=>?_;refine s_auto TY_ok rfl ?_;refine s_no rfl (s_skip (hK0 _ ?_));refine s_seq λK0 hK0=>?_;refine s_auto TY_ok rfl ?_
   cases od with
   | false =>
    refine s_if false rfl (λh=>by cases h) (λ_=>?_);refine s_skip (hK0 _ ?_);refine s_seq λK0 hK0=>?_;refine s_reg λK hK=>?_;refine l_X (odd_C v7) (λ_=>rfl) rfl λ_=>?_;refine l_auto2 rfl ?_;refine l_op (.b (!(_==_))) trivial rfl rfl rfl (run_neqBoolW rfl rfl rfl (λ_=>rfl) λ_=>rfl) ?_;refine l_is 52 false rfl (by rw [decide_eq_false (by omega)];rfl) (s_end (hK _ ?_));refine s_no rfl (s_skip (hK0 _ ?_));refine s_reg λK hK=>?_;refine l_X (at_C v7 v hon) (λ_=>rfl) rfl λ⟨P,hP⟩=>?_;refine l_N hK rfl (s_ret ?_)
    have h00:b[31]!.toNat/128=0:=by have:=of_decide_eq_false hod2.symm;omega
    exact k_ret TY_ok (⟨P,0,.inl ⟨_,hP.1,hP.2,dec_enc hb (s:=0) (by rw [<-h00];exact hle2) hev,rfl⟩⟩:DecR b) rfl (by decide) rfl rfl rfl (λ_ _ _=>trivial) λ_ _=>trivial
   | true =>
    have h01:b[31]!.toNat/128=1:=of_decide_eq_true hod2.symm;rw [h01] at hle2;refine s_if true rfl (λ_=>?_) (λh=>by cases h);refine s_lit ?_;refine l_X (sub_C eb_zero v7) (λ_=>rfl) rfl λ⟨r8,v8⟩=>?_;refine l_auto2 rfl (s_end (hK0 _ ?_));refine s_seq λK0 hK0=>?_;refine s_reg λK hK=>?_;refine l_X (odd_C v8) (λ_=>rfl) rfl λ_=>?_;refine l_auto2 rfl ?_;refine l_op (.b (!(_==_))) trivial rfl rfl rfl (run_neqBoolW rfl rfl rfl (λ_=>rfl) λ_=>rfl) ?_
    by_cases hx0:x=0
    ·refine l_is 52 true rfl (by rw [hx0];decide) (s_end (hK _ ?_))
     refine s_yes rfl ?_;refine s_auto TY_ok rfl (s_ret ?_);refine k_ret TY_ok (⟨⟨zl,zl,zl,zl⟩,50,.inr ⟨?_,rfl,rfl⟩⟩:DecR b) rfl (by decide) rfl rfl rfl (λ_ _ _=>trivial) λ_ _=>trivial
     rintro⟨A,hA,hAb⟩
     obtain⟨e1,e2⟩:=dec_y hle2 hAb
     have h3:Ed.On dd ⟨A.x,y⟩:=by rw [<-e1];exact hA
     have h4:=on_vxx.1 h3;have h5:=on_vxx.1 hon;rw [<-h5,hx0] at h4
     have h6:A.x=0:=by
      by_cases h:A.x=0
      ·exact h
      ·exact absurd (h4.trans (by grind only)) (cL cX (cL cX (rN y) h) h)
     rw [h6] at e2
     revert e2
     decide
    ·have hpo:(0-x:Nums.F).val%2=1:=by rw [show(0-x:Nums.F) = -x from by grind only,n5 hx0,hev]
     refine l_is 52 false rfl (by rw [decide_eq_true hpo];rfl) (s_end (hK _ ?_));refine s_no rfl (s_skip (hK0 _ ?_));refine s_reg λK hK=>?_
     have hon2:Ed.On dd ⟨0-x,y⟩:=by rw [show(0-x:Nums.F) = -x from by grind only];exact Ed.kL hon
     refine l_X (at_C v8 v hon2) (λ_=>rfl) rfl λ⟨P,hP⟩=>?_;refine l_N hK rfl (s_ret ?_);exact k_ret TY_ok (⟨P,0,.inl ⟨_,hP.1,hP.2,dec_enc hb (s:=1) hle2 hpo,rfl⟩⟩:DecR b) rfl (by decide) rfl rfl rfl (λ_ _ _=>trivial) λ_ _=>trivial
  ·refine n_X hst hR rfl λ_=>?_
   refine n_T hst hK rfl ?_;refine s_seq λK0 hK0=>?_;refine s_auto TY_ok rfl ?_;refine s_yes rfl ?_;refine s_auto TY_ok rfl (s_ret ?_);refine k_ret TY_ok (⟨⟨zl,zl,zl,zl⟩,50,.inr ⟨?_,rfl,rfl⟩⟩:DecR b) rfl (by decide) rfl rfl rfl (λ_ _ _=>trivial) λ_ _=>trivial
   rintro⟨A,hA,hAb⟩
   obtain⟨e1,_⟩:=dec_y hle2 hAb;exact hno A.x (by rw [<-e1];exact hA)
 ·refine l_X (newno_C hcl (by rw [hgc,decide_eq_false hg])) (λ_=>rfl) rfl λ_=>?_
  refine l_N hK rfl ?_;refine s_seq λK0 hK0=>?_;refine s_auto TY_ok rfl ?_;refine s_yes rfl ?_;refine s_auto TY_ok rfl (s_ret ?_)
  exact k_ret TY_ok (⟨⟨zl,zl,zl,zl⟩,50,.inr ⟨not_good hb hg,rfl,rfl⟩⟩:DecR b) rfl (by decide) rfl rfl rfl (λ_ _ _=>trivial) λ_ _=>trivial⟩
def Ds(l:List Nat):List Value:=l.map λx:Nat=>.int .u8 (x:Int)
theorem Ds_len(l:List Nat):(Ds l).length=l.length:=by simp [Ds]
theorem Ds_get{l:List Nat}{j:Nat}(h:j<l.length):(Ds l).toArray[j]?=some (.int .u8 (l[j]! : Nat)):=by simp [Ds,h]
theorem Ds_one(l:List Nat):∀u∈Ds l,u.oneCell'=true:=by
 intro u hu
 obtain⟨x,_,rfl⟩:=bO.1 hu
 rfl
theorem Ds_oneA(l:List Nat):∀v∈(Ds l).toArray.toList,v.oneCell'=true:=λv hv=>Ds_one l v (by simpa using hv)
theorem Ds_size{l:List Nat}{n:Nat}(h:l.length=n):(Ds l).toArray.size=n:=by rw [aV,Ds_len,h]
theorem low1(m:Nat)(h:m<256):bits .and .u8 (m:Int) 1=((m%2:Nat):Int):=by
 have key:∀m:Nat,m<256->bits .and .u8 (m:Int) 1=((m%2:Nat):Int):=by decide +kernel
 exact key m h
theorem shl1(k:Nat)(h:k<4):IntKind.u8.wrap (1*2^k)=((2^k:Nat):Int):=by
 have hk:k=0\/k=1\/k=2\/k=3:=by omega
 rcases hk with rfl|rfl|rfl|rfl<;>decide
theorem orK(k x:Nat)(hk:k<4)(hx:x<2^k):bits .or .u8 (x:Nat) ((2^k:Nat):Int)=((x+2^k:Nat):Int):=by
 have k0:∀x:Nat,x<1->bits .or .u8 (x:Int) 1=((x+1:Nat):Int):=by decide +kernel
 have k1:∀x:Nat,x<2->bits .or .u8 (x:Int) 2=((x+2:Nat):Int):=by decide +kernel
 have k2:∀x:Nat,x<4->bits .or .u8 (x:Int) 4=((x+4:Nat):Int):=by decide +kernel
 have k3:∀x:Nat,x<8->bits .or .u8 (x:Int) 8=((x+8:Nat):Int):=by decide +kernel
 have hk':k=0\/k=1\/k=2\/k=3:=by omega
 rcases hk' with rfl|rfl|rfl|rfl
 ·exact k0 x hx
 ·exact k1 x hx
 ·exact k2 x hx
 ·exact k3 x hx
theorem dg_nat{N i:Nat}{f:Int}{d:List Nat}(h:DG N i f d)(hf:¬f+4<=(i:Int)):∃m:Nat,f=m:=by
 rcases h.last with h|⟨m,h,_⟩
 ·exact absurd h (by omega)
 ·exact⟨m,h⟩
theorem arr256:Arr 238 256:=⟨_,Tryz.underlying238,by kernel_rfl⟩
theorem own_digits:Own 168:=λ_ _=>by go_simp
abbrev eDs(d:List Nat):SQ:=.p [.agg 256 (Ds d).toArray]
theorem eDs_ok{d:List Nat}(h:d.length=256):OkP [.agg 256 (Ds d).toArray]:=λq hq=>by
 rw [aE.1 hq];exact⟨Ds_size h,Ds_oneA d⟩
abbrev digP(b:List UInt8):Post {d:List Nat // d.length=256/\iS d=le b/\∀j,j<256->d[j]! = 0\/(d[j]! % 2=1/\d[j]! < 16)}:={ ret:=λd=>.q (eDs d.1) }
theorem By_Ds(n:Nat):By (aA n 0)=Ds (aA n 0):=by simp [By,Ds]
theorem By_get0{n:Nat}{l:List UInt8}{j:Nat}(h:j<l.length):(catP [.agg n (By l).toArray])[0+j]?=some (.int .u8 ((l[j]!).toNat:Int)):=by
 rw [aX];exact By_get h
theorem Ds_get0{n:Nat}{l:List Nat}{j:Nat}(h:j<l.length):(catP [.agg n (Ds l).toArray])[0+j]?=some (.int .u8 (l[j]! : Nat)):=by
 rw [aX];exact Ds_get h
theorem bit_fdiv{c i:Nat}(h:c<256)(hi:i<=8):bits .and .u8 (qY (c:Int) (2^min i IntKind.u8.bits)) 1=((c/2^i%2:Nat):Int):=by
 have e:qY (c:Int) (2^min i IntKind.u8.bits)=((c/2^i:Nat):Int):=by
  rw [show min i IntKind.u8.bits=i from cA hi,qX _ (Int.pow_nonneg (by decide))]
  simp
 rw [e,low1 _ (Nat.lt_of_le_of_lt (Nat.div_le_self _ _) h)]
theorem digits_C{F:World->Prop}[Pst F]{b:List UInt8}(hb:b.length=32):Ct F 168 [eY 32 b] (digP b):=⟨own_digits,by
 refine spec_S [eY 32 b] 34 Tryz.func168 rfl (by rw [Tryz.ntmps168];rfl) (one_ok (eY_ok hb).1) λB=>?_;refine s_auto TY_ok rfl ?_;refine s_auto TY_ok rfl ?_;refine s_auto TY_ok rfl ?_;refine s_seq λK1 hK1=>?_;refine s_auto TY_ok rfl ?_;refine s_block ?_
 let P:Nat×Int×List Nat×Array Value->Env:=λs=>⟨[(6,.v (.int .i64 (s.1:Int))),(4,.v (.int .i64 s.2.1)),(1,.a 1 0),(2,.a 2 0),(3,.a 3 0)],[⟨3,none,238,[.agg 256 s.2.2.2]⟩,⟨2,none,238,[.agg 256 (By (aA 256 0)).toArray]⟩,⟨1,none,45,[.agg 32 (By b).toArray]⟩],[],F,λ_=>True⟩
 refine c_weak (e':=P (0, -4,aA 256 0,(By (aA 256 0)).toArray)) ⟨⟨rfl,rfl,rfl,rfl,rfl,trivial⟩,⟨rfl,rfl,rfl,rfl,rfl,rfl,trivial⟩,.refl _,λ_ h _=>h,λ_ _=>trivial⟩ (s_loop (λs=>256-s.1) P (λs=>s.1<=256/\DG (le b) s.1 s.2.1 s.2.2.1/\s.2.2.2=(Ds s.2.2.1).toArray) ?_ (0, -4,aA 256 0,(By (aA 256 0)).toArray) ⟨aQ _,DG.start _,congrArg List.toArray (By_Ds 256)⟩)
 rintro⟨i,f,d,D⟩ ⟨hi,hD,hd⟩
 dsimp only at hi hD hd
 subst hd;refine s_auto TY_ok rfl ?_;refine s_seq λK2 hK2=>?_;refine s_ifD ((i:Int)<256) rfl (λhlt=>?_) (λhge=>?_)
 ·have hin:i<256:=by omega
  refine s_skip (hK2 _ ?_);refine s_seq λK3 hK3=>?_;refine s_block ?_;refine s_auto TY_ok rfl ?_;refine s_seq λK4 hK4=>?_;refine s_reg λK hK=>?_;refine l_auto2 rfl ?_;refine l_num 10 ((i/8:Nat):Int) rfl (wrapQ i 8 (by omega)) ?_;refine l_cell rfl arr32 (by show i/8<32;omega) _ (By_get0 (l:=b) (j:=i/8) (by omega)) ?_;refine l_auto2 rfl ?_;have hbit:=le_bit (n:=b) i (by omega);have hx:=bit_fdiv (c:=b[i/8]!.toNat) (i:=i%8) (UInt8.toNat_lt _) (by omega);rw [hbit] at hx
  refine l_eq 17 (.b (decide (le b/2^i%2=0))) rfl (by
   show SV.b (decide (bits .and .u8 (qY (b[i/8]!.toNat:Int) (2^min (i%8) IntKind.u8.bits)) 1=0))=_
   rw [hx]
   exact congrArg SV.b (decide_eq_decide.2 (by omega))) (s_end (hK _ ?_))
  have hw1:IntKind.i64.wrap ((i:Int)+1)=((i+1:Nat):Int):=addI i 1 (by omega);refine s_ifD (le b/2^i%2=0) rfl (λhz=>?_) (λhz=>?_)
  ·refine s_exit (k_pass (k_out (hK3 _ ?_)))
   refine s_autoE TY_ok rfl ?_;exact k_next (i+1,f,d,(Ds d).toArray) ⟨hin,hD.zero hz,rfl⟩ (by show 256-(i+1)<256-i;omega) ⟨⟨congrArg (λx=>some (SV.v (.int .i64 x))) hw1,rfl,rfl,rfl,rfl,trivial⟩,⟨rfl,rfl,rfl,rfl,rfl,rfl,trivial⟩,.refl _,λ_ h _=>h,λ_ h=>h⟩
  ·refine s_skip (hK4 _ ?_)
   refine s_seq λK5 hK5=>?_
   have hb1:le b/2^i%2=1:=by omega
   have hf4:IntKind.i64.wrap (f+4)=f+4:=by rcases hD.last with h|⟨m,h,hm,_⟩<;>rw [i64_left,wrap64_in _ (by omega)]
   refine s_reg λK hK=>?_;refine l_auto2 rfl ?_;refine l_eq 21 (.b (decide ((i:Int)>=f+4))) rfl (by rw [hf4]) (s_end (hK _ ?_))
   have go:∀(m:Nat) (hm:m<=i) (h4:i-m<4) (hdm:d[m]! < 2^(i-m)) (hD2:DG (le b) (i+1) m (d.set m (d[m]! + 2^(i-m)))) e,SubS ((6,.v (.int .i64 (i:Int)))::(5,.v (.int .i64 (i:Int)))::(4,.v (.int .i64 (m:Int)))::(1,.a 1 0)::(2,.a 2 0)::(3,.a 3 0)::[]) e->kS B K5 34 ⟨e,(P (i,f,d,(Ds d).toArray)).L,[],F,λ_=>True⟩:=λm hm h4 hdm hD2 e he=>by
    refine k_weak (e':=⟨[(6,.v (.int .i64 (i:Int))),(5,.v (.int .i64 (i:Int))),(4,.v (.int .i64 (m:Int))),(1,.a 1 0),(2,.a 2 0),(3,.a 3 0)],(P (i,f,d,(Ds d).toArray)).L,[],F,λ_=>True⟩) ⟨he,⟨rfl,rfl,rfl,rfl,rfl,rfl,trivial⟩,.refl _,λ_ h _=>h,λ_ h=>h⟩ (hK5 _ ?_);have hdl:=hD.len;refine s_drawnN 9 (by kernel_rfl) λG S w0 hst=>?_;refine n_auto2 hst rfl ?_;refine n_cell hst rfl arr256 (by show m<256;omega) _ (Ds_get0 (l:=d) (j:=m) (by omega)) ?_;refine n_auto TY_ok hst rfl ?_;refine n_num 28 ((i-m:Nat):Int) rfl (subI i m hm (by omega)) ?_;refine n_auto2 hst rfl ?_;refine n_num 30 ((d[m]! + 2^(i-m):Nat):Int) rfl ?_ ?_
    ·show bits .or .u8 (d[m]! : Int) (IntKind.u8.wrap (1*2^min (i-m) IntKind.u8.bits))=_
     rw [show min (i-m) IntKind.u8.bits=i-m from cA (by show i-m<=8;omega),shl1 _ h4,orK _ _ h4 hdm]
    refine n_ix hst rfl arr256 (by show m<256;omega) ?_;refine n_L hst rfl ?_;refine l_st1 rfl [.agg 256 (Ds (d.set m (d[m]! + 2^(i-m)))).toArray] (eDs_ok (by rw [bR,hdl])) ?_ ?_ (s_end ?_)
    ·show 0+m<(Ds d).toArray.size
     rw [Ds_size hdl]
     omega
    ·show Ds (d.set m _)=(Ds d).set (0+m) _
     rw [aX,Ds,dR]
     rfl
    refine hK3 _ ?_;refine s_autoE TY_ok rfl ?_;exact k_next (i+1,m,d.set m (d[m]! + 2^(i-m)),_) ⟨hin,hD2,rfl⟩ (by show 256-(i+1)<256-i;omega) ⟨⟨congrArg (λx=>some (SV.v (.int .i64 x))) hw1,rfl,rfl,rfl,rfl,trivial⟩,⟨rfl,rfl,rfl,rfl,rfl,rfl,trivial⟩,.refl _,λ_ h _=>h,λ_ h=>h⟩
   refine s_ifD ((i:Int)>=f+4) rfl (λhge=>?_) (λhge=>?_)
   ·refine s_lit (l_auto2 rfl (s_end ?_))
    have hd0:=hD.hi i (aH _) hin;refine go i (aH _) (by omega) (by rw [hd0];exact Nat.two_pow_pos _) (by rw [hd0,Nat.sub_self];exact hD.fresh hin hb1) _ ⟨rfl,rfl,rfl,rfl,rfl,rfl,trivial⟩
   ·obtain⟨m,rfl⟩:=dg_nat hD (by omega)
    obtain⟨hmi,hdm,hD2⟩:=hD.more hin hb1 (by omega);exact s_skip (go m (by omega) (by omega) hdm hD2 _ ⟨rfl,rfl,rfl,rfl,rfl,rfl,trivial⟩)
 ·obtain rfl:i=256:=by omega
  have hsum:iS d=le b:=by have h1:=nL b;rw [hb,show(256:Nat)^32=2^256 from by decide] at h1;rw [hD.sum,aW h1]
  refine s_exit (k_pass (k_pass (k_out (hK1 _ ?_))));refine s_auto TY_ok rfl (s_ret ?_)
  exact k_ret TY_ok ⟨d,hD.len,hsum,hD.odd⟩ rfl (by decide) rfl rfl rfl (λ_ _ _=>trivial) λ_ _=>trivial⟩
theorem ePt_ok{P:PtV}(h:P.Ok):OkP (ePt P).parts1/\(ePt P).cl.length=20:=⟨h.ps,by
 show(ePt P).den.cells.toList.length=20
 rw [den_pt]
 show(Us P.l).length=20
 rw [Us_len]
 exact pc_len h.X h.Y h.Z h.T⟩
structure RS where
  M:List PtV
  d:List Nat
  A:Ed.Pt p
structure RS.Ok(r:RS):Prop where
  m8:r.M.length=8
  ms:∀j P,r.M[j]?=some P->P.Ok/\AB P.l (Ed.mul dd (2*j+1) r.A)
  dl:r.d.length=256
  odd:∀j,j<256->r.d[j]! = 0\/(r.d[j]! % 2=1/\r.d[j]! < 16)
  on:Ed.On dd r.A
abbrev eRow(M:List PtV)(d:List Nat):SQ:=.p [.agg 160 (flatF ePt M).toArray,.agg 256 (Ds d).toArray]
theorem eRow_ok{M:List PtV}{d:List Nat}(h:OkF 20 ePt M)(hm:M.length=8)(hd:d.length=256):OkP (eRow M d).parts1:=λq hq=>by
 rcases aJ.1 hq with rfl|hq
 ·exact⟨by show(flatF ePt M).toArray.size=160;rw [aV,flatF_len h,hm],λv hv=>flatF_one h v hv⟩
 ·exact eDs_ok hd q hq
abbrev rowP(A:Ed.Pt p)(b:List UInt8):Post {r:RS // r.Ok/\r.A=A/\iS r.d=le b}:={ ret:=λr=>.q (eRow r.1.M r.1.d) }
theorem own_row:Own 139:=λ_ _=>by go_simp
def z8P:List PtV:=aA 8 ⟨zl,zl,zl,zl⟩
theorem row_C{P:PtV}{A:Ed.Pt p}{b:List UInt8}(h:PB P.l A)(hP:P.Ok)(hb:b.length=32):Ct Tw 139 [ePt P,eY 32 b] (rowP A b):=⟨own_row,by
 refine spec_S [ePt P,eY 32 b] 27 Tryz.func139 rfl (by rw [Tryz.ntmps139];rfl) (two_ok hP.ps (eY_ok hb).1) λB=>?_;refine s_auto TY_ok rfl ?_;refine s_reg λK hK=>?_;refine l_X (digits_C hb) (λ_=>rfl) rfl λ⟨d,hd,hs,ho⟩=>?_;refine l_N hK rfl ?_;refine s_reg λK hK=>?_;refine l_X (doubled_C h hP 1 (by decide)) (λ_=>rfl) rfl λ⟨P2,h2,hP2⟩=>?_;refine l_X (addend_C h2 hP2) (λ_=>rfl) rfl λ⟨W,hW,hWo⟩=>?_;refine l_N hK rfl ?_;refine s_seq λK1 hK1=>?_;refine s_auto TY_ok rfl ?_;refine s_block ?_;have hon:=h.on
 have h0:(aA 160 (cC .u64 0)).toArray=(flatF ePt z8P).toArray:=by kernel_rfl
 have hz0:(⟨zl,zl,zl,zl⟩:PtV).Ok:=⟨rfl,rfl,rfl,rfl⟩
 let V:Nat×PtV×List PtV×Array Value->Env:=λs=>⟨[(14,.v (.int .i64 (s.1:Int))),(2,.a 2 0),(4,.a 4 0),(5,.a 5 0),(6,.a 6 0)],[⟨6,none,236,W.ps⟩,⟨5,none,240,[.agg 160 s.2.2.2,.agg 256 (Ds d).toArray]⟩,⟨4,none,240,[.agg 160 (aA 160 (cC .u64 0)).toArray,.agg 256 (By (aA 256 0)).toArray]⟩,⟨2,none,195,s.2.1.ps⟩],[],Tw,λ_=>True⟩
 refine c_weak (e':=V (0,P,z8P,(aA 160 (cC .u64 0)).toArray)) ⟨⟨rfl,rfl,rfl,rfl,rfl,trivial⟩,⟨rfl,rfl,rfl,rfl,rfl,rfl,rfl,rfl,trivial⟩,.refl _,λ_ h _=>h,λ_ _=>trivial⟩ (s_loop (λs=>8-s.1) V (λs=>s.1<=8/\PB s.2.1.l (Ed.mul dd (2*s.1+1) A)/\s.2.1.Ok/\s.2.2.1.length=8/\OkF 20 ePt s.2.2.1/\(∀j P,j<s.1->s.2.2.1[j]?=some P->P.Ok/\AB P.l (Ed.mul dd (2*j+1) A))/\s.2.2.2=(flatF ePt s.2.2.1).toArray) ?_ (0,P,z8P,(aA 160 (cC .u64 0)).toArray) ⟨aQ _,by rw [Nat.mul_zero,aX,Ed.qJ good];exact h,hP,List.length_replicate,λx hx=>by rw [List.eq_of_mem_replicate hx];exact ePt_ok hz0,λ_ _ h=>absurd h (by omega),h0⟩);clear h hP P
 rintro⟨i,P,M,C⟩ ⟨hi,h,hP,hm,hM,hj,hC⟩
 dsimp only at hi h hP hm hM hj hC
 subst hC;refine s_auto TY_ok rfl ?_;refine s_seq λK2 hK2=>?_;refine s_ifD ((i:Int)<8) rfl (λhlt=>?_) (λhge=>?_)
 ·have hin:i<8:=by omega
  refine s_skip (hK2 _ ?_);refine s_seq λK3 hK3=>?_;refine s_block ?_;refine s_auto TY_ok rfl ?_;refine s_reg λK hK=>?_;refine l_X (addend_C h hP) (λ_=>rfl) rfl λ⟨Q,hQ,hQo⟩=>?_;refine l_auto2 rfl ?_;refine l_op (.a 5 (0+20*i)) trivial rfl rfl rfl (runO_ixA i rfl Tryz.underlying237 (by kernel_rfl) rfl rfl hin) ?_;rw [aX];refine l_stF Q rfl rfl rfl rfl rfl hM (ePt_ok hQo) (by rw [hm];exact hin) ?_;refine s_end (hK _ ?_);refine s_lit ?_;refine l_X (plus_C h hP hW hWo) (λ_=>rfl) rfl λ⟨P',h',hP'⟩=>?_;refine l_auto2 rfl (s_end (hK3 _ ?_));refine s_autoE TY_ok rfl ?_;refine k_next (i+1,P',M.set i Q,(flatF ePt (M.set i Q)).toArray) ⟨hin,?_,hP',by rw [bR,hm],hM.set (ePt_ok hQo),λj P hji hp=>?_,rfl⟩ (by show 8-(i+1)<8-i;omega) ⟨⟨congrArg (λx=>some (SV.v (.int .i64 x))) (addI i 1 (by omega)),rfl,rfl,rfl,rfl,trivial⟩,⟨rfl,rfl,rfl,rfl,rfl,rfl,rfl,rfl,trivial⟩,.refl _,λ_ h _=>h,λ_ h=>h⟩
  ·show PB P'.l (Ed.mul dd (2*(i+1)+1) A)
   rw [show 2*(i+1)+1=(2*i+1)+2^1 by omega,Ed.mul_add good hon];exact .inr h'
  ·by_cases e:i=j
   ·subst e
    have hp:(M.set i Q)[i]?=some P:=hp;rw [List.getElem?_set_self (by rw [hm];exact hin)] at hp
    cases hp
    exact⟨hQo,hQ⟩
   ·have hp:(M.set i Q)[j]?=some P:=hp
    rw [List.getElem?_set_ne e] at hp;have hji:j<i+1:=hji;exact hj j P (by omega) hp
 ·obtain rfl:i=8:=by omega
  refine s_exit (k_pass (k_pass (k_out (hK1 _ ?_))));refine s_auto TY_ok rfl (s_ret ?_)
  exact k_ret TY_ok ⟨⟨M,d,A⟩,⟨hm,λj P hp=>hj j P (by rw [<-hm];exact(bC.1 hp).1) hp,hd,ho,hon⟩,rfl,hs⟩ rfl (by decide) rfl rfl rfl (λ_ _ _=>trivial) λ_ _=>trivial⟩
theorem quo2(v:Nat)(h:v<16):IntKind.u8.wrap ((v:Int).tdiv 2)=((v/2:Nat):Int):=by
 have key:∀v:Nat,v<16->IntKind.u8.wrap ((v:Int).tdiv 2)=((v/2:Nat):Int):=by decide +kernel
 exact key v h
def dOf(rs:List RS)(j:Nat):List Nat:=(rs[j]?.map RS.d).getD []
theorem dOf_at{rs:List RS}{j:Nat}{r:RS}(h:rs[j]?=some r):dOf rs j=r.d:=by rw [dOf,h];rfl
theorem on_as{rs:List RS}(h:∀r∈rs,r.Ok):∀A∈rs.map RS.A,Ed.On dd A:=λA hA=>by
 obtain⟨r,hr,rfl⟩:=bO.1 hA;exact(h r hr).on
def above(rs:List RS)(k:Nat):Ed.Pt p:=Ed.tot dd (rs.map RS.A) 0 λm=>iS ((dOf rs m).drop k)
def tpart(rs:List RS)(k j:Nat):Ed.Pt p:=Ed.tot dd (rs.map RS.A) 0 λm=>if m<j then iS ((dOf rs m).drop k) else 2*iS ((dOf rs m).drop (k+1))
theorem above_end{rs:List RS}(h:∀r∈rs,r.Ok):above rs 256=Ed.zero:=by
 refine Ed.qA good λj _ hj=>?_;rw [List.length_map,aX] at hj;rw [dOf_at (aP hj),List.drop_of_length_le (by rw [(h _ (oM hj)).dl];exact aH _)]
 rfl
theorem tpart_zero{rs:List RS}(h:∀r∈rs,r.Ok)(k:Nat):tpart rs k 0=Ed.add dd (above rs (k+1)) (above rs (k+1)):=by
 rw [above,<-Ed.rP good (on_as h)];exact Ed.lM λj _ _=>if_neg (by omega)
theorem tpart_all{rs:List RS}(k:Nat):tpart rs k rs.length=above rs k :=
 Ed.lM λj _ hj=>if_pos (by simpa using hj)
theorem tpart_step{rs:List RS}(h:∀r∈rs,r.Ok){k j:Nat}{r:RS}(hj:rs[j]?=some r)(hk:k<256):tpart rs k (j+1)=Ed.add dd (tpart rs k j) (Ed.mul dd r.d[k]! r.A):=by
 refine Ed.qB good (on_as h) 0 j r.d[k]! _ _ r.A (by rw [List.getElem?_map,hj];rfl) ?_ λm hm=>?_
 ·simp only [aX]
  rw [if_pos (by omega),if_neg (by omega),dOf_at hj,sH (by rw [(h r (List.mem_of_getElem? hj)).dl];exact hk),Nat.add_comm]
 ·simp only [aX] at hm
  by_cases e:m<j
  ·rw [if_pos (by omega),if_pos e]
  ·rw [if_neg (by omega),if_neg e]
theorem tpart_same{rs:List RS}(h:∀r∈rs,r.Ok){k j:Nat}{r:RS}(hj:rs[j]?=some r)(hk:k<256)(h0:r.d[k]! = 0):tpart rs k (j+1)=tpart rs k j:=by
 rw [tpart_step h hj hk,h0,Ed.mO,Ed.add_zero good]
theorem size_A{l:List Nat}(h:l.length=20):(Tryz.prog.info? 236).map (·.size)=some (Us l).toArray.size:=size_ad (us_size h)
abbrev eRS(r:RS):SQ:=eRow r.M r.d
theorem RS.Ok.okF{r:RS}(h:r.Ok):OkF 20 ePt r.M:=λP hP=>by
 obtain⟨j,hj,rfl⟩:=List.getElem_of_mem hP;exact ePt_ok (h.ms j _ (aP hj)).1
theorem RS.Ok.row{r:RS}(h:r.Ok):OkP (eRS r).parts1:=eRow_ok h.okF h.m8 h.dl
theorem RS.cl{r:RS}:(eRS r).cl=flatF ePt r.M++Ds r.d:=by
 show(catP [.agg 160 (flatF ePt r.M).toArray,.agg 256 (Ds r.d).toArray]).toList=_
 rw [catP_cons]
 simp [Pt.cells,catP]
theorem RS.Ok.flat{r:RS}(h:r.Ok):(flatF ePt r.M).length=160:=by rw [flatF_len h.okF,h.m8]
section
variable{rs:List RS}{gs go c:Nat}{w:World}{j:Nat}{r:RS}
theorem rs_digit(h:Rd 416 eRS (some ⟨gs,go,none⟩) c rs w)(hj:rs[j]?=some r)(hr:r.Ok){m:Nat}(hm:m<256):w.cell? ⟨gs,go+416*j+160+1*m,none⟩=some (.int .u8 (r.d[m]! : Nat)):=by
 obtain⟨b,o,e,_,h1⟩:=h.2.2.2.2 (by have:=(bC.1 hj).1;omega)
 cases e
 have h2:=h1 j r hj (160+m) (.int .u8 (r.d[m]! : Nat)) (by
  rw [RS.cl,List.getElem?_append_right (by rw [hr.flat];omega),hr.flat,Nat.add_sub_cancel_left];have:=Ds_get (l:=r.d) (j:=m) (by rw [hr.dl];exact hm)
  simpa using this)
 rw [show go+416*j+160+1*m=go+416*j+(160+m) by omega];exact h2
theorem rs_mult(h:Rd 416 eRS (some ⟨gs,go,none⟩) c rs w)(hj:rs[j]?=some r)(hr:r.Ok){i:Nat}{P:PtV}(hi:r.M[i]?=some P):w.rangeAt gs (go+416*j+0+20*i) (catP P.ps).toList:=by
 obtain⟨b,o,e,_,h1⟩:=h.2.2.2.2 (by have:=(bC.1 hj).1;omega)
 cases e
 obtain⟨A,Z,h2,h3,_⟩:=flatF_split hr.okF hi;have h4:=range_in (A:=A) (B:=(ePt P).cl) (Z:=Z++Ds r.d) (h1 j r hj) (by rw [RS.cl,h2,a7,a7]);rw [h3] at h4;rw [Nat.add_zero];exact h4
end
theorem own_total:Own 138:=λ_ _=>by go_simp
theorem total_C{rs:List RS}{A:Option Addr}{c0:Nat}(hok:∀r∈rs,r.Ok)(hlen:rs.length<4294967296):Ct (λw=>Tw w/\Rd 416 eRS A c0 rs w) 138 [.c (.v (.slice A rs.length c0))] (ptP (PB · (above rs 0))):=⟨own_total,by
 refine spec_S [.c (.v (.slice A rs.length c0))] 45 Tryz.func138 rfl (by rw [Tryz.ntmps138];rfl) (one_ok trivial) λB=>?_;refine s_auto TY_ok rfl ?_;refine s_auto TY_ok rfl ?_;refine s_auto TY_ok rfl ?_;refine s_seq λK1 hK1=>?_;refine s_auto TY_ok rfl ?_;refine s_block ?_;have hz0:(⟨zl,zl,zl,zl⟩:PtV).Ok:=⟨rfl,rfl,rfl,rfl⟩
 let L:PtV->List LV:=λP=>[⟨3,none,195,P.ps⟩,⟨2,none,195,(⟨zl,zl,zl,zl⟩:PtV).ps⟩]
 let V:Nat×Nat×PtV->Env:=λs=>⟨[(8,.v (.int .i64 (s.1:Int))),(4,.v (.int .i64 (s.2.1:Int))),(0,.v (.slice A rs.length c0)),(2,.a 2 0),(3,.a 3 0)],L s.2.2,[],λw=>Tw w/\Rd 416 eRS A c0 rs w,λ_=>True⟩
 refine c_weak (e':=V (0,0,⟨zl,zl,zl,zl⟩)) ⟨⟨rfl,rfl,rfl,rfl,rfl,trivial⟩,⟨rfl,rfl,rfl,rfl,trivial⟩,.refl _,λ_ h _=>h,λ_ _=>trivial⟩ (s_loop (λs=>256-s.1) V (λs=>s.1<=256/\s.2.1<=s.1/\s.2.2.Ok/\∃P,PB s.2.2.l P/\Ed.mul dd (2^s.2.1) P=above rs (256-s.1)) ?_ (0,0,⟨zl,zl,zl,zl⟩) ⟨aQ _,aH _,hz0,Ed.zero,.inl ⟨rfl,rfl⟩,by rw [kV,Ed.mul_zero good];exact(above_end hok).symm⟩)
 rintro⟨i,c,W⟩ ⟨hi,hc,hW,P,hP,hs⟩
 dsimp only at hi hc hW hP hs
 refine s_auto TY_ok rfl ?_;refine s_seq λK2 hK2=>?_;refine s_ifD ((i:Int)<256) rfl (λhlt=>?_) (λhge=>?_)
 ·refine s_skip (hK2 _ ?_)
  refine s_seq λK3 hK3=>?_;refine s_block ?_;refine s_auto TY_ok rfl ?_;refine s_auto TY_ok rfl ?_;refine s_auto TY_ok rfl ?_;refine s_block ?_;obtain⟨k,hk⟩:∃k,256-i=k+1:=⟨255-i,by omega⟩
  have hk2:255-(i:Int)=(k:Int):=by omega
  let V2:Nat×Nat×PtV->Env:=λs=>⟨[(15,.v (.int .i64 (s.1:Int))),(14,.v (.int .i64 (rs.length:Int))),(5,.v (.int .i64 (i:Int))),(8,.v (.int .i64 (i:Int))),(4,.v (.int .i64 (s.2.1:Int))),(0,.v (.slice A rs.length c0)),(2,.a 2 0),(3,.a 3 0)],L s.2.2,[],λw=>Tw w/\Rd 416 eRS A c0 rs w,λ_=>True⟩
  refine c_weak (e':=V2 (0,c+1,W)) ⟨⟨rfl,rfl,rfl,rfl,congrArg (λx=>some (SV.v (.int .i64 x))) (addI c 1 (by omega)),rfl,rfl,rfl,trivial⟩,⟨rfl,rfl,rfl,rfl,trivial⟩,.refl _,λ_ h _=>h,λ_ h=>h⟩ (s_loop (λs=>rs.length-s.1) V2 (λs=>s.1<=rs.length/\s.2.1<=i+1/\s.2.2.Ok/\∃P,PB s.2.2.l P/\Ed.mul dd (2^s.2.1) P=tpart rs k s.1) ?_ (0,c+1,W) ⟨aQ _,by show c+1<=i+1;omega,hW,P,hP,by rw [dbl_pow hP.on,hs,hk,<-tpart_zero hok]⟩);clear hs hP hW hc P
  rintro⟨j,c2,W2⟩ ⟨hj,hc,hW,P,hP,hs⟩
  dsimp only at hj hc hW hP hs
  refine s_auto TY_ok rfl ?_;refine s_seq λK5 hK5=>?_;refine s_ifD ((j:Int)<(rs.length:Int)) rfl (λhlt=>?_) (λhge=>?_)
  ·have hjn:j<rs.length:=by omega
   refine s_skip (hK5 _ ?_);refine s_seq λK6 hK6=>?_;refine s_block ?_;refine s_auto TY_ok rfl ?_;have hr:rs[j]?=some rs[j]:=aP hjn;have hrok:=hok _ (oM hjn);have hodd:=hrok.odd k (by omega);have hstep:=tpart_step hok hr (k:=k) (by omega);have hsame:=tpart_same hok hr (k:=k) (by omega);generalize rs[j]=r at *;refine s_pure (∃b o,A=some ⟨b,o,none⟩) (λw h _=>by obtain⟨b,o,e,_⟩:=h.2.2.2.2.2 (by omega);exact⟨b,o,e⟩) λ⟨gs,go,hA⟩=>?_;subst hA;have hw1:IntKind.i64.wrap ((j:Int)+1)=((j+1:Nat):Int):=addI j 1 (by omega);refine s_reg λK hK=>?_;refine l_autoS TY_ok rfl ?_;refine l_num 21 (k:Int) rfl (by rw [hk2,i64_left,wrap64_in _ (by omega)]) ?_;refine l_op (.v (.pointer (some ⟨gs,go+416*j,none⟩))) trivial rfl rfl rfl (runO_ixS j rfl Tryz.underlying263 (by kernel_rfl) rfl rfl hjn) ?_;refine l_autoS TY_ok rfl ?_;refine l_op (.v (.pointer (some ⟨gs,go+416*j+160+1*k,none⟩))) trivial rfl rfl rfl (runO_ixP k rfl Tryz.underlying238 (by kernel_rfl) rfl rfl (by omega)) ?_;refine l_opV (.v (.int .u8 (r.d[k]! : Nat))) trivial rfl rfl rfl (run_ldM rfl rfl Tryz.underlying5 rfl λG S w hw=>rs_digit hw.fact.2 hr hrok (by omega)) ?_;refine l_N hK rfl ?_;refine s_auto TY_ok rfl ?_;generalize hv:r.d[k]! = v at *;refine s_ifD ((v:Int)>0) rfl (λhv0=>?_) (λhv0=>?_)
   ·have hvo:v%2=1/\v<16:=by omega
    have hm8:=hrok.m8;obtain⟨Q,hQ⟩:∃Q,r.M[v/2]?=some Q:=⟨_,aP (by omega)⟩;obtain⟨hQo,hQB⟩:=hrok.ms _ _ hQ;rw [show 2*(v/2)+1=v from by omega] at hQB;refine s_N 12 [] (by kernel_rfl) λK hK G S w0 hst=>?_;refine n_X hst ((doubled_C hP hW c2 (by omega)).imp λ_ h=>h.1) rfl λ⟨P',hP',hPo'⟩=>?_;refine n_auto TY_ok hst rfl ?_;refine n_num 34 ((v/2:Nat):Int) rfl (quo2 v hvo.2) ?_;refine n_op hst (.v (.pointer (some ⟨gs,go+416*j,none⟩))) trivial rfl rfl rfl (runO_ixS j rfl Tryz.underlying263 (by kernel_rfl) rfl rfl hjn) ?_;refine n_auto TY_ok hst rfl ?_;refine n_op hst (.v (.pointer (some ⟨gs,go+416*j+0+20*(v/2),none⟩))) trivial rfl rfl rfl (runO_ixP (v/2) rfl Tryz.underlying237 (by kernel_rfl) rfl rfl (by omega)) ?_;refine n_opV hst (.q (ePt Q)) hQo.ps rfl rfl rfl (run_ldR rfl rfl Tryz.underlying236 rfl (by rw [cat_pt];exact size_A (pc_len hQo.X hQo.Y hQo.Z hQo.T)) rfl λG S w hw=>rs_mult hw.fact.2 hr hrok hQ) ?_;refine n_X hst ((plus_C hP' hPo' hQB hQo).imp λ_ h=>h.1) rfl λ⟨P3,hP3,hPo2⟩=>?_;refine n_N hst rfl hK rfl ?_;refine s_autoE TY_ok rfl (hK6 _ ?_);refine s_autoE TY_ok rfl ?_;rw [hs,<-hstep] at hP3;exact k_next (j+1,0,P3) ⟨hjn,aQ _,hPo2,_,.inr hP3,by rw [kV,Ed.qJ good]⟩ (by show rs.length-(j+1)<rs.length-j;omega) ⟨⟨congrArg (λx=>some (SV.v (.int .i64 x))) hw1,rfl,rfl,rfl,rfl,rfl,rfl,rfl,trivial⟩,⟨rfl,rfl,rfl,rfl,trivial⟩,.refl _,λ_ h _=>h,λ_ h=>h⟩
   ·refine s_skip (hK6 _ ?_)
    refine s_autoE TY_ok rfl ?_;exact k_next (j+1,c2,W2) ⟨hjn,hc,hW,P,hP,hs.trans (hsame (by omega)).symm⟩ (by show rs.length-(j+1)<rs.length-j;omega) ⟨⟨congrArg (λx=>some (SV.v (.int .i64 x))) hw1,rfl,rfl,rfl,rfl,rfl,rfl,rfl,trivial⟩,⟨rfl,rfl,rfl,rfl,trivial⟩,.refl _,λ_ h _=>h,λ_ h=>h⟩
  ·obtain rfl:j=rs.length:=by omega
   rw [tpart_all] at hs;refine s_exit (k_pass (k_pass (k_out (hK3 _ ?_))));refine s_autoE TY_ok rfl ?_;exact k_next (i+1,c2,W2) ⟨by show i+1<=256;omega,hc,hW,P,hP,by rw [hs];congr 1;show k=256-(i+1);omega⟩ (by show 256-(i+1)<256-i;omega) ⟨⟨congrArg (λx=>some (SV.v (.int .i64 x))) (addI i 1 (by omega)),rfl,rfl,rfl,rfl,trivial⟩,⟨rfl,rfl,rfl,rfl,trivial⟩,.refl _,λ_ h _=>h,λ_ h=>h⟩
 ·obtain rfl:i=256:=by omega
  refine s_exit (k_pass (k_pass (k_out (hK1 _ ?_))));refine s_reg λK hK=>?_;refine l_X ((doubled_C hP hW c (by omega)).imp λ_ h=>h.1) (λ_=>rfl) rfl λ⟨P',hP',hPo⟩=>?_;refine l_N hK rfl (s_ret ?_);rw [hs] at hP'
  exact k_pt P' ⟨hP',hPo⟩ rfl (by decide) rfl⟩
theorem above1(r:RS):above [r] 0=Ed.mul dd (iS r.d) r.A:=by
 show Ed.add dd (Ed.mul dd (iS (r.d.drop 0)) r.A) Ed.zero=_
 rw [Ed.add_zero good,kH]
theorem above2(r s:RS):above [r,s] 0=Ed.add dd (Ed.mul dd (iS r.d) r.A) (Ed.mul dd (iS s.d) s.A):=by
 show Ed.add dd (Ed.mul dd (iS (r.d.drop 0)) r.A) (Ed.add dd (Ed.mul dd (iS (s.d.drop 0)) s.A) Ed.zero)=_
 rw [Ed.add_zero good,kH,kH]
theorem okF_rs{rs:List RS}(h:∀r∈rs,r.Ok):OkF 416 eRS rs:=λr hr=>⟨(h r hr).row,by rw [RS.cl,List.length_append,(h r hr).flat,Ds_len,(h r hr).dl]⟩
theorem own_cmul:Own 104:=λ_ _=>by go_simp
theorem own_both:Own 109:=λ_ _=>by go_simp
theorem pmul_C{P:PtV}{A:Ed.Pt p}{b:List UInt8}(h:PB P.l A)(hP:P.Ok)(hb:b.length=32):Ct Tw 104 [ePt P,eY 32 b] (ptP (PB · (Ed.mul dd (le b) A))):=⟨own_cmul,by
 refine spec_S [ePt P,eY 32 b] 10 Tryz.func104 rfl (by rw [Tryz.ntmps104];rfl) (two_ok hP.ps (eY_ok hb).1) λB=>?_;refine s_auto TY_ok rfl ?_;refine s_reg λK hK=>?_;refine l_X (row_C h hP hb) (λ_=>rfl) rfl λ⟨r,hr,hA,hs⟩=>?_
 have hok:∀x∈[r],x.Ok:=λx hx=>by rw [aE.1 hx];exact hr
 refine l_list (fe:=eRS) TY_ok B.B.heap.size [r] rfl rfl rfl rfl rfl (λ_=>rfl) rfl (aD rfl) (aD rfl) (okF_rs hok) (aH _) λA'=>?_;refine l_freeM 0 rfl (aH _) ?_;refine l_callA (own:=[]) (F':=λw=>Tw w/\Rd 416 eRS A' 1 [r] w) [.slice A' [r].length 1] rfl rfl rfl own_total rfl rfl (λ_ _=>rfl) (total_C hok (aD rfl)).spec (λw h1 h2=>⟨h1,h2.1⟩) λ⟨P',hP',hPo⟩=>?_;refine l_N hK rfl (s_ret ?_);rw [above1,hA,hs] at hP'
 exact k_pt P' ⟨hP',hPo⟩ rfl (by decide) rfl⟩
theorem both_C{P:PtV}{A:Ed.Pt p}{n m:List UInt8}(hn:n.length=32)(h:PB P.l A)(hP:P.Ok)(hm:m.length=32):Ct Tw 109 [eY 32 n,ePt P,eY 32 m] (ptP (PB · (Ed.add dd (Ed.mul dd (le n) base) (Ed.mul dd (le m) A)))):=⟨own_both,by
 refine spec_S [eY 32 n,ePt P,eY 32 m] 15 Tryz.func109 rfl (by rw [Tryz.ntmps109];rfl) (λu hu=>by
  rcases aJ.1 hu with rfl|hu
  ·exact(eY_ok hn).1
  ·exact two_ok (v:=ePt P) (v2:=eY 32 m) hP.ps (eY_ok hm).1 u hu) λB=>?_
 refine s_auto TY_ok rfl ?_;refine s_regH 8 (by decide) rfl (by kernel_rfl) λK hK G S w0 hst=>?_;refine h_X hst base_C rfl (λ_ _ hw _=>hw.fact) λ⟨P1,h1,hP1⟩=>?_;refine h_X hst (row_C (.inr h1) hP1 hn) rfl (λ_ _ hw _=>hw.fact) λ⟨r,hr,hA,hs⟩=>?_;refine h_X hst (row_C h hP hm) rfl (λ_ _ hw _=>hw.fact) λ⟨s,hr2,hA2,hs2⟩=>?_
 have hok:∀x∈[r,s],x.Ok:=λx hx=>by
  rcases aJ.1 hx with rfl|hx
  ·exact hr
  ·rw [aE.1 hx];exact hr2
 refine h_litF eRS TY_ok [r,s] (okF_rs hok) rfl rfl rfl rfl rfl rfl (λ_=>rfl) rfl (aD rfl) (aD rfl) λg=>?_;refine h_callE (F':=λw=>Tw w/\Rd 416 eRS (some ⟨g,0,none⟩) 2 [r,s] w) hst [.slice (some ⟨g,0,none⟩) 2 2] rfl rfl rfl rfl own_total rfl rfl (λ_=>rfl) (total_C hok (aD rfl)).spec (λw hw hu=>⟨hw.fact,hu 6 _ rfl (by kernel_rfl)⟩) λ⟨P',hP',hPo⟩ _=>?_;refine h_end hst ?_;refine l_N hK rfl (s_ret ?_);rw [above2,hA,hs,hA2,hs2] at hP'
 exact k_pt P' ⟨hP',hPo⟩ rfl (by decide) rfl⟩
section
variable{b:Base}{ops:Array Oper}{Q:Exit->Act->World->Prop}{N:Nat}{G:Nat->Nat}{S:Nat->Prop}{E E':SE}{L L':List LV}{R:List Res}{F M:World->Prop}{w0:World}{Z:Act->Prop}{l l' rest:List Oper}{k:Nat}{f:FuncId}{svs:List SV}{r:RV}{o:Oper}{y:Code}
theorem l_P(hf:Own f)(hr:r.sv.Ok)(h:nextL ops N l E L=some (l',E',L',k,f,svs))(hs:∀G S w,View G S L' R F M w->Calls Tryz.prog f (svs.map (SV.den G)).toArray w λe w'=>e = .returned r.den/\Below w.heap.size w w')(hn:lS Tryz.prog b ops Q N l' ⟨(k,r.sv)::E',L',R,F,M⟩):lS Tryz.prog b ops Q N l ⟨E,L,R,F,M⟩:=by
 unfold nextL at h
 split at h
 ·rename_i o l2 E2 L2 h2
  split at h
  ·rename_i k2 f2 v2 h3
   simp only [aT,cP] at h;obtain⟨rfl,rfl,rfl,rfl,rfl,rfl⟩:=h;obtain⟨hg,hd,hk,xs,ats,ho,hx⟩:=callB_ok h3;refine l_auto2 h2 λa w ⟨G,S,h1,h4,h5⟩=>?_;have hr':=call_run (w:=w) hf ho hx h1
   unfold wpList
   rw [if_pos (by simp [Region.wanted,hg])];refine .inl ?_
   unfold Oper.wp
   rw [hr'];simp only [Oper.upon,hd];refine(hs G S w h5.view).mono ?_
   rintro e w' ⟨rfl,hb⟩
   have h6:=h1.put hk r.den;rw [<-RV.sv_den _ G] at h6;have h7:=hn _ w' ⟨G,S,h6,h4.cons hr,h5.later hb⟩;rw [RV.sv_den] at h7;exact h7
  ·cases h
 ·cases h
theorem n_P(hst:StW b G S L R F M w0)(hf:Own f)(hr:r.sv.Ok)(h:nextN ops N L l E=some (l',E',k,f,svs))(hs:∀w,View G S L R F M w->Calls Tryz.prog f (svs.map (SV.den G)).toArray w λe w'=>e = .returned r.den/\Below w.heap.size w w')(hn:nS Tryz.prog ops N w0 Z G l' ((k,r.sv)::E')):nS Tryz.prog ops N w0 Z G l E:=by
 unfold nextN at h
 split at h
 ·rename_i o l2 E2 h2
  split at h
  ·rename_i k2 f2 v2 h3
   simp only [aT,cP] at h;obtain⟨rfl,rfl,rfl,rfl,rfl⟩:=h;obtain⟨hg,hd,hk,xs,ats,ho,hx⟩:=callB_ok h3;refine n_auto2 hst h2 λhE=>?_;refine f_call (v2.map (SV.den G)).toArray r.den hg hd hk hf (λw hw=>hs w (hst.later hw).view) ho (evSs_ok hx) ?_;have h:=hn (hE.cons hr);rw [denE,RV.sv_den] at h;exact h
  ·cases h
 ·cases h
end
instance:Pst Ta:=⟨λ_ _ h hb=>h.below hb⟩
instance pst_pt{P:Option Addr}{ls:List (List UInt8)}:Pst (λw=>PT w P ls):=⟨λ_ _ h hb=>h.later hb⟩
theorem own_spread:Own 71:=λ_ _=>by go_simp
theorem own_based:Own 72:=λ_ _=>by go_simp
theorem own_number:Own 96:=λ_ _=>by go_simp
theorem own_public:Own 48:=λ_ _=>by go_simp
theorem cop_64{d:List UInt8}(h:d.length=32):(cop z64 0 d).length=64:=by rw [cop_len (by rw [h];decide)];rfl
theorem halves(l:List UInt8):catP [.agg 32 (By (l.take 32)).toArray,.agg 32 (By (l.drop 32)).toArray]=catP [.agg 64 (By l).toArray]:=by
 apply Array.ext'
 simp [catP,Pt.cells,By,List.map_take,List.map_drop]
theorem two_okP{x y:Pt}(h:OkP [x])(h2:OkP [y]):OkP [x,y]:=λq hq=>by
 rcases aJ.1 hq with rfl|hq
 ·exact h _ List.mem_cons_self
 ·exact h2 q hq
theorem halves_ok{l:List UInt8}(h:l.length=64):OkP [.agg 32 (By (l.take 32)).toArray,.agg 32 (By (l.drop 32)).toArray]:=two_okP (eY_ok (by rw [aY,h];rfl)).1 (eY_ok (by rw [eK,h])).1
theorem sub2{x y:LV}{L:List LV}:∀z∈[x,y],z∈x::y::L:=λz hz=>by
 rcases aJ.1 hz with rfl|hz
 ·exact .head _
 ·rw [aE.1 hz]
  exact .tail _ (.head _)
theorem inv2{b:Base}{N:Nat}{E:SE}{x y:LV}{L:List LV}{R:List Res}{F M:World->Prop}(hx:x.g.isSome=true)(hy:y.g.isSome=true):∀a w,St b N ⟨E,x::y::L,R,F,M⟩ a w->InvL [x,y] w:=inv_of λz hz=>⟨sub2 z hz,by
 rcases aJ.1 hz with rfl|hz
 ·exact hx
 ·rw [aE.1 hz]
  exact hy⟩
theorem spread_C{seed:List UInt8}(hs:seed.length=32):Ct Tsh 71 [eY 32 seed] (one (.t [eS (le (jL seed)%LL),eY 32 (oE seed)])):=⟨own_spread,by
 have hD:=nZ seed
 have hd:((sgD seed).take 32).length=32:=by rw [aY,hD];rfl
 refine spec_S [eY 32 seed] 26 Tryz.func71 rfl (by rw [Tryz.ntmps71];rfl) (one_ok (eY_ok hs).1) λB=>?_;refine s_auto TY_ok rfl ?_;refine s_reg λK hK=>l_auto2 rfl ?_
 refine l_dig TY_ok [.s 1 0 32 32] [seed] (sgD seed) rfl rfl rfl rfl rfl rfl rfl rfl rfl own_sum512 (λ_=>rfl) rfl (by decide) (by decide) hD (λA w hp hF _=>by
  have h:=sum512_f A [seed] 1 w hF hp (aD rfl) (aD rfl)
  rwa [List.flatten_cons,List.flatten_nil,List.append_nil] at h) (λG S w hv=>⟨sb_var rfl hs (by decide) G S w hv,trivial⟩) λA=>l_N hK rfl ?_
 refine s_auto TY_ok rfl ?_;refine s_N 2 [] (by kernel_rfl) λK hK G S w0 hst=>n_L hst rfl ?_;obtain⟨D,eD⟩:∃D,D=(sgD seed).take 32:=⟨_,rfl⟩;rw [<-eD] at hd;refine l_copyW (z:=z64) (ps:=[.agg 64 (By (sgD seed)).toArray]) D rfl rfl rfl rfl rfl rfl rfl rfl ?_ rfl hd (mX hd) (by rw [hd];exact aD rfl) (l_E rfl (hK _ ?_))
 ·rw [hd,eD]
  exact src_one 0 32
 have x0:=(D[0]!).toNat_lt;refine s_reg λK hK=>?_;refine l_cell rfl arr64 (aD rfl) _ (By_get (l:=cop z64 0 D) (j:=0) (by rw [cop_64 hd];exact aD rfl)) ?_;refine l_auto2 rfl ?_;refine l_put rfl arr64 (aD rfl) [.agg 64 (By (cop z64 0 (lE D))).toArray] (eY_ok (cop_64 (by rw [mP,hd]))).1 ?_ ?_ (l_N hK rfl ?_)
 ·show _<(By (cop z64 0 D)).toArray.size
  rw [aV,By_len,cop_64 hd];exact aD rfl
 ·show By (cop z64 0 (lE D))=(By (cop z64 0 D)).set 0 (.int .u8 (bits .and .u8 ((cop z64 0 D)[0]!.toNat:Int) 248))
  rw [cop_get hd (by decide),and248 _ x0,lE,<-cop_set hd (by decide),By,By,dR,ofNat_toNat (by omega)]
 have hl:(lE D).length=32:=by rw [mP,hd]
 have x1:=((lE D)[31]!).toNat_lt;refine s_reg λK hK=>?_;refine l_cell rfl arr64 (aD rfl) _ (By_get (l:=cop z64 0 (lE D)) (j:=31) (by rw [cop_64 hl];exact aD rfl)) ?_;refine l_auto2 rfl ?_;refine l_put rfl arr64 (aD rfl) [.agg 64 (By (cop z64 0 (oU (lE D)))).toArray] (eY_ok (cop_64 (by rw [qC,hl]))).1 ?_ ?_ (l_N hK rfl ?_)
 ·show _<(By (cop z64 0 (lE D))).toArray.size
  rw [aV,By_len,cop_64 hl];exact aD rfl
 ·show By (cop z64 0 (oU (lE D)))=(By (cop z64 0 (lE D))).set 31 (.int .u8 (bits .or .u8 (bits .and .u8 ((cop z64 0 (lE D))[31]!.toNat:Int) 127) 64))
  rw [cop_get hl (by decide),low7 _ x1,or64 _ x1,oU,<-cop_set hl (by decide),By,By,dR,ofNat_toNat (by omega)]
 have eL5:(some ⟨5,none,74,[.agg 64 (By (cop z64 0 (oU (lE D)))).toArray]⟩:Option LV)=some ⟨5,none,74,[.agg 64 (By (cop z64 0 (jL seed))).toArray]⟩:=by rw [eD];rfl
 refine c_weak (e':=⟨[(5,.a 5 0),(4,.a 4 0),(3,.a 3 0),(2,.a 2 0)],[⟨5,none,74,[.agg 64 (By (cop z64 0 (jL seed))).toArray]⟩,⟨4,none,74,[.agg 64 (By (sgD seed)).toArray]⟩,⟨3,none,45,[.agg 32 (By (aA 32 0)).toArray]⟩,⟨2,none,145,[.agg 4 (Us [0,0,0,0]).toArray]⟩],[],Tsh,λ_=>True⟩) ⟨⟨rfl,rfl,rfl,rfl,trivial⟩,⟨eL5,rfl,rfl,rfl,rfl,rfl,rfl,rfl,trivial⟩,.refl _,λ_ h _=>h,λ_ h=>h⟩ ?_;refine s_ps 4 [.agg 32 (By ((sgD seed).take 32)).toArray,.agg 32 (By (oE seed)).toArray] rfl (halves (sgD seed)) (halves_ok hD) ?_;refine s_locs λG=>?_;refine s_seq λK hK=>?_;refine s_anyP [0,2,3,4] 6 1 (InvL [⟨5,some (G 5),74,[.agg 64 (By (cop z64 0 (jL seed))).toArray]⟩,⟨4,some (G 4),74,[.agg 32 (By ((sgD seed).take 32)).toArray,.agg 32 (By (oE seed)).toArray]⟩]) (by kernel_rfl) rfl (inv2 rfl rfl) ?_;refine p_front TY_ok 0 (by kernel_rfl) rfl rfl rfl rfl rfl rfl sub2 ?_;refine p_frontO (.s 4 32 32 32) trivial 2 (by kernel_rfl) rfl rfl rfl rfl rfl (moreS_ok rfl).2 ?_;refine p_frontO (.a 4 32) trivial 3 (by kernel_rfl) rfl rfl rfl rfl rfl (moreS_ok rfl).2 ?_;refine p_front TY_ok 4 (by kernel_rfl) rfl rfl rfl rfl rfl rfl sub2 ?_;refine p_step 1 (by kernel_rfl) rfl λK2 hK2=>l_X (wide_C (cop_64 (qD seed))) (λ_=>rfl) rfl λ_=>l_E rfl (hK2 _ (inv2 rfl rfl) ?_);refine p_step 5 (by kernel_rfl) rfl λK2 hK2=>l_E rfl (hK2 _ (inv2 rfl rfl) ?_);refine p_tail [6] (by kernel_rfl) rfl (l_E rfl (hK _ (s_ret ?_)));have e:le (cop z64 0 (jL seed))=le (jL seed):=(cop_half (qD seed)).2;rw [e]
 exact k_ret TY_ok () rfl (by decide) rfl rfl rfl (λ_ _ _=>trivial) λ_ _=>trivial⟩
theorem based_C{n:Nat}(hn:n<LL):Ct Tw 72 [eS n] (one (.q (eY 32 (dX (Ed.mul dd n base))))):=⟨own_based,by
 refine spec_S [eS n] 8 Tryz.func72 rfl (by rw [Tryz.ntmps72];rfl) (one_ok (eS_ok n)) λB=>?_;refine s_auto TY_ok rfl ?_;refine s_N 5 [] (by kernel_rfl) λK hK G S w0 hst=>?_;refine n_X hst base_C rfl λ⟨P,h,hP⟩=>?_;refine n_X hst schash_C rfl λ_=>?_;refine n_X hst (pmul_C (.inr h) hP (b9 32 n)) rfl λ⟨P,h,hP⟩=>?_;rw [lQ hn] at h;refine n_X hst (phash_C h hP) rfl λ_=>n_N hst rfl hK rfl (s_ret ?_)
 exact k_ret TY_ok () rfl (by decide) rfl rfl rfl (λ_ _ _=>trivial) λ_ _=>trivial⟩
theorem public_C{seed:List UInt8}(hs:seed.length=32):Ct Ta 48 [eY 32 seed] (one (.q (eY 32 (eQ seed)))):=⟨own_public,by
 refine spec_S [eY 32 seed] 12 Tryz.func48 rfl (by rw [Tryz.ntmps48];rfl) (one_ok (eY_ok hs).1) λB=>?_;refine s_auto TY_ok rfl ?_;refine s_reg λK hK=>l_X ((spread_C hs).imp λ_ h=>h.sh) (λ_=>rfl) rfl λ_=>l_N hK rfl ?_;refine s_reg λK hK=>l_X ((based_C (gY (le (jL seed)))).imp λ_ h=>h.tw) (λ_=>rfl) rfl λ_=>l_N hK rfl (s_ret ?_);rw [mul_a]
 exact k_ret TY_ok () rfl (by decide) rfl rfl rfl (λ_ _ _=>trivial) λ_ _=>trivial⟩
theorem own_sign:Own 68:=λ_ _=>by go_simp
theorem own_verify:Own 73:=λ_ _=>by go_simp
theorem sb_varA{L:List LV}{R:List Res}{F M:World->Prop}{j n off m c:Nat}{l z:List UInt8}{G:Nat->Nat}{S:Nat->Prop}{w:World}(hv:View G S L R F M w)(hj:lookL L j=some [.agg n (By z).toArray])(hz:(z.drop off).take m=l)(hl:l.length=m)(hc:m<=c)(hm:c<=9223372036854775807):SB w ((SV.s j off m c).den G) l:=by
 obtain⟨u,hu,rfl,hps⟩:=lookL_mem hj;have hb:=(hv.var u hu).1;rw [hps] at hb;exact SB.arr hb hz hl hc hm
theorem sb_none{w:World}:SB w (.slice none 0 0) []:=⟨none,0,rfl,aH _,aQ _,λ_=>rfl,λh=>absurd h (Nat.lt_irrefl 0)⟩
theorem number_R{v1 v2:Value}{l1 l2:List UInt8}{P:Option Addr}{ls:List (List UInt8)}{pc n:Nat}{w:World}(hn:le (cM dC (l1++(l2++ls.flatten)))%LL=n)(hT:Ta w)(hP:PT w P ls)(h0:P=none->pc=0)(hls:ls.length<=1000000)(h1:SB w v1 l1)(h2:SB w v2 l2) :
  Calls Tryz.prog 96 #[v1,v2,.slice P ls.length pc] w λe w'=>e = .returned (RV.q (eS n)).den/\Below w.heap.size w w':=by
 have h:=number_f w hT.sh h1 h2 hP h0 hls;rw [hn] at h;exact h
theorem basedA_C(seed:List UInt8):Ct Tw 72 [eS (le (jL seed)%LL)] (one (.q (eY 32 (eQ seed)))):=by
 have h:=based_C (gY (le (jL seed)));rw [mul_a] at h;exact h
theorem hashS_C{F:World->Prop}(seed m:List UInt8):Ct F 99 [eS ((sgR seed m+sgK (m9 seed m) (eQ seed) m*(le (jL seed)%LL)%LL)%LL)] (one (.q (eY 32 (Nums.bytes 32 (sgS seed m))))):=by
 rw [sgS_eq];exact schash_C
theorem sign_C{seed:List UInt8}{P:Option Addr}{ls:List (List UInt8)}{pc:Nat}(hs:seed.length=32)(h0:P=none->pc=0)(hls:ls.length<=1000000):Ct (λw=>Ta w/\PT w P ls) 68 [eY 32 seed,.c (.v (.slice P ls.length pc))] (one (.q (eY 64 (jB seed ls.flatten)))):=⟨own_sign,by
 have hp:=sJ seed;have hR:=jC seed ls.flatten;have hk:=nA seed;refine spec_S [eY 32 seed,.c (.v (.slice P ls.length pc))] 42 Tryz.func68 rfl (by rw [Tryz.ntmps68];rfl) (two_ok (eY_ok hs).1 trivial) λB=>?_;refine s_auto TY_ok rfl ?_;refine s_reg λK hK=>l_X ((spread_C hs).imp λ_ h=>h.1.sh) (λ_=>rfl) rfl λ_=>l_N hK rfl ?_;refine s_reg λK hK=>l_P (r:=.q (eS (sgR seed ls.flatten))) own_number (eS_ok _) rfl (λG S w hv=>number_R sgR_eq hv.fact.1 hv.fact.2 h0 hls (sb_varA hv rfl (all32 hp) hp (aH _) (aD rfl)) sb_none) (l_N hK rfl ?_);refine s_N 4 [(8,45),(9,45)] (by kernel_rfl) λK hK G S w0 hst=>n_X hst ((based_C (sgR_lt _ _)).imp λ_ h=>h.1.tw) rfl λ_=>n_X hst ((basedA_C seed).imp λ_ h=>h.1.tw) rfl λ_=>n_N hst rfl hK rfl ?_;refine s_N 4 [(10,145)] (by kernel_rfl) λK hK G S w0 hst=>n_P hst (r:=.q (eS (sgK (m9 seed ls.flatten) (eQ seed) ls.flatten))) own_number (eS_ok _) rfl (λw hv=>number_R sgK_eq hv.fact.1 hv.fact.2 h0 hls (sb_varA hv rfl (all32 hR) hR (aH _) (aD rfl)) (sb_varA hv rfl (all32 hk) hk (aH _) (aD rfl))) (n_N hst rfl hK rfl ?_);refine s_N 6 [(11,45)] (by kernel_rfl) λK hK G S w0 hst=>n_X hst (scmul_C (sgK_lt _ _ _) (gY (le (jL seed)))) rfl λ_=>n_X hst (scadd_C (sgR_lt _ _) (gY _)) rfl λ_=>n_X hst (hashS_C seed ls.flatten) rfl λ_=>n_N hst rfl hK rfl ?_;refine s_auto TY_ok rfl ?_;refine s_N 2 [] (by kernel_rfl) λK hK G S w0 hst=>n_L hst rfl ?_;refine l_copyW (z:=z64) (ps:=[.agg 32 (By (m9 seed ls.flatten)).toArray]) (m9 seed ls.flatten) rfl rfl rfl rfl rfl rfl rfl rfl ((src_one 0 _).trans (congrArg By (all32 rfl))) rfl hR (mX hR) (by rw [hR];exact aD rfl) (l_E rfl (hK _ ?_));refine s_N 2 [] (by kernel_rfl) λK hK G S w0 hst=>n_L hst rfl ?_;refine l_copyW (z:=cop z64 0 (m9 seed ls.flatten)) (ps:=[.agg 32 (By (Nums.bytes 32 (sgS seed ls.flatten))).toArray]) (Nums.bytes 32 (sgS seed ls.flatten)) rfl rfl rfl rfl rfl rfl rfl rfl ((src_one 0 _).trans (congrArg By (all32 rfl))) (cop_64 hR) (b9 _ _) (mX (b9 _ _)) (by rw [b9];exact aD rfl) (l_E rfl (hK _ ?_));rw [sig_cop];refine s_auto TY_ok rfl (s_ret ?_)
 exact k_ret TY_ok () rfl (by decide) rfl rfl rfl (λ_ _ _=>trivial) λ_ _=>trivial⟩
section
variable{F:World->Prop}{b:List UInt8}[Pst F]
theorem scnewY(hb:b.length=32)(h:le b<LL):Ct F 108 [eY 32 b] (one (.t [eS (le b),.c (.v (.bool true))])):=by
 have h2:=scnew_C (F:=F) hb
 rwa [if_pos h,decide_eq_true h] at h2
theorem scnewN(hb:b.length=32)(h:¬le b<LL):Ct F 108 [eY 32 b] (one (.t [eS 0,.c (.v (.bool false))])):=by
 have h2:=scnew_C (F:=F) hb
 rwa [if_neg h,decide_eq_false h] at h2
end
theorem verify_C{key sig:List UInt8}{P:Option Addr}{ls:List (List UInt8)}{pc:Nat}(hk:key.length=32)(hs:sig.length=64)(h0:P=none->pc=0)(hls:ls.length<=1000000):Ct (λw=>Ta w/\PT w P ls) 73 [eY 32 key,eY 64 sig,.c (.v (.slice P ls.length pc))] (one (.q (.c (.b (rightB key sig ls.flatten))))):=⟨own_verify,by
 have hR:(sig.take 32).length=32:=by rw [aY,hs];rfl
 have hS:(sig.drop 32).length=32:=by rw [eK,hs]
 refine spec_S [eY 32 key,eY 64 sig,.c (.v (.slice P ls.length pc))] 50 Tryz.func73 rfl (by rw [Tryz.ntmps73];rfl) (λu hu=>by
  rcases aJ.1 hu with rfl|hu
  ·exact(eY_ok hk).1
  ·exact two_ok (v:=eY 64 sig) (v2:=.c (.v (.slice P ls.length pc))) (eY_ok hs).1 trivial u hu) λB=>?_
 have hno:rightB key sig ls.flatten=false->∀e,Weak e ⟨[(6,.v (.bool false))],[],[],λ_=>True,λ_=>True⟩->kS B (bodyPost Tryz.prog Tryz.f73 (endS B (one (.q (.c (.b (rightB key sig ls.flatten)))))) .ret) 50 e:=λh e he=>k_weak he (k_retD TY_ok () rfl (by decide) rfl (by rw [h];rfl) trivial rfl (λ_ _ _=>trivial) λ_ _=>trivial);refine s_auto TY_ok rfl ?_;refine s_ps 4 [.agg 32 (By (sig.take 32)).toArray,.agg 32 (By (sig.drop 32)).toArray] rfl (halves sig) (halves_ok hs) ?_;refine s_reg λK hK=>l_X ((decode_C hk).imp λ_ h=>h.1.tw) (λ_=>rfl) rfl λ⟨P',e,ok⟩=>l_N hK rfl ?_;refine s_seq λK0 hK0=>?_
 rcases ok with⟨A,hq,hP',rfl,rfl⟩|⟨hn,rfl,rfl⟩
 ·refine s_reg λK hK=>l_auto2 rfl (l_is 20 false rfl rfl ?_)
  refine l_autoS TY_ok rfl ?_;refine l_X ((small_C (.inr hq) hP').imp λ_ h=>h.1.tw) (λ_=>rfl) rfl λ_=>l_N hK rfl ?_;refine s_ifD (dX (Ed.mul dd 8 A)=dX Ed.zero) rfl (λh8=>?_) (λh8=>s_skip (hK0 _ ?_))
  ·refine s_auto TY_ok rfl (s_ret (hno (rightB_small hq.on ((small_dec hq.on).1 h8)) _ ⟨⟨rfl,trivial⟩,trivial,.refl _,λ_ _ _=>trivial,λ_ _=>trivial⟩))
  by_cases h1:le (sig.drop 32)<LL
  ·refine s_reg λK hK=>l_X (scnewY hS h1) (λ_=>rfl) rfl λ_=>l_N hK rfl ?_
   refine s_seq λK0 hK0=>?_;refine s_auto TY_ok rfl (s_no rfl (s_skip (hK0 _ ?_)));refine s_reg λK hK=>l_N hK rfl ?_;refine s_N 4 [(12,145)] (by kernel_rfl) λK hK G S w0 hst=>n_P hst (r:=.q (eS (sgK (sig.take 32) (dX A) ls.flatten))) own_number (eS_ok _) rfl (λw hv=>number_R sgK_eq hv.fact.1 hv.fact.2 h0 hls (sb_varA hv rfl (all32 hR) hR (aH _) (aD rfl)) (sb_varA hv rfl (all32 hk) hk (aH _) (aD rfl))) (n_N hst rfl hK rfl ?_);refine s_N 10 [] (by kernel_rfl) λK hK G S w0 hst=>?_;refine n_X hst schash_C rfl λ_=>?_;refine n_X hst ((neg_C (.inr hq) hP').imp λ_ h=>h.1.tw) rfl λ⟨P2,hq2,hP2⟩=>?_;refine n_X hst schash_C rfl λ_=>?_;refine n_X hst ((both_C (b9 32 _) (.inr hq2) hP2 (b9 32 _)).imp λ_ h=>h.1.tw) rfl λ⟨P3,h3,hP3⟩=>?_;refine n_X hst ((phash_C h3 hP3).imp λ_ h=>h.1.tw) rfl λ_=>?_;refine n_auto2 hst rfl ?_;refine n_op hst (.b (decide (dX (Ed.add dd (Ed.mul dd (le (Nums.bytes 32 (le (sig.drop 32)))) base) (Ed.mul dd (le (Nums.bytes 32 (sgK (sig.take 32) (dX A) ls.flatten))) (Ed.neg A)))=sig.take 32))) trivial rfl rfl rfl (run_eqY rfl rfl rfl Tryz.underlying45 (by kernel_rfl) (jF _) hR) ?_;refine n_N hst rfl hK rfl (s_ret ?_);exact k_retD TY_ok () rfl (by decide) rfl (congrArg Value.bool (rightB_is hq.on (λh=>h8 ((small_dec hq.on).2 h)) h1)) trivial rfl (λ_ _ _=>trivial) λ_ _=>trivial
  ·refine s_reg λK hK=>l_X (scnewN hS h1) (λ_=>rfl) rfl λ_=>l_N hK rfl ?_
   refine s_seq λK0 hK0=>?_;refine s_auto TY_ok rfl (s_yes rfl ?_);exact s_auto TY_ok rfl (s_ret (hno (rightB_great h1) _ ⟨⟨rfl,trivial⟩,trivial,.refl _,λ_ _ _=>trivial,λ_ _=>trivial⟩))
 ·refine s_reg λK hK=>l_auto2 rfl (l_is 20 true rfl rfl (l_skips rfl (l_N hK rfl ?_)))
  refine s_yes rfl (s_auto TY_ok rfl (s_ret (hno (rightB_no hn) _ ⟨⟨rfl,trivial⟩,trivial,.refl _,λ_ _ _=>trivial,λ_ _=>trivial⟩)))⟩
theorem own_seal:Own 46:=λ_ _=>by go_simp
theorem own_owned:Own 49:=λ_ _=>by go_simp
theorem public_S{seed:List UInt8}(hs:seed.length=32):Spec 48 [.agg (By seed).toArray] [] Ta (one (.q (eY 32 (eQ seed)))):=(public_C hs).spec
theorem signed_S{A:Option Addr}{c:Nat}{b:List UInt8}(t:UInt8)(hb:b.length<=140737488355312):Spec 69 [.int .u8 (t.toNat:Int),.slice A b.length c] [] (λw=>Rd 1 eB A c b w) (madeN (msg t b)):=Spec.made λw h=>signed_M t w h.sb hb
theorem flat_one(x:List UInt8):[x].flatten=x:=by simp
section
variable{A:Option Addr}{c:Nat}{b:List UInt8}(t:UInt8)
theorem seal_S{seed:List UInt8}(hs:seed.length=32)(hb:b.length<=140737488355312):Spec 46 [.agg (By seed).toArray,.int .u8 (t.toNat:Int),.slice A b.length c] [] (λw=>Ta w/\Rd 1 eB A c b w) (one (.q (eY 64 (jB seed (msg t b))))):=by
 refine spec_S [eY 32 seed,.c (.v (.int .u8 (t.toNat:Int))),.c (.v (.slice A b.length c))] 13 Tryz.func46 rfl (by rw [Tryz.ntmps46];rfl) (more_ok (eY_ok hs).1 (two_ok trivial trivial)) λB=>?_;refine s_auto TY_ok rfl ?_;refine s_regH 6 (by decide) (by kernel_rfl) (by kernel_rfl) λK hK G S w0 hst=>?_;refine h_auto TY_ok hst rfl ?_;refine h_callE (F':=λw=>Rd 1 eB A c b w) hst [.int .u8 (t.toNat:Int),.slice A b.length c] rfl rfl rfl rfl own_r7signed rfl rfl (λ_=>rfl) (signed_S t hb).p1 (λw hw _=>hw.fact.2) λg _=>?_;refine h_parts [.slice (some ⟨g,0,none⟩) (msg t b).length (msg t b).length] [msg t b] hst rfl rfl rfl rfl rfl rfl rfl (by decide) (by decide) (λw _ hu=>⟨(madeP_rd (hu 3 _ rfl (by kernel_rfl))).sb,trivial⟩) λg2=>?_;have hsg:=(sign_C (P:=some ⟨g2,0,none⟩) (ls:=[msg t b]) (pc:=1) hs (λh=>by cases h) (aD rfl)).spec;rw [flat_one] at hsg;refine h_callE (F':=λw=>Ta w/\PT w (some ⟨g2,0,none⟩) [msg t b]) hst [.agg (By seed).toArray,.slice (some ⟨g2,0,none⟩) 1 1] rfl rfl rfl rfl own_sign rfl rfl (λ_=>rfl) hsg (λw hw hu=>⟨hw.fact.1,hu 4 _ rfl (by kernel_rfl)⟩) λ_ _=>?_;refine h_end hst (l_E rfl (hK _ (s_ret ?_)));exact k_ret TY_ok () rfl (by decide) rfl rfl rfl (λ_ _ _=>trivial) λ_ _=>trivial
theorem owned_S{key sig:List UInt8}(hk:key.length=32)(hs:sig.length=64)(hb:b.length<=140737488355312):Spec 49 [.agg (By key).toArray,.int .u8 (t.toNat:Int),.slice A b.length c,.agg (By sig).toArray] [] (λw=>Ta w/\Rd 1 eB A c b w) (one (.q (.c (.b (rightB key sig (msg t b)))))):=by
 refine spec_S [eY 32 key,.c (.v (.int .u8 (t.toNat:Int))),.c (.v (.slice A b.length c)),eY 64 sig] 16 Tryz.func49 rfl (by rw [Tryz.ntmps49];rfl) (more_ok (eY_ok hk).1 (more_ok trivial (two_ok trivial (eY_ok hs).1))) λB=>?_;refine s_auto TY_ok rfl ?_;refine s_regH 7 (by decide) (by kernel_rfl) (by kernel_rfl) λK hK G S w0 hst=>?_;refine h_auto TY_ok hst rfl ?_;refine h_callE (F':=λw=>Rd 1 eB A c b w) hst [.int .u8 (t.toNat:Int),.slice A b.length c] rfl rfl rfl rfl own_r7signed rfl rfl (λ_=>rfl) (signed_S t hb).p1 (λw hw _=>hw.fact.2) λg _=>?_;refine h_parts [.slice (some ⟨g,0,none⟩) (msg t b).length (msg t b).length] [msg t b] hst rfl rfl rfl rfl rfl rfl rfl (by decide) (by decide) (λw _ hu=>⟨(madeP_rd (hu 4 _ rfl (by kernel_rfl))).sb,trivial⟩) λg2=>?_;have hsg:=(verify_C (P:=some ⟨g2,0,none⟩) (ls:=[msg t b]) (pc:=1) hk hs (λh=>by cases h) (aD rfl)).spec;rw [flat_one] at hsg;refine h_callE (F':=λw=>Ta w/\PT w (some ⟨g2,0,none⟩) [msg t b]) hst [.agg (By key).toArray,.agg (By sig).toArray,.slice (some ⟨g2,0,none⟩) 1 1] rfl rfl rfl rfl own_verify rfl rfl (λ_=>rfl) hsg (λw hw hu=>⟨hw.fact.1,hu 5 _ rfl (by kernel_rfl)⟩) λ_ _=>?_;refine h_end hst (l_E rfl (hK _ (s_ret ?_)));exact k_ret TY_ok () rfl (by decide) rfl rfl rfl (λ_ _ _=>trivial) λ_ _=>trivial
end
end Go.Proofs.YtlhlkofpjhpaoaaGreatDoor
