import Derived.Test.YtlhlkofpjhpaoaaGreatDoorMo
import Derived.Test.YtlhlkofpjhpaoaaGreatDoorMn
import Derived.Test.YtlhlkofpjhpaoaaGreatDoorMm
set_option maxRecDepth 100000
set_option maxHeartbeats 4000000
open Array renaming length_toList->a7,toList_append->dC
open Go.Result renaming andThen_ok->aD
open Go.Sem renaming run_bind->aG,run_pure->aH
open Go.Value renaming int->bH
open List renaming length_append->aB,mem_singleton->aF,getElem?_eq_getElem->aJ,mem_cons->aL,mem_cons_self->aP,length_take->aR,size_toArray->aU,mem_of_getElem?->aX,append_assoc->aY,length_singleton->a9,length_cons->bA,eq_nil_of_length_eq_zero->bC,take_of_length_le->bE,getElem?_eq_some_iff->bG,length_set->bP,append_nil->bQ,length_filter_le->cD,length_drop->dI,getElem?_append_right->dO,take_length->fE,drop_of_length_le->fF,set_append_right->fP,nil_append->fR,filter->iF,filter_append->kN,length_nil->k7,mem_or_eq_of_mem_set->rI
open Nat renaming le_refl->aE,zero_le->aI,mod_eq_of_lt->aW,zero_add->aZ,le_trans->bN,min_eq_left->cK,add_zero->dW,sub_self->g7,add_sub_cancel_left->kK,le_of_eq->mM,mul_add->mQ,zero_lt_one->oG,not_lt_zero->oH
open Option.some renaming inj->cO
open UInt8 renaming ofNat->bJ,toNat_ofNat'->gC
namespace Go.Proofs.YtlhlkofpjhpaoaaGreatDoor
open Go.RowKit Go.IntWalk Nums
def sdP(s d:Nat)(l:List PairT):List PairT:=l.filter λx=>b6 x.1 d==s
def sdK(s d:Nat)(l:List (List UInt8)):List (List UInt8):=l.filter λx=>b6 x d==s
theorem sdP_one(d:Nat)(l:List PairT):sdP 1 d l=bB d l:=List.filter_congr λx _=>by
 have:=iY x.1 d
 rcases Nat.lt_or_ge (b6 x.1 d) 1 with h|h
 ·simp [show b6 x.1 d=0 by omega]
 ·simp [show b6 x.1 d=1 by omega]
theorem sdK_one(d:Nat)(l:List (List UInt8)):sdK 1 d l=PW.keyR d l:=List.filter_congr λx _=>by
 have:=iY x d
 rcases Nat.lt_or_ge (b6 x d) 1 with h|h
 ·simp [show b6 x d=0 by omega]
 ·simp [show b6 x d=1 by omega]
theorem PW.cut_le:∀(n:Nat) {d:Nat} {l:List PairT} {ks:List (List UInt8)},(∀p∈l,OkT2 p)->(PW.cut n d l ks).bytes.length<=(70+2*n)*l.length+1
 | n,d,[],_,_=>by
  cases n<;>exact Nat.le_add_left _ _
 | n,d,p::l,[],_=>by
  have e:(PW.cut n d (p::l) []).bytes.length=33:=by
   cases n<;>(show(dY _ _).length+1=33;rw [rootT_len])
  rw [e,bA,Nat.mul_succ]
  omega
 | n,d,[p],k::ks,h=>by
  have hp:=h p aP
  have e:(PW.cut n d [p] (k::ks)).bytes.length=65:=by
   cases n<;>(show(1::(p.1++p.2)).length=65;rw [bA,aB,hp.1,hp.2])
  rw [e]
  show 65<=(70+2*n)*1+1
  omega
 | 0,d,p::q::l,k::ks,_=>by
  show 1<=_
  omega
 | n+1,d,p::q::l,k::ks,h=>by
  have h1:=cut_le n (d:=d+1) (l:=bR d (p::q::l)) (ks:=PW.keyL d (k::ks)) λx hx=>h x (fZ.1 hx).1;have h2:=cut_le n (d:=d+1) (l:=bB d (p::q::l)) (ks:=PW.keyR d (k::ks)) λx hx=>h x (fH.1 hx).1;have h3:=PW.halves d (p::q::l)
  show(2::((PW.cut n (d+1) (bR d (p::q::l)) (PW.keyL d (k::ks))).bytes++(PW.cut n (d+1) (bB d (p::q::l)) (PW.keyR d (k::ks))).bytes)).length<=_
  rw [bA,aB,<-h3]
  have h4:2<=(bR d (p::q::l)).length+(bB d (p::q::l)).length:=by rw [h3];simp
  generalize (bR d (p::q::l)).length=a at *;generalize (bB d (p::q::l)).length=b at *
  have e:(70+2*(n+1))*(a+b)=(70+2*n)*a+(70+2*n)*b+2*(a+b):=by
   rw [show 70+2*(n+1)=(70+2*n)+2 by omega,Nat.add_mul,mQ]
  rw [e]
  omega
theorem cut_inner{n d:Nat}{l:List PairT}{ks:List (List UInt8)}(h:2<=l.length)(hk:ks≠[]):PW.cut (n+1) d l ks = .inner (PW.cut n (d+1) (sdP 0 d l) (sdK 0 d ks)) (PW.cut n (d+1) (sdP 1 d l) (sdK 1 d ks)):=by
 rw [sdP_one,sdK_one]
 match l,ks,h,hk with
 | p::q::l,k::ks,_,_=>rfl
theorem own_rcut10:Own 17:=λ_ _=>by go_simp
theorem rd_key2{g o c i:Nat}{l:List PairT}{p:PairT}{w:World}(h:Rd 64 eP (some ⟨g,o,none⟩) c l w)(hi:l[i]?=some p)(hp:OkT2 p):Rd 1 eB (some ⟨g,o+64*i+0,none⟩) 32 p.1 w/\Rd 1 eB (some ⟨g,o+64*i+32,none⟩) 32 p.2 w:=by
 obtain⟨_,_,_,_,h5⟩:=h;obtain⟨b',o',e,hb,hr⟩:=h5 (Nat.lt_of_le_of_lt (aI _) (bG.1 hi).1)
 injection e with e
 injection e with e1 e2
 subst e1 e2;have hr:=hr i p hi;rw [eP_cl] at hr
 have hl1:(By p.1).length=32:=by rw [By_len];exact hp.1
 have key:∀(m:List UInt8) (a:Nat),w.rangeAt g a (By m)->m.length=32->Rd 1 eB (some ⟨g,a,none⟩) 32 m w:=λm a hm hl=>by
  refine⟨mM hl,by decide,λh=>(by cases h),okF_B m,λ_=>⟨g,a,rfl,hb,λi x hi j v hj=>?_⟩⟩
  cases j with
  | zero =>
   have e:v = .int .u8 (x.toNat:Int):=(cO ((show(eB x).cl[0]?=some (.int .u8 (x.toNat:Int)) from rfl).symm.trans hj)).symm;obtain⟨h2,h3⟩:=bG.1 hi;have h4:=By_at? h2;rw [getElem!_pos m i h2,h3] at h4;have h5:=hm i (.int .u8 (x.toNat:Int)) (by simpa using h4);rw [e,Nat.one_mul,dW];exact h5
  | succ j =>
   have:(eB x).cl[j+1]?=none:=rfl;rw [this] at hj
   cases hj
 refine⟨key _ _ (range_in (A:=[]) (B:=By p.1) (Z:=By p.2) hr rfl) hp.1,?_⟩;have:=range_in (A:=By p.1) (B:=By p.2) (Z:=[]) hr (by simp);rw [hl1] at this;exact key _ _ this hp.2
theorem rcut_step{n d:Nat}{l:List PairT}{ks:List (List UInt8)}{A:Option Addr}{c:Nat}{A2:Option Addr}{c2:Nat}(hd:d<=256)(hl:l.length<=1000)(hkl:ks.length<=1000)(hs:cP l)(hsh:c7 d l)(hn:n+d=256)
 (ih:0<n->∀(l:List PairT) (ks:List (List UInt8)) (A:Option Addr) (c:Nat) (A2:Option Addr) (c2:Nat),l.length<=1000->ks.length<=1000->cP l->c7 (d+1) l->Spec 17 [.slice A l.length c,.slice A2 ks.length c2,.int .i64 ((d+1:Nat):Int)] [] (λw=>Rd 64 eP A c l w/\Rd 32 (eY 32) A2 c2 ks w) (newB (PW.cut (n-1) (d+1) l ks).bytes)) :
  Spec 17 [.slice A l.length c,.slice A2 ks.length c2,.int .i64 (d:Int)] [] (λw=>Rd 64 eP A c l w/\Rd 32 (eY 32) A2 c2 ks w) (newB (PW.cut n d l ks).bytes):=by
 obtain⟨res,hres⟩:∃r,(PW.cut n d l ks).bytes=r:=⟨_,rfl⟩;rw [hres];refine spec_S [.c (.v (.slice A l.length c)),.c (.v (.slice A2 ks.length c2)),.c (.v (.int .i64 (d:Int)))] 91 Tryz.func17 rfl (by rw [Tryz.ntmps17];rfl) (more_ok trivial (two_ok trivial trivial)) λb=>?_
 refine s_pure ((∀x∈l,OkT2 x)/\∀k∈ks,k.length=32) (λ_ h _=>⟨λx hx=>eP_len (h.1.2.2.2.1 x hx).1,λk hk=>by
  have:=((h.2.2.2.2.1 k hk).1 (.agg 32 (By k).toArray) (by simp [eY,SQ.parts1])).1
  rwa [aU,By_len] at this⟩) λ⟨hok,hks⟩=>?_
 have hk:gP l:=λx hx=>(hok x hx).1;refine s_auto TY_ok rfl ?_;refine s_seq λK hK=>?_;refine s_auto TY_ok rfl ?_;refine s_ifD ((l.length:Int)=0) rfl (λh0=>?_) (λh0=>?_)
 ·obtain rfl:l=[]:=bC (by omega)
  obtain rfl:res=[0]:=by rw [<-hres];cases n<;>rfl
  refine s_regA TY_ok rfl λK5 hK5=>?_;refine l_list TY_ok b.B.heap.size [(0:UInt8)] rfl rfl rfl rfl rfl (λ_=>rfl) rfl (by decide) (by decide) (okF_B _) (aE _) λA1=>?_;refine l_autoS TY_ok rfl ?_;refine s_end (hK5 _ ?_);refine s_freeM 0 rfl (aE _) ?_;exact s_ret (k_ret TY_ok (A1,1) rfl (by decide) rfl rfl rfl (λ_ _ _=>trivial) (λ_ h=>h.1))
 refine s_skip (hK _ ?_);refine s_seq λK1 hK1=>?_;refine s_auto TY_ok rfl ?_;refine s_ifD ((ks.length:Int)=0) rfl (λh1=>?_) (λh1=>?_)
 ·obtain rfl:ks=[]:=bC (by omega)
  obtain⟨rt,hrt⟩:∃x,dY (256-d) l=x:=⟨_,rfl⟩
  have hrt32:rt.length=32:=by rw [<-hrt];exact rootT_len _ _
  obtain rfl:res=[3]++rt:=by
   rw [<-hres,<-hrt]
   cases l with
   | nil=>exact absurd rfl h0
   | cons p l=>cases n<;>rfl
  have hroot:=rroot_S (256-d) l A c (by omega) (by omega) hs (by rw [show 256-(256-d)=d by omega];exact hsh);rw [hrt,show 256-(256-d)=d by omega] at hroot;refine s_regA TY_ok rfl λK5 hK5=>?_;refine l_call0 [.slice A l.length c,.int .i64 (d:Int)] rfl rfl rfl own_rroot9 rfl rfl (λ_ _=>rfl) hroot (λ_ h _=>h.1) λ_=>?_;refine l_autoS TY_ok rfl ?_;refine s_end (hK5 _ ?_);refine s_regA TY_ok rfl λK6 hK6=>?_;refine l_list TY_ok b.B.heap.size [(3:UInt8)] rfl rfl rfl rfl rfl (λ_=>rfl) rfl (by decide) (by decide) (okF_B _) (aE _) λA1=>?_;refine l_autoS TY_ok rfl ?_;refine l_op (.s 7 0 32 32) trivial rfl rfl rfl (runO_all rfl Tryz.underlying45 rfl rfl) ?_;refine l_appZ (u:=.s 7 0 32 32) TY_ok 0 rt rfl rfl rfl rfl rfl rfl rfl (λG=>by rw [hrt32];rfl) rfl rfl (rd_part _ rfl rfl hrt32 (by decide)) (by decide) (by simp [hrt32]) (by simp [hrt32]) (aE _) λA3 c3=>?_;refine l_autoS TY_ok rfl ?_;refine s_end (hK6 _ ?_);refine s_freeM 0 rfl (aE _) ?_;exact s_ret (k_ret TY_ok (A3,c3) rfl (by decide) rfl rfl rfl (λ_ _ _=>trivial) (λ_ h=>h.1))
 refine s_skip (hK1 _ ?_);have hkne:ks≠[]:=λe=>h1 (by rw [e];rfl);refine s_seq λK2 hK2=>?_;refine s_auto TY_ok rfl ?_;refine s_ifD ((l.length:Int)=1) rfl (λh2=>?_) (λh2=>?_)
 ·obtain⟨p,rfl⟩:∃p,l=[p]:=List.length_eq_one_iff.1 (by omega)
  have hp:OkT2 p:=hok p aP
  obtain rfl:res=[1]++p.1++p.2:=by
   rw [<-hres]
   cases ks with
   | nil=>exact absurd rfl hkne
   | cons k ks=>cases n<;>simp [PW.cut,PW.bytes]
  refine s_pure (∃g o,A=some ⟨g,o,none⟩) (λ_ h _=>by obtain⟨g,o,e,_⟩:=h.1.2.2.2.2 (by simp);exact⟨g,o,e⟩) λ⟨g,o,hA⟩=>?_;subst hA;refine s_regA TY_ok rfl λK5 hK5=>?_;refine l_list TY_ok b.B.heap.size [(1:UInt8)] rfl rfl rfl rfl rfl (λ_=>rfl) rfl (by decide) (by decide) (okF_B _) (aE _) λA1=>?_;refine l_autoS TY_ok rfl ?_;refine l_op (.v (.pointer (some ⟨g,o+64*0,none⟩))) trivial rfl rfl rfl (runO_ixS 0 rfl Tryz.underlying57 rfl rfl rfl oG) ?_;refine l_autoS TY_ok rfl ?_;refine l_op (.v (.slice (some ⟨g,o+64*0+0,none⟩) 32 32)) trivial rfl rfl rfl (runO_allQ rfl Tryz.underlying45 rfl rfl) ?_;refine l_appZ (A2':=λ_=>some ⟨g,o+64*0+0,none⟩) (u:=.v (.slice (some ⟨g,o+64*0+0,none⟩) 32 32)) TY_ok 0 p.1 rfl rfl rfl rfl rfl rfl rfl (λG=>by rw [hp.1];rfl) rfl rfl (λG S w hv=>(rd_key2 (i:=0) hv.fact.1 rfl hp).1) (by decide) (by simp [hp.1]) (by simp [hp.1]) (aE _) λA3 c3=>?_;refine l_autoS TY_ok rfl ?_;refine s_end (hK5 _ ?_);refine s_regA TY_ok rfl λK6 hK6=>?_;refine l_op (.v (.pointer (some ⟨g,o+64*0,none⟩))) trivial rfl rfl rfl (runO_ixS 0 rfl Tryz.underlying57 rfl rfl rfl oG) ?_;refine l_autoS TY_ok rfl ?_;refine l_op (.v (.slice (some ⟨g,o+64*0+32,none⟩) 32 32)) trivial rfl rfl rfl (runO_allQ rfl Tryz.underlying45 rfl rfl) ?_;refine l_appZ (A2':=λ_=>some ⟨g,o+64*0+32,none⟩) (u:=.v (.slice (some ⟨g,o+64*0+32,none⟩) 32 32)) TY_ok 0 p.2 rfl rfl rfl rfl rfl rfl rfl (λG=>by rw [hp.2];rfl) rfl rfl (λG S w hv=>(rd_key2 (i:=0) hv.fact.1 rfl hp).2) (by decide) (by simp [hp.1,hp.2]) (by simp [hp.1,hp.2]) (aE _) λA4 c4=>?_;refine l_autoS TY_ok rfl ?_;refine s_end (hK6 _ ?_);refine s_freeM 0 rfl (aE _) ?_;exact s_ret (k_ret TY_ok (A4,c4) rfl (by decide) rfl rfl rfl (λ_ _ _=>trivial) (λ_ h=>h.1))
 refine s_skip (hK2 _ ?_)
 have hl2:2<=l.length:=by omega
 have hd2:d<256:=by
  by_cases e:d=256
  ·subst e
   have:=hsh.one hs hk
   omega
  ·omega
 obtain⟨m,rfl⟩:∃m,n=m+1:=⟨n-1,by omega⟩;have ih:=ih (Nat.succ_pos _);rw [Nat.add_sub_cancel] at ih;have hsub:∀s,(sdP s d l).length<=1000:=λs=>bN (cD _ _) hl;have hsubk:∀s,(sdK s d ks).length<=1000:=λs=>bN (cD _ _) hkl;have hss:∀s,cP (sdP s d l):=λs=>hs.filter _
 have hshs:∀s,s<2->c7 (d+1) (sdP s d l):=λs h=>by
  have:s=0\/s=1:=by omega
  rcases this with rfl|rfl
  ·exact hsh.left
  ·rw [sdP_one]
   exact hsh.right
 have hoks:∀s,∀p∈sdP s d l,OkT2 p:=λs p hp=>hok p (List.mem_filter.1 hp).1
 let cb:Nat->List UInt8:=λs=>(PW.cut m (d+1) (sdP s d l) (sdK s d ks)).bytes
 have hcb:∀s,(cb s).length<=600000:=λs=>by
  refine bN (PW.cut_le m (hoks s)) ?_;have h1:=hsub s;have h2:(70+2*m)*(sdP s d l).length<=582*1000:=Nat.mul_le_mul (by omega) h1
  omega
 let out:Nat->List UInt8:=λs=>[2]++(if 1<=s then cb 0 else [])++(if 2<=s then cb 1 else [])
 have hout:∀s,s<2->out s++cb s=out (s+1):=λs h=>by
  have:s=0\/s=1:=by omega
  rcases this with rfl|rfl<;>simp [out]
 have houtl:∀s,(out s).length<=1200001:=λs=>by
  have h1:=hcb 0;have h2:=hcb 1
  show([2]++(if 1<=s then cb 0 else [])++(if 2<=s then cb 1 else [])).length<=_
  rw [aB,aB,a9]
  have h3:(if 1<=s then cb 0 else []).length<=600000:=by split;exact h1;exact aI _
  have h4:(if 2<=s then cb 1 else []).length<=600000:=by split;exact h2;exact aI _
  omega
 obtain rfl:res=out 2:=by
  rw [<-hres,cut_inner hl2 hkne]
  simp [out,cb,PW.bytes]
 have ih2:∀s,s<2->∀A c A2 c2,Spec 17 [.slice A (sdP s d l).length c,.slice A2 (sdK s d ks).length c2,.int .i64 ((d+1:Nat):Int)] [] (λw=>Rd 64 eP A c (sdP s d l) w/\Rd 32 (eY 32) A2 c2 (sdK s d ks) w) (newB (cb s)):=λs h A c A2 c2=>ih _ _ A c A2 c2 (hsub s) (hsubk s) (hss s) (hshs s h);clear ih;refine s_regA TY_ok rfl λK5 hK5=>?_;refine l_list TY_ok b.B.heap.size [(2:UInt8)] rfl rfl rfl rfl rfl (λ_=>rfl) rfl (by decide) (by decide) (okF_B _) (aE _) λA1=>?_;refine l_autoS TY_ok rfl ?_;refine s_end (hK5 _ ?_);refine s_seq λK6 hK6=>?_;refine s_auto TY_ok rfl ?_;refine s_block ?_
 let F:Nat×Option Addr×Nat->Env:=λ⟨s,B,e⟩=>⟨[(10,.v (.int .i64 (s:Int))),(9,.v (.slice B (out s).length e)),(0,.v (.slice A l.length c)),(1,.v (.slice A2 ks.length c2)),(2,.v (.int .i64 (d:Int)))],[],[OwnS b.B.heap.size 5 1 eB B e (out s)],λw=>Rd 64 eP A c l w/\Rd 32 (eY 32) A2 c2 ks w,λ_=>True⟩
 refine c_weak (e':=F (0,A1,1)) ⟨⟨rfl,rfl,rfl,rfl,rfl,trivial⟩,trivial,.refl _,λ_ h _=>h,λ_ _=>trivial⟩ (s_loop (λy=>2-y.1) F (λy=>y.1<=2) ?_ (0,A1,1) (aI _))
 rintro⟨s,B,e⟩ hs2
 dsimp only at hs2
 refine s_seq λK7 hK7=>?_;refine s_auto TY_ok rfl ?_;refine s_ifD ((s:Int)<2) rfl (λhlt=>?_) (λhge=>?_)
 ·have hlt:s<2:=by omega
  have ho1:=houtl s;refine s_skip (hK7 _ ?_);refine s_seq λK8 hK8=>?_;refine s_block ?_;refine s_auto TY_ok rfl ?_;refine s_auto TY_ok rfl ?_;refine s_nil0 b.B.heap.size 96 64 eP ?_;refine s_seq λK9 hK9=>?_;refine s_auto TY_ok rfl ?_;refine s_block ?_
  let F2:Nat×Option Addr×Nat->Env:=λ⟨j,X,x⟩=>⟨[(52,.v (.int .i64 (j:Int))),(51,.v (.int .i64 (l.length:Int))),(50,.v (.slice A l.length c)),(11,.v (.slice X (sdP s d (l.take j)).length x)),(12,.v (.slice none 0 0)),(10,.v (.int .i64 (s:Int))),(9,.v (.slice B (out s).length e)),(0,.v (.slice A l.length c)),(1,.v (.slice A2 ks.length c2)),(2,.v (.int .i64 (d:Int)))],[],[OwnS b.B.heap.size 96 64 eP X x (sdP s d (l.take j)),OwnS b.B.heap.size 5 1 eB B e (out s)],λw=>Rd 64 eP A c l w/\Rd 32 (eY 32) A2 c2 ks w,λ_=>True⟩
  refine c_weak (e':=F2 (0,none,0)) ⟨⟨rfl,rfl,rfl,rfl,rfl,rfl,rfl,rfl,rfl,rfl,trivial⟩,trivial,.refl _,λ_ h _=>h,λ_ _=>trivial⟩ (s_loop (λy=>l.length-y.1) F2 (λy=>y.1<=l.length) ?_ (0,none,0) (aI _))
  rintro⟨j,X,x⟩ hj
  dsimp only at hj
  refine s_auto TY_ok rfl ?_;refine s_seq λK10 hK10=>?_;refine s_ifD ((j:Int)<(l.length:Int)) rfl (λhjl=>?_) (λhjl=>?_)
  ·have hjl:j<l.length:=by omega
   obtain⟨p,hp0⟩:∃y,l[j]?=some y:=⟨_,aJ hjl⟩;have hp:=hok p (aX hp0);have hT:=take_filter (λx:PairT=>b6 x.1 d==s) hp0;have lT:(sdP s d (l.take j)).length<=1000:=bN (cD _ _) (by rw [aR];omega);refine s_skip (hK10 _ ?_);refine s_seq λK11 hK11=>?_;refine s_block ?_;refine s_regA TY_ok rfl λK12 hK12=>?_;refine l_elem TY_ok rfl rfl rfl j rfl hp0 rfl rfl (rd_fact λ_ h _=>h.1) ?_;refine l_autoS TY_ok rfl ?_;refine s_end (hK12 _ ?_);refine s_regA TY_ok rfl λK13 hK13=>?_;refine l_call0 [.agg (By p.1).toArray,.int .i64 (d:Int)] rfl rfl rfl own_rbit9 rfl rfl (λ_ _=>rfl) (rbit_S hp.1 d hd2) (λ_ _ _=>trivial) λ_=>?_;refine l_autoS TY_ok rfl ?_;refine s_end (hK13 _ ?_);refine s_ifD (((b6 p.1 d:Nat):Int)=(s:Int)) rfl (λhb=>?_) (λhb=>?_)
   ·have hb:b6 p.1 d=s:=by omega
    have eT:sdP s d (l.take (j+1))=sdP s d (l.take j)++[p]:=by simpa [hb,sdP] using hT
    refine s_lit ?_;refine l_autoS TY_ok rfl ?_;refine l_push TY_ok 0 p rfl rfl rfl rfl rfl rfl rfl (eP_ok hp) (by decide) (by decide) (by show(_+1)*64<=_;omega) (by omega) (aE _) λX2 x2=>?_;rw [<-eT];refine l_autoS TY_ok rfl ?_;refine s_end (hK11 _ ?_);refine s_autoE TY_ok rfl ?_;exact k_next (j+1,X2,x2) hjl (by show l.length-(j+1)<l.length-j;omega) ⟨⟨congrArg some (congrArg SV.v (congrArg (bH .i64) (wrapI rfl (by omega) (by omega)))),rfl,rfl,rfl,rfl,rfl,rfl,rfl,rfl,rfl,trivial⟩,trivial,.refl _,λ_ h _=>h.2,λ_ _=>trivial⟩
   ·have hb:b6 p.1 d≠s:=by omega
    have eT:sdP s d (l.take (j+1))=sdP s d (l.take j):=by simpa [hb,sdP] using hT
    refine s_skip (hK11 _ ?_);rw [<-eT];refine s_autoE TY_ok rfl ?_;exact k_next (j+1,X,x) hjl (by show l.length-(j+1)<l.length-j;omega) ⟨⟨congrArg some (congrArg SV.v (congrArg (bH .i64) (wrapI rfl (by omega) (by omega)))),rfl,rfl,rfl,rfl,rfl,rfl,rfl,rfl,rfl,trivial⟩,trivial,.refl _,λ_ h _=>h.2,λ_ _=>trivial⟩
  obtain rfl:j=l.length:=by omega
  refine s_exit (k_pass (k_pass (k_out ?_)));refine hK9 _ ?_;rw [fE];refine s_free 0 rfl ?_;refine s_nil0 b.B.heap.size 45 32 (eY 32) ?_;refine s_seq λK14 hK14=>?_;refine s_auto TY_ok rfl ?_;refine s_block ?_
  let F4:Nat×Option Addr×Nat->Env:=λ⟨j,Y,y⟩=>⟨[(69,.v (.int .i64 (j:Int))),(68,.v (.int .i64 (ks.length:Int))),(67,.v (.slice A2 ks.length c2)),(12,.v (.slice Y (sdK s d (ks.take j)).length y)),(11,.v (.slice X (sdP s d l).length x)),(10,.v (.int .i64 (s:Int))),(9,.v (.slice B (out s).length e)),(0,.v (.slice A l.length c)),(1,.v (.slice A2 ks.length c2)),(2,.v (.int .i64 (d:Int)))],[],[OwnS b.B.heap.size 45 32 (eY 32) Y y (sdK s d (ks.take j)),OwnS b.B.heap.size 5 1 eB B e (out s)],λw=>Rd 64 eP X x (sdP s d l) w/\Rd 64 eP A c l w/\Rd 32 (eY 32) A2 c2 ks w,λ_=>True⟩
  refine c_weak (e':=F4 (0,none,0)) ⟨⟨rfl,rfl,rfl,rfl,rfl,rfl,rfl,rfl,rfl,rfl,trivial⟩,trivial,.refl _,λ_ h _=>h,λ_ _=>trivial⟩ (s_loop (λy=>ks.length-y.1) F4 (λy=>y.1<=ks.length) ?_ (0,none,0) (aI _))
  rintro⟨j,Y,y⟩ hj2
  dsimp only at hj2
  refine s_auto TY_ok rfl ?_;refine s_seq λK15 hK15=>?_;refine s_ifD ((j:Int)<(ks.length:Int)) rfl (λhjk=>?_) (λhjk=>?_)
  ·have hjk:j<ks.length:=by omega
   obtain⟨k,hk0⟩:∃y,ks[j]?=some y:=⟨_,aJ hjk⟩;have hk32:=hks k (aX hk0);have hT:=take_filter (λx:List UInt8=>b6 x d==s) hk0;have lT:(sdK s d (ks.take j)).length<=1000:=bN (cD _ _) (by rw [aR];omega);refine s_skip (hK15 _ ?_);refine s_seq λK16 hK16=>?_;refine s_block ?_;refine s_regA TY_ok rfl λK17 hK17=>?_;refine l_elem TY_ok rfl rfl rfl j rfl hk0 rfl rfl (rd_fact λ_ h _=>h.2.2) ?_;refine l_autoS TY_ok rfl ?_;refine s_end (hK17 _ ?_);refine s_regA TY_ok rfl λK18 hK18=>?_;refine l_call0 [.agg (By k).toArray,.int .i64 (d:Int)] rfl rfl rfl own_rbit9 rfl rfl (λ_ _=>rfl) (rbit_S hk32 d hd2) (λ_ _ _=>trivial) λ_=>?_;refine l_autoS TY_ok rfl ?_;refine s_end (hK18 _ ?_);refine s_ifD (((b6 k d:Nat):Int)=(s:Int)) rfl (λhb=>?_) (λhb=>?_)
   ·have hb:b6 k d=s:=by omega
    have eT:sdK s d (ks.take (j+1))=sdK s d (ks.take j)++[k]:=by simpa [hb,sdK] using hT
    refine s_lit ?_;refine l_autoS TY_ok rfl ?_;refine l_push TY_ok 0 k rfl rfl rfl rfl rfl rfl rfl (eY_ok hk32) (by decide) (by decide) (by show(_+1)*32<=_;omega) (by omega) (aE _) λY2 y2=>?_;rw [<-eT];refine l_autoS TY_ok rfl ?_;refine s_end (hK16 _ ?_);refine s_autoE TY_ok rfl ?_;exact k_next (j+1,Y2,y2) hjk (by show ks.length-(j+1)<ks.length-j;omega) ⟨⟨congrArg some (congrArg SV.v (congrArg (bH .i64) (wrapI rfl (by omega) (by omega)))),rfl,rfl,rfl,rfl,rfl,rfl,rfl,rfl,rfl,trivial⟩,trivial,.refl _,λ_ h _=>h.2,λ_ _=>trivial⟩
   ·have hb:b6 k d≠s:=by omega
    have eT:sdK s d (ks.take (j+1))=sdK s d (ks.take j):=by simpa [hb,sdK] using hT
    refine s_skip (hK16 _ ?_);rw [<-eT];refine s_autoE TY_ok rfl ?_;exact k_next (j+1,Y,y) hjk (by show ks.length-(j+1)<ks.length-j;omega) ⟨⟨congrArg some (congrArg SV.v (congrArg (bH .i64) (wrapI rfl (by omega) (by omega)))),rfl,rfl,rfl,rfl,rfl,rfl,rfl,rfl,rfl,trivial⟩,trivial,.refl _,λ_ h _=>h.2,λ_ _=>trivial⟩
  obtain rfl:j=ks.length:=by omega
  refine s_exit (k_pass (k_pass (k_out ?_)));refine hK14 _ ?_;rw [fE];refine s_free 0 rfl ?_;refine s_lit ?_;refine l_autoS TY_ok rfl ?_;refine l_num 87 ((d+1:Nat):Int) rfl (wrapI (by omega) (by omega) (by omega)) ?_;refine l_call0 [.slice X (sdP s d l).length x,.slice Y (sdK s d ks).length y,.int .i64 ((d+1:Nat):Int)] rfl rfl rfl own_rcut10 rfl rfl (λ_ _=>rfl) (ih2 s hlt X x Y y) (λ_ h _=>⟨h.2.1,h.1⟩) λ⟨Z,z⟩=>?_;have hcs:=hcb s;obtain⟨cs,hcs2⟩:∃q,cb s=q:=⟨_,rfl⟩;have hos:=hout s hlt;rw [hcs2] at hcs hos;simp only [hcs2];refine l_appY TY_ok 0 cs rfl rfl rfl rfl rfl rfl rfl rfl rfl (rd_fact λ_ _ h=>h.1) (by decide) (by show((out s).length+cs.length)*1<=_;omega) (by show(out s).length+cs.length<=_;omega) (aE _) λB2 e2=>?_;rw [hos];refine l_autoS TY_ok rfl ?_;refine s_end (hK8 _ ?_);refine s_autoE TY_ok rfl ?_;exact k_next (s+1,B2,e2) hlt (by show 2-(s+1)<2-s;omega) ⟨⟨congrArg some (congrArg SV.v (congrArg (bH .i64) (wrapI rfl (by omega) (by omega)))),rfl,rfl,rfl,rfl,trivial⟩,trivial,.refl _,λ_ h _=>h.2.2.2,λ_ _=>trivial⟩
 obtain rfl:s=2:=by omega
 refine s_exit (k_pass (k_pass (k_out ?_)));refine hK6 _ ?_;refine s_auto TY_ok rfl ?_;refine s_freeM 0 rfl (aE _) ?_;exact s_ret (k_ret TY_ok (B,e) rfl (by decide) rfl rfl rfl (λ_ _ _=>trivial) (λ_ h=>h.1))
theorem rcut_S:∀(n:Nat) (d:Nat) (l:List PairT) (ks:List (List UInt8)) (A:Option Addr) (c:Nat) (A2:Option Addr) (c2:Nat),n+d=256->l.length<=1000->ks.length<=1000->cP l->c7 d l ->
  Spec 17 [.slice A l.length c,.slice A2 ks.length c2,.int .i64 (d:Int)] [] (λw=>Rd 64 eP A c l w/\Rd 32 (eY 32) A2 c2 ks w) (newB (PW.cut n d l ks).bytes):=by
 intro n
 induction n with
 | zero=>exact λd l ks A c A2 c2 hn hl hkl hs hsh=>rcut_step (by omega) hl hkl hs hsh hn λh=>absurd h (Nat.lt_irrefl _)
 | succ n ih=>exact λd l ks A c A2 c2 hn hl hkl hs hsh=>rcut_step (by omega) hl hkl hs hsh hn λ_ l ks A c A2 c2=>ih (d+1) l ks A c A2 c2 (by omega)
section
variable{α:Type}{fe:α->SQ}{l:List α}{P:Program}{T:List TyR}{b:Base}{ops:Array Oper}{Q:Exit->Act->World->Prop}{N:Nat}{E:SE}{L:List LV}{R:List Res}{F M:World->Prop}{o:Oper}{rest:List Oper}{k:Nat}{t e:TypeId}{x z:Operand}{lo c sz g:Nat}
theorem l_stFd{q:SQ}(i j off n:Nat)(u u':α)(hi:R[i]?=some (OwnS lo e sz fe (some ⟨g,0,none⟩) c l))(hg:o.guard=none)(hd:o.dst=none)(ho:o.op = .store t x z)(hx:evS E x=some (.v (.pointer (some ⟨g,sz*j+off,none⟩))))(hz:evS E z=some (.q q))(hj:l[j]?=some u)(ht:(P.info? t).map (·.size)=some n)(hn:q.cl.length=n)(hone:∀v∈q.cl,v.oneCell'=true)
 (hcl:(fe u').cl=(fe u).cl.take off++q.cl++(fe u).cl.drop (off+n))(hfit:off+n<=sz)(hok':OkP (fe u').parts1/\(fe u').cl.length=sz)
 (hc:lS P b ops Q N rest ⟨E,L,R.set i (OwnS lo e sz fe (some ⟨g,0,none⟩) c (l.set j u')),F,M⟩):lS P b ops Q N (o::rest) ⟨E,L,R,F,M⟩:=λa w ⟨G,S,f1,f2,f3⟩=>by
 obtain⟨S1,⟨hokl,hrow,hS1⟩,hput⟩:=f3.put hi
 rcases hrow.2 with⟨h6,h7⟩|⟨g',cap,cur,hv,hb,hg',hnc,hmx,hcs,htk⟩
 ·injection h6 with h6
  cases h6
 injection hv with v1 _ v2
 injection v1 with v1
 injection v1 with v1
 subst v1;have hB:Blk w g e cur:=hg';have e1:a.eval x = .pointer (some ⟨g,sz*j+off,none⟩):=f1.eval (evS_ok hx);have e2:a.eval z=q.den:=f1.eval (evS_ok hz);obtain⟨B,Z,s1,s2,s3⟩:=flatF_split hokl hj;have hul:=(hokl u (aX hj)).2
 have hfl:(flatF fe l).length=B.length+(sz+Z.length):=by rw [s1,aB,aB,hul]
 have hmc:sz*j+off+n<=cur.size:=by
  have h1:(flatF fe l).length<=cur.size:=by
   rw [<-htk,aR,<-a7];exact Nat.min_le_right _ _
  omega
 have hqs:q.den.cells.size=n:=by rw [<-hn];exact(a7).symm
 have hst:=run_store_part (P:=P) (t:=t) (v:=q.den) (off:=sz*j+off) hB (by rw [ht,hqs]) (by rw [hqs];exact hmc) hone;rw [hqs] at hst;have hB':=hB.row (cur.toList.take (sz*j+off)++q.den.cells.toList++cur.toList.drop (sz*j+off+n)).toArray
 have hok2:OkF sz fe (l.set j u'):=λy hy=>by
  rcases rI hy with h|rfl
  ·exact hokl y h
  ·exact hok'
 have hll:(l.set j u').length=l.length:=bP
 have hnew:flatF fe (l.set j u')=(flatF fe l).take (sz*j+off)++q.cl++(flatF fe l).drop (sz*j+off+n):=by
  rw [s3,s1,hcl,<-s2]
  have t1:(B++((fe u).cl++Z)).take (B.length+off)=B++(fe u).cl.take off:=by
   rw [List.take_append,bE (by omega),kK,List.take_append_of_le_length (by omega)]
  have t2:(B++((fe u).cl++Z)).drop (B.length+off+n)=(fe u).cl.drop (off+n)++Z:=by
   rw [List.drop_append,fF (by omega),fR,show B.length+off+n-B.length=off+n by omega,List.drop_append_of_le_length (by omega)]
  rw [t1,t2];simp only [aY]
 obtain⟨S'',h12⟩:=hput (OwnS lo e sz fe (some ⟨g,0,none⟩) c (l.set j u')) (w.setRow g (cur.toList.take (sz*j+off)++q.den.cells.toList++cur.toList.drop (sz*j+off+n)).toArray) S1 ((Chg.row w g _).mono λk _ hk=>(hS1 k).2 (by rw [hk];rfl))
  ⟨hok2,⟨by rw [flatF_len hok2],.inr ⟨g,cap,_,by rw [hll,v2],hb,hB',by rw [hll];exact hnc,hmx,by
   have h1:cur.toList.length=cur.size:=a7
   have h2:q.den.cells.toList.length=n:=by rw [a7,hqs]
   rw [aU,aB,aB,aR,dI,h2,h1,<-hcs]
   omega,by
   have h1:cur.toList.length=cur.size:=a7
   have h2:q.den.cells.toList.length=n:=by rw [a7,hqs]
   have h3:l.length*sz=(flatF fe l).length:=(flatF_len hokl).symm;rw [hll,hnew,h3];rw [h3] at htk
   show List.take _ (cur.toList.take (sz*j+off)++q.den.cells.toList++cur.toList.drop (sz*j+off+n))=_
   rw [List.take_append,bE (by rw [aB,aR,h2];omega),aB,aR,h2,cK (by omega)]
   conv=>rhs;rw [<-htk]
   rw [List.take_take,cK (by omega),List.drop_take]
   rfl⟩⟩,hS1⟩ (λk hk _=>hk)
 refine wpl_skip (w':=w.setRow g (cur.toList.take (sz*j+off)++q.den.cells.toList++cur.toList.drop (sz*j+off+n)).toArray) (oneS hg) (by
  unfold execOp
  simp only [ho,e1,e2,hst,aG,aH,aD]) ?_
 rw [hd];exact hc _ _ ⟨G,S'',f1,f2,h12⟩
end
theorem By_setH(l:List UInt8)(i:Nat)(y:UInt8):By (l.set i y)=(By l).set i (.int .u8 (y.toNat:Int)):=List.map_set
def WayB(wy:List UInt8)(way:List Nat):Prop:=wy.length=32/\way.length<=256/\(∀i,i<way.length->b6 wy i=way[i]!)/\∀i,way.length<=i->i<256->b6 wy i=0
def plQ(wy:List UInt8)(d:Nat):SQ:=.p [.agg 32 (By wy).toArray,.one (.v (.int .i64 (d:Int)))]
theorem plQ_ok{wy:List UInt8}(h:wy.length=32)(d:Nat):(plQ wy d).Ok:=λp hp=>by
 rcases aL.1 hp with rfl|hp
 ·exact agg_ok h
 ·rw [aF.1 hp]
  exact⟨trivial,rfl,rfl⟩
theorem bitT_zero(i:Nat):b6 dE i=0:=by
 unfold b6
 have:(dE[i/8]!)=0:=by
  by_cases h:i/8<32
  ·rw [getElem!_pos dE (i/8) h]
   show(List.replicate 32 (0:UInt8))[i/8]=0
   exact List.getElem_replicate ..
  ·rw [getElem!_neg dE (i/8) (by show ¬i/8<32;exact h)]
   rfl
 rw [this]
 simp
theorem WayB.nil:WayB dE []:=⟨rfl,aI _,λ_ h=>absurd h (oH _),λi _ _=>bitT_zero i⟩
theorem or_bit:∀k:Nat,k<256->∀j:Nat,j<8->∀b:Nat,b<2->k/2^j%2=0->bits .or .u8 (k:Int) ((b*2^j:Nat):Int)=((k+b*2^j:Nat):Int):=by
 have key:∀k:Nat,k<256->∀j:Nat,j<8->∀b:Nat,b<2->k/2^j%2=0->bits .or .u8 (k:Int) ((b*2^j:Nat):Int)=((k+b*2^j:Nat):Int):=by decide +kernel
 exact key
theorem set_bit:∀k:Nat,k<256->∀j:Nat,j<8->∀b:Nat,b<2->k/2^j%2=0->k+b*2^j<256/\∀i,i<8->(k+b*2^j)/2^i%2=if i=j then b else k/2^i%2:=by
 decide +kernel
def wayS(wy:List UInt8)(d b:Nat):List UInt8:=wy.set (d/8) (bJ ((wy[d/8]!).toNat+b*2^(7-d%8)))
theorem bitT_set{wy:List UInt8}(hl:wy.length=32){d b:Nat}(hd:d<256)(hb:b<2)(h0:b6 wy d=0):(wayS wy d b).length=32/\∀i,i<256->b6 (wayS wy d b) i=if i=d then b else b6 wy i:=by
 refine⟨by rw [wayS,bP];exact hl,λi hi=>?_⟩;have hk:=(wy[d/8]!).toNat_lt;obtain⟨h1,h2⟩:=set_bit _ hk (7-d%8) (by omega) b hb h0
 unfold wayS b6
 by_cases e:i/8=d/8
 ·rw [e,getElem!_pos _ (d/8) (by rw [bP];omega),List.getElem_set_self,gC,(aW h1:(_+b*2^(7-d%8))%2^8=_),h2 (7-i%8) (by omega)]
  by_cases e2:i=d
  ·rw [if_pos e2,if_pos (by rw [e2])]
  ·rw [if_neg e2,if_neg (by omega)]
 ·rw [if_neg (λh=>e (by rw [h])),getElem!_pos _ (i/8) (by rw [bP];omega),List.getElem_set_ne (by omega),<-getElem!_pos wy (i/8) (by omega)]
theorem WayB.more{wy:List UInt8}{way:List Nat}(h:WayB wy way)(hlt:way.length<256){b:Nat}(hb:b<2):WayB (wayS wy way.length b) (way++[b]):=by
 obtain⟨h1,h2,h3,h4⟩:=h;obtain⟨k1,k2⟩:=bitT_set h1 hlt hb (h4 _ (aE _) hlt)
 have elen:(way++[b]).length=way.length+1:=by rw [aB,a9]
 refine⟨k1,by rw [elen];exact hlt,λi hi=>?_,λi hi hi2=>?_⟩
 ·rw [elen] at hi
  rw [k2 i (by omega)]
  by_cases e:i=way.length
  ·subst e
   rw [if_pos rfl,getElem!_pos _ _ (by rw [elen];omega),List.getElem_append_right (aE _)]
   simp
  ·rw [if_neg e,h3 i (by omega),getElem!_pos way i (by omega),getElem!_pos _ i (by rw [elen];omega),List.getElem_append_left (by omega)]
 ·rw [elen] at hi
  rw [k2 i hi2,if_neg (by omega),h4 i (by omega) hi2]
section
variable{N:Nat}{E:SE}{o:Oper}{x y:Operand}{t':TypeId}
theorem run_shlW{m n:Nat}(hn:n<=7)(hm:m*2^n<256)(ho:o.op = .binOp .shl 5 x y t')(hx:evS E x=some (.v (.int .u8 (m:Int))))(hy:evS E y=some (.v (.int .i64 (n:Int)))) :
  ∀(G:Nat->Nat) (a:Act) (w:World),Fr N (denE G E) a->(execOp a.eval o).run Tryz.prog w = .ok (.value ((SV.v (.int .u8 ((m*2^n:Nat):Int))).den G)) w:=λG a w ha=>by
 have h1:a.eval x = .int .u8 (m:Int):=ha.eval (evS_ok hx);have h2:a.eval y = .int .i64 (n:Int):=ha.eval (evS_ok hy)
 unfold execOp
 simp only [ho,h1,h2]
 go_simp
 have h4:0<=((m*2^n:Nat):Int):=Int.natCast_nonneg _;have h5:((m*2^n:Nat):Int)<256:=Int.ofNat_lt.2 hm;rw [Int.natCast_mul,Int.natCast_pow] at h4 h5;exact congrArg (bH .u8) (wrapB rfl h4 h5)
theorem run_or8{m n:Int}(ho:o.op = .binOp .or 5 x y t')(hx:evS E x=some (.v (.int .u8 m)))(hy:evS E y=some (.v (.int .u8 n))) :
  ∀(G:Nat->Nat) (a:Act) (w:World),Fr N (denE G E) a->(execOp a.eval o).run Tryz.prog w = .ok (.value ((SV.v (.int .u8 (bits .or .u8 m n))).den G)) w:=λG a w ha=>by
 have h1:a.eval x = .int .u8 m:=ha.eval (evS_ok hx);have h2:a.eval y = .int .u8 n:=ha.eval (evS_ok hy)
 unfold execOp
 simp only [ho,h1,h2]
 go_simp
 rfl
end
theorem pl_at{wy:List UInt8}(h:wy.length=32){s:SC}{j:Nat}(hj:j<32):(catP [.agg 32 (By wy).toArray,.one s])[j]?=some (.int .u8 ((wy[j]!).toNat:Int)):=by
 have h2:=row32 h
 show((By wy).toArray ++ #[s.den])[j]?=_
 rw [Array.getElem?_append_left (by omega)];exact By_get (by omega)
theorem pl_set{wy:List UInt8}{s:SC}{j:Nat}(y:UInt8)(hj:j<wy.length):(catP [.agg 32 (By (wy.set j y)).toArray,.one s]).toList=(catP [.agg 32 (By wy).toArray,.one s]).toList.set j (.int .u8 (y.toNat:Int)):=by
 show((By (wy.set j y)).toArray ++ #[s.den]).toList=((By wy).toArray ++ #[s.den]).toList.set j _
 rw [dC,dC,List.set_append_left _ _ (by rw [By_len];exact hj),By_setH]
theorem own_wside:Own 121:=λ_ _=>by go_simp
theorem own_wleads:Own 120:=λ_ _=>by go_simp
theorem own_wleast:Own 122:=λ_ _=>by go_simp
theorem wside_S{wy:List UInt8}{way:List Nat}(h:WayB wy way)(hlt:way.length<256){b:Nat}(hb:b<2):Spec 121 [(plQ wy way.length).den,.int .u8 (b:Int)] [] (λ_=>True) (one (.q (plQ (wayS wy way.length b) (way.length+1)))):=by
 obtain⟨h1,h2,h3,h4⟩:=h;have hz:=h4 _ (aE _) hlt;obtain⟨d,hd⟩:∃d,way.length=d:=⟨_,rfl⟩;rw [hd] at hlt hz ⊢;clear h2 h3 h4;refine spec_S [plQ wy d,.c (.v (.int .u8 (b:Int)))] 25 Tryz.func121 rfl (by rw [Tryz.ntmps121];rfl) (two_ok (plQ_ok h1 d) trivial) λbb=>?_;have hk:=(wy[d/8]!).toNat_lt;have hkz:(wy[d/8]!).toNat/2^(7-d%8)%2=0:=hz;have hsb:=(set_bit _ hk (7-d%8) (by omega) b hb hkz).1;have hor:=or_bit _ hk (7-d%8) (by omega) b hb hkz
 have hsh:b*2^(7-d%8)<256:=by omega
 have hw:(bJ ((wy[d/8]!).toNat+b*2^(7-d%8))).toNat=(wy[d/8]!).toNat+b*2^(7-d%8):=by rw [gC];exact aW hsb
 have hws:wayS wy d b=wy.set (d/8) (bJ ((wy[d/8]!).toNat+b*2^(7-d%8))):=rfl;have hat:=pl_at h1 (s:=.v (.int .i64 (d:Int))) (j:=d/8) (by omega)
 have hwl:(wayS wy d b).length=32:=by rw [hws,bP];exact h1
 have hset:=pl_set (wy:=wy) (s:=.v (.int .i64 (d:Int))) (j:=d/8) (bJ ((wy[d/8]!).toNat+b*2^(7-d%8))) (by omega);rw [<-hws,hw] at hset;generalize (wy[d/8]!).toNat=k at *;generalize wayS wy d b=wy' at *;refine s_auto TY_ok rfl ?_;refine s_regD 14 (by decide) (by kernel_rfl) (by kernel_rfl) λK1 hK1 G S w0 hst=>?_;refine g_autoS TY_ok hst rfl ?_;refine g_num 7 ((d/8:Nat):Int) rfl (wrapQ d 8 (by omega)) ?_;refine g_autoS TY_ok hst rfl ?_;refine g_opS (.a 2 (0+0+1*(d/8))) trivial rfl rfl rfl (runO_ixA (d/8) rfl Tryz.underlying45 rfl rfl rfl (by omega)) ?_;refine g_opV hst (.v (.int .u8 (k:Int))) trivial rfl rfl rfl (runO_ldA _ rfl rfl rfl (by simpa using hat) Tryz.underlying5 rfl) ?_;refine g_autoS TY_ok hst rfl ?_;refine g_num 15 ((7-d%8:Nat):Int) rfl (wrapI (by rw [Int.tmod_eq_emod_of_nonneg (by omega)];omega) (by omega) (by omega)) ?_;refine g_opS (.v (.int .u8 ((b*2^(7-d%8):Nat):Int))) trivial rfl rfl rfl (run_shlW (by omega) hsh rfl rfl rfl) ?_;refine g_opS (.v (.int .u8 (bits .or .u8 (k:Int) ((b*2^(7-d%8):Nat):Int)))) trivial rfl rfl rfl (run_or8 rfl rfl rfl) ?_;refine g_num 17 ((k+b*2^(7-d%8):Nat):Int) rfl hor ?_;refine g_autoS TY_ok hst rfl ?_;refine g_endS hst ?_;refine l_op (.a 2 (0+0+1*(d/8))) trivial rfl rfl rfl (runO_ixA (d/8) rfl Tryz.underlying45 rfl rfl rfl (by omega)) ?_
 refine l_stA [.agg 32 (By wy').toArray,.one (.v (.int .i64 (d:Int)))] rfl rfl rfl rfl rfl rfl rfl rfl rfl (by
  have e:=OkP.size (plQ_ok h1 d)
  show _<(catP [.agg 32 (By wy).toArray,.one (.v (.int .i64 (d:Int)))]).size
  rw [e]
  show 0+0+1*(d/8)<33
  omega) (plQ_ok hwl d) (by simpa using hset) ?_
 refine s_end (hK1 _ ?_);refine s_auto TY_ok rfl ?_;refine s_auto TY_ok rfl ?_;exact s_ret (k_ret TY_ok () rfl (by decide) rfl (congrArg (λz:Int=>RV.q (.p [.agg 32 (By wy').toArray,.one (.v (.int .i64 z))])) (wrapI (m:=(d:Int)+1) (r:=((d+1:Nat):Int)) rfl (by omega) (by omega)).symm) rfl (λ_ _ _=>trivial) (λ_ _=>trivial))
theorem wrap_byte{i:Nat}(h:i<256):IntKind.u8.wrap (i:Int)=(i:Int):=wrapB rfl (Int.natCast_nonneg _) (by omega)
theorem wleads_S{wy k:List UInt8}{way:List Nat}(h:WayB wy way)(hk:k.length=32):Spec 120 [(plQ wy way.length).den,(eY 32 k).den] [] (λ_=>True) (one (.v (.bool (decide (Leads way k))))):=by
 obtain⟨h1,h2,h3, -⟩:=h;refine spec_S [plQ wy way.length,eY 32 k] 22 Tryz.func120 rfl (by rw [Tryz.ntmps120];rfl) (two_ok (plQ_ok h1 _) (eY_ok hk).1) λb=>?_;refine s_auto TY_ok rfl ?_;refine s_seq λK hK=>?_;refine s_auto TY_ok rfl ?_;refine s_block ?_
 let F:Nat->Env:=λi=>⟨[(8,.v (.int .i64 (i:Int))),(7,.v (.int .i64 (way.length:Int))),(3,.a 3 0),(2,.a 2 0)],[⟨3,none,45,[.agg 32 (By k).toArray]⟩,⟨2,none,128,[.agg 32 (By wy).toArray,.one (.v (.int .i64 (way.length:Int)))]⟩],[],λ_=>True,λ_=>True⟩
 refine c_weak (e':=F 0) ⟨⟨rfl,rfl,rfl,rfl,trivial⟩,⟨rfl,rfl,rfl,rfl,trivial⟩,.refl _,λ_ _ _=>trivial,λ_ _=>trivial⟩ (s_loop (λi=>way.length-i) F (λi=>i<=way.length/\∀j,j<i->b6 k j=way[j]!) ?_ 0 ⟨aI _,λ_ h=>absurd h (oH _)⟩)
 rintro i ⟨hi,ht⟩
 refine s_auto TY_ok rfl ?_;refine s_seq λK1 hK1=>?_;refine s_ifD ((i:Int)<(way.length:Int)) rfl (λhlt=>?_) (λhge=>?_)
 ·have hil:i<way.length:=by omega
  have hi256:i<256:=by omega
  refine s_skip (hK1 _ ?_);refine s_seq λK2 hK2=>?_;refine s_block ?_;refine s_auto TY_ok rfl ?_;refine s_regD 10 (by decide) (by kernel_rfl) (by kernel_rfl) λK3 hK3 G S w0 hst=>?_;refine g_autoS TY_ok hst rfl ?_;refine g_num 13 (i:Int) rfl (wrap_byte hi256) ?_;refine g_callS (F':=λ_=>True) hst [(eY 32 k).den,.int .u8 (i:Int)] rfl rfl rfl own_wbit rfl rfl (λ_=>rfl) (wbit_S hk i hi256) trivial (λ_ _ _ _=>trivial) ?_;refine g_autoS TY_ok hst rfl ?_;refine g_num 18 (i:Int) rfl (wrap_byte hi256) ?_;refine g_callS (F':=λ_=>True) hst [(eY 32 wy).den,.int .u8 (i:Int)] rfl rfl rfl own_wbit rfl rfl (λ_=>rfl) (wbit_S h1 i hi256) trivial (λ_ _ _ _=>trivial) ?_;refine g_autoS TY_ok hst rfl ?_;refine g_endS hst ?_;refine s_end (hK3 _ ?_);have hwi:=h3 i hil;refine s_ifD (((b6 k i:Nat):Int)≠((b6 wy i:Nat):Int)) rfl (λhne=>?_) (λhe=>?_)
  ·refine s_auto TY_ok rfl ?_
   exact s_ret (k_ret TY_ok () rfl (by decide) rfl (congrArg (λt=>RV.v (.bool t)) (decide_eq_false λhl=>hne (by rw [hl i hil,hwi]))) rfl (λ_ _ _=>trivial) (λ_ _=>trivial))
  ·refine s_skip (hK2 _ ?_)
   refine s_autoE TY_ok rfl ?_
   exact k_next (i+1) ⟨hil,λj hj=>by
    by_cases e:j=i
    ·subst e
     rw [<-hwi]
     omega
    ·exact ht j (by omega)⟩ (by show way.length-(i+1)<way.length-i;omega) ⟨⟨congrArg some (congrArg SV.v (congrArg (bH .i64) (wrapI rfl (by omega) (by omega)))),rfl,rfl,rfl,trivial⟩,⟨rfl,rfl,rfl,rfl,trivial⟩,.refl _,λ_ _ _=>trivial,λ_ _=>trivial⟩
 ·refine s_exit (k_pass (k_pass (k_out ?_)))
  refine hK _ ?_;refine s_auto TY_ok rfl ?_;exact s_ret (k_ret TY_ok () rfl (by decide) rfl (congrArg (λt=>RV.v (.bool t)) (decide_eq_true λj hj=>ht j (by omega))) rfl (λ_ _ _=>trivial) (λ_ _=>trivial))
theorem wleast_S{w:PW}(h:w.Good):Spec 122 [w.val] [] (λ_=>True) (one (.v (.int .i64 ((min w.kind 2:Nat):Int)))):=by
 refine spec_S [.c (.v w.val)] 10 Tryz.func122 rfl (by rw [Tryz.ntmps122];rfl) (one_ok trivial) λb=>?_;refine s_auto TY_ok rfl ?_;refine s_seq λK hK=>?_;refine s_auto TY_ok rfl ?_;refine s_block ?_;refine s_regA TY_ok rfl λK1 hK1=>?_;refine l_kind 0 h (by decide) rfl rfl rfl rfl rfl ?_;refine l_autoS TY_ok rfl ?_;refine s_end (hK1 _ ?_)
 cases w with
 | empty =>
  refine s_yes rfl ?_;refine s_auto TY_ok rfl ?_;exact s_ret (k_ret TY_ok () rfl (by decide) rfl rfl rfl (λ_ _ _=>trivial) (λ_ _=>trivial))
 | leaf p =>
  refine s_no rfl ?_;refine s_regA TY_ok rfl λK2 hK2=>?_;refine l_kind (W:=.leaf p) 1 h (by decide) rfl rfl rfl rfl rfl ?_;refine l_autoS TY_ok rfl ?_;refine s_end (hK2 _ ?_);refine s_yes rfl ?_;refine s_auto TY_ok rfl ?_;exact s_ret (k_ret TY_ok () rfl (by decide) rfl rfl rfl (λ_ _ _=>trivial) (λ_ _=>trivial))
 | inner x y =>
  refine s_no rfl ?_;refine s_regA TY_ok rfl λK2 hK2=>?_;refine l_kind (W:=.inner x y) 1 h (by decide) rfl rfl rfl rfl rfl ?_;refine l_autoS TY_ok rfl ?_;refine s_end (hK2 _ ?_);refine s_no rfl ?_;refine s_skip (hK _ ?_);refine s_auto TY_ok rfl ?_;exact s_ret (k_ret TY_ok () rfl (by decide) rfl rfl rfl (λ_ _ _=>trivial) (λ_ _=>trivial))
 | hid l =>
  refine s_no rfl ?_;refine s_regA TY_ok rfl λK2 hK2=>?_;refine l_kind (W:=.hid l) 1 h (by decide) rfl rfl rfl rfl rfl ?_;refine l_autoS TY_ok rfl ?_;refine s_end (hK2 _ ?_);refine s_no rfl ?_;refine s_skip (hK _ ?_);refine s_auto TY_ok rfl ?_;exact s_ret (k_ret TY_ok () rfl (by decide) rfl rfl rfl (λ_ _ _=>trivial) (λ_ _=>trivial))
instance{s:RSw}{n:Nat}:Decidable (s.can n):=inferInstanceAs (Decidable (s.e=0/\n<=s.l.length))
def RSw.go(s:RSw)(n:Nat):RSw:=if s.can n then s.cut n else s.fail 10
def RSw.hv(s:RSw):List UInt8:=if s.can 32 then s.l.take 32 else dE
theorem RSw.go_rd{s:RSw}{n:Nat}{w:World}(h:s.rd w):(s.go n).rd w:=by
 unfold RSw.go
 split
 ·rename_i hc
  exact RSw.rd_cut h hc.2
 ·exact h
theorem RSw.hv_len(s:RSw):s.hv.length=32:=by
 unfold RSw.hv
 split
 ·rename_i hc
  rw [aR,cK hc.2]
 ·rfl
theorem whash_S(g:Nat)(s:RSw):Spec 83 [ptV g] [RdQ g s] s.rd { ret:=λ_:Unit=>.q (eY 32 s.hv),own:=λ_=>[RdQ g (s.go 32)] }:=by
 unfold RSw.hv RSw.go
 by_cases h:s.can 32
 ·rw [if_pos h,if_pos h]
  exact whash_yes g s h
 ·rw [if_neg h,if_neg h]
  exact(whash_no g s h).imp λ_ _=>trivial
abbrev ResP:=Except Nat (PW×List UInt8)
def Out(r:ResP)(x:PW×RSw):Prop:=x.1.Good/\match r with
  | .ok (w,l)=>x.1=w/\x.2.l=l/\x.2.e=0
  | .error e=>x.2.e=e/\e≠0
def rdR(n:Nat)(way:List Nat)(s:RSw):ResP:=if s.e=0 then PW.read n way s.l else .error s.e
def readLeaf(way:List Nat)(b:List UInt8):ResP:=if b.length<64 then .error 10 else if Leads way (b.take 32) then .ok (.leaf (b.take 32,(b.drop 32).take 32),b.drop 64) else .error 13
def readIn(n:Nat)(way:List Nat)(b:List UInt8):ResP:=match n with
  | 0=>.error 13
  | n+1=>match PW.read n (way++[0]) b with
    | .error e=>.error e
    | .ok (l,b1)=>match PW.read n (way++[1]) b1 with
      | .error e=>.error e
      | .ok (r,b2)=>if PW.bad l r then .error 13 else .ok (.inner l r,b2)
def readHid(b:List UInt8):ResP:=if b.length<32 then .error 10 else .ok (.hid (b.take 32),b.drop 32)
theorem read_cons(n:Nat)(way:List Nat)(x:UInt8)(b:List UInt8):PW.read n way (x::b)=if x=0 then .ok (.empty,b) else if x=1 then readLeaf way b else if x=2 then readIn n way b else if x=3 then readHid b else .error 13:=by
 unfold readLeaf readIn readHid
 cases n<;>(conv=>lhs;unfold PW.read)<;>rfl
theorem read_nil(n:Nat)(way:List Nat):PW.read n way [] = .error 10:=by
 cases n<;>unfold PW.read<;>rfl
abbrev rnPost(g:Nat)(r:ResP):Post { x:PW×RSw // Out r x }:={ ret:=λx=>.v x.1.1.val,own:=λx=>[RdQ g x.1.2],p:=λx=>x.1.2.rd }
theorem own_wrleaf:Own 81:=λ_ _=>by go_simp
theorem own_wrinner:Own 82:=λ_ _=>by go_simp
theorem own_wrnode:Own 60:=λ_ _=>by go_simp
theorem leaf_out{s:RSw}{way:List Nat}(h0:s.e=0):Out (readLeaf way s.l) (.leaf (s.hv,(s.go 32).hv),if Leads way s.hv then(s.go 32).go 32 else((s.go 32).go 32).fail 13):=by
 refine⟨⟨s.hv_len,(s.go 32).hv_len⟩,?_⟩
 unfold readLeaf
 by_cases h1:s.can 32
 ·have e1:s.hv=s.l.take 32:=if_pos h1
  have e2:s.go 32=s.cut 32:=if_pos h1;rw [e2,e1]
  by_cases h2:s.l.length<64
  ·rw [if_pos h2]
   have hc:¬(s.cut 32).can 32:=λh=>by
    have:=h.2;rw [RSw.cut,dI] at this
    omega
   have e3:(s.cut 32).go 32=(s.cut 32).fail 10:=if_neg hc;rw [e3]
   have e4:((s.cut 32).fail 10).e=10:=by rw [RSw.fail_0 (show(s.cut 32).e=0 from h0)]
   rw [RSw.fail_e (s:=(s.cut 32).fail 10) (by rw [e4];decide),ite_self];exact⟨e4,by decide⟩
  ·rw [if_neg h2]
   have hc:(s.cut 32).can 32:=⟨h0,by rw [RSw.cut,dI];omega⟩;have e3:(s.cut 32).go 32=(s.cut 32).cut 32:=if_pos hc;have e5:(s.cut 32).hv=(s.l.drop 32).take 32:=if_pos hc;rw [e3,e5]
   by_cases h3:Leads way (s.l.take 32)
   ·rw [if_pos h3,if_pos h3]
    exact⟨rfl,by show(s.l.drop 32).drop 32=_;rw [List.drop_drop],h0⟩
   ·rw [if_neg h3,if_neg h3]
    exact⟨by rw [RSw.fail_0 (show((s.cut 32).cut 32).e=0 from h0)],by decide⟩
 ·have h2:s.l.length<64:=by
   have:¬32<=s.l.length:=λh=>h1 ⟨h0,h⟩
   omega
  rw [if_pos h2];have e2:s.go 32=s.fail 10:=if_neg h1
  have e4:(s.fail 10).e=10:=by rw [RSw.fail_0 h0]
  rw [e2]
  have e3:(s.fail 10).go 32=s.fail 10:=by
   have:(s.fail 10).go 32=(s.fail 10).fail 10:=if_neg λh=>by rw [h.1] at e4;cases e4
   rw [this,RSw.fail_e (by rw [e4];decide)]
  rw [e3,RSw.fail_e (s:=s.fail 10) (x:=13) (by rw [e4];decide),ite_self];exact⟨e4,by decide⟩
theorem wrleaf_S(g:Nat)(s:RSw){wy:List UInt8}{way:List Nat}(h:WayB wy way)(h0:s.e=0):Spec 81 [ptV g,(plQ wy way.length).den] [RdQ g s] (λw=>s.rd w/\Tsh w) (rnPost g (readLeaf way s.l)):=by
 refine spec_S [.c (.v (ptV g)),plQ wy way.length] 20 Tryz.func81 rfl (by rw [Tryz.ntmps81];rfl) (two_ok trivial (plQ_ok h.1 _)) λb=>?_;have hout:=leaf_out (way:=way) h0;have hl1:=s.hv_len;have hl2:=(s.go 32).hv_len;have hq:OkT2 (s.hv,(s.go 32).hv):=⟨hl1,hl2⟩;have hrd:∀w,s.rd w->((s.go 32).go 32).rd w:=λw hw=>RSw.go_rd (RSw.go_rd hw);have hrd1:∀w,s.rd w->(s.go 32).rd w:=λw hw=>RSw.go_rd hw;have hh1:=whash_S g s;have hh2:=whash_S g (s.go 32);generalize hs2:(s.go 32).go 32=s2 at *;generalize hs1:s.go 32=s1 at *;generalize hk1:s.hv=k1 at *;generalize hk2:s1.hv=k2 at *;have hlf:=wleafOf_S hq;refine s_auto TY_ok rfl ?_;refine s_regA TY_ok rfl λK hK=>?_;refine l_R ([RdQ g s]++[]) rfl ?_;refine l_callA [ptV g] rfl rfl rfl own_whash rfl rfl (λ_ _=>rfl) hh1 (λ_ h _=>h.1) λ_=>?_;refine l_autoS TY_ok rfl ?_;refine l_R ([RdQ g s1]++[]) rfl ?_;refine l_callA [ptV g] rfl rfl rfl own_whash rfl rfl (λ_ _=>rfl) hh2 (λw h _=>hrd1 w h.2.1) λ_=>?_;refine l_call0 [(eY 32 k1).den,(eY 32 k2).den] rfl rfl rfl own_wleafOf rfl rfl (λ_ _=>rfl) hlf (λ_ h _=>h.2.2.2) λ_=>?_;refine l_autoS TY_ok rfl ?_;refine s_end (hK _ ?_);refine s_seq λK1 hK1=>?_;refine s_regA TY_ok rfl λK2 hK2=>?_;refine l_call0 [(plQ wy way.length).den,(eY 32 k1).den] rfl rfl rfl own_wleads rfl rfl (λ_ _=>rfl) (wleads_S h hl1) (λ_ _ _=>trivial) λ_=>?_
 have hrest:∀s3,Out (readLeaf way s.l) (.leaf (k1,k2),s3)->(∀w,s.rd w->s3.rd w)->∀en,Weak en ⟨[(5,.a 5 0)],[⟨5,none,160,(PW.leaf (k1,k2)).ps⟩],[RdQ g s3],s.rd,λ_=>True⟩->kS b K1 20 en:=by
  intro s3 ho hr en hw
  refine k_weak hw (hK1 _ ?_);refine s_regA TY_ok rfl λK3 hK3=>?_;refine l_op (.v (PW.leaf (k1,k2)).val) trivial rfl rfl rfl (run_mkI (q:=.p (PW.leaf (k1,k2)).ps) rfl Tryz.underlying160 rfl rfl) ?_;refine l_autoS TY_ok rfl ?_;refine s_end (hK3 _ ?_);exact s_ret (k_ret TY_ok ⟨(.leaf (k1,k2),s3),ho⟩ rfl (by decide) rfl rfl rfl (λw h _=>hr w h) (λ_ _=>trivial))
 by_cases hlead:Leads way k1
 ·rw [if_pos hlead] at hout
  refine l_eq 14 (.v (.bool true)) rfl (congrArg (λt=>SV.v (.bool t)) (decide_eq_true hlead)) ?_;refine l_autoS TY_ok rfl ?_;refine s_end (hK2 _ ?_);refine s_no rfl ?_;exact s_skip (hrest s2 hout hrd _ ⟨⟨rfl,trivial⟩,⟨rfl,rfl,trivial⟩,.refl _,λ_ h _=>h.2.2.2.2.1,λ_ _=>trivial⟩)
 ·rw [if_neg hlead] at hout
  refine l_eq 14 (.v (.bool false)) rfl (congrArg (λt=>SV.v (.bool t)) (decide_eq_false hlead)) ?_;refine l_autoS TY_ok rfl ?_;refine s_end (hK2 _ ?_);refine s_yes rfl ?_;refine s_lit ?_;refine l_autoS TY_ok rfl ?_;refine l_R ([RdQ g s2]++[]) rfl ?_;refine l_callA [ptV g,.int .i64 13] rfl rfl rfl own_wfails rfl rfl (λ_ _=>rfl) (wfails_S g s2 13) (λ_ _ _=>trivial) λ_=>?_;exact s_end (hrest (s2.fail 13) hout hrd _ ⟨⟨rfl,trivial⟩,⟨rfl,rfl,trivial⟩,.refl _,λ_ h _=>h.2.2.2.2.2.1,λ_ _=>trivial⟩)
def NodeS(n:Nat):Prop:=∀(way:List Nat) (wy:List UInt8) (s:RSw) (g:Nat),n+way.length=256->WayB wy way->Spec 60 [ptV g,(plQ wy way.length).den] [RdQ g s] (λw=>s.rd w/\Tsh w) (rnPost g (rdR n way s))
theorem bad_least(a b:PW):PW.bad a b=decide (min a.kind 2+min b.kind 2<2):=by
 unfold PW.bad
 have h1:=kind_lt a;have h2:=kind_lt b;generalize a.kind=x at *;generalize b.kind=y at *
 have key:∀x,x<4->∀y,y<4->((x==0&&y==0)||(x==0&&y==1)||(x==1&&y==0))=decide (min x 2+min y 2<2):=by decide
 exact key x h1 y h2
theorem in_out{m:Nat}{way:List Nat}{s s1 s2:RSw}{x y:PW}(h0:s.e=0)(h1:Out (rdR m (way++[0]) s) (x,s1))(h2:Out (rdR m (way++[1]) s1) (y,s2)):Out (readIn (m+1) way s.l) (.inner x y,if PW.bad x y then s2.fail 13 else s2):=by
 obtain⟨g1,h1⟩:=h1;obtain⟨g2,h2⟩:=h2;refine⟨⟨g1,g2⟩,?_⟩
 unfold rdR at h1 h2
 rw [if_pos h0] at h1
 unfold readIn
 dsimp only
 cases hr:PW.read m (way++[0]) s.l with
 | error e =>
  rw [hr] at h1;obtain⟨k1,k2⟩:=h1
  dsimp only at k1
  rw [if_neg (by rw [k1];exact k2)] at h2;obtain⟨k3,_⟩:=h2
  dsimp only at k3
  rw [RSw.fail_e (by rw [k3,k1];exact k2),ite_self];exact⟨by rw [k3,k1],k2⟩
 | ok u =>
  obtain⟨l,b1⟩:=u;rw [hr] at h1;obtain⟨k1,k2,k3⟩:=h1
  dsimp only at k1 k2 k3
  subst k1 k2;rw [if_pos k3] at h2
  dsimp only
  cases hr2:PW.read m (way++[1]) s1.l with
  | error e =>
   rw [hr2] at h2;obtain⟨k4,k5⟩:=h2
   dsimp only at k4
   rw [RSw.fail_e (by rw [k4];exact k5),ite_self];exact⟨k4,k5⟩
  | ok u =>
   obtain⟨r,b2⟩:=u;rw [hr2] at h2;obtain⟨k4,k5,k6⟩:=h2
   dsimp only at k4 k5 k6
   subst k4 k5
   dsimp only
   cases hb:PW.bad x y with
   | true =>
    rw [if_pos rfl,if_pos rfl,RSw.fail_0 k6];exact⟨rfl,by decide⟩
   | false =>
    rw [if_neg (by decide),if_neg (by decide)];exact⟨rfl,rfl,k6⟩
theorem wrinner_S(n:Nat)(ih:∀m,n=m+1->NodeS m)(g:Nat)(s:RSw){wy:List UInt8}{way:List Nat}(hn:n+way.length=256)(h:WayB wy way)(h0:s.e=0):Spec 82 [ptV g,(plQ wy way.length).den] [RdQ g s] (λw=>s.rd w/\Tsh w) (rnPost g (readIn n way s.l)):=by
 have hwl:=h.1;refine spec_S [.c (.v (ptV g)),plQ wy way.length] 39 Tryz.func82 rfl (by rw [Tryz.ntmps82];rfl) (two_ok trivial (plQ_ok hwl _)) λb=>?_;refine s_auto TY_ok rfl ?_;refine s_seq λK hK=>?_;refine s_auto TY_ok rfl ?_;refine s_ifD ((way.length:Int)=256) rfl (λh256=>?_) (λh256=>?_)
 ·obtain rfl:n=0:=by omega
  refine s_regA TY_ok rfl λK1 hK1=>?_;refine l_R ([RdQ g s]++[]) rfl ?_;refine l_callA [ptV g,.int .i64 13] rfl rfl rfl own_wfails rfl rfl (λ_ _=>rfl) (wfails_S g s 13) (λ_ _ _=>trivial) λ_=>?_;refine s_end (hK1 _ ?_);refine s_regA TY_ok rfl λK2 hK2=>?_;refine l_op (.v PW.empty.val) trivial rfl rfl rfl (run_mkI rfl Tryz.underlying154 rfl rfl) ?_;refine l_autoS TY_ok rfl ?_;refine s_end (hK2 _ ?_);exact s_ret (k_ret TY_ok ⟨(.empty,s.fail 13),trivial,by rw [RSw.fail_0 h0],by decide⟩ rfl (by decide) rfl rfl rfl (λ_ h _=>h.2.1) (λ_ _=>trivial))
 refine s_skip (hK _ ?_)
 have hlt:way.length<256:=by have:=h.2.1;omega
 obtain⟨m,rfl⟩:∃m,n=m+1:=⟨n-1,by omega⟩;have ihm:=ih m rfl;clear ih;obtain⟨d,hd⟩:∃d,way.length=d:=⟨_,rfl⟩;have ih0:=λs g=>ihm (way++[0]) (wayS wy d 0) s g (by rw [aB,a9];omega) (hd▸h.more hlt (by decide));have ih1:=λs g=>ihm (way++[1]) (wayS wy d 1) s g (by rw [aB,a9];omega) (hd▸h.more hlt (by decide));have hs0:=wside_S h hlt (b:=0) (by decide);have hs1:=wside_S h hlt (b:=1) (by decide);simp only [aB,a9,hd] at ih0 ih1 hs0 hs1;rw [hd];refine s_auto TY_ok rfl ?_;refine s_seq λK1 hK1=>?_;refine s_auto TY_ok rfl ?_;refine s_block ?_
 let F:Nat×Value×Value×RSw->Env:=λ⟨i,v0,v1,s'⟩=>⟨[(14,.v (.int .i64 (i:Int))),(0,.v (ptV g)),(3,.a 3 0),(5,.a 5 0)],[⟨5,none,165,[.agg 2 #[v0,v1]]⟩,⟨3,none,128,[.agg 32 (By wy).toArray,.one (.v (.int .i64 (d:Int)))]⟩],[RdQ g s'],λw=>s'.rd w/\Tsh w,λ_=>True⟩
 refine c_weak (e':=F (0,.nilIface,.nilIface,s)) ⟨⟨rfl,rfl,rfl,rfl,trivial⟩,⟨rfl,rfl,rfl,rfl,trivial⟩,.refl _,λ_ h _=>h,λ_ _=>trivial⟩ (s_loop (λy=>2-y.1) F (λy=>(y.1=0/\y.2.1 = .nilIface/\y.2.2.1 = .nilIface/\y.2.2.2=s)\/(y.1=1/\∃x,Out (rdR m (way++[0]) s) (x,y.2.2.2)/\y.2.1=x.val/\y.2.2.1 = .nilIface)\/(y.1=2/\∃x s1 z,Out (rdR m (way++[0]) s) (x,s1)/\Out (rdR m (way++[1]) s1) (z,y.2.2.2)/\y.2.1=x.val/\y.2.2.1=z.val)) ?_ (0,.nilIface,.nilIface,s) (.inl ⟨rfl,rfl,rfl,rfl⟩))
 rintro⟨i,v0,v1,s'⟩ hI
 dsimp only at hI
 refine s_auto TY_ok rfl ?_;refine s_seq λK2 hK2=>?_
 rcases hI with⟨rfl,rfl,rfl,hs'⟩|⟨rfl,x,hx,rfl,rfl⟩|⟨rfl,x,s1,z,hx,hz,rfl,rfl⟩
 ·obtain rfl:=hs'.symm
  refine s_ifD (((0:Nat):Int)<2) rfl (λ_=>?_) (λh=>absurd (by decide) h);refine s_skip (hK2 _ ?_);refine s_seq λK3 hK3=>?_;refine s_block ?_;refine s_auto TY_ok rfl ?_;refine s_lit ?_;refine l_autoS TY_ok rfl ?_;refine l_num 21 0 rfl (by decide) ?_;refine l_call0 [(plQ wy d).den,.int .u8 0] rfl rfl rfl own_wside rfl rfl (λ_ _=>rfl) hs0 (λ_ _ _=>trivial) λ_=>?_;refine l_R ([RdQ g s]++[]) rfl ?_;refine l_callA [ptV g,(plQ (wayS wy d 0) (d+1)).den] rfl rfl rfl own_wrnode rfl rfl (λ_ _=>rfl) (ih0 s g) (λ_ h _=>h.2) λu=>?_;obtain⟨⟨x,s1⟩,hx⟩:=u;refine l_op (.a 5 (0+1*0)) trivial rfl rfl rfl (runO_ixA 0 rfl Tryz.underlying165 rfl rfl rfl (by decide)) ?_
  refine l_stA [.agg 2 #[x.val,.nilIface]] rfl rfl rfl rfl rfl rfl rfl (PW.val_cells _) (PW.val_one _) (show _<2 by decide) (λp hp=>by
   rw [aF.1 hp];refine⟨rfl,λv hv=>?_⟩
   rcases aL.1 hv with rfl|hv
   ·exact x.val_one
   ·rw [aF.1 hv];rfl) rfl ?_
  refine s_end (hK3 _ ?_);refine s_autoE TY_ok rfl ?_;exact k_next (1,x.val,.nilIface,s1) (.inr (.inl ⟨rfl,x,hx,rfl,rfl⟩)) (by show 2-1<2-0;decide) ⟨⟨rfl,rfl,rfl,rfl,trivial⟩,⟨rfl,rfl,rfl,rfl,trivial⟩,.refl _,λ_ h _=>⟨h.1,h.2.2.2⟩,λ_ _=>trivial⟩
 ·revert hx
  generalize s'=s1
  intro hx
  refine s_ifD (((1:Nat):Int)<2) rfl (λ_=>?_) (λh=>absurd (by decide) h);refine s_skip (hK2 _ ?_);refine s_seq λK3 hK3=>?_;refine s_block ?_;refine s_auto TY_ok rfl ?_;refine s_lit ?_;refine l_autoS TY_ok rfl ?_;refine l_num 21 1 rfl (by decide) ?_;refine l_call0 [(plQ wy d).den,.int .u8 1] rfl rfl rfl own_wside rfl rfl (λ_ _=>rfl) hs1 (λ_ _ _=>trivial) λ_=>?_;refine l_R ([RdQ g s1]++[]) rfl ?_;refine l_callA [ptV g,(plQ (wayS wy d 1) (d+1)).den] rfl rfl rfl own_wrnode rfl rfl (λ_ _=>rfl) (ih1 s1 g) (λ_ h _=>h.2) λu=>?_;obtain⟨⟨z,s2⟩,hz⟩:=u;refine l_op (.a 5 (0+1*1)) trivial rfl rfl rfl (runO_ixA 1 rfl Tryz.underlying165 rfl rfl rfl (by decide)) ?_;refine l_stA (sdW x z) rfl rfl rfl rfl rfl rfl rfl (PW.val_cells _) (PW.val_one _) (show _<2 by decide) (sdW_ok x z) rfl ?_;refine s_end (hK3 _ ?_);refine s_autoE TY_ok rfl ?_;exact k_next (2,x.val,z.val,s2) (.inr (.inr ⟨rfl,x,s1,z,hx,hz,rfl,rfl⟩)) (by show 2-2<2-1;decide) ⟨⟨rfl,rfl,rfl,rfl,trivial⟩,⟨rfl,rfl,rfl,rfl,trivial⟩,.refl _,λ_ h _=>⟨h.1,h.2.2.2⟩,λ_ _=>trivial⟩
 ·refine s_ifD (((2:Nat):Int)<2) rfl (λh=>absurd h (by decide)) (λ_=>?_)
  refine s_exit (k_pass (k_pass (k_out ?_)));refine hK1 _ ?_;have hout:=in_out h0 hx hz;have hgx:=hx.1;have hgz:=hz.1;refine s_seq λK3 hK3=>?_;refine s_regD 8 (by decide) (by kernel_rfl) (by kernel_rfl) λK4 hK4 G S w0 hst=>?_;refine g_opS (.a 5 (0+1*0)) trivial rfl rfl rfl (runO_ixA 0 rfl Tryz.underlying165 rfl rfl rfl (by decide)) ?_;refine g_opV hst (.v x.val) trivial rfl rfl rfl (runO_ldA _ rfl rfl rfl rfl Tryz.underlying89 rfl) ?_;refine g_callS (F':=λ_=>True) hst [x.val] rfl rfl rfl own_wleast rfl rfl (λ_=>rfl) (wleast_S hgx) trivial (λ_ _ _ _=>trivial) ?_;refine g_opS (.a 5 (0+1*1)) trivial rfl rfl rfl (runO_ixA 1 rfl Tryz.underlying165 rfl rfl rfl (by decide)) ?_;refine g_opV hst (.v z.val) trivial rfl rfl rfl (runO_ldA _ rfl rfl rfl rfl Tryz.underlying89 rfl) ?_;refine g_callS (F':=λ_=>True) hst [z.val] rfl rfl rfl own_wleast rfl rfl (λ_=>rfl) (wleast_S hgz) trivial (λ_ _ _ _=>trivial) ?_;refine g_autoS TY_ok hst rfl ?_;refine g_endS hst ?_;have hk1:=kind_lt x;have hk2:=kind_lt z;have hb:=bad_least x z;refine l_is 33 (PW.bad x z) rfl ?_ ?_
  ·have e:IntKind.i64.wrap (((min x.kind 2:Nat):Int)+((min z.kind 2:Nat):Int))=((min x.kind 2+min z.kind 2:Nat):Int):=wrapI (by omega) (by omega) (by omega)
   rw [hb,e];exact decide_eq_decide.2 (by omega)
  refine s_end (hK4 _ ?_)
  have hrest:∀s3,Out (readIn (m+1) way s.l) (.inner x z,s3)->s3.rd=s'.rd->∀en,Weak en ⟨[(5,.a 5 0)],[⟨5,none,165,sdW x z⟩],[RdQ g s3],λw=>s'.rd w/\Tsh w,λ_=>True⟩->kS b K3 39 en:=by
   intro s3 ho hr en hw
   refine k_weak hw (hK3 _ ?_);refine s_regA TY_ok rfl λK5 hK5=>?_;refine l_call0 [(SQ.p (sdW x z)).den] rfl rfl rfl own_winnerOf rfl rfl (λ_ _=>rfl) (winnerOf_S hgx hgz) (λ_ h _=>h.2) λ_=>?_;refine l_op (.v (PW.inner x z).val) trivial rfl rfl rfl (run_mkI (q:=.p (PW.inner x z).ps) rfl Tryz.underlying167 rfl rfl) ?_;refine l_autoS TY_ok rfl ?_;refine s_end (hK5 _ ?_);exact s_ret (k_ret TY_ok ⟨(.inner x z,s3),ho⟩ rfl (by decide) rfl rfl rfl (λw h _=>by show s3.rd w;rw [hr];exact h.2.1) (λ_ _=>trivial))
  cases hbb:PW.bad x z with
  | true =>
   rw [hbb,if_pos rfl] at hout;refine s_yes rfl ?_;refine s_lit ?_;refine l_autoS TY_ok rfl ?_;refine l_R ([RdQ g s']++[]) rfl ?_;refine l_callA [ptV g,.int .i64 13] rfl rfl rfl own_wfails rfl rfl (λ_ _=>rfl) (wfails_S g s' 13) (λ_ _ _=>trivial) λ_=>?_;exact s_end (hrest (s'.fail 13) hout rfl _ ⟨⟨rfl,trivial⟩,⟨rfl,rfl,trivial⟩,.refl _,λ_ h _=>h.2,λ_ _=>trivial⟩)
  | false =>
   rw [hbb,if_neg (by decide)] at hout;refine s_no rfl ?_;exact s_skip (hrest s' hout rfl _ ⟨⟨rfl,trivial⟩,⟨rfl,rfl,trivial⟩,.refl _,λ_ h _=>h,λ_ _=>trivial⟩)
theorem u8_eq{x:UInt8}{k:Nat}(hk:k<256):((x.toNat:Nat):Int)=(k:Int)↔x=bJ k:=by
 constructor
 ·intro h
  apply UInt8.toNat_inj.1
  rw [gC,aW hk]
  omega
 ·intro h
  rw [h,gC,aW hk]
theorem wrnode_S:∀n,NodeS n:=by
 intro n
 induction n using Nat.strongRecOn with
 | ind n ih =>
 intro way wy s g hn h
 have hwl:=h.1;refine spec_S [.c (.v (ptV g)),plQ wy way.length] 31 Tryz.func60 rfl (by rw [Tryz.ntmps60];rfl) (two_ok trivial (plQ_ok hwl _)) λb=>?_;refine s_auto TY_ok rfl ?_;refine s_seq λK hK=>?_;refine s_regA TY_ok rfl λK1 hK1=>?_;refine l_R ([RdQ g s]++[]) rfl ?_
 by_cases hc:s.can 1
 ·obtain⟨x,r,hx⟩:=RSw.can_cons hc
  have hr:rdR n way s=PW.read n way (x::r):=by rw [rdR,if_pos hc.1,hx]
  have hl:(s.cut 1).l=r:=by show s.l.drop 1=r;rw [hx];rfl
  have h0:(s.cut 1).e=0:=hc.1;have hrd:∀w,s.rd w->(s.cut 1).rd w:=λw hw=>RSw.rd_cut hw hc.2;refine l_callA [ptV g] rfl rfl rfl own_wkind rfl rfl (λ_ _=>rfl) (wkind_yes g s hc hx) (λ_ h _=>h.1) λ_=>?_;refine s_end (hK1 _ ?_);rw [hr,read_cons];generalize s.cut 1=s1 at *;subst hl;refine s_block ?_;refine s_auto TY_ok rfl ?_;refine s_ifD ((x.toNat:Int)=0) rfl (λe0=>?_) (λe0=>?_)
  ·have e:x=0:=(u8_eq (k:=0) (by decide)).1 e0
   refine s_regA TY_ok rfl λK2 hK2=>?_;refine l_op (.v PW.empty.val) trivial rfl rfl rfl (run_mkI rfl Tryz.underlying154 rfl rfl) ?_;refine l_autoS TY_ok rfl ?_;refine s_end (hK2 _ ?_);exact s_ret (k_ret TY_ok ⟨(.empty,s1),by rw [if_pos e];exact⟨trivial,rfl,rfl,h0⟩⟩ rfl (by decide) rfl rfl rfl (λw h _=>hrd w h.2.1) (λ_ _=>trivial))
  have e0:x≠0:=λe=>e0 ((u8_eq (k:=0) (by decide)).2 e);rw [if_neg e0];refine s_auto TY_ok rfl ?_;refine s_ifD ((x.toNat:Int)=1) rfl (λe1=>?_) (λe1=>?_)
  ·have e:x=1:=(u8_eq (k:=1) (by decide)).1 e1
   rw [if_pos e];refine s_regA TY_ok rfl λK2 hK2=>?_;refine l_R ([RdQ g s1]++[]) rfl ?_;refine l_callA [ptV g,(plQ wy way.length).den] rfl rfl rfl own_wrleaf rfl rfl (λ_ _=>rfl) (wrleaf_S g s1 h h0) (λw h _=>⟨hrd w h.2.1,h.2.2⟩) λu=>?_;refine l_autoS TY_ok rfl ?_;refine s_end (hK2 _ ?_);exact s_ret (k_ret TY_ok u rfl (by decide) rfl rfl rfl (λw h _=>h.1) (λ_ _=>trivial))
  have e1:x≠1:=λe=>e1 ((u8_eq (k:=1) (by decide)).2 e);rw [if_neg e1];refine s_auto TY_ok rfl ?_;refine s_ifD ((x.toNat:Int)=2) rfl (λe2=>?_) (λe2=>?_)
  ·have e:x=2:=(u8_eq (k:=2) (by decide)).1 e2
   rw [if_pos e];refine s_regA TY_ok rfl λK2 hK2=>?_;refine l_R ([RdQ g s1]++[]) rfl ?_;refine l_callA [ptV g,(plQ wy way.length).den] rfl rfl rfl own_wrinner rfl rfl (λ_ _=>rfl) (wrinner_S n (λm hm=>ih m (by omega)) g s1 hn h h0) (λw h _=>⟨hrd w h.2.1,h.2.2⟩) λu=>?_;refine l_autoS TY_ok rfl ?_;refine s_end (hK2 _ ?_);exact s_ret (k_ret TY_ok u rfl (by decide) rfl rfl rfl (λw h _=>h.1) (λ_ _=>trivial))
  have e2:x≠2:=λe=>e2 ((u8_eq (k:=2) (by decide)).2 e);rw [if_neg e2];refine s_auto TY_ok rfl ?_;refine s_ifD ((x.toNat:Int)=3) rfl (λe3=>?_) (λe3=>?_)
  ·have e:x=3:=(u8_eq (k:=3) (by decide)).1 e3
   rw [if_pos e];refine s_regA TY_ok rfl λK2 hK2=>?_;refine l_R ([RdQ g s1]++[]) rfl ?_;have hh:=whash_S g s1
   have ho:Out (readHid s1.l) (.hid s1.hv,s1.go 32):=by
    refine⟨s1.hv_len,?_⟩
    unfold readHid RSw.hv RSw.go
    by_cases h32:s1.can 32
    ·rw [if_neg (by have:=h32.2;omega),if_pos h32,if_pos h32]
     exact⟨rfl,rfl,h0⟩
    ·have:s1.l.length<32:=by
      have:¬32<=s1.l.length:=λh=>h32 ⟨h0,h⟩
      omega
     rw [if_pos this,if_neg h32,if_neg h32,RSw.fail_0 h0];exact⟨rfl,by decide⟩
   have hrd2:∀w,s1.rd w->(s1.go 32).rd w:=λw hw=>RSw.go_rd hw;generalize s1.go 32=s2 at *;have hgl:=s1.hv_len;generalize s1.hv=hv at *;refine l_callA [ptV g] rfl rfl rfl own_whash rfl rfl (λ_ _=>rfl) hh (λw h _=>hrd w h.2.1) λ_=>?_;refine l_autoS TY_ok rfl ?_;refine l_op (.v (PW.hid hv).val) trivial rfl rfl rfl (run_mkI (q:=.p (PW.hid hv).ps) rfl Tryz.underlying156 rfl rfl) ?_;refine l_autoS TY_ok rfl ?_;refine s_end (hK2 _ ?_);exact s_ret (k_ret TY_ok ⟨(.hid hv,s2),ho⟩ rfl (by decide) rfl rfl rfl (λw h _=>hrd2 w (hrd w h.2.2.1)) (λ_ _=>trivial))
  have e3:x≠3:=λe=>e3 ((u8_eq (k:=3) (by decide)).2 e);rw [if_neg e3];refine s_skip (hK _ ?_);refine s_regA TY_ok rfl λK2 hK2=>?_;refine l_R ([RdQ g s1]++[]) rfl ?_;refine l_callA [ptV g,.int .i64 13] rfl rfl rfl own_wfails rfl rfl (λ_ _=>rfl) (wfails_S g s1 13) (λ_ _ _=>trivial) λ_=>?_;refine s_end (hK2 _ ?_);refine s_regA TY_ok rfl λK3 hK3=>?_;refine l_op (.v PW.empty.val) trivial rfl rfl rfl (run_mkI rfl Tryz.underlying154 rfl rfl) ?_;refine l_autoS TY_ok rfl ?_;refine s_end (hK3 _ ?_);exact s_ret (k_ret TY_ok ⟨(.empty,s1.fail 13),by rw [hr,read_cons,if_neg e0,if_neg e1,if_neg e2,if_neg e3];exact⟨trivial,by rw [RSw.fail_0 h0],by decide⟩⟩ rfl (by decide) rfl rfl rfl (λw h _=>hrd w h.2.2.1) (λ_ _=>trivial))
 ·have ho:Out (rdR n way s) (.empty,s.fail 10):=by
   refine⟨trivial,?_⟩
   unfold rdR
   by_cases h0:s.e=0
   ·have hl:s.l=[]:=by
     cases hl:s.l with
     | nil=>rfl
     | cons x r=>exact absurd (show s.can 1 from⟨h0,by rw [hl];simp⟩) hc
    rw [if_pos h0,hl,read_nil,RSw.fail_0 h0];exact⟨rfl,by decide⟩
   ·rw [if_neg h0,RSw.fail_e h0]
    exact⟨rfl,h0⟩
  refine l_callA [ptV g] rfl rfl rfl own_wkind rfl rfl (λ_ _=>rfl) (wkind_no g s hc) (λ_ _ _=>trivial) λ_=>?_;refine s_end (hK1 _ ?_);refine s_block ?_;refine s_auto TY_ok rfl ?_;refine s_ifD ((0:Int)=0) rfl (λ_=>?_) (λh=>absurd rfl h);refine s_regA TY_ok rfl λK2 hK2=>?_;refine l_op (.v PW.empty.val) trivial rfl rfl rfl (run_mkI rfl Tryz.underlying154 rfl rfl) ?_;refine l_autoS TY_ok rfl ?_;refine s_end (hK2 _ ?_);exact s_ret (k_ret TY_ok ⟨(.empty,s.fail 10),ho⟩ rfl (by decide) rfl rfl rfl (λw h _=>h.2.1) (λ_ _=>trivial))
def parseR(r:Except Nat PW):RV:=match r with
  | .ok w=>.t [prQ w,.c (.v (.int .i64 0))]
  | .error e=>.t [prQ .empty,.c (.v (.int .i64 (e:Int)))]
def RSw.last(s:RSw):RSw:=if 0<s.l.length then s.fail 11 else s
theorem parse_out{A:Option Addr}{c:Nat}{b:List UInt8}{w:PW}{s:RSw}(h:Out (rdR 256 [] ⟨A,c,b,0⟩) (w,s)):(s.last.e=0->PW.parse b = .ok w)/\(s.last.e≠0->PW.parse b = .error s.last.e):=by
 obtain⟨_,h⟩:=h;rw [rdR,if_pos rfl] at h
 unfold PW.parse
 dsimp only at h
 cases hr:PW.read 256 [] b with
 | error e =>
  rw [hr] at h;obtain⟨h1,h2⟩:=h
  have e1:s.last=s:=by
   unfold RSw.last
   rw [RSw.fail_e (by rw [h1];exact h2),ite_self]
  rw [e1,h1];exact⟨λh=>absurd h h2,λ_=>rfl⟩
 | ok u =>
  obtain⟨x,r⟩:=u;rw [hr] at h;obtain⟨h1,h2,h3⟩:=h
  unfold RSw.last
  rw [h2]
  cases r with
  | nil =>
   rw [if_neg (by decide)];exact⟨λ_=>by rw [h1],λh=>absurd h3 h⟩
  | cons y r =>
   rw [if_pos (by simp),RSw.fail_0 h3];exact⟨λh=>absurd (show(11:Nat)=0 from h) (by decide),λ_=>rfl⟩
theorem own_wParse:Own 39:=λ_ _=>by go_simp
theorem wParse_S{A:Option Addr}{c:Nat}(B:List UInt8):Spec 39 [.slice A B.length c] [] (λw=>Rd 1 eB A c B w/\Tsh w) (one (parseR (PW.parse B))):=by
 refine spec_S [.c (.v (.slice A B.length c))] 23 Tryz.func39 rfl (by rw [Tryz.ntmps39];rfl) (one_ok trivial) λb=>?_;have hnode:=λg=>wrnode_S 256 [] dE ⟨A,c,B,0⟩ g rfl WayB.nil;replace hnode:∀g,Spec 60 [ptV g,(plQ dE 0).den] [RdQ g ⟨A,c,B,0⟩] (λw=>Rd 1 eB A c B w/\Tsh w) (rnPost g (rdR 256 [] ⟨A,c,B,0⟩)):=hnode;refine s_auto TY_ok rfl ?_;refine s_regA TY_ok rfl λK hK=>?_;refine s_end ?_;refine k_give 4 (E':=[(2,.a 2 0)]) rfl ⟨rfl,trivial⟩ λg=>hK _ ?_;refine s_regA TY_ok rfl λK1 hK1=>?_;refine l_R ([RdQ g ⟨A,c,B,0⟩]++[]) rfl ?_;refine l_callA [ptV g,(plQ dE 0).den] rfl rfl rfl own_wrnode rfl rfl (λ_ _=>rfl) (hnode g) (λ_ h _=>h) λu=>?_;obtain⟨⟨w,s⟩,hu⟩:=u;obtain⟨hp0,hp1⟩:=parse_out hu;refine l_autoS TY_ok rfl ?_;refine s_end (hK1 _ ?_);refine s_keep [2,4,5] [2] rfl rfl ?_;refine s_seq λK2 hK2=>?_;refine s_regA TY_ok rfl λK3 hK3=>?_;refine l_ldO TY_ok rfl rfl rfl rfl rfl rfl (obj_own 0 rfl) ?_;refine l_autoS TY_ok rfl ?_;refine s_end (hK3 _ ?_)
 have hrest:∀s3:RSw,s3=s.last->∀en,Weak en ⟨[(2,.a 2 0),(4,.v (ptV g)),(5,.v w.val)],[⟨2,none,91,[.one (.v .nilIface)]⟩],[RdQ g s3],λ_=>True,λ_=>True⟩->kS b K2 23 en:=by
  intro s3 hs3 en hw
  rw [<-hs3] at hp0 hp1;refine k_weak hw (hK2 _ ?_);refine s_seq λK4 hK4=>?_;refine s_regA TY_ok rfl λK5 hK5=>?_;refine l_ldO TY_ok rfl rfl rfl rfl rfl rfl (obj_own 0 rfl) ?_;refine l_autoS TY_ok rfl ?_;refine s_end (hK5 _ ?_);refine s_ifD ((s3.e:Int)≠0) rfl (λhe=>?_) (λhe=>?_)
  ·have he:s3.e≠0:=λh=>he (by rw [h];rfl)
   have hok:OkP s3.ps:=λp hp=>by
    rcases aL.1 hp with rfl|hp
    ·exact⟨trivial,rfl,rfl⟩
    ·rw [aF.1 hp];exact⟨trivial,rfl,rfl⟩
   refine s_seq λK6 hK6=>?_;have hinv:∀{E':SE} {L':List LV} {F' M':World->Prop},∀a w,St b 23 ⟨E',L',[RdQ g s3],F',M'⟩ a w->ObjF g 125 s3.ps w:=λa w ⟨G,S,_,_,h3⟩=>obj_own 0 rfl G S w h3.view;refine s_anyP [0,1,2] 4 1 (ObjF g 125 s3.ps) (by kernel_rfl) rfl hinv ?_;refine p_frontS (L0:=[]) TY_ok 0 (by kernel_rfl) rfl rfl rfl rfl rfl rfl (λ_ h=>by cases h) (λ_ _ _ h=>by cases h) ?_;refine p_frontS (L0:=[]) TY_ok 1 (by kernel_rfl) rfl rfl rfl rfl rfl rfl (λ_ h=>by cases h) (λ_ _ _ h=>by cases h) ?_;refine p_ldO TY_ok 2 (by kernel_rfl) rfl rfl rfl rfl rfl rfl rfl hok (λ_ h=>h) ?_;refine p_step 3 (by kernel_rfl) rfl λK7 hK7=>?_;refine l_autoS TY_ok rfl ?_;refine s_end (hK7 _ hinv ?_);refine p_tail [4] (by kernel_rfl) rfl ?_;refine l_autoS TY_ok rfl ?_;refine s_end (hK6 _ ?_);refine s_ret (k_drop 0 rfl ?_);exact k_ret TY_ok () rfl (by decide) rfl (by show parseR (PW.parse B)=_;rw [hp1 he];rfl) rfl (λ_ _ _=>trivial) (λ_ _=>trivial)
  ·have he:s3.e=0:=by omega
   refine s_skip (hK4 _ ?_);refine s_regA TY_ok rfl λK6 hK6=>?_;refine l_call0 [w.val] rfl rfl rfl own_wpart rfl rfl (λ_ _=>rfl) (wpart_S w) (λ_ _ _=>trivial) λ_=>?_;refine l_autoS TY_ok rfl ?_;refine s_end (hK6 _ ?_);refine s_ret (k_drop 0 rfl ?_);exact k_ret TY_ok () rfl (by decide) rfl (by show parseR (PW.parse B)=_;rw [hp0 he];rfl) rfl (λ_ _ _=>trivial) (λ_ _=>trivial)
 refine s_ifD ((s.l.length:Int)>0) rfl (λh0=>?_) (λh0=>?_)
 ·refine s_lit ?_
  refine l_R ([RdQ g s]++[]) rfl ?_;refine l_callA [ptV g,.int .i64 11] rfl rfl rfl own_wfails rfl rfl (λ_ _=>rfl) (wfails_S g s 11) (λ_ _ _=>trivial) λ_=>?_;exact s_end (hrest (s.fail 11) (by rw [RSw.last,if_pos (by omega)]) _ ⟨⟨rfl,rfl,rfl,trivial⟩,⟨rfl,rfl,trivial⟩,.refl _,λ_ _ _=>trivial,λ_ _=>trivial⟩)
 ·exact s_skip (hrest s (by rw [RSw.last,if_neg (by omega)]) _ ⟨⟨rfl,rfl,rfl,trivial⟩,⟨rfl,rfl,trivial⟩,.refl _,λ_ _ _=>trivial,λ_ _=>trivial⟩)
section
variable{N:Nat}{E:SE}{o:Oper}{x y:Operand}{t t':TypeId}
def cutK(k:Nat)(A:Option Addr)(c n:Nat):Option Addr:=if c=n then A else A.map (·.add (k*n))
theorem run_cutLoK{A:Option Addr}{n c j sz:Nat}{e:TypeId}(he:(Tryz.prog.info? e).map (·.size)=some sz)(hj:j<=n)(hc:n<=c)(hA:A=none->c=0)(ho:o.op = .slice t x (some y) none none)(hu:Tryz.prog.underlying t=some (.slice e))(hx:evS E x=some (.v (.slice A n c)))(hy:evS E y=some (.v (.int .i64 (j:Int)))) :
  ∀(G:Nat->Nat) (a:Act) (w:World),Fr N (denE G E) a->(execOp a.eval o).run Tryz.prog w = .ok (.value ((SV.v (.slice (cutK sz A c j) (n-j) (c-j))).den G)) w:=λG a w ha=>by
 have h1:a.eval x = .slice A n c:=ha.eval (evS_ok hx);have h2:a.eval y = .int .i64 (j:Int):=ha.eval (evS_ok hy)
 have h3:(j:Int)<=(n:Int):=by omega
 have h4:(0:Int)<=(j:Int):=by omega
 have h5:(n:Int)<=(c:Int):=by omega
 have h6:=run_sizeOf he w
 unfold execOp
 simp only [ho];generalize a.eval=ρ at *;simp only [Option.map,h1,h2]
 show _=Result.ok (Next.value (.slice (cutK sz A c j) (n-j) (c-j))) w
 cases A with
 | none =>
  obtain rfl:c=0:=hA rfl
  obtain rfl:n=0:=by omega
  obtain rfl:j=0:=by omega
  go_simp
  rfl
 | some ad =>
  unfold cutK
  by_cases e:c=j
  ·rw [if_pos e]
   go_simp
  ·rw [if_neg e]
   go_simp
   rw [Nat.mul_comm]
theorem run_eqNilS{A:Option Addr}{n c:Nat}{e:TypeId}(ho:o.op = .binOp .eql t x (.const (.slice none 0 0)) t')(hu:Tryz.prog.underlying t=some (.slice e))(hx:evS E x=some (.v (.slice A n c))) :
  ∀(G:Nat->Nat) (a:Act) (w:World),Fr N (denE G E) a->(execOp a.eval o).run Tryz.prog w = .ok (.value ((SV.v (.bool A.isNone)).den G)) w:=λG a w ha=>by
 have h1:a.eval x = .slice A n c:=ha.eval (evS_ok hx);have h3:=run_equal_slice_nil (P:=Tryz.prog) w t e A n c hu
 unfold execOp
 have h4:(eqGuard .eql t x (.const (.slice none 0 0)) (.slice A n c) (.slice none 0 0)).run Tryz.prog w = .ok () w:=rfl;simp only [ho,h1,show a.eval (.const (.slice none 0 0)) = .slice none 0 0 from rfl,aG,h4,aD,binOp,h3,aH]
 rfl
end
theorem Rd.sub{α:Type}{k c c' g:Nat}{fe:α->SQ}{P l Z:List α}{w:World}(h:Rd k fe (some ⟨g,0,none⟩) c (P++l++Z) w)(hc:l.length<=c')(hm:c'<=9223372036854775807):Rd k fe (some ⟨g,k*P.length,none⟩) c' l w:=by
 obtain⟨h1,h2,h3,h4,h5⟩:=h;refine⟨hc,hm,λe=>(by cases e),λx hx=>h4 x (by simp [hx]),λh0=>?_⟩;obtain⟨b,o,e,hb,hr⟩:=h5 (by rw [aB,aB];omega)
 injection e with e
 injection e with e1 e2
 subst e1 e2;refine⟨g,k*P.length,rfl,hb,λi x hx=>?_⟩
 have:=hr (P.length+i) x (by
  rw [aY,dO (by omega),kK,List.getElem?_append_left (bG.1 hx).1]
  exact hx)
 rwa [aZ,mQ] at this
abbrev KyS(A:Option Addr)(c:Nat)(l:List (List UInt8)):Res:=OwnS 0 45 32 (eY 32) A c l
theorem own_wclone:Own 31:=λ_ _=>by go_simp
theorem own_wparted:Own 78:=λ_ _=>by go_simp
theorem wclone_S{A:Option Addr}{c:Nat}(l:List (List UInt8))(hl:l.length<=1000000):Spec 31 [.slice A l.length c] [] (Rd 32 (eY 32) A c l) { ret:=λx:PX=>.v (.slice x.1 l.length x.2),own:=λx=>[KyS x.1 x.2 l] }:=by
 refine spec_S [.c (.v (.slice A l.length c))] 8 Tryz.func31 rfl (by rw [Tryz.ntmps31];rfl) (one_ok trivial) λb=>?_;refine s_pure (l.length<=c/\(A=none->c=0)) (λw hw _=>⟨hw.1,hw.2.2.1⟩) λ⟨hlc,hA⟩=>?_;refine s_auto TY_ok rfl ?_;refine s_seq λK hK=>?_;refine s_regA TY_ok rfl λK1 hK1=>?_;refine l_op (.v (.bool A.isNone)) trivial rfl rfl rfl (run_eqNilS rfl Tryz.underlying43 rfl) ?_;refine s_end (hK1 _ ?_)
 cases A with
 | none =>
  obtain rfl:c=0:=hA rfl;obtain rfl:l=[]:=bC (by omega);refine s_yes rfl ?_;refine s_nil0 0 45 32 (eY 32) ?_;refine s_auto TY_ok rfl ?_;exact s_ret (k_ret TY_ok (none,0) rfl (by decide) rfl rfl rfl (λ_ _ _=>trivial) (λ_ _=>trivial))
 | some ad =>
  refine s_no rfl ?_;refine s_skip (hK _ ?_);refine s_regA TY_ok rfl λK2 hK2=>?_;refine l_list0 (e:=45) (sz:=32) 0 (eY 32) rfl rfl rfl rfl (aI _) (λw=>by go_simp) λB=>?_;refine l_autoS TY_ok rfl ?_;refine l_appY TY_ok 0 l rfl rfl rfl rfl rfl rfl rfl rfl rfl (rd_fact λ_ h _=>h) (by decide) (by show(0+l.length)*32<=_;omega) (by show 0+l.length<=_;omega) (aI _) λA1 c1=>?_;refine l_autoS TY_ok rfl ?_;refine s_end (hK2 _ ?_);exact s_ret (k_ret TY_ok (A1,c1) rfl (by decide) rfl rfl rfl (λ_ _ _=>trivial) (λ_ _=>trivial))
structure KeyAt(A A':Option Addr)(c' i n:Nat):Prop where
  le:n<=c'
  max:c'<=9223372036854775807
  nil:A'=none->c'=0
  at_:0<n->∃g,A=some ⟨g,0,none⟩/\A'=some ⟨g,32*i,none⟩
theorem KeyAt.left{A A':Option Addr}{c' i n m:Nat}(h:KeyAt A A' c' i n)(hm:m<=n):KeyAt A A' c' i m:=⟨bN hm h.le,h.max,h.nil,λh0=>h.at_ (by omega)⟩
theorem KeyAt.right{A A':Option Addr}{c' i n m:Nat}(h:KeyAt A A' c' i n)(hm:m<=n):KeyAt A (cutK 32 A' c' m) (c'-m) (i+m) (n-m):=by
 have hle:=h.le;refine⟨by omega,by have:=h.max;omega,λe=>?_,λh0=>?_⟩
 ·unfold cutK at e
  by_cases e2:c'=m
  ·omega
  ·rw [if_neg e2] at e
   cases A' with
   | none=>have:=h.nil rfl;omega
   | some ad=>cases e
 ·obtain⟨g,e1,e2⟩:=h.at_ (by omega)
  refine⟨g,e1,?_⟩
  unfold cutK
  rw [if_neg (by omega),e2]
  show some (Addr.add ⟨g,32*i,none⟩ (32*m))=_
  simp [Addr.add,mQ]
def rotK:List (List UInt8)->List (List UInt8)
  | []=>[]
  | z::t=>t++[z]
theorem rot_perm:∀l,(rotK l).Perm l
 | []=>.refl _
 | z::t=>List.perm_append_singleton z t
theorem rot_len(l:List (List UInt8)):(rotK l).length=l.length:=(rot_perm l).length_eq
def hdKey(zs:List (List UInt8))(k:List UInt8):List UInt8:=match zs with
  | []=>k
  | z::_=>z
theorem hdKey_at{P ys zs r Z:List (List UInt8)}{k:List UInt8}:(P++(ys++zs++k::r)++Z)[P.length+ys.length]?=some (hdKey zs k):=by
 have e:P++(ys++zs++k::r)++Z=(P++ys)++(zs++(k::(r++Z))):=by simp
 rw [e,dO (by rw [aB];omega),aB,g7]
 cases zs<;>rfl
theorem swap_list{P ys zs r Z:List (List UInt8)}{k:List UInt8}:((P++(ys++zs++k::r)++Z).set (P.length+(ys.length+zs.length)) (hdKey zs k)).set (P.length+ys.length) k=P++((ys++[k])++rotK zs++r)++Z:=by
 cases zs with
 | nil =>
  have e:P++(ys++[]++k::r)++Z=(P++ys)++(k::(r++Z)):=by simp
  rw [e,k7,dW,fP _ _ (by rw [aB];omega),aB,g7]
  show((P++ys)++(k::(r++Z))).set (P.length+ys.length) k=_
  rw [fP _ _ (by rw [aB];omega),aB,g7]
  simp [rotK]
 | cons z t =>
  have e:P++(ys++z::t++k::r)++Z=(P++ys++z::t)++(k::(r++Z)):=by simp
  have el:(P++ys++z::t).length=P.length+(ys.length+(z::t).length):=by rw [aB,aB];omega
  rw [e,fP _ _ (by rw [el];exact aE _),el,g7]
  show((P++ys++z::t)++(z::(r++Z))).set (P.length+ys.length) k=_
  have e2:(P++ys++z::t)++(z::(r++Z))=(P++ys)++(z::(t++(z::(r++Z)))):=by simp
  rw [e2,fP _ _ (by rw [aB];omega),aB,g7]
  simp [rotK]
def Parted(d:Nat)(ks:List (List UInt8))(x:List (List UInt8)×List (List UInt8)):Prop:=x.1.Perm (PW.keyL d ks)/\x.2.Perm (PW.keyR d ks)
theorem Parted.perm{d:Nat}{ks:List (List UInt8)}{x:List (List UInt8)×List (List UInt8)}(h:Parted d ks x):(x.1++x.2).Perm ks:=(h.1.append h.2).trans (List.filter_append_perm (λk=>b6 k d==0) ks)
theorem Parted.len{d:Nat}{ks:List (List UInt8)}{x:List (List UInt8)×List (List UInt8)}(h:Parted d ks x):x.1.length+x.2.length=ks.length:=by
 rw [<-aB];exact h.perm.length_eq
theorem Parted.zero{d:Nat}{ks ys zs:List (List UInt8)}{k:List UInt8}(h:Parted d ks (ys,zs))(hb:b6 k d=0):Parted d (ks++[k]) (ys++[k],rotK zs):=by
 constructor
 ·show(ys++[k]).Perm (iF _ _)
  rw [kN]
  have e:iF (λk=>b6 k d==0) [k]=[k]:=by simp [hb]
  rw [e];exact h.1.append_right _
 ·show(rotK zs).Perm (iF _ _)
  rw [kN]
  have e:iF (λk=>b6 k d != 0) [k]=[]:=by simp [hb]
  rw [e,bQ];exact(rot_perm zs).trans h.2
theorem Parted.one{d:Nat}{ks ys zs:List (List UInt8)}{k:List UInt8}(h:Parted d ks (ys,zs))(hb:b6 k d≠0):Parted d (ks++[k]) (ys,zs++[k]):=by
 constructor
 ·show ys.Perm (iF _ _)
  rw [kN]
  have e:iF (λk=>b6 k d==0) [k]=[]:=by simp [hb]
  rw [e,bQ];exact h.1
 ·show(zs++[k]).Perm (iF _ _)
  rw [kN]
  have e:iF (λk=>b6 k d != 0) [k]=[k]:=by simp [hb]
  rw [e];exact h.2.append_right _
theorem wparted_S{A A':Option Addr}{c c':Nat}(P ks Z:List (List UInt8))(d:Nat)(hd:d<256)(hat:KeyAt A A' c' P.length ks.length)(hks:∀k∈ks,k.length=32):Spec 78 [.slice A' ks.length c',.int .u8 (d:Int)] [KyS A c (P++ks++Z)] (λ_=>True)
  { ret:=λx:{ x // Parted d ks x }=>.t [.c (.v (.slice A' x.1.1.length c')),.c (.v (.slice (cutK 32 A' c' x.1.1.length) x.1.2.length (c'-x.1.1.length)))],own:=λx=>[KyS A c (P++(x.1.1++x.1.2)++Z)] }:=by
 refine spec_S [.c (.v (.slice A' ks.length c')),.c (.v (.int .u8 (d:Int)))] 40 Tryz.func78 rfl (by rw [Tryz.ntmps78];rfl) (two_ok trivial trivial) λb=>?_;have hle:=hat.le;have hmax:=hat.max;have hnil:=hat.nil;refine s_auto TY_ok rfl ?_;refine s_auto TY_ok rfl ?_;refine s_seq λK hK=>?_;refine s_auto TY_ok rfl ?_;refine s_block ?_
 let F:List (List UInt8)×List (List UInt8)×List (List UInt8)->Env:=λ⟨ys,zs,r⟩=>⟨[(11,.v (.int .i64 ((ys.length+zs.length:Nat):Int))),(10,.v (.int .i64 (ks.length:Int))),(9,.v (.slice A' ks.length c')),(0,.v (.slice A' ks.length c')),(1,.v (.int .u8 (d:Int))),(6,.v (.int .i64 (ys.length:Int)))],[],[KyS A c (P++(ys++zs++r)++Z)],λ_=>True,λ_=>True⟩
 refine c_weak (e':=F ([],[],ks)) ⟨⟨rfl,rfl,rfl,rfl,rfl,rfl,trivial⟩,trivial,.refl _,λ_ _ _=>trivial,λ_ _=>trivial⟩ (s_loop (λy=>y.2.2.length) F (λy=>∃done,ks=done++y.2.2/\Parted d done (y.1,y.2.1)) ?_ ([],[],ks) ⟨[],rfl,.refl _,.refl _⟩)
 rintro⟨ys,zs,r⟩ ⟨done,hdone,hpt⟩
 dsimp only at hdone hpt
 have hlen:=hpt.len
 have hkl:ks.length=done.length+r.length:=by rw [hdone,aB]
 dsimp only at hlen
 refine s_auto TY_ok rfl ?_;refine s_seq λK1 hK1=>?_;refine s_ifD (((ys.length+zs.length:Nat):Int)<(ks.length:Int)) rfl (λhlt=>?_) (λhge=>?_)
 ·cases r with
  | nil=>rw [k7] at hkl;omega
  | cons k r =>
  rw [bA] at hkl;have hk:k.length=32:=hks k (by rw [hdone];simp);obtain⟨g,rfl,rfl⟩:=hat.at_ (by omega);have hok:∀G S w,View G S [] [KyS (some ⟨g,0,none⟩) c (P++(ys++zs++k::r)++Z)] (λ_=>True) (λ_=>True) w->Rd 32 (eY 32) (some ⟨g,32*P.length,none⟩) c' (ys++zs++k::r) w:=λG S w hv=>(rd_own 0 rfl G S w hv).sub (by simp;omega) hmax
  have hn1:(ys++zs++k::r).length=ks.length:=by simp;omega
  refine s_skip (hK1 _ ?_);refine s_seq λK2 hK2=>?_;refine s_block ?_;refine s_regA TY_ok rfl λK3 hK3=>?_;refine l_elem (l:=ys++zs++k::r) TY_ok rfl rfl rfl (ys.length+zs.length) rfl (by rw [dO (by rw [aB];exact aE _),aB,g7];rfl) hn1.symm rfl hok ?_;refine l_autoS TY_ok rfl ?_;refine s_end (hK3 _ ?_);refine s_regA TY_ok rfl λK4 hK4=>?_;refine l_call0 [(eY 32 k).den,.int .u8 (d:Int)] rfl rfl rfl own_wbit rfl rfl (λ_ _=>rfl) (wbit_S hk d hd) (λ_ _ _=>trivial) λ_=>?_;refine l_autoS TY_ok rfl ?_;refine s_end (hK4 _ ?_)
  have hdone2:ks=(done++[k])++r:=by rw [hdone];simp
  have hzs:zs.length<=9223372036854775807:=by omega
  refine s_ifD (((b6 k d:Nat):Int)=0) rfl (λhb=>?_) (λhb=>?_)
  ·have hb:b6 k d=0:=by omega
   refine s_own 0 rfl λhokF _ _=>?_;obtain⟨hh1,hh2⟩:=hokF _ (aX (hdKey_at (P:=P) (ys:=ys) (zs:=zs) (r:=r) (Z:=Z) (k:=k)));have hkF:=eY_ok (n:=32) hk;have hhat:=hdKey_at (P:=[]) (ys:=ys) (zs:=zs) (r:=r) (Z:=[]) (k:=k);rw [fR,bQ,k7,aZ] at hhat;have hswap:=swap_list (P:=P) (ys:=ys) (zs:=zs) (r:=r) (Z:=Z) (k:=k)
   have hlx:(P++(ys++zs++k::r)++Z).length=P.length+(ys.length+zs.length+(1+r.length))+Z.length:=by simp;omega
   obtain⟨u1,hu1⟩:∃u,(P++(ys++zs++k::r)++Z)[P.length+(ys.length+zs.length)]?=some u:=⟨_,aJ (by omega)⟩;obtain⟨u2,hu2⟩:∃u,((P++(ys++zs++k::r)++Z).set (P.length+(ys.length+zs.length)) (hdKey zs k))[P.length+ys.length]?=some u:=⟨_,aJ (by rw [bP];omega)⟩;have hc1:=(hokF _ (aX hu1)).2
   have hc2:(eY 32 u2).cl.length=32:=by
    rcases rI (aX hu2) with h|rfl
    ·exact(hokF _ h).2
    ·exact hh2
   generalize hdKey zs k=hd at *;generalize hxs:P++(ys++zs++k::r)++Z=xs at *;refine s_keep [0,1,6,7,8,9,10,11] [8] rfl rfl ?_;refine s_locs λG=>?_;have hsub:∀u∈([⟨8,some (G 8),45,[.agg 32 (By k).toArray]⟩]:List LV),u∈withG G [⟨8,none,45,[.agg 32 (By k).toArray]⟩]/\u.g.isSome=true:=λu hu=>⟨hu,by rw [aF.1 hu];rfl⟩;refine s_seq λK5 hK5=>?_;refine s_anyP [0,1,2,3,4,5,6,8] 11 2 (InvL [⟨8,some (G 8),45,[.agg 32 (By k).toArray]⟩]) (by kernel_rfl) rfl (inv_of hsub) ?_;refine p_frontS TY_ok 0 (by kernel_rfl) rfl rfl rfl rfl rfl rfl (λx hx=>(hsub x hx).1) (λ_ h=>h) ?_;refine p_frontS TY_ok 1 (by kernel_rfl) rfl rfl rfl rfl rfl rfl (λx hx=>(hsub x hx).1) (λ_ h=>h) ?_;refine p_frontS TY_ok 2 (by kernel_rfl) rfl rfl rfl rfl rfl rfl (λx hx=>(hsub x hx).1) (λ_ h=>h) ?_;refine p_frontS TY_ok 3 (by kernel_rfl) rfl rfl rfl rfl rfl rfl (λx hx=>(hsub x hx).1) (λ_ h=>h) ?_;refine p_frontS TY_ok 4 (by kernel_rfl) rfl rfl rfl rfl rfl rfl (λx hx=>(hsub x hx).1) (λ_ h=>h) ?_;refine p_frontS TY_ok 5 (by kernel_rfl) rfl rfl rfl rfl rfl rfl (λx hx=>(hsub x hx).1) (λ_ h=>h) ?_;refine p_frontO (.v (.pointer (some ⟨g,32*P.length+32*ys.length,none⟩))) trivial 6 (by kernel_rfl) rfl rfl rfl rfl rfl (runO_ixS ys.length rfl Tryz.underlying43 (by kernel_rfl) rfl rfl (by omega)) ?_;refine p_frontS TY_ok 8 (by kernel_rfl) rfl rfl rfl rfl rfl rfl (λx hx=>(hsub x hx).1) (λ_ h=>h) ?_;refine p_step 7 (by kernel_rfl) rfl λK6 hK6=>?_;refine l_opV (.q (eY 32 hd)) hh1 rfl rfl rfl (run_ldEl (k':=32) (c:=c') (j:=ys.length) (off:=0) (g:=g) (a:=32*P.length) (fe:=eY 32) (l:=ys++zs++k::r) (y:=hd) TY_ok rfl rfl hhat rfl hh1 λG' S' w hv=>(rd_own (lo:=0) (e:=45) (k:=32) (fe:=eY 32) (A:=some ⟨g,0,none⟩) (c:=c) (l:=P++(ys++zs++k::r)++Z) 0 (by rw [hxs];rfl) G' S' w hv).sub (by rw [hn1];exact hle) hmax) ?_;refine s_end (hK6 _ (inv_of hsub) ?_);refine p_step 9 (by kernel_rfl) rfl λK7 hK7=>?_;refine l_op (.v (.pointer (some ⟨g,32*P.length+32*(ys.length+zs.length),none⟩))) trivial rfl rfl rfl (runO_ixS (ys.length+zs.length) rfl Tryz.underlying43 (by kernel_rfl) rfl rfl (by omega)) ?_;refine s_end (hK7 _ (inv_of hsub) ?_);refine p_step 10 (by kernel_rfl) rfl λK8 hK8=>?_;refine l_eq 29 (.v (.pointer (some ⟨g,32*(P.length+(ys.length+zs.length))+0,none⟩))) rfl (by rw [mQ 32 P.length,dW]) ?_;refine l_stFd 0 (P.length+(ys.length+zs.length)) 0 32 u1 hd rfl rfl rfl rfl rfl rfl hu1 (by kernel_rfl) hh2 (SQ.cl_one hh1) (by rw [fF (by rw [hc1];exact aE _)];simp) (by decide) ⟨hh1,hh2⟩ ?_;refine s_end (hK8 _ (inv_of hsub) ?_);refine p_tail [11,12] (by kernel_rfl) rfl ?_;refine l_op (.v (.pointer (some ⟨g,32*P.length+32*ys.length,none⟩))) trivial rfl rfl rfl (runO_ixS ys.length rfl Tryz.underlying43 (by kernel_rfl) rfl rfl (by omega)) ?_
   refine l_eq 30 (.v (.pointer (some ⟨g,32*(P.length+ys.length)+0,none⟩))) rfl (by rw [mQ 32 P.length,dW]) ?_;refine l_stFd 0 (P.length+ys.length) 0 32 u2 k rfl rfl rfl rfl rfl rfl hu2 (by kernel_rfl) hkF.2 (SQ.cl_one hkF.1) (by rw [fF (by rw [hc2];exact aE _)];simp;rfl) (by decide) hkF ?_;refine s_end (hK5 _ ?_);refine s_autoE TY_ok rfl (hK2 _ ?_);refine s_autoE TY_ok rfl ?_;have hrl:=rot_len zs;exact k_next (ys++[k],rotK zs,r) ⟨done++[k],hdone2,hpt.zero hb⟩ (by show r.length<(k::r).length;simp) ⟨⟨congrArg some (congrArg SV.v (congrArg (bH .i64) (wrapI (by simp;omega) (by omega) (by simp;omega)))),rfl,rfl,rfl,rfl,congrArg some (congrArg SV.v (congrArg (bH .i64) (wrapI (by simp) (by omega) (by simp;omega)))),trivial⟩,trivial,.of_eq (congrArg (λx=>[KyS (some ⟨g,0,none⟩) c x]) hswap),λ_ _ _=>trivial,λ_ _=>trivial⟩
  ·have hb:b6 k d≠0:=by omega
   refine s_skip (hK2 _ ?_);refine s_autoE TY_ok rfl ?_;exact k_next (ys,zs++[k],r) ⟨done++[k],hdone2,hpt.one hb⟩ (by show r.length<(k::r).length;simp) ⟨⟨congrArg some (congrArg SV.v (congrArg (bH .i64) (wrapI (by simp;omega) (by omega) (by simp;omega)))),rfl,rfl,rfl,rfl,rfl,trivial⟩,trivial,.of_eq (congrArg (λx=>[KyS (some ⟨g,0,none⟩) c x]) (by simp:P++(ys++zs++k::r)++Z=P++(ys++(zs++[k])++r)++Z)),λ_ _ _=>trivial,λ_ _=>trivial⟩
 ·refine s_exit (k_pass (k_pass (k_out ?_)))
  refine hK _ ?_;obtain rfl:r=[]:=bC (by omega)
  have e2:ks.length-ys.length=zs.length:=by rw [hkl,k7];omega
  have hpt2:Parted d ks (ys,zs):=by rw [hdone,bQ];exact hpt
  have hyl:ys.length<=ks.length:=by omega
  refine s_regD 8 (by decide) (by kernel_rfl) (by kernel_rfl) λK4 hK4 G S w0 hst=>?_;refine g_autoS TY_ok hst rfl ?_;refine g_opS (.v (.slice A' ys.length c')) trivial rfl rfl rfl (run_cutHi (sz:=32) (by kernel_rfl) (by omega) hnil rfl Tryz.underlying43 rfl rfl) ?_;refine g_autoS TY_ok hst rfl ?_;refine g_opS (.v (.slice (cutK 32 A' c' ys.length) (ks.length-ys.length) (c'-ys.length))) trivial rfl rfl rfl (run_cutLoK (sz:=32) (by kernel_rfl) hyl hle hnil rfl Tryz.underlying43 rfl rfl) ?_;refine g_autoS TY_ok hst rfl ?_;refine g_endS hst ?_;refine s_end (hK4 _ ?_);refine s_ret (k_ret TY_ok ⟨(ys,zs),hpt2⟩ rfl (by decide) rfl (by rw [e2];rfl) (by show [KyS A c (P++(ys++zs)++Z)]=[KyS A c (P++(ys++zs++[])++Z)];rw [bQ]) (λ_ _ _=>trivial) (λ_ _=>trivial))
theorem own_dwith:Own 29:=λ_ _=>by go_simp
theorem withG_is{G:Nat->Nat}:∀{L:List LV},∀u∈withG G L,u∈withG G L/\u.g.isSome=true
 | [],_,h=>by cases h
 | _::_,_,h=>by
  rcases aL.1 h with rfl|h
  ·exact⟨aP,rfl⟩
  ·exact⟨List.mem_cons_of_mem _ (withG_is _ h).1,(withG_is _ h).2⟩
abbrev dirP(ep:Int)(K:List UInt8->List (List UInt8))(x:DirV)(w:World):Prop:=x.F w/\x.Ok/\x.ep=ep/\∀k,bS x.l k=K k
theorem seg_32{s:HSeg}{w:World}(h:s.rd w):∀k∈s.l,k.length=32:=λk hk=>by
 obtain⟨i,hi⟩:=List.getElem?_of_mem hk;exact pick_key h hi
structure WiS where
  seen:Array Nat
  done:List (List UInt8×HSeg)
  n:Nat
  h:List UInt8->Option HSeg
  t:TA
def wiL(d:DirV)(x:WiS):List EntD:=lP d.l (x.done.map entD)
structure WiI(d:DirV)(g:List UInt8->Option HSeg)(es:Array MapEntry)(n:Nat)(x:WiS):Prop where
  did:DidM TH ok32 es g x.seen x.done
  dir:DirOk (wiL d x)
  small:SmallD (wiL d x)
  tells:Tells x.h (wiL d x)
  tree:TOk 256 (pairsD (wiL d x)) x.t
  len:(wiL d x).length<=d.l.length+x.done.length
  left:x.done.length+(leftOf es x.seen).size<=n
theorem wiL_next(d:DirV)(x:WiS)(q:List UInt8)(v:HSeg)(seen:Array Nat)(n:Nat)(h:List UInt8->Option HSeg)(t:TA):wiL d ⟨seen,x.done++[(q,v)],n,h,t⟩=if v.l=[] then wiL d x else iA (wiL d x) q v.l:=by
 unfold wiL
 rw [List.map_append];exact buildD_one _ _ _
theorem shares0{l:List PairT}:c7 (256-256) l:=λ_ _ _ _ _ h=>absurd h (oH _)
theorem dwith_S{d:DirV}(hd:d.Ok)(ep:Int)(mh n:Nat)(g:List UInt8->Option HSeg)(hsz:d.l.length+n<=1000)(h64:∀k s,g k=some s->s.l.length<=64) :
  Spec 29 [(eDv d).den,.int .i64 ep,.map (some mh)] [MapG TH ok32 mh n g] (λw=>Ta w/\d.F w/\∀k s,g k=some s->s.rd w) { ret:=λx:DirV=>.q (eDv x),own:=λ_=>[MapG TH ok32 mh n g],p:=dirP ep (overK g d.l) }:=by
 refine spec_S [.p d.parts,.c (.v (.int .i64 ep)),.c (.v (.map (some mh)))] 51 Tryz.func29 rfl (by rw [Tryz.ntmps29];rfl) (more_ok d.parts_ok (two_ok trivial trivial)) λb=>?_;refine s_pure (∀k s,g k=some s->∀x∈s.l,x.length=32) (λw h _ k s hs=>seg_32 (h.2.2 k s hs)) λh32=>?_;refine s_auto TY_ok rfl ?_;refine s_auto TY_ok rfl ?_;refine s_seq λK hK=>?_;refine s_regA TY_ok rfl λK1 hK1=>?_;refine l_opV (.v (.int .i64 (n:Int))) trivial rfl rfl rfl (runO_lenA TH_ok (map_own 0 rfl) rfl rfl) ?_;refine l_autoS TY_ok rfl ?_;refine s_end (hK1 _ ?_);refine s_ifD ((n:Int)=0) rfl (λh0=>?_) (λ_=>?_)
 ·obtain rfl:n=0:=by omega
  refine s_auto TY_ok rfl ?_;refine s_ret (k_openG 0 rfl λes clock hH=>k_closeG TH 0 rfl hH ?_);have hz:∀k,g k=none:=λk=>hH.zero k;exact k_ret TY_ok ({ d with ep:=ep }:DirV) rfl (by decide) rfl rfl rfl (λw h _=>⟨h.2.1,⟨hd.dir,hd.small,hd.tells,hd.tree,hd.map⟩,rfl,λk=>(over_none hz d.l k).symm⟩) (λ_ _=>trivial)
 refine s_skip (hK _ ?_);refine s_regA TY_ok rfl λK2 hK2=>?_;refine l_opV (.v (.int .i64 (d.cnt:Int))) trivial rfl rfl rfl (runO_lenD hd (λ_ _ _ h=>h.fact.2.1) rfl rfl) ?_;refine l_autoS TY_ok rfl ?_;refine l_opV (.v (.int .i64 (n:Int))) trivial rfl rfl rfl (runO_lenA TH_ok (map_own 0 rfl) rfl rfl) ?_;refine l_autoS TY_ok rfl ?_;refine l_mkGn TH ok32 TH_ok rfl rfl rfl rfl rfl λm=>?_;refine l_autoS TY_ok rfl ?_;refine s_end (hK2 _ ?_);refine s_regA TY_ok rfl λK3 hK3=>?_;refine l_callA (own:=[MapG TH ok32 m 0 λ_=>none]) (R':=[MapG TH ok32 mh n g]) [.map (some m),.map d.mv] rfl rfl rfl own_mcopy rfl rfl (λ_ _=>rfl) (mcopy_S hd m) (λ_ h _=>h.2.1) λn2=>?_;refine l_R [MapG TH ok32 m n2 d.h,MapG TH ok32 mh n g] rfl ?_;refine s_end (hK3 _ ?_);refine s_seq λK4 hK4=>?_;refine s_regA TY_ok rfl λK5 hK5=>?_;refine l_openG 1 rfl λes clock hH=>?_;refine l_rangeM rfl rfl rfl rfl Tryz.underlying28 rfl (es:=es) (clock:=clock) (mapE_own 1 rfl) λr=>?_;refine s_end (hK5 _ ?_);refine s_block ?_
 let Fs:WiS->Env:=λx=>⟨[(28,.v (.pointer (some ⟨r,0,none⟩))),(7,.v (.map (some m))),(3,.a 3 0),(6,.a 6 0)],[⟨6,none,33,zDirV.parts⟩,⟨3,none,33,[.one (.v (.int .i64 ep)),.one (.v (.map d.mv)),.agg 2 #[x.t.val,.int .u8 0]]⟩],[ItR (some mh) r clock x.seen,MapG TH ok32 m x.n x.h,MapB mh es clock],λw=>(Ta w/\∀k s,g k=some s->s.rd w)/\TF x.t w/\∀k s,x.h k=some s->s.rd w,λ_=>True⟩
 have hl0:(leftOf es #[]).size<=n:=by
  have h1:=hH.size
  unfold leftOf
  exact bN (Array.size_filter_le ..) (mM h1)
 refine c_weak (e':=Fs ⟨#[],[],n2,d.h,d.t⟩) ⟨⟨rfl,rfl,rfl,rfl,trivial⟩,⟨rfl,rfl,rfl,rfl,trivial⟩,.refl _,λ_ h _=>⟨⟨h.2.1,h.2.2.2⟩,h.2.2.1.2.2,h.2.2.1.2.1⟩,λ_ _=>trivial⟩ (s_loop (λx=>(leftOf es x.seen).size) Fs (WiI d g es n) ?_ ⟨#[],[],n2,d.h,d.t⟩ ⟨DidM.nil,hd.dir,hd.small,hd.tells,hd.tree,aE _,by show 0+(leftOf es #[]).size<=n;omega⟩)
 rintro x hx
 obtain⟨hD,hdir,hsm,hte,htr,hlen,hleft⟩:=id hx;refine s_regA TY_ok rfl λK6 hK6=>?_;refine l_nextM hH hD (λ_ h=>eY_all h) eHs_all 0 rfl rfl rfl rfl rfl rfl (mapE_own 2 rfl) (λh0=>?_) λq v seen' hq hv hne hlt hla hD'=>?_
 ·refine l_autoS TY_ok rfl ?_
  refine s_end (hK6 _ ?_);refine s_seq λK7 hK7=>?_;refine s_no rfl ?_;refine s_exit (k_pass (k_pass (k_out ?_)));refine k_drop 0 rfl (k_openG 0 rfl λes' clock' hH'=>k_freeB 0 rfl (k_closeG TH 0 rfl hH ?_));refine hK4 _ ?_;refine s_auto TY_ok rfl ?_;refine s_auto TY_ok rfl ?_;refine s_ret ?_;refine k_ret TY_ok (⟨ep,some m,es',clock',x.n,x.h,x.t,wiL d x⟩:DirV) rfl (by decide) rfl rfl rfl (λw h _=>⟨⟨λm' e=>?_,h.2.2.2,h.2.2.1⟩,⟨hdir,hsm,hte,htr,hH'⟩,rfl,?_⟩) (λ_ _=>trivial)
  ·have e:some m=some m':=e
   injection e with e
   rw [<-e];exact h.1
  ·exact over_done hD.nodup (λd hd=>(hD.in_ d hd).2) λk s hg=>hD.all TH_ok hH h0 hg
 refine l_autoS TY_ok rfl ?_;refine s_end (hK6 _ ?_);refine s_seq λK7 hK7=>?_;refine s_yes rfl ?_;refine s_skip (hK7 _ ?_);refine s_block ?_;refine s_regA TY_ok rfl λK8 hK8=>?_;refine l_opV (.t [eY 32 q,eHs v]) (two_ok (eY_all hq) trivial) rfl rfl rfl (runO_entry hH 0 rfl hla (mapE_own 2 rfl) rfl rfl) ?_;refine l_autoS TY_ok rfl ?_;refine s_end (hK8 _ ?_);refine s_auto TY_ok rfl ?_
 have hlt':x.done.length+1+(leftOf es seen').size<=n:=by omega
 refine s_ifD ((v.l.length:Int)>0) rfl (λhpos=>?_) (λhn0=>?_)
 ·have hvn:v.l≠[]:=λe=>by rw [e] at hpos;exact absurd hpos (by decide)
  have hv64:=h64 q v hv;refine s_seq λK9 hK9=>?_;refine s_locs λG=>?_;refine s_anyP [0,1,2] 4 1 (InvL (withG G [⟨8,none,45,[.agg 32 (By q).toArray]⟩,⟨6,none,33,zDirV.parts⟩,⟨3,none,33,[.one (.v (.int .i64 ep)),.one (.v (.map d.mv)),.agg 2 #[x.t.val,.int .u8 0]]⟩])) (by kernel_rfl) rfl (inv_of withG_is) ?_;refine p_front TY_ok 0 (by kernel_rfl) rfl rfl rfl rfl rfl rfl (λ_ h=>h) ?_;refine p_front TY_ok 1 (by kernel_rfl) rfl rfl rfl rfl rfl rfl (λ_ h=>h) ?_;refine p_front TY_ok 2 (by kernel_rfl) rfl rfl rfl rfl rfl rfl (λ_ h=>h) ?_;refine p_step 3 (by kernel_rfl) rfl λKa hKa=>?_;refine l_call0 [.slice v.A v.l.length v.c] rfl rfl rfl own_wclone rfl rfl (λ_ _=>rfl) (wclone_S v.l (by omega)) (λ_ h _=>h.1.2 q v hv) λy=>?_;refine l_free 0 rfl ?_;refine s_end (hKa _ (inv_of withG_is) ?_);refine p_tail [4] (by kernel_rfl) rfl ?_;refine l_updG TH_ok 1 rfl q ⟨y.1,y.2,v.l⟩ hq rfl rfl rfl rfl rfl rfl ?_;refine s_end (k_noloc (hK9 _ ?_));obtain⟨va,hva⟩:∃va,valH v.l=va:=⟨_,rfl⟩
  have hvl:va.length=32:=by rw [<-hva];exact dig_len _
  have hval:=hvalue_S (A:=v.A) (c:=v.c) v.l;rw [hva] at hval;have hpl:(pairsD (wiL d x)).length=(wiL d x).length:=List.length_map ..;have hput:=tPut_S 256 (pairsD (wiL d x)) x.t (q,va) ⟨hq,hvl⟩ (aE _) htr (DirOk.pairs hdir).1 (DirOk.pairs hdir).2 shares0 (by omega);refine s_locs λG=>?_;refine s_anyP [0,1,2,3] 6 2 (InvL (withG G [⟨8,none,45,[.agg 32 (By q).toArray]⟩,⟨6,none,33,zDirV.parts⟩,⟨3,none,33,[.one (.v (.int .i64 ep)),.one (.v (.map d.mv)),.agg 2 #[x.t.val,.int .u8 0]]⟩])) (by kernel_rfl) rfl (inv_of withG_is) ?_;refine p_front TY_ok 0 (by kernel_rfl) rfl rfl rfl rfl rfl rfl (λ_ h=>h) ?_;refine p_front TY_ok 1 (by kernel_rfl) rfl rfl rfl rfl rfl rfl (λ_ h=>h) ?_;refine p_front TY_ok 2 (by kernel_rfl) rfl rfl rfl rfl rfl rfl (λ_ h=>h) ?_;refine p_front TY_ok 3 (by kernel_rfl) rfl rfl rfl rfl rfl rfl (λ_ h=>h) ?_;refine p_step 4 (by kernel_rfl) rfl λKa hKa=>?_;refine l_call0 [.slice v.A v.l.length v.c] rfl rfl rfl own_hvalue rfl rfl (λ_ _=>rfl) hval (λ_ h _=>⟨h.2.2.1.1,h.2.2.1.2 q v hv⟩) λ_=>?_;refine s_end (hKa _ (inv_of withG_is) ?_);refine p_step 5 (by kernel_rfl) rfl λKb hKb=>?_;refine l_call0 [(eTr x.t ((256-256)%256)).den,(eY 32 q).den,(eY 32 va).den] rfl rfl rfl own_tPut rfl rfl (λ_ _=>rfl) hput (λ_ h _=>⟨h.2.2.2.2.1,h.2.2.2.1.1.sh⟩) λ⟨t',ht'⟩=>?_;refine s_end (hKb _ (inv_of withG_is) ?_);refine p_tail [6,7] (by kernel_rfl) rfl ?_;refine l_autoS TY_ok rfl ?_
  have e1:wiL d ⟨seen',x.done++[(q,v)],if (x.h q).isSome then x.n else x.n+1,putF x.h q ⟨y.1,y.2,v.l⟩,t'⟩=iA (wiL d x) q v.l:=by rw [wiL_next,if_neg hvn]
  refine s_end (k_noloc (k_next ⟨seen',x.done++[(q,v)],if (x.h q).isSome then x.n else x.n+1,putF x.h q ⟨y.1,y.2,v.l⟩,t'⟩ ⟨hD',?_,?_,?_,?_,?_,?_⟩ hlt ⟨⟨rfl,rfl,rfl,rfl,trivial⟩,⟨rfl,rfl,rfl,rfl,trivial⟩,.refl _,λw h _=>⟨h.2.2.2.2.1,h.1,λk s e=>?_⟩,λ_ h=>trivial⟩))
  ·rw [e1]
   exact hdir.put hq hvn (h32 q v hv)
  ·rw [e1]
   exact hsm.put hv64
  ·rw [e1]
   exact hte.put q ⟨y.1,y.2,v.l⟩ hvn
  ·rw [e1,pairsD_put,hva]
   exact ht'
  ·rw [e1,aB]
   have:=putD_len (wiL d x) q v.l
   show _<=_+(_+1)
   omega
  ·rw [aB]
   exact hlt'
  ·have e:putF x.h q ⟨y.1,y.2,v.l⟩ k=some s:=e
   unfold putF at e
   split at e
   ·injection e with e
    rw [<-e];exact h.2.2.1
   ·exact h.2.2.2.2.2.2 k s e
 ·have hvn:v.l=[]:=bC (by omega)
  have e1:wiL d ⟨seen',x.done++[(q,v)],x.n,x.h,x.t⟩=wiL d x:=by rw [wiL_next,if_pos hvn]
  refine s_skip (k_next ⟨seen',x.done++[(q,v)],x.n,x.h,x.t⟩ ⟨hD',?_,?_,?_,?_,?_,?_⟩ hlt ⟨⟨rfl,rfl,rfl,rfl,trivial⟩,⟨rfl,rfl,rfl,rfl,trivial⟩,.refl _,λ_ h _=>h,λ_ h=>h⟩)
  ·rw [e1]
   exact hdir
  ·rw [e1]
   exact hsm
  ·rw [e1]
   exact hte
  ·rw [e1]
   exact htr
  ·rw [e1,aB]
   exact bN hlen (Nat.add_le_add_left (Nat.le_succ _) _)
  ·rw [aB]
   exact hlt'
end Go.Proofs.YtlhlkofpjhpaoaaGreatDoor
