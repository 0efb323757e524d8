import Derived.Test.YtlhlkofpjhpaoaaGreatDoorQp
import Derived.Test.YtlhlkofpjhpaoaaGreatDoorRows
import Derived.Test.YtlhlkofpjhpaoaaGreatDoorQa
import Derived.ProofKit
import Derived.OpenShut
import Derived.SizedLaws
import Derived.Test.YtlhlkofpjhpaoaaGreatDoorQd
import Derived.Deep.Slices
import Derived.LaidMore
import Derived.SevenTiedAt
import Derived.Stop.Joined
import Derived.Test.YtlhlkofpjhpaoaaGreatDoorQi
import Derived.Test.YtlhlkofpjhpaoaaGreatDoorCards
import Derived.Test.YtlhlkofpjhpaoaaGreatDoorTie
set_option maxRecDepth 100000
set_option maxHeartbeats 8000000
open Go.DataW renaming trod->fG,trod_int->j1
open Go.World renaming block_lt_of_cell?->k8
open List renaming mem_singleton->aE,mem_cons->aJ,mem_cons_self->aM,getElem?_eq_getElem->aP,mem_of_getElem?->a6,length_cons->bB,getElem?_eq_some_iff->bC,length_map->cH,getElem_of_mem->fJ,take_length->gN,perm_append_comm->mH,getElem?_map->nR
open Nat renaming zero_le->aQ,le_trans->cN
open Option.some renaming injEq->aT,inj->bG
open UInt8 renaming ofNat->bD
namespace Go.Proofs.YtlhlkofpjhpaoaaGreatDoor
open Go.RowKit Go.IntWalk Nums
def OwnerD(l:List EntD):Prop:=∀e∈l,∃w:Nat,w<4/\e.1=eQ (hB2 (bD w) 77)
theorem OwnerD.apply:∀{us:List UV} {l:List EntD},OwnerD l->(∀u∈us,GoodU u)->OwnerD (fE l (us.map udH))
 | [],_,h,_=>h
 | u::us,l,h,hu=>by
  refine OwnerD.apply (us:=us) (l:=g9 l (udH u)) (λe he=>?_) λv hv=>hu v (.tail _ hv)
  unfold g9 at he
  split at he
  ·rcases jD he with rfl|he
   ·exact(hu u aM).2
   ·exact h e he
  ·exact h e he
theorem owner_ne{w:Nat}(hw:w<4){x:UInt8}(hx:x=200\/x=201):eQ (hB2 (bD w) 77)≠hB x:=λe=>by
 have h:(eQ (hB2 (bD w) 77)).head?=some x:=by rw [e];rfl
 have h0:w=0\/w=1\/w=2\/w=3:=by omega
 rcases h0 with rfl|rfl|rfl|rfl
 ·rw [key_head (x:=45) rfl (by decide +kernel)] at h
  rcases hx with rfl|rfl<;>exact absurd (bG h) (by decide)
 ·rw [key_head (x:=66) rfl (by decide +kernel)] at h
  rcases hx with rfl|rfl<;>exact absurd (bG h) (by decide)
 ·rw [key_head (x:=202) rfl (by decide +kernel)] at h
  rcases hx with rfl|rfl<;>exact absurd (bG h) (by decide)
 ·rw [key_head (x:=111) rfl (by decide +kernel)] at h
  rcases hx with rfl|rfl<;>exact absurd (bG h) (by decide)
theorem OwnerD.not{l:List EntD}(h:OwnerD l){x:UInt8}(hx:x=200\/x=201):∀e∈l,e.1≠hB x:=λe he=>by
 obtain⟨w,hw,e1⟩:=h e he;rw [e1];exact owner_ne hw hx
theorem putD_new:∀{l:List EntD} {id:List UInt8} {ks:List (List UInt8)},(∀e∈l,e.1≠id)->(iU l id ks).length=l.length+1
 | [],_,_,_=>rfl
 | e::l,id,ks,h=>by
  unfold iU
  have h1:=h e aM;have h2:=putD_new (l:=l) (id:=id) (ks:=ks) λx hx=>h x (.tail _ hx)
  by_cases hlt:dI e.1 id=true
  ·rw [if_pos hlt,bB,h2,bB]
  ·rw [if_neg hlt,if_neg h1]
   rfl
theorem over_tells{g:List UInt8->Option HSeg}{l:List EntD}(h:Tells g l)(k:List UInt8):overK g [] k=bL l k:=by
 unfold overK
 cases hg:g k with
 | none=>exact((h k).2 hg).symm
 | some s =>
  obtain⟨h1,h2⟩:=(h k).1 s hg
  show(if s.l=[] then bL [] k else s.l)=_
  rw [if_neg h1,h2]
theorem over_put{g:List UInt8->Option HSeg}{m:List EntD}(h:∀k,overK g [] k=bL m k)(id:List UInt8)(v:HSeg)(k:List UInt8):overK (putF g id v) [] k=if k=id then v.l else bL m k:=by
 by_cases hk:k=id
 ·rw [if_pos hk]
  unfold overK putF
  rw [if_pos hk]
  show(if v.l=[] then bL [] k else v.l)=_
  by_cases h0:v.l=[]
  ·rw [if_pos h0,h0]
   rfl
  ·rw [if_neg h0]
 ·rw [if_neg hk,<-h k]
  unfold overK putF
  rw [if_neg hk]
def segB(p:EntD×PX):HSeg:=⟨p.2.1,p.2.2,p.1.2⟩
abbrev KysB(ps:List (EntD×PX)):List Res:=ps.map λp=>KyS p.2.1 p.2.2 p.1.2
structure BuS where
  ps:List (EntD×PX)
  n:Nat
  g:List UInt8->Option HSeg
structure BuI(l:List EntD)(j:Nat)(s:BuS):Prop where
  n:s.n<=j
  sub:∀p∈s.ps,p.1∈l.take j
  all:∀e∈l.take j,∃p∈s.ps,p.1=e
  has:∀p∈s.ps,s.g p.1.1=some (segB p)
  of:∀k v,s.g k=some v->∃p∈s.ps,p.1.1=k/\v=segB p
theorem BuI.zero{l:List EntD}:BuI l 0 ⟨[],0,λ_=>none⟩:=⟨Nat.le_refl _,λ_ h=>(by cases h),λ_ h=>(by cases h),λ_ h=>(by cases h),λ_ _ h=>(by cases h)⟩
theorem BuI.next{l:List EntD}(hl:DirOk l){j:Nat}{s:BuS}(h:BuI l j s){e:EntD}(he:l[j]?=some e)(y:PX):BuI l (j+1) ⟨(e,y)::s.ps,if (s.g e.1).isSome then s.n else s.n+1,putF s.g e.1 (segB (e,y))⟩:=by
 have ht:l.take (j+1)=l.take j++[e]:=by rw [List.take_add_one,he];rfl
 have hne:∀p∈s.ps,p.1.1≠e.1:=λp hp hpe=>by
  obtain⟨i,hi,hie⟩:=fJ (h.sub p hp);rw [List.length_take] at hi;rw [List.getElem_take] at hie;obtain⟨hjl,hje⟩:=bC.1 he;have h1:=List.pairwise_iff_getElem.1 hl.sort i j (by omega) hjl (by omega);rw [hie,hje] at h1;exact tY h1 hpe.symm
 refine⟨?_,λp hp=>?_,λx hx=>?_,λp hp=>?_,λk v hk=>?_⟩
 ·have:=h.n
  show(if (s.g e.1).isSome then s.n else s.n+1)<=_
  split<;>omega
 ·rw [ht]
  rcases aJ.1 hp with rfl|hp
  ·exact List.mem_append_right _ (aE.2 rfl)
  ·exact List.mem_append_left _ (h.sub p hp)
 ·rw [ht] at hx
  rcases List.mem_append.1 hx with hx|hx
  ·obtain⟨p,hp,e1⟩:=h.all x hx
   exact⟨p,.tail _ hp,e1⟩
  ·exact⟨(e,y),aM,(aE.1 hx).symm⟩
 ·show putF s.g e.1 _ p.1.1=_
  unfold putF
  rcases aJ.1 hp with rfl|hp
  ·exact if_pos rfl
  ·rw [if_neg (hne p hp)]
   exact h.has p hp
 ·have hk:putF s.g e.1 (segB (e,y)) k=some v:=hk
  unfold putF at hk
  split at hk
  ·exact⟨(e,y),aM,by rename_i hk';exact hk'.symm,(bG hk).symm⟩
  ·obtain⟨p,hp,h1,h2⟩:=h.of k v hk
   exact⟨p,.tail _ hp,h1,h2⟩
theorem BuI.tells{l:List EntD}(hl:DirOk l){s:BuS}(h:BuI l l.length s):Tells s.g l:=λk=>by
 have hin:∀e∈l,bL l e.1=e.2:=λe he=>by
  obtain⟨i,hi⟩:=List.getElem?_of_mem he;exact keysD_at hl hi
 refine⟨λv hv=>?_,λhv=>j7 λe he hek=>?_⟩
 ·obtain⟨p,hp,rfl,rfl⟩:=h.of k v hv
  have hpl:=h.sub p hp;rw [gN] at hpl;exact⟨hl.some _ hpl,hin _ hpl⟩
 ·obtain⟨p,hp,e1⟩:=h.all e (by rw [gN];exact he)
  have:=h.has p hp;rw [e1,hek,hv] at this
  cases this
section
variable{ds:List Deferred}{b:Base}{Q:Exit->Act->World->Prop}{N:Nat}{E:SE}{L:List LV}{R:List Res}{F M:World->Prop}{c:Code}
theorem kD_weak{K:Act->World->Prop}{e e':Env}(hw:Weak e e')(h:kD ds b K N e'):kD ds b K N e:=λa w hs=>h a w (hs.weak hw)
theorem d_freeB:∀(ps:List (EntD×PX)) {F:World->Prop},dS ds b c Q N ⟨E,L,R,λw=>(∀p∈ps,(segB p).rd w)/\F w,M⟩->dS ds b c Q N ⟨E,L,KysB ps++R,F,M⟩
 | [],F,h=>λa w ⟨G,S,h1,h2,h3⟩=>h a w ⟨G,S,h1,h2,h3.imp (λ_ h _=>⟨λ_ h=>(by cases h),h⟩) λ_ h=>h⟩
 | p::ps,F,h=>λa w ⟨G,S,h1,h2,h3⟩=>by
  obtain⟨S',h4⟩:=h3.free (i:=0) rfl;refine d_freeB ps (F:=λw=>(segB p).rd w/\F w) (λa w ⟨G,S,h1,h2,h3⟩=>h a w ⟨G,S,h1,h2,?_⟩) a w ⟨G,S',h1,h2,h4⟩;refine h3.imp (λw h _=>⟨λq hq=>?_,h.2.2⟩) λ_ h=>h
  rcases aJ.1 hq with rfl|hq
  ·exact h.2.1
  ·exact h.1 q hq
end
structure BvS where
  j:Nat
  d:DirV
structure BvI(x:BtX)(s:BvS):Prop where
  j:s.j<=x.ps.length
  ok:s.d.Ok
  own:OwnerD s.d.l
  len:s.d.l.length<=(allB (x.ps.take s.j)).length
theorem builds12_S{A A2:Option Addr}{c c2:Nat}(acts:List AcV)(ep:Int)(ks:List (List UInt8)):Spec 5 [.slice A acts.length c,.int .i64 ep,.slice A2 ks.length c2] [] (λw=>Ta w/\Rd 5 eAc A c acts w/\Rd 32 (eY 32) A2 c2 ks w) (one (.v (.bool true))):=by
 refine spec_D [.c (.v (.slice A acts.length c)),.c (.v (.int .i64 ep)),.c (.v (.slice A2 ks.length c2))] 154 Tryz.func5 rfl (by rw [Tryz.ntmps5];rfl) (more_ok trivial (two_ok trivial trivial)) λb=>?_;refine d_pure (∀k∈ks,k.length=32) (λw h _ k hk=>eY_len (h.2.2.2.2.2.1 k hk).1) λhks=>?_;refine d_auto TY_ok rfl ?_;refine d_seq λK0 hK0=>?_;refine d_regA TY_ok rfl λK1 hK1=>?_;refine l_call0 [] rfl rfl rfl own_first12 rfl rfl (λ_ _=>rfl) first12_S (λ_ h _=>h.1) λ_=>?_;refine l_autoS TY_ok rfl ?_;refine d_end (hK1 _ ?_);refine d_no rfl ?_;refine d_skip (hK0 _ ?_);refine d_regA TY_ok rfl λK2 hK2=>?_;refine l_call0 [.slice A acts.length c] rfl rfl rfl own_batches12 rfl rfl (λ_ _=>rfl) (batches12_S acts) (λ_ h _=>⟨h.2.1,h.2.2.1⟩) λx=>?_;obtain⟨x,hx⟩:=x;refine l_autoS TY_ok rfl ?_;refine d_end (hK2 _ ?_);refine d_auto TY_ok rfl ?_;refine d_seq λK3 hK3=>?_;refine d_of_s ?_;refine s_auto TY_ok rfl ?_;refine s_block ?_
 let Es:BvS->SE:=λs=>[(30,.v (.int .i64 (s.j:Int))),(29,.v (.int .i64 (x.ps.length:Int))),(28,.v (.slice x.X.1 x.ps.length x.X.2)),(9,.a 9 0),(7,.v (.slice x.X.1 x.ps.length x.X.2)),(6,.a 6 0),(2,.v (.slice A2 ks.length c2)),(1,.v (.int .i64 ep))]
 let Ls:DirV->List LV:=λd=>[⟨9,none,33,d.parts⟩,⟨6,none,4,[.one (.v (.bool false))]⟩]
 let Ff:DirV->World->Prop:=λd w=>x.F w/\d.F w/\Ta w/\Rd 32 (eY 32) A2 c2 ks w
 let Fs:BvS->Env:=λs=>⟨Es s,Ls s.d,[],Ff s.d,λ_=>True⟩
 refine c_weak (e':=Fs ⟨0,zDirV⟩) ⟨⟨rfl,rfl,rfl,rfl,rfl,rfl,rfl,rfl,trivial⟩,⟨rfl,rfl,rfl,rfl,trivial⟩,.refl _,λw h _=>⟨h.1,zDirV_F w,h.2.2.1,h.2.2.2.2⟩,λ_ _=>trivial⟩ (s_loop (λs=>x.ps.length-s.j) Fs (BvI x) ?_ ⟨0,zDirV⟩ ⟨aQ _,zDirV_ok,λ_ h=>(by cases h),aQ _⟩)
 rintro⟨j,d⟩ ⟨hj,hd,hown,hlen⟩
 dsimp only at hj hd hown hlen
 have h12':=allB_le x.ps j;have htot:=hx.tot;refine s_auto TY_ok rfl ?_;refine s_seq λK5 hK5=>?_;refine s_ifD ((j:Int)<(x.ps.length:Int)) rfl (λhlt=>?_) (λhge=>?_)
 ·have hlt:j<x.ps.length:=by omega
  obtain⟨p,hp⟩:∃p,x.ps[j]?=some p:=⟨_,aP hlt⟩;obtain⟨hgood,h12⟩:=hx.batch hp;have hpm:=a6 hp;have hpu:∀u∈p.l,u.Ok:=λu hu=>(hgood u hu).1;refine s_skip (hK5 _ ?_);refine s_seq λK6 hK6=>?_;refine s_block ?_;refine s_auto TY_ok rfl ?_
  refine s_pure (∃g o,x.X.1=some ⟨g,o,none⟩) (λw h _=>by
   obtain⟨g,o,e,_⟩:=h.1.1.2.2.2.2 (by omega)
   exact⟨g,o,e⟩) λ⟨ga,oa,hXA⟩=>?_
  have hal:=applyD_len (p.l.map udH) d.l;rw [cH] at hal;have hdl1:=dapply_S (A:=p.A) (c:=p.c) hd (us:=p.l) hpu (by omega);refine s_locs λG=>?_;refine s_anyP [0,1,2,3,4] 6 1 (λw=>InvL (withG G (Ls d)) w/\x.F w) (by kernel_rfl) rfl (inv_two withG_is λw h _=>h.1) ?_;refine p_frontS TY_ok 0 (by kernel_rfl) rfl rfl rfl rfl rfl rfl (λ_ h=>h) (λ_ h=>h.1) ?_;refine p_frontS TY_ok 1 (by kernel_rfl) rfl rfl rfl rfl rfl rfl (λ_ h=>h) (λ_ h=>h.1) ?_;refine p_frontS TY_ok 2 (by kernel_rfl) rfl rfl rfl rfl rfl rfl (λ_ h=>h) (λ_ h=>h.1) ?_;refine p_frontO (.v (.pointer (some ⟨ga,oa+1*j,none⟩))) trivial 3 (by kernel_rfl) rfl rfl rfl rfl rfl (runO_ixS j rfl Tryz.underlying24 rfl (by rw [<-hXA];rfl) rfl hlt) ?_;refine p_frontW (.q (eUs p)) trivial 4 (by kernel_rfl) rfl rfl rfl rfl rfl (run_ldEl (k':=1) (c:=x.X.2) (j:=j) (off:=0) (g:=ga) (a:=oa) (fe:=eUs) (l:=x.ps) TY_ok rfl rfl hp rfl (eUs_ok p).1 λG S w h=>by rw [<-hXA];exact h.fact.2.1) ?_;refine p_step 5 (by kernel_rfl) rfl λKa hKa=>?_;refine l_call0 [(eDv d).den,.slice p.A p.l.length p.c] rfl rfl rfl own_dapply rfl rfl (λ_ _=>rfl) hdl1 (λw h _=>⟨h.2.2.1,h.2.1,(h.1.2.2 p hpm).1⟩) λd2=>?_;refine l_pure (d2.Ok/\d2.l=fE d.l (p.l.map udH)) (λ_ h _=>⟨h.1.2.1,h.1.2.2.2⟩) λ⟨hd2,hd2l⟩=>?_;refine s_end (hKa _ (inv_two withG_is λw h _=>h.2.1) ?_);refine p_tail [6] (by kernel_rfl) rfl ?_;refine l_autoS TY_ok rfl ?_;refine s_end (k_noloc ?_);rw [<-hd2l] at hal
  have hd2n:d2.l.length<=(allB (x.ps.take (j+1))).length:=by
   rw [allB_take hp,List.length_append]
   omega
  refine k_weak (e':=⟨Es ⟨j,d2⟩,Ls d2,[],Ff d2,λ_=>True⟩) ⟨⟨rfl,rfl,rfl,rfl,rfl,rfl,rfl,rfl,trivial⟩,⟨rfl,rfl,rfl,rfl,trivial⟩,.refl _,λ_ h _=>⟨h.2.1,h.1.1,h.2.2.2⟩,λ_ _=>trivial⟩ (hK6 _ ?_);refine s_autoE TY_ok rfl ?_;exact k_next ⟨j+1,d2⟩ ⟨hlt,hd2,by rw [hd2l];exact hown.apply hgood,hd2n⟩ (by show x.ps.length-(j+1)<x.ps.length-j;omega) ⟨⟨nextI j x.ps.length (cN hx.num (by decide)) hlt,rfl,rfl,rfl,rfl,rfl,rfl,rfl,trivial⟩,⟨rfl,rfl,rfl,rfl,trivial⟩,.refl _,λ_ h _=>h,λ_ h=>h⟩
 have hd12:d.l.length<=12:=by omega
 clear hlen h12' htot hge hj;refine s_exit (k_pass (k_pass (k_out (k_of_d (hK3 _ ?_)))));refine d_regA TY_ok rfl λK4 hK4=>?_;refine l_mkG TH ok32 rfl rfl rfl rfl λm=>?_;refine l_autoS TY_ok rfl ?_;refine d_end (hK4 _ ?_);refine d_seqD λK5 hK5=>?_;refine d_regA TY_ok rfl λK6 hK6=>?_;refine l_call0 [(eDv d).den] rfl rfl rfl own_dall rfl rfl (λ_ _=>rfl) (dall_S d) (λ_ _ _=>trivial) λgb=>?_;refine d_end (hK6 _ ?_);refine d_block ?_
 let E0:SE:=[(42,.v (.func (.func 43) #[] #[.pointer (some ⟨gb,0,none⟩)])),(11,.a 11 0),(9,.a 9 0),(6,.a 6 0),(2,.v (.slice A2 ks.length c2)),(1,.v (.int .i64 ep))]
 let L0:List LV:=[⟨11,none,28,[.one (.v (.map (some m)))]⟩,⟨9,none,33,d.parts⟩,⟨6,none,4,[.one (.v (.bool false))]⟩]
 let Rf:BuS->List Res:=λs=>MapG TH ok32 m s.n s.g::KysB s.ps
 let F0:World->Prop:=λw=>(ObjF gb 33 d.parts w/\d.F w)/\Ta w/\Rd 32 (eY 32) A2 c2 ks w
 refine d_weak (e':=⟨E0,L0,Rf ⟨[],0,λ_=>none⟩,F0,λ_=>True⟩) ⟨⟨rfl,rfl,rfl,rfl,rfl,rfl,trivial⟩,⟨rfl,rfl,rfl,rfl,rfl,rfl,trivial⟩,.refl _,λ_ h _=>⟨⟨h.1,h.2.2.1⟩,h.2.2.2⟩,λ_ _=>trivial⟩ ?_;refine d_rangeO (β:=PX) d.l (λe=>eY 32 e.1) (λe y=>.c (.v (.slice y.1 e.2.length y.2))) (λe y=>[KyS y.1 y.2 e.2]) (λ_=>L0) Rf (BuI d.l) (λ_ _=>False) ⟨[],0,λ_=>none⟩ (λw=>ObjF gb 33 d.parts w/\d.F w) (lb:=[.pointer (some ⟨gb,0,none⟩)]) rfl own_dall1 (λ_=>rfl) (λe he _=>⟨(eY_ok (hd.dir.ids e he)).1,trivial⟩) rfl rfl (λ_ h _=>h.1) (λy Fy JR JX hy=>dall1_S y gb Fy JR JX hd hy) BuI.zero ?_ ?_ (λ_ _ _ h=>h.elim)
 ·rintro G y D q ready busy b1 j s e z _ hI he K7 hK7
  have he32:=hd.dir.ids e (a6 he);refine r_auto rfl TY_ok rfl ?_;refine r_autoE rfl TY_ok rfl ?_;refine hK7 _ _ _ _ _ ?_;refine r_block ?_;refine r_lit rfl ?_;refine l_autoS TY_ok rfl ?_;refine l_updG TH_ok 3 rfl e.1 (segB (e,z)) he32 rfl rfl rfl rfl rfl rfl ?_;refine s_end ?_;exact k_rnd (Ix:=λ_ _=>False) ⟨(e,z)::s.ps,if (s.g e.1).isSome then s.n else s.n+1,putF s.g e.1 (segB (e,z))⟩ (hI.next hd.dir he z) ⟨trivial,⟨rfl,rfl,rfl,rfl,rfl,rfl,trivial⟩,.cons _ (.cons _ (.swap _ _ _)),λ_ _ _=>trivial,λ_ _=>trivial⟩
 rintro⟨ps,n,g⟩ D hI
 refine hK5 _ _ ?_;have hov:=over_tells (hI.tells hd.dir);have hn200:∀e∈d.l,e.1≠hB 200:=hown.not (.inl rfl);have hn201:∀e∈d.l,e.1≠hB 201:=hown.not (.inr rfl)
 have hps:∀p∈ps,p.1∈d.l:=λp hp=>by
  have:=hI.sub p hp
  rwa [gN] at this
 have hin:n<=12:=cN hI.n hd12
 have hiof:∀k v,g k=some v->∃p∈ps,v=segB p:=λk v hk=>by
  obtain⟨p,hp,_,h2⟩:=hI.of k v hk;exact⟨p,hp,h2⟩
 clear hI;obtain⟨g1,hg1⟩:∃g1,putF g (hB 200) nilH=g1:=⟨_,rfl⟩;obtain⟨n1,hn1⟩:∃n1,(if (g (hB 200)).isSome then n else n+1)=n1:=⟨_,rfl⟩
 have hn13:n1<=13:=by rw [<-hn1];split<;>omega
 have hov1:∀k,overK g1 [] k=bL d.l k:=λk=>by
  rw [<-hg1,over_put hov]
  split
  ·rename_i hk
   rw [hk,j7 hn200]
   rfl
  ·rfl
 have hof1:∀k v,g1 k=some v->v=nilH\/∃p∈ps,v=segB p:=λk v hk=>by
  rw [<-hg1] at hk
  unfold putF at hk
  split at hk
  ·exact .inl (bG hk).symm
  ·exact .inr (hiof k v hk)
 have h641:∀k v,g1 k=some v->v.l.length<=64:=λk v hk=>by
  rcases hof1 k v hk with rfl|⟨p,hp,rfl⟩
  ·exact aQ _
  ·exact hd.small _ (hps p hp)
 refine d_weak (e':=⟨E0,L0,KysB ps++[MapG TH ok32 m n g,DefR D],F0,λ_=>True⟩) ⟨⟨rfl,rfl,rfl,rfl,rfl,rfl,trivial⟩,⟨rfl,rfl,rfl,rfl,rfl,rfl,trivial⟩,(List.Perm.swap _ _ _).trans (mH (l₁:=[MapG TH ok32 m n g,DefR D]) (l₂:=KysB ps)),λ_ h _=>h,λ_ h=>h⟩ (d_freeB ps ?_);refine d_regA TY_ok rfl λK7 hK7=>?_;refine l_buildY [(0,.v (.int .u8 200))] 32 (hB 200) rfl rfl rfl rfl rfl rfl rfl ?_;refine l_autoS TY_ok rfl ?_;refine l_updG TH_ok 0 rfl (hB 200) nilH rfl rfl rfl rfl rfl rfl rfl ?_;rw [hg1,hn1];refine d_end (hK7 _ ?_)
 let F1:World->Prop:=λw=>d.F w/\Ta w/\Rd 32 (eY 32) A2 c2 ks w/\∀p∈ps,(segB p).rd w
 have hrd1:∀w,F1 w->∀k v,g1 k=some v->v.rd w:=λw h k v hk=>by
  rcases hof1 k v hk with rfl|⟨p,hp,rfl⟩
  ·exact Rd.nil _ _ _
  ·exact h.2.2.2 p hp
 let E1:SE:=[(11,.a 11 0),(9,.a 9 0),(6,.a 6 0),(2,.v (.slice A2 ks.length c2)),(1,.v (.int .i64 ep))]
 refine d_weak (e':=⟨E1,L0,[MapG TH ok32 m n1 g1,DefR D],F1,λ_=>True⟩) ⟨⟨rfl,rfl,rfl,rfl,rfl,trivial⟩,⟨rfl,rfl,rfl,rfl,rfl,rfl,trivial⟩,.refl _,λ_ h _=>⟨h.2.1.2,h.2.2.1,h.2.2.2,h.1⟩,λ_ h=>h⟩ ?_;clear hg1 hn1 hov hiof;refine d_regA TY_ok rfl λK8 hK8=>?_;refine l_callA (own:=[MapG TH ok32 m n1 g1]) (R':=[DefR D]) [.int .i64 ep,.map (some m)] rfl rfl rfl own_dbuild rfl rfl (λ_ _=>rfl) (dbuild_S ep m n1 g1 (by omega)) (λw h _=>⟨h.2.1,hrd1 w h⟩) λx1=>?_;refine l_autoS TY_ok rfl ?_
 cases x1 with
 | none =>
  refine l_pure (ep<0) (λ_ h _=>?_) λhneg=>?_
  ·rcases h.1 with h1|⟨k,v,hk,hv⟩
   ·exact h1
   ·exact absurd (h641 k v hk) (by omega)
  refine d_end (hK8 _ (d_weak (e':=⟨(15,.v (.int .i64 2))::(14,.a 14 0)::E1,⟨14,none,33,zDirV.parts⟩::L0,[DefR D,MapG TH ok32 m n1 g1],F1,λ_=>True⟩) ⟨⟨rfl,rfl,rfl,rfl,rfl,rfl,rfl,trivial⟩,⟨rfl,rfl,rfl,rfl,rfl,rfl,rfl,rfl,trivial⟩,.swap _ _ _,λ_ h _=>h.2,λ_ _=>trivial⟩ ?_));refine d_seq λK9 hK9=>?_;refine d_auto TY_ok rfl ?_;refine d_ifD (ep<0) rfl (λ_=>?_) (λh0=>absurd hneg h0);refine d_regA TY_ok rfl λK10 hK10=>?_;refine l_is 60 true rfl rfl ?_;refine l_autoS TY_ok rfl ?_;refine l_call0 [(eDv zDirV).den] rfl rfl rfl own_depoch rfl rfl (λ_ _=>rfl) (depoch_S zDirV) (λ_ _ _=>trivial) λ_=>?_;refine l_autoS TY_ok rfl ?_;refine d_end (hK10 _ ?_);exact d_ret (k_retM [D] (R:=[MapG TH ok32 m n1 g1]) (k_loseR 0 rfl (k_retD TY_ok () rfl (by decide) rfl (congrArg Value.bool (decide_eq_true rfl).symm) trivial rfl (λ_ _ _=>trivial) (λ_ _=>trivial))))
 | some x1 =>
  refine l_pure ((x1.Ok/\x1.ep=ep/\∀k,bL x1.l k=overK g1 [] k)/\0<=ep) (λ_ h _=>⟨⟨h.1.1.2.1,h.1.1.2.2.1,h.1.1.2.2.2⟩,h.1.2.1⟩) λ⟨⟨hx1,hx1e,hx1k⟩,hep⟩=>?_;have hx1l:x1.l=d.l:=DirOk.ext hx1.dir hd.dir λk=>(hx1k k).trans (hov1 k)
  let L1:List LV:=⟨14,none,33,x1.parts⟩::L0
  refine d_end (hK8 _ (d_weak (e':=⟨(15,.v (.int .i64 0))::(14,.a 14 0)::E1,L1,[MapG TH ok32 m n1 g1,DefR D],λw=>x1.F w/\F1 w,λ_=>True⟩) ⟨⟨rfl,rfl,rfl,rfl,rfl,rfl,rfl,trivial⟩,⟨rfl,rfl,rfl,rfl,rfl,rfl,rfl,rfl,trivial⟩,.refl _,λ_ h _=>⟨h.1.1.1,h.2⟩,λ_ _=>trivial⟩ ?_));refine d_seq λK9 hK9=>?_;refine d_auto TY_ok rfl ?_;refine d_ifD (ep<0) rfl (λh0=>absurd h0 (by omega)) (λ_=>?_);refine d_skip (hK9 _ ?_);refine d_seq λK10 hK10=>?_;have hxr:=droot_S hx1;have hdr:=droot_S hd
  have hr32:(eX 256 (pairsD d.l)).length=32:=by rw [<-hd.tree.root];exact d.t.root_len
  have hxt:x1.t.len=d.l.length:=by rw [hx1.tree.len,pairsD,cH,hx1l]
  have hdt:d.t.len=d.l.length:=by rw [hd.tree.len,pairsD,cH]
  rw [hx1l] at hxr;generalize eX 256 (pairsD d.l)=rt at *;refine d_regH 24 (by decide) (by kernel_rfl) (by kernel_rfl) λK11 hK11 G S w0 hst=>?_;refine h_auto TY_ok hst rfl ?_;refine h_is 67 false rfl rfl ?_;refine h_auto TY_ok hst rfl ?_;refine h_callS (F':=λ_=>True) (r:=.v (.int .i64 x1.ep)) hst [(eDv x1).den] rfl rfl rfl rfl own_depoch rfl rfl (λ_=>rfl) trivial (depoch_S x1) (λ_ _ _ _=>trivial) ?_;refine h_auto TY_ok hst rfl ?_;refine h_is 73 false rfl (by rw [hx1e];simp) ?_;refine h_auto TY_ok hst rfl ?_;refine h_callS (F':=x1.F) (r:=.q (eY 32 rt)) hst [(eDv x1).den] rfl rfl rfl rfl own_droot rfl rfl (λ_=>rfl) (eY_ok hr32).1 hxr (λ_ _ _ h=>h.fact.1) ?_;refine h_auto TY_ok hst rfl ?_;refine h_callS (F':=d.F) (r:=.q (eY 32 rt)) hst [(eDv d).den] rfl rfl rfl rfl own_droot rfl rfl (λ_=>rfl) (eY_ok hr32).1 hdr (λ_ _ _ h=>h.fact.2.1) ?_;refine h_auto TY_ok hst rfl ?_;refine h_op hst (.b (!decide (rt=rt))) trivial rfl rfl rfl rfl (run_neqY rfl rfl rfl Tryz.underlying45 (by kernel_rfl) hr32 hr32) ?_;refine h_is 78 false rfl (by simp) ?_;refine h_auto TY_ok hst rfl ?_;refine h_callS (F':=λ_=>True) (r:=.q (.p [.agg 2 #[x1.t.val,.int .u8 0]])) hst [(eDv x1).den] rfl rfl rfl rfl own_dtree rfl rfl (λ_=>rfl) (dtree_ok x1) (dtree_S x1) (λ_ _ _ _=>trivial) ?_;refine h_auto TY_ok hst rfl ?_;refine h_callS (F':=TF x1.t) (r:=.v (.int .i64 (x1.t.len:Int))) hst [(eTr x1.t 0).den] rfl rfl rfl rfl own_tLen rfl rfl (λ_=>rfl) trivial (tLen_S x1.t 0) (λ_ _ _ h=>h.fact.1.2.2) ?_;refine h_auto TY_ok hst rfl ?_;refine h_callS (F':=λ_=>True) (r:=.q (.p [.agg 2 #[d.t.val,.int .u8 0]])) hst [(eDv d).den] rfl rfl rfl rfl own_dtree rfl rfl (λ_=>rfl) (dtree_ok d) (dtree_S d) (λ_ _ _ _=>trivial) ?_;refine h_auto TY_ok hst rfl ?_;refine h_callS (F':=TF d.t) (r:=.v (.int .i64 (d.t.len:Int))) hst [(eTr d.t 0).den] rfl rfl rfl rfl own_tLen rfl rfl (λ_=>rfl) trivial (tLen_S d.t 0) (λ_ _ _ h=>h.fact.2.1.2.2) ?_;refine h_auto TY_ok hst rfl ?_;refine h_is 88 false rfl (by rw [hxt,hdt];simp) ?_;refine h_end hst ?_;refine d_end (hK11 _ ?_);refine d_no rfl ?_;refine d_skip (hK10 _ ?_);refine d_seqD λK12 hK12=>?_;refine d_regA TY_ok rfl λK13 hK13=>?_;refine l_call0 [(eDv d).den] rfl rfl rfl own_dall rfl rfl (λ_ _=>rfl) (dall_S d) (λ_ _ _=>trivial) λgb2=>?_;refine d_end (hK13 _ ?_);refine d_block ?_
  let E2:SE:=[(90,.v (.func (.func 43) #[] #[.pointer (some ⟨gb2,0,none⟩)])),(11,.a 11 0),(9,.a 9 0),(6,.a 6 0),(2,.v (.slice A2 ks.length c2)),(1,.v (.int .i64 ep)),(14,.a 14 0)]
  let F2:World->Prop:=λw=>(ObjF gb2 33 d.parts w/\d.F w)/\x1.F w/\F1 w
  refine d_weak (e':=⟨E2,L1,[MapG TH ok32 m n1 g1,DefR D],F2,λ_=>True⟩) ⟨⟨rfl,rfl,rfl,rfl,rfl,rfl,rfl,trivial⟩,⟨rfl,rfl,rfl,rfl,rfl,rfl,rfl,rfl,trivial⟩,.refl _,λ_ h _=>⟨⟨h.1,h.2.2.1⟩,h.2⟩,λ_ _=>trivial⟩ ?_;refine d_rangeO (β:=PX) d.l (λe=>eY 32 e.1) (λe y=>.c (.v (.slice y.1 e.2.length y.2))) (λe y=>[KyS y.1 y.2 e.2]) (λ_=>L1) (λ_=>[MapG TH ok32 m n1 g1,DefR D]) (λ_ (_:Unit)=>True) (λ_ _=>False) () (λw=>ObjF gb2 33 d.parts w/\d.F w) (lb:=[.pointer (some ⟨gb2,0,none⟩)]) rfl own_dall1 (λ_=>rfl) (λe he _=>⟨(eY_ok (hd.dir.ids e he)).1,trivial⟩) rfl rfl (λ_ h _=>h.1) (λy Fy JR JX hy=>dall1_S y gb2 Fy JR JX hd hy) trivial ?_ ?_ (λ_ _ _ h=>h.elim)
  ·rintro G y D2 q ready busy b1 j s e z _ _ he K14 hK14
   have he32:=hd.dir.ids e (a6 he);have hke:=dkeys_S hx1 he32;rw [hx1l,keysD_at hd.dir he] at hke;refine r_auto rfl TY_ok rfl ?_;refine r_autoE rfl TY_ok rfl ?_;refine hK14 _ _ _ _ _ ?_;refine r_block ?_;refine r_regA rfl TY_ok rfl λK15 hK15=>?_;refine l_call0 [(eDv x1).den,(eY 32 e.1).den] rfl rfl rfl own_dkeys rfl rfl (λ_ _=>rfl) hke (λ_ h _=>h.1.2.1) λz2=>?_;refine l_free 0 rfl (l_free 2 rfl ?_);refine l_autoS TY_ok rfl ?_;refine l_call0 [.slice z2.1 e.2.length z2.2,.slice z.1 e.2.length z.2] rfl rfl rfl own_rsame11 rfl rfl (λ_ _=>rfl) (rsame11_S e.2) (λ_ h _=>⟨h.2.1,h.1⟩) λ_=>?_;refine l_autoS TY_ok rfl ?_;refine s_end (hK15 _ ?_);refine r_no rfl ?_;refine r_skip ?_;exact k_rnd (Ix:=λ_ _=>False) () trivial ⟨trivial,⟨rfl,rfl,rfl,rfl,rfl,rfl,rfl,rfl,trivial⟩,.refl _,λ_ _ _=>trivial,λ_ _=>trivial⟩
  rintro _ D2 _
  refine hK12 _ _ ?_;refine d_weak (e':=⟨(14,.a 14 0)::E1,L1,[MapG TH ok32 m n1 g1,DefR D2,DefR D],λw=>x1.F w/\F1 w,λ_=>True⟩) ⟨⟨rfl,rfl,rfl,rfl,rfl,rfl,trivial⟩,⟨rfl,rfl,rfl,rfl,rfl,rfl,rfl,rfl,trivial⟩,.swap _ _ _,λ_ h _=>h.2,λ_ _=>trivial⟩ ?_;clear hxr hxt
  let v2:HSeg:=⟨A2,c2,ks⟩
  obtain⟨g2,hg2⟩:∃g2,putF g1 (hB 201) v2=g2:=⟨_,rfl⟩;obtain⟨n2,hn2⟩:∃n2,(if (g1 (hB 201)).isSome then n1 else n1+1)=n2:=⟨_,rfl⟩
  have hn14:n2<=14:=by rw [<-hn2];split<;>omega
  have hov2:∀k,overK g2 [] k=if k=hB 201 then ks else bL d.l k:=λk=>by
   rw [<-hg2,over_put hov1]
  have hof2:∀k v,g2 k=some v->v=v2\/g1 k=some v:=λk v hk=>by
   rw [<-hg2] at hk
   unfold putF at hk
   split at hk
   ·exact .inl (bG hk).symm
   ·exact .inr hk
  have hput2:g2 (hB 201)=some v2:=by
   rw [<-hg2]
   unfold putF
   exact if_pos rfl
  have hrd2:∀w,F1 w->∀k v,g2 k=some v->v.rd w:=λw h k v hk=>by
   rcases hof2 k v hk with rfl|hk
   ·exact h.2.2.1
   ·exact hrd1 w h k v hk
  refine d_regA TY_ok rfl λK16 hK16=>?_;refine l_buildY [(0,.v (.int .u8 201))] 32 (hB 201) rfl rfl rfl rfl rfl rfl rfl ?_;refine l_autoS TY_ok rfl ?_;refine l_updG TH_ok 0 rfl (hB 201) v2 rfl rfl rfl rfl rfl rfl rfl ?_;rw [hg2,hn2];refine d_end (hK16 _ ?_);refine d_weak (e':=⟨(14,.a 14 0)::E1,L1,[MapG TH ok32 m n2 g2,DefR D2,DefR D],λw=>x1.F w/\F1 w,λ_=>True⟩) ⟨⟨rfl,rfl,rfl,rfl,rfl,rfl,trivial⟩,⟨rfl,rfl,rfl,rfl,rfl,rfl,rfl,rfl,trivial⟩,.refl _,λ_ h _=>h,λ_ _=>trivial⟩ ?_;clear hg2 hn2;refine d_regA TY_ok rfl λK17 hK17=>?_;refine l_callA (own:=[MapG TH ok32 m n2 g2]) (R':=[DefR D2,DefR D]) [.int .i64 ep,.map (some m)] rfl rfl rfl own_dbuild rfl rfl (λ_ _=>rfl) (dbuild_S ep m n2 g2 (by omega)) (λw h _=>⟨h.2.2.1,hrd2 w h.2⟩) λx2=>?_;refine l_autoS TY_ok rfl ?_
  cases x2 with
  | none =>
   refine l_pure (64<ks.length) (λ_ h _=>?_) λhgt=>?_
   ·rcases h.1 with h1|⟨k,v,hk,hv⟩
    ·omega
    ·rcases hof2 k v hk with rfl|hk
     ·exact hv
     ·exact absurd (h641 k v hk) (by omega)
   refine d_end (hK17 _ (d_weak (e':=⟨(19,.v (.int .i64 2))::(18,.a 18 0)::E1,⟨18,none,33,zDirV.parts⟩::L1,[DefR D2,DefR D,MapG TH ok32 m n2 g2],F1,λ_=>True⟩) ⟨⟨rfl,rfl,rfl,rfl,rfl,rfl,rfl,trivial⟩,⟨rfl,rfl,rfl,rfl,rfl,rfl,rfl,rfl,rfl,rfl,trivial⟩,mH (l₁:=[MapG TH ok32 m n2 g2]) (l₂:=[DefR D2,DefR D]),λ_ h _=>h.2.2,λ_ _=>trivial⟩ ?_));refine d_seq λK18 hK18=>?_;refine d_auto TY_ok rfl ?_;refine d_ifD ((ks.length:Int)>64) rfl (λ_=>?_) (λh0=>absurd (by omega) h0);refine d_regA TY_ok rfl λK19 hK19=>?_;refine l_is 113 true rfl rfl ?_;refine l_autoS TY_ok rfl ?_;refine l_call0 [(eDv zDirV).den] rfl rfl rfl own_depoch rfl rfl (λ_ _=>rfl) (depoch_S zDirV) (λ_ _ _=>trivial) λ_=>?_;refine l_autoS TY_ok rfl ?_;refine d_end (hK19 _ ?_);exact d_ret (k_retM [D2,D] (R:=[MapG TH ok32 m n2 g2]) (k_loseR 0 rfl (k_retD TY_ok () rfl (by decide) rfl (congrArg Value.bool (decide_eq_true rfl).symm) trivial rfl (λ_ _ _=>trivial) (λ_ _=>trivial))))
  | some x2 =>
   refine l_pure ((x2.Ok/\x2.ep=ep/\∀k,bL x2.l k=overK g2 [] k)/\ks.length<=64) (λ_ h _=>⟨⟨h.1.1.2.1,h.1.1.2.2.1,h.1.1.2.2.2⟩,h.1.2.2 (hB 201) v2 hput2⟩) λ⟨⟨hx2,hx2e,hx2k⟩,hk64⟩=>?_
   have hx2c:bL x2.l (hB 201)=ks:=by rw [hx2k,hov2,if_pos rfl]
   have hx20:ks=[]->x2.l=d.l:=λh0=>DirOk.ext hx2.dir hd.dir λk=>by
    rw [hx2k,hov2]
    split
    ·rename_i hk
     rw [hk,j7 hn201,h0]
    ·rfl
   have hx21:ks≠[]->x2.l.length=d.l.length+1:=λh0=>by
    rw [DirOk.ext hx2.dir (hd.dir.put (id:=hB 201) (ks:=ks) rfl h0 hks) λk=>by rw [hx2k,hov2,iY]];exact putD_new hn201
   have hx2t:x2.t.len=x2.l.length:=by rw [hx2.tree.len,pairsD,cH]
   have hke:=(dkeys_S hx2 (k:=hB 201) rfl).tell;rw [hx2c] at hke
   let L2:List LV:=⟨18,none,33,x2.parts⟩::⟨9,none,33,d.parts⟩::[⟨6,none,4,[.one (.v (.bool false))]⟩]
   let E3:SE:=[(19,.v (.int .i64 0)),(18,.a 18 0),(9,.a 9 0),(6,.a 6 0),(2,.v (.slice A2 ks.length c2))]
   let F3:World->Prop:=λw=>x2.F w/\d.F w/\Rd 32 (eY 32) A2 c2 ks w
   refine d_end (hK17 _ (d_weak (e':=⟨E3,L2,[DefR D2,DefR D,MapG TH ok32 m n2 g2],F3,λ_=>True⟩) ⟨⟨rfl,rfl,rfl,rfl,rfl,trivial⟩,⟨rfl,rfl,rfl,rfl,rfl,rfl,trivial⟩,mH (l₁:=[MapG TH ok32 m n2 g2]) (l₂:=[DefR D2,DefR D]),λ_ h _=>⟨h.1.1.1,h.2.2.1,h.2.2.2.2.1⟩,λ_ _=>trivial⟩ ?_));refine d_seq λK18 hK18=>?_;refine d_auto TY_ok rfl ?_;refine d_ifD ((ks.length:Int)>64) rfl (λh0=>absurd h0 (by omega)) (λ_=>?_);refine d_skip (hK18 _ ?_);refine d_regA TY_ok rfl λK19 hK19=>?_;refine l_call0 [(eDv d).den] rfl rfl rfl own_dtree rfl rfl (λ_ _=>rfl) (dtree_S d) (λ_ _ _=>trivial) λ_=>?_;refine l_call0 [(eTr d.t 0).den] rfl rfl rfl own_tLen rfl rfl (λ_ _=>rfl) (tLen_S d.t 0) (λ_ h _=>h.2.2.1.2.2) λ_=>?_;refine l_autoS TY_ok rfl ?_;refine d_end (hK19 _ ?_);refine d_seq λK20 hK20=>?_
   have hfin:∀v:Int,v=(x2.l.length:Int)->∀e',Weak e' ⟨(20,.v (.int .i64 v))::E3,L2,[DefR D2,DefR D,MapG TH ok32 m n2 g2],F3,λ_=>True⟩->kD [dD D2,dD D] b K20 154 e':=by
    intro v hv e' hw
    refine kD_weak hw (hK20 _ ?_);subst hv;have hxr:=droot_S hx2;refine d_regH 28 (by decide) (by kernel_rfl) (by kernel_rfl) λK21 hK21 G S w0 hst=>?_;refine h_auto TY_ok hst rfl ?_;refine h_is 128 true rfl rfl ?_;refine h_auto TY_ok hst rfl ?_;refine h_buildY [(0,.v (.int .u8 201))] 32 (hB 201) hst rfl rfl rfl rfl rfl rfl rfl rfl ?_;refine h_auto TY_ok hst rfl ?_;refine h_callE (F':=x2.F) hst [(eDv x2).den,(eY 32 (hB 201)).den] rfl rfl rfl rfl own_dkeys rfl rfl (λ_=>rfl) hke (λw hv _=>hv.fact.1) λz _=>?_;refine h_auto TY_ok hst rfl ?_;refine h_callE (F':=λw=>Rd 32 (eY 32) z.1 z.2 ks w/\Rd 32 (eY 32) A2 c2 ks w) (post:=one (.v (.bool true))) hst [.slice z.1 ks.length z.2,.slice A2 ks.length c2] rfl rfl rfl rfl own_rsame11 rfl rfl (λ_=>rfl) (rsame11_S ks) (λw hv hu=>⟨told_rd (hu 5 _ rfl (by kernel_rfl)),hv.fact.2.2⟩) λ_ _=>?_;refine h_auto TY_ok hst rfl ?_;refine h_callS (F':=λ_=>True) (r:=.q (.p [.agg 2 #[x2.t.val,.int .u8 0]])) hst [(eDv x2).den] rfl rfl rfl rfl own_dtree rfl rfl (λ_=>rfl) (dtree_ok x2) (dtree_S x2) (λ_ _ _ _=>trivial) ?_;refine h_auto TY_ok hst rfl ?_;refine h_callS (F':=TF x2.t) (r:=.v (.int .i64 (x2.t.len:Int))) hst [(eTr x2.t 0).den] rfl rfl rfl rfl own_tLen rfl rfl (λ_=>rfl) trivial (tLen_S x2.t 0) (λ_ _ _ h=>h.fact.1.2.2) ?_;refine h_auto TY_ok hst rfl ?_;refine h_is 142 true rfl (by rw [hx2t];simp) ?_;refine h_auto TY_ok hst rfl ?_
    by_cases h0:ks=[]
    ·have hxl:=hx20 h0
     rw [hxl] at hxr;have hdr:=droot_S hd
     have hr32:(eX 256 (pairsD d.l)).length=32:=by rw [<-hd.tree.root];exact d.t.root_len
     generalize eX 256 (pairsD d.l)=rt at *;refine h_is 146 false rfl (by rw [h0];rfl) ?_;refine h_auto TY_ok hst rfl ?_;refine h_callS (F':=x2.F) (r:=.q (eY 32 rt)) hst [(eDv x2).den] rfl rfl rfl rfl own_droot rfl rfl (λ_=>rfl) (eY_ok hr32).1 hxr (λ_ _ _ h=>h.fact.1) ?_;refine h_auto TY_ok hst rfl ?_;refine h_callS (F':=d.F) (r:=.q (eY 32 rt)) hst [(eDv d).den] rfl rfl rfl rfl own_droot rfl rfl (λ_=>rfl) (eY_ok hr32).1 hdr (λ_ _ _ h=>h.fact.2.1) ?_;refine h_auto TY_ok hst rfl ?_;refine h_op hst (.b (decide (rt=rt))) trivial rfl rfl rfl rfl (run_eqY rfl rfl rfl Tryz.underlying45 (by kernel_rfl) hr32 hr32) ?_;refine h_is 151 true rfl (by simp) ?_;refine h_auto TY_ok hst rfl ?_;refine h_end hst ?_;refine l_autoS TY_ok rfl ?_;refine d_end (hK21 _ ?_);exact d_ret (k_retM [D2,D] (R:=[MapG TH ok32 m n2 g2]) (k_loseR 0 rfl (k_ret TY_ok () rfl (by decide) rfl rfl rfl (λ_ _ _=>trivial) (λ_ _=>trivial))))
    ·have hpos:0<ks.length:=List.length_pos_iff.2 h0
     refine h_is 146 true rfl (by simpa using hpos) ?_;refine h_auto TY_ok hst rfl ?_;refine h_end hst ?_;refine l_autoS TY_ok rfl ?_;refine d_end (hK21 _ ?_);exact d_ret (k_retM [D2,D] (R:=[MapG TH ok32 m n2 g2]) (k_loseR 0 rfl (k_ret TY_ok () rfl (by decide) rfl rfl rfl (λ_ _ _=>trivial) (λ_ _=>trivial))))
   refine d_auto TY_ok rfl ?_;refine d_ifD ((ks.length:Int)>0) rfl (λh0=>?_) (λh0=>?_)
   ·have h1:=hx21 (λe=>by rw [e] at h0;exact absurd h0 (by decide))
    refine d_lit (l_autoS TY_ok rfl (s_end ?_));exact hfin _ (by rw [hdt,h1];exact wrapI (by omega) (by omega) (by omega)) _ ⟨⟨rfl,rfl,rfl,rfl,rfl,rfl,trivial⟩,⟨rfl,rfl,rfl,rfl,rfl,rfl,trivial⟩,.refl _,λ_ h _=>h.2.2,λ_ _=>trivial⟩
   ·have h1:=hx20 (List.eq_nil_of_length_eq_zero (by omega))
    exact d_skip (hfin _ (by rw [hdt,h1]) _ ⟨⟨rfl,rfl,rfl,rfl,rfl,rfl,trivial⟩,⟨rfl,rfl,rfl,rfl,rfl,rfl,trivial⟩,.refl _,λ_ h _=>h.2.2,λ_ _=>trivial⟩)
end Go.Proofs.YtlhlkofpjhpaoaaGreatDoor
namespace Go.Proofs.YtlhlkofpjhpaoaaGreatDoor
open Go.ChangeShapes Go.WideShapes Go.ChangeAt Go.RowKit
theorem own:ownKnob Tryz.prog.godebug=none:=by kernel_rfl
theorem laidOut:laidOutB Tryz.prog=true:=by kernel_rfl
section
variable{H:Type}{enc:TypeId×Value->H}{W W':World}
theorem trodAll_below:∀{ts:List TypeId} {vs:List Value} {ds:List (DataW H)} {p:List MemPlace},(∀t∈ts,Tryz.prog.readableRec t=true/\t<Tryz.prog.types.size) ->
  DataW.TrodAll enc Tryz.prog W 0 (λ_=>true) true ts vs ds p->Below W.heap.size W W'->(∀x∈p,x.block<W.heap.size)->DataW.TrodAll enc Tryz.prog W' 0 (λb=>decide (b<W.heap.size)) true ts vs ds p
 | [],_,_,_,_,h,_,_=>by
  obtain⟨rfl,rfl,rfl⟩:=trodAll_nil h;exact trodAll_mk0
 | t::ts,_,_,_,hts,h,hb,hlt=>by
  obtain⟨v,vs',d,ds',p,q,rfl,rfl,rfl,h0,h1⟩:=trodAll_cons h;obtain⟨hr,hz⟩:=hts t (by simp);exact trodAll_cons_mk (Below.trod laidOut hr hz h0 hb (λx hx=>hlt x (by simp [hx]))) (trodAll_below (λu hu=>hts u (by simp [hu])) h1 hb (λx hx=>hlt x (by simp [hx])))
theorem law_post{f:Func}{s:ChangeSpec}{args:Array Value}{ds gs:List (DataW H)}{before:List MemPlace}(hf:f.resultTypes = #[4])(hvars:s.vars=[])
 (hts:∀t∈f.params.toList,Tryz.prog.readableRec t=true/\t<Tryz.prog.types.size)
 (hW:DataW.Whole enc Tryz.prog f.params.toList s.vars false W args.toList ds gs before)(hs:s.fn H (ds++gs)={ results:=[.lit (.bool true)],args:=ds })(hb:Below W.heap.size W W') :
  s.post enc Tryz.prog f false true false false W args (.bool true) W':=by
 have hW':=hW;obtain⟨p,q,hA,hV,rfl,_,_⟩:=hW;rw [hvars] at hV;obtain⟨rfl,rfl⟩:=trodVars_none hV;have hlt:∀x∈p,x.block<W.heap.size:=λx hx=>hW'.lt x (by simp [hx]);refine⟨ds,[],p++[],[],p,[],hW',?_,?_,?_,hb.frame _,λh=>by cases h⟩
 ·rw [hs,hf]
  exact trodAll_mk1 (shut_bool Tryz.underlying4 true)
 ·rw [hs]
  exact trodAll_below hts hA hb hlt
 ·rw [hs,hvars]
  rfl
end
theorem cells8:Tryz.prog.cellsOf 5 = 1:=by kernel_rfl
theorem cells_h:Tryz.prog.cellsOf 45 = 32:=by kernel_rfl
theorem one_of{l:List Value}{i:Nat}{v:Value}(h:(l.drop (i*1)).take 1=[v]):l[i]?=some v:=by
 rw [Nat.mul_one] at h
 have h1:((l.drop i).take 1)[0]?=some v:=by rw [h];rfl
 rw [List.getElem?_take,if_pos (by omega),List.getElem?_drop] at h1
 simpa using h1
theorem by_of{cs:List Value}(hl:cs.length=32)(h:∀i,i<32->∃n:Int,cs[i]?=some (.int .u8 n)/\0<=n/\n<256):∃l:List UInt8,l.length=32/\cs=By l:=by
 refine⟨cs.map λv=>match v with | .int _ n=>bD n.toNat|_=>0,by simp [hl],?_⟩
 apply List.ext_getElem (by simp [By])
 intro i h1 h2
 obtain⟨n,hn,h0,h3⟩:=h i (by omega)
 have e:cs[i] = .int .u8 n:=by
  have:=aP h1;rw [hn] at this;exact(bG this).symm
 simp only [By,List.getElem_map,e]
 congr 1
 rw [UInt8.toNat_ofNat']
 omega
end Go.Proofs.YtlhlkofpjhpaoaaGreatDoor
namespace Go.Proofs.YtlhlkofpjhpaoaaGreatDoor
open Go.RowKit Go.IntWalk
open Go.ChangeShapes Go.WideShapes Go.ChangeAt
theorem hash_cells{H:Type}{enc:TypeId×Value->H}{W:World}{held:Bool}{fuel:Nat}{cs:List Value}{x:DataW H×List MemPlace}(h:fG enc Tryz.prog W 0 (λ_=>true) held fuel 45 cs=some x) :
  ∃l:List UInt8,l.length=32/\cs=By l:=by
 obtain⟨xs,m,rfl,_,hlen,hn,hel⟩:=DataW.trod_array Tryz.underlying45 h;rw [cells_h] at hlen
 exact by_of hlen (λi hi=>by
  have h0:=hel i hi;rw [cells8] at h0;obtain⟨x,hx⟩:∃x,xs[i]?=some x:=⟨xs[i]'(by omega),aP (by omega)⟩;rw [hx] at h0;obtain⟨n,e1,_,hw⟩:=j1 Tryz.underlying5 h0;have hb:=bounds_u8 hw
  exact⟨n,one_of e1,by omega,by omega⟩)
theorem pick_list{α:Type}(P:Nat->α->Prop):∀n,(∀i,i<n->∃l,P i l)->∃ks:List α,ks.length=n/\∀i l,ks[i]?=some l->P i l
 | 0,_=>⟨[],rfl,λi l h=>by simp at h⟩
 | n+1,h=>by
  obtain⟨ks,hl,hk⟩:=pick_list P n λi hi=>h i (by omega);obtain⟨l,hp⟩:=h n (by omega);refine⟨ks++[l],by simp [hl],λi x hx=>?_⟩
  by_cases hi:i<ks.length
  ·rw [List.getElem?_append_left hi] at hx
   exact hk i x hx
  ·rw [List.getElem?_append_right (by omega)] at hx
   have h0:i-ks.length=0:=by
    by_cases e:i-ks.length=0
    ·exact e
    ·rw [List.getElem?_eq_none (by simp;omega)] at hx
     cases hx
   rw [h0] at hx
   obtain rfl:l=x:=by simpa using hx
   obtain rfl:i=n:=by omega
   exact hp
theorem open_rd{α H:Type}{enc:TypeId×Value->H}{W:World}{held:Bool}{fuel:Nat}{t e:TypeId}{k:Nat}{fe:α->SQ}{cs:List Value}{x:DataW H×List MemPlace}(ht:Tryz.prog.underlying t=some (.slice e))(hk:Tryz.prog.cellsOf e=k)(hk0:0<k)
 (hel:∀n cs x,fG enc Tryz.prog W 0 (λ_=>true) held n e cs=some x->∃a:α,cs=(fe a).cl/\OkP (fe a).parts1/\(fe a).cl.length=k)
 (h:fG enc Tryz.prog W 0 (λ_=>true) held fuel t cs=some x) :
  ∃(A:Option Addr) (l:List α) (c:Nat),cs=[.slice A l.length c]/\Rd k fe A c l W:=by
 rcases DataW.trod_slice ht h with⟨rfl,_⟩|⟨a,len,cap,elems,rest,n,rfl,rfl,rfl,_,hl,hm,hlen,hel2,_⟩
 ·exact⟨none,[],0,rfl,Rd.nil _ _ _⟩
 ·rw [hk] at hel2
  obtain⟨ks,hk1,hk2⟩:=pick_list (λi (y:α)=>(OkP (fe y).parts1/\(fe y).cl.length=k)/\W.cells? 0 (a.add (i*k)) k=some (fe y).cl) len λi hi=>by
   have h0:=hel2 i hi;rw [aP (by omega)] at h0
   cases hc:W.cells? 0 (a.add (i*k)) k with
   | none=>rw [hc] at h0;cases h0
   | some cs =>
    rw [hc] at h0;obtain⟨y,rfl,h1⟩:=hel _ _ _ h0;exact⟨y,h1,rfl⟩
  subst hk1;refine⟨some a,ks,cap,rfl,hl,(by unfold maxLen at hm;omega),λe=>(by cases e),λy hy=>?_,λhpos=>?_⟩
  ·obtain⟨i,hi,rfl⟩:=fJ hy
   exact(hk2 i _ (aP hi)).1
  have hcell:∀i y,ks[i]?=some y->∀j v,(fe y).cl[j]?=some v->W.cell? (a.add (i*k+j))=some v:=λi y hi j v hj=>by
   obtain⟨⟨_,hkl⟩,hc⟩:=hk2 i y hi;obtain⟨_,_,h3⟩:=World.cells?_some hc
   have hjk:j<k:=by
    have:=(bC.1 hj).1
    omega
   have:=h3 j hjk;rw [Addr.add_add,hj] at this;exact this
  have h00:=hk2 0 _ (aP hpos);have hb:=World.cells?_block h00.2 hk0;rw [Nat.zero_mul] at hb;obtain⟨b,o,sp⟩:=a
  have hsp0:sp=none:=by
   obtain⟨v,hv⟩:∃v,(fe ks[0]).cl[0]?=some v:=⟨_,aP (by rw [h00.1.2];exact hk0)⟩;have:=hcell 0 _ (aP hpos) 0 v hv;rw [Nat.zero_mul,show(⟨b,o,sp⟩:Addr).add (0+0)=⟨b,o,sp⟩ from rfl,World.cell?] at this
   cases sp with
   | none=>rfl
   | some s =>
    exfalso
    dsimp only at this
    split at this
    ·simp at this
    ·cases this
  subst hsp0;refine⟨b,o,rfl,hb,λi y hi j v hj=>?_⟩;have:=hcell i y hi j v hj;rw [Addr.add_mid] at this
  rwa [Nat.add_assoc,Nat.mul_comm k i]
theorem hash_cellsT{H:Type}{enc:TypeId×Value->H}{W:World}{held:Bool}(n:Nat)(cs:List Value)(x:DataW H×List MemPlace)(h:fG enc Tryz.prog W 0 (λ_=>true) held n 45 cs=some x) :
  ∃l:List UInt8,cs=(eY 32 l).cl/\OkP (eY 32 l).parts1/\(eY 32 l).cl.length=32:=by
 obtain⟨l,hl,rfl⟩:=hash_cells h;exact⟨l,rfl,eY_ok hl⟩
end Go.Proofs.YtlhlkofpjhpaoaaGreatDoor
namespace Go.Proofs.YtlhlkofpjhpaoaaGreatDoor
open Go.RowKit Go.IntWalk
open Go.ChangeShapes Go.WideShapes Go.ChangeAt
end Go.Proofs.YtlhlkofpjhpaoaaGreatDoor
namespace Go.Proofs.YtlhlkofpjhpaoaaGreatDoor
open Go.ChangeShapes Go.WideShapes Go.ChangeAt Go.RowKit
theorem cells64:Tryz.prog.cellsOf 123 = 1:=by kernel_rfl
theorem table_cells{W:World}{nm:String}{g g0 t0 tid n fuel:Nat}{l:List Nat}{datum:DataW Unit}{cs:List Value}{p:List MemPlace}(hg:Tryz.prog.globalNamed nm=some g)(ht:(Tryz.prog.globals[g]?).map (·.type)=some tid)(hu:Tryz.prog.underlying tid=some (.array n 123))
 (hd:datum = .agg (l.map λ(x:Nat)=>.lit (.int .u64 (x:Int))))(hg0:Tryz.prog.globalNamed nm=some g0)(ht0:(Tryz.prog.globals[g0]?).map (·.type)=some t0)(hv0:W.var? Tryz.prog nm=some cs.toArray)(hd0:fG (λ_=>()) Tryz.prog W 0 (λ_=>true) false fuel t0 cs=some (datum,p)) :
  ∀i,i<n->W.cell? ⟨g,i,none⟩=some (.int .u64 (l[i]! : Nat)):=by
 obtain rfl:=bG (hg.symm.trans hg0);obtain rfl:=bG (ht.symm.trans ht0);obtain⟨xs,m1,rfl,hx1,hlen,hn5,hel⟩:=DataW.trod_array hu hd0;have hx2:=congrArg Prod.fst hx1;rw [hd] at hx2
 injection hx2 with hx2
 intro i hi
 have h0:=hel i hi;rw [cells64] at h0;obtain⟨x,hxi⟩:∃x,xs[i]?=some x:=⟨xs[i]'(by omega),aP (by omega)⟩;rw [hxi] at h0;obtain⟨n',e1,e2,_⟩:=j1 Tryz.underlying123 h0
 have hll:l.length=n:=by
  have:=congrArg List.length hx2;simp only [cH] at this
  omega
 have h3:(l.map λ(x:Nat)=>(DataW.lit (.int .u64 (x:Int)):DataW Unit))[i]?=(xs.map (·.1))[i]?:=by rw [hx2]
 rw [nR,nR,hxi,aP (by omega)] at h3;simp only [Option.map_some,aT] at h3;rw [e2] at h3
 have hn:n'=((l[i]! : Nat):Int):=by
  rw [getElem!_pos l i (by omega)]
  injection h3 with h3
  injection h3 with _ h3
  exact h3.symm
 subst hn;have hcell:=World.var?_cell hg hv0 i;rw [hcell];have:=one_of e1
 simpa using this
end Go.Proofs.YtlhlkofpjhpaoaaGreatDoor
namespace Go.Proofs.YtlhlkofpjhpaoaaGreatDoor
open Go.ChangeShapes Go.WideShapes Go.ChangeAt Go.RowKit Nums
def laid3:List (String×DataW Unit):=[("witan/field.twice",Rows.laid_witan_field_twice),("witan/sha.starts",Rows.laid_witan_sha_starts),("witan/sha.steps",Rows.laid_witan_sha_steps)]
theorem door_met(os:Os)(args:Array Value):laidMetH Tryz.prog laid3 ((World.doorLaid Tryz.prog 400 os).forCall (λ_ _=>0) ⟨#[],args,[]⟩).memory :=
 laidMetH_of_parts3 (fuel:=8) (laidMet_of_run' 8 (by kernel_rfl) (by kernel_rfl)) (by kernel_rfl) (by kernel_rfl)
theorem of_laid{W:World}(h:laidMetH Tryz.prog laid3 W):Ta W:=by
 rw [MakeChecks.laidMetH_plain _ _ _ (by kernel_rfl)] at h;obtain⟨ps,⟨g0,t0,cs0,f0,p0,q0,hg0,ht0,hv0,hd0,⟨g1,t1,cs1,f1,p1,q1,hg1,ht1,hv1,hd1,⟨g2,t2,cs2,f2,p2,q2,hg2,ht2,hv2,hd2,_,_⟩,_⟩,_⟩,_,_⟩:=h;have c0:=table_cells (l:=twl) (n:=5) (g:=3) (tid:=191) (by kernel_rfl) (by kernel_rfl) Tryz.underlying191 (by kernel_rfl) hg0 ht0 hv0 hd0;have c1:=table_cells (l:=sqs) (n:=8) (g:=0) (tid:=217) (by kernel_rfl) (by kernel_rfl) Tryz.underlying217 (by kernel_rfl) hg1 ht1 hv1 hd1;have c2:=table_cells (l:=cbs) (n:=80) (g:=1) (tid:=222) (by kernel_rfl) (by kernel_rfl) Tryz.underlying222 (by kernel_rfl) hg2 ht2 hv2 hd2;exact⟨⟨c0,k8 W ⟨3,0,none⟩ (c0 0 (by omega))⟩,⟨⟨c2,k8 W ⟨1,0,none⟩ (c2 0 (by omega))⟩,c1,k8 W ⟨0,0,none⟩ (c1 0 (by omega))⟩⟩
end Go.Proofs.YtlhlkofpjhpaoaaGreatDoor
namespace Go.Proofs.YtlhlkofpjhpaoaaGreatDoor
open Go.RowKit Go.IntWalk
open Go.ChangeShapes Go.WideShapes Go.ChangeAt
theorem eAc_cl(a:AcV):(eAc a).cl=[.int .i64 a.who,.int .i64 a.ver,.int .i64 a.key,.bool a.wr,.bool a.cut]:=by
 simp [SQ.cl,AcV.parts,SQ.den,Value.cells,catP,Pt.cells,SC.den]
theorem eAc_ok(a:AcV):OkP (eAc a).parts1/\(eAc a).cl.length=5:=⟨λq hq=>by
 have hq:q∈a.parts:=hq;simp only [AcV.parts,aJ,List.not_mem_nil,or_false] at hq
 rcases hq with rfl|rfl|rfl|rfl|rfl<;>exact⟨trivial,rfl,rfl⟩,by rw [eAc_cl];rfl⟩
theorem five_of{α:Type}{l:List α}(h:l.length=5):∃a b c d e,l=[a,b,c,d,e]:=by
 match l,h with
 | [a,b,c,d,e],_=>exact⟨a,b,c,d,e,rfl⟩
theorem act_cells{H:Type}{enc:TypeId×Value->H}{W:World}{held:Bool}(n:Nat)(cs:List Value)(x:DataW H×List MemPlace)(h:fG enc Tryz.prog W 0 (λ_=>true) held n 80 cs=some x) :
  ∃a:AcV,cs=(eAc a).cl/\OkP (eAc a).parts1/\(eAc a).cl.length=5:=by
 obtain⟨xs,m,_,_,hl,hlen,hf⟩:=DataW.trod_struct Tryz.underlying80 h;obtain⟨a,b,c,d,e,rfl⟩:=five_of (hl.trans (by kernel_rfl));obtain⟨x0,x1,x2,x3,x4,rfl⟩:=five_of (show xs.length=5 from hlen)
 have c0:Tryz.prog.cellsOf 3 = 1:=by kernel_rfl
 have c1:Tryz.prog.cellsOf 4 = 1:=by kernel_rfl
 have h0:fG enc Tryz.prog W 0 (λ_=>true) held m 3 (([a,b,c,d,e].drop 0).take (Tryz.prog.cellsOf 3))=some x0:=hf 0 _ rfl;have h1:fG enc Tryz.prog W 0 (λ_=>true) held m 3 (([a,b,c,d,e].drop 1).take (Tryz.prog.cellsOf 3))=some x1:=hf 1 _ rfl;have h2:fG enc Tryz.prog W 0 (λ_=>true) held m 3 (([a,b,c,d,e].drop 2).take (Tryz.prog.cellsOf 3))=some x2:=hf 2 _ rfl;have h3:fG enc Tryz.prog W 0 (λ_=>true) held m 4 (([a,b,c,d,e].drop 3).take (Tryz.prog.cellsOf 4))=some x3:=hf 3 _ rfl;have h4:fG enc Tryz.prog W 0 (λ_=>true) held m 4 (([a,b,c,d,e].drop 4).take (Tryz.prog.cellsOf 4))=some x4:=hf 4 _ rfl;rw [c0] at h0 h1 h2;rw [c1] at h3 h4;obtain⟨n0,e0,_⟩:=j1 Tryz.underlying3 h0;obtain⟨n1,e1,_⟩:=j1 Tryz.underlying3 h1;obtain⟨n2,e2,_⟩:=j1 Tryz.underlying3 h2;obtain⟨n3,e3,_⟩:=DataW.trod_bool Tryz.underlying4 h3;obtain⟨n4,e4,_⟩:=DataW.trod_bool Tryz.underlying4 h4
 injection e0 with e0
 injection e1 with e1
 injection e2 with e2
 injection e3 with e3
 injection e4 with e4
 subst e0 e1 e2 e3 e4;exact⟨⟨n0,n1,n2,n3,n4⟩,(eAc_cl ⟨n0,n1,n2,n3,n4⟩).symm,eAc_ok _⟩
end Go.Proofs.YtlhlkofpjhpaoaaGreatDoor
