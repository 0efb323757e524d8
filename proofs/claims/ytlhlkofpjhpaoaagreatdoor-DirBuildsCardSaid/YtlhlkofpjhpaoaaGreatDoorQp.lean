import Derived.Test.YtlhlkofpjhpaoaaGreatDoorQn
import Derived.Test.YtlhlkofpjhpaoaaGreatDoorQo
import Derived.Test.YtlhlkofpjhpaoaaGreatDoorQl
import Derived.Test.YtlhlkofpjhpaoaaGreatDoorQi
import Derived.Test.YtlhlkofpjhpaoaaGreatDoorQh
import Derived.Test.YtlhlkofpjhpaoaaGreatDoorQg
import Derived.Test.YtlhlkofpjhpaoaaGreatDoorQm
import Derived.Test.YtlhlkofpjhpaoaaGreatDoorQd
set_option maxRecDepth 100000
set_option maxHeartbeats 4000000
open List renaming replicate->aA,length_append->aC,mem_singleton->aE,mem_cons->aJ,getElem?_eq_getElem->aP,mem_of_getElem?->a6,mem_map->bO,mem_append->cB,getElem?_append_right->cD,length_map->cH,set_append_right->gA,map_append->iI,length_pos_iff->nG,getElem?_map->nR,perm_middle->o8,take_add_one->qQ
open Nat renaming le_refl->aH,zero_le->aQ,le_trans->cN,add_sub_cancel_left->g6,not_lt_zero->n7
open UInt8 renaming ofNat->bD,toNat_ofNat'->iE
namespace Go.Proofs.YtlhlkofpjhpaoaaGreatDoor
open Go.RowKit Go.IntWalk Nums
theorem own_dwith:Own 29:=λ_ _=>by go_simp
theorem withG_is{G:Nat->Nat}:∀{L:List LV},∀u∈withG G L,u∈withG G L/\u.g.isSome=true
 | [],_,h=>by cases h
 | _::_,_,h=>by
  rcases aJ.1 h with rfl|h
  ·exact⟨List.mem_cons_self,rfl⟩
  ·exact⟨List.mem_cons_of_mem _ (withG_is _ h).1,(withG_is _ h).2⟩
abbrev dirP(ep:Int)(K:List UInt8->List (List UInt8))(x:DirV)(w:World):Prop:=x.F w/\x.Ok/\x.ep=ep/\∀k,bL x.l k=K k
theorem seg_32{s:HSeg}{w:World}(h:s.rd w):∀k∈s.l,k.length=32:=λk hk=>by
 obtain⟨i,hi⟩:=List.getElem?_of_mem hk;exact pick_key h hi
structure WiS where
  seen:Array Nat
  done:List (List UInt8×HSeg)
  n:Nat
  h:List UInt8->Option HSeg
  t:TA
def wiL(d:DirV)(x:WiS):List EntD:=lI d.l (x.done.map entD)
structure WiI(d:DirV)(g:List UInt8->Option HSeg)(es:Array MapEntry)(n:Nat)(x:WiS):Prop where
  did:DidM TH ok32 es g x.seen x.done
  dir:DirOk (wiL d x)
  small:SmallD (wiL d x)
  tells:Tells x.h (wiL d x)
  tree:TOk 256 (pairsD (wiL d x)) x.t
  len:(wiL d x).length<=d.l.length+x.done.length
  left:x.done.length+(leftOf es x.seen).size<=n
theorem wiL_next(d:DirV)(x:WiS)(q:List UInt8)(v:HSeg)(seen:Array Nat)(n:Nat)(h:List UInt8->Option HSeg)(t:TA):wiL d ⟨seen,x.done++[(q,v)],n,h,t⟩=if v.l=[] then wiL d x else iU (wiL d x) q v.l:=by
 unfold wiL
 rw [iI];exact buildD_one _ _ _
theorem shares0{l:List PairT}:dN (256-256) l:=λ_ _ _ _ _ h=>absurd h (n7 _)
theorem dwith_S{d:DirV}(hd:d.Ok)(ep:Int)(mh n:Nat)(g:List UInt8->Option HSeg)(hsz:d.l.length+n<=1000)(h64:∀k s,g k=some s->s.l.length<=64) :
  Spec 29 [(eDv d).den,.int .i64 ep,.map (some mh)] [MapG TH ok32 mh n g] (λw=>Ta w/\d.F w/\∀k s,g k=some s->s.rd w) { ret:=λx:DirV=>.q (eDv x),own:=λ_=>[MapG TH ok32 mh n g],p:=dirP ep (overK g d.l) }:=by
 refine spec_S [.p d.parts,.c (.v (.int .i64 ep)),.c (.v (.map (some mh)))] 51 Tryz.func29 rfl (by rw [Tryz.ntmps29];rfl) (more_ok d.parts_ok (two_ok trivial trivial)) λb=>?_;refine s_pure (∀k s,g k=some s->∀x∈s.l,x.length=32) (λw h _ k s hs=>seg_32 (h.2.2 k s hs)) λh32=>?_;refine s_auto TY_ok rfl ?_;refine s_auto TY_ok rfl ?_;refine s_seq λK hK=>?_;refine s_regA TY_ok rfl λK1 hK1=>?_;refine l_opV (.v (.int .i64 (n:Int))) trivial rfl rfl rfl (runO_lenA TH_ok (map_own 0 rfl) rfl rfl) ?_;refine l_autoS TY_ok rfl ?_;refine s_end (hK1 _ ?_);refine s_ifD ((n:Int)=0) rfl (λh0=>?_) (λ_=>?_)
 ·obtain rfl:n=0:=by omega
  refine s_auto TY_ok rfl ?_;refine s_ret (k_openG 0 rfl λes clock hH=>k_closeG TH 0 rfl hH ?_);have hz:∀k,g k=none:=λk=>hH.zero k;exact k_ret TY_ok ({ d with ep:=ep }:DirV) rfl (by decide) rfl rfl rfl (λw h _=>⟨h.2.1,⟨hd.dir,hd.small,hd.tells,hd.tree,hd.map⟩,rfl,λk=>(over_none hz d.l k).symm⟩) (λ_ _=>trivial)
 refine s_skip (hK _ ?_);refine s_regA TY_ok rfl λK2 hK2=>?_;refine l_opV (.v (.int .i64 (d.cnt:Int))) trivial rfl rfl rfl (runO_lenD hd (λ_ _ _ h=>h.fact.2.1) rfl rfl) ?_;refine l_autoS TY_ok rfl ?_;refine l_opV (.v (.int .i64 (n:Int))) trivial rfl rfl rfl (runO_lenA TH_ok (map_own 0 rfl) rfl rfl) ?_;refine l_autoS TY_ok rfl ?_;refine l_mkGn TH ok32 TH_ok rfl rfl rfl rfl rfl λm=>?_;refine l_autoS TY_ok rfl ?_;refine s_end (hK2 _ ?_);refine s_regA TY_ok rfl λK3 hK3=>?_;refine l_callA (own:=[MapG TH ok32 m 0 λ_=>none]) (R':=[MapG TH ok32 mh n g]) [.map (some m),.map d.mv] rfl rfl rfl own_mcopy rfl rfl (λ_ _=>rfl) (mcopy_S hd m) (λ_ h _=>h.2.1) λn2=>?_;refine l_R [MapG TH ok32 m n2 d.h,MapG TH ok32 mh n g] rfl ?_;refine s_end (hK3 _ ?_);refine s_seq λK4 hK4=>?_;refine s_regA TY_ok rfl λK5 hK5=>?_;refine l_openG 1 rfl λes clock hH=>?_;refine l_rangeM rfl rfl rfl rfl Tryz.underlying28 rfl (es:=es) (clock:=clock) (mapE_own 1 rfl) λr=>?_;refine s_end (hK5 _ ?_);refine s_block ?_
 let Fs:WiS->Env:=λx=>⟨[(28,.v (.pointer (some ⟨r,0,none⟩))),(7,.v (.map (some m))),(3,.a 3 0),(6,.a 6 0)],[⟨6,none,33,zDirV.parts⟩,⟨3,none,33,[.one (.v (.int .i64 ep)),.one (.v (.map d.mv)),.agg 2 #[x.t.val,.int .u8 0]]⟩],[ItR (some mh) r clock x.seen,MapG TH ok32 m x.n x.h,MapB mh es clock],λw=>(Ta w/\∀k s,g k=some s->s.rd w)/\TF x.t w/\∀k s,x.h k=some s->s.rd w,λ_=>True⟩
 have hl0:(leftOf es #[]).size<=n:=by
  have h1:=hH.size
  unfold leftOf
  exact cN (Array.size_filter_le ..) (Nat.le_of_eq h1)
 refine c_weak (e':=Fs ⟨#[],[],n2,d.h,d.t⟩) ⟨⟨rfl,rfl,rfl,rfl,trivial⟩,⟨rfl,rfl,rfl,rfl,trivial⟩,.refl _,λ_ h _=>⟨⟨h.2.1,h.2.2.2⟩,h.2.2.1.2.2,h.2.2.1.2.1⟩,λ_ _=>trivial⟩ (s_loop (λx=>(leftOf es x.seen).size) Fs (WiI d g es n) ?_ ⟨#[],[],n2,d.h,d.t⟩ ⟨DidM.nil,hd.dir,hd.small,hd.tells,hd.tree,aH _,by show 0+(leftOf es #[]).size<=n;omega⟩)
 rintro x hx
 obtain⟨hD,hdir,hsm,hte,htr,hlen,hleft⟩:=id hx;refine s_regA TY_ok rfl λK6 hK6=>?_;refine l_nextM hH hD (λ_ h=>eY_all h) eHs_all 0 rfl rfl rfl rfl rfl rfl (mapE_own 2 rfl) (λh0=>?_) λq v seen' hq hv hne hlt hla hD'=>?_
 ·refine l_autoS TY_ok rfl ?_
  refine s_end (hK6 _ ?_);refine s_seq λK7 hK7=>?_;refine s_no rfl ?_;refine s_exit (k_pass (k_pass (k_out ?_)));refine k_drop 0 rfl (k_openG 0 rfl λes' clock' hH'=>k_freeB 0 rfl (k_closeG TH 0 rfl hH ?_));refine hK4 _ ?_;refine s_auto TY_ok rfl ?_;refine s_auto TY_ok rfl ?_;refine s_ret ?_;refine k_ret TY_ok (⟨ep,some m,es',clock',x.n,x.h,x.t,wiL d x⟩:DirV) rfl (by decide) rfl rfl rfl (λw h _=>⟨⟨λm' e=>?_,h.2.2.2,h.2.2.1⟩,⟨hdir,hsm,hte,htr,hH'⟩,rfl,?_⟩) (λ_ _=>trivial)
  ·have e:some m=some m':=e
   injection e with e
   rw [<-e];exact h.1
  ·exact over_done hD.nodup (λd hd=>(hD.in_ d hd).2) λk s hg=>hD.all TH_ok hH h0 hg
 refine l_autoS TY_ok rfl ?_;refine s_end (hK6 _ ?_);refine s_seq λK7 hK7=>?_;refine s_yes rfl ?_;refine s_skip (hK7 _ ?_);refine s_block ?_;refine s_regA TY_ok rfl λK8 hK8=>?_;refine l_opV (.t [eY 32 q,eHs v]) (two_ok (eY_all hq) trivial) rfl rfl rfl (runO_entry hH 0 rfl hla (mapE_own 2 rfl) rfl rfl) ?_;refine l_autoS TY_ok rfl ?_;refine s_end (hK8 _ ?_);refine s_auto TY_ok rfl ?_
 have hlt':x.done.length+1+(leftOf es seen').size<=n:=by omega
 refine s_ifD ((v.l.length:Int)>0) rfl (λhpos=>?_) (λhn0=>?_)
 ·have hvn:v.l≠[]:=λe=>by rw [e] at hpos;exact absurd hpos (by decide)
  have hv64:=h64 q v hv;refine s_seq λK9 hK9=>?_;refine s_locs λG=>?_;refine s_anyP [0,1,2] 4 1 (InvL (withG G [⟨8,none,45,[.agg 32 (By q).toArray]⟩,⟨6,none,33,zDirV.parts⟩,⟨3,none,33,[.one (.v (.int .i64 ep)),.one (.v (.map d.mv)),.agg 2 #[x.t.val,.int .u8 0]]⟩])) (by kernel_rfl) rfl (inv_of withG_is) ?_;refine p_front TY_ok 0 (by kernel_rfl) rfl rfl rfl rfl rfl rfl (λ_ h=>h) ?_;refine p_front TY_ok 1 (by kernel_rfl) rfl rfl rfl rfl rfl rfl (λ_ h=>h) ?_;refine p_front TY_ok 2 (by kernel_rfl) rfl rfl rfl rfl rfl rfl (λ_ h=>h) ?_;refine p_step 3 (by kernel_rfl) rfl λKa hKa=>?_;refine l_call0 [.slice v.A v.l.length v.c] rfl rfl rfl own_wclone rfl rfl (λ_ _=>rfl) (wclone_S v.l (by omega)) (λ_ h _=>h.1.2 q v hv) λy=>?_;refine l_free 0 rfl ?_;refine s_end (hKa _ (inv_of withG_is) ?_);refine p_tail [4] (by kernel_rfl) rfl ?_;refine l_updG TH_ok 1 rfl q ⟨y.1,y.2,v.l⟩ hq rfl rfl rfl rfl rfl rfl ?_;refine s_end (k_noloc (hK9 _ ?_));obtain⟨va,hva⟩:∃va,valH v.l=va:=⟨_,rfl⟩
  have hvl:va.length=32:=by rw [<-hva];exact dig_len _
  have hval:=hvalue_S (A:=v.A) (c:=v.c) v.l;rw [hva] at hval;have hpl:(pairsD (wiL d x)).length=(wiL d x).length:=cH ..;have hput:=tPut_S 256 (pairsD (wiL d x)) x.t (q,va) ⟨hq,hvl⟩ (aH _) htr (DirOk.pairs hdir).1 (DirOk.pairs hdir).2 shares0 (by omega);refine s_locs λG=>?_;refine s_anyP [0,1,2,3] 6 2 (InvL (withG G [⟨8,none,45,[.agg 32 (By q).toArray]⟩,⟨6,none,33,zDirV.parts⟩,⟨3,none,33,[.one (.v (.int .i64 ep)),.one (.v (.map d.mv)),.agg 2 #[x.t.val,.int .u8 0]]⟩])) (by kernel_rfl) rfl (inv_of withG_is) ?_;refine p_front TY_ok 0 (by kernel_rfl) rfl rfl rfl rfl rfl rfl (λ_ h=>h) ?_;refine p_front TY_ok 1 (by kernel_rfl) rfl rfl rfl rfl rfl rfl (λ_ h=>h) ?_;refine p_front TY_ok 2 (by kernel_rfl) rfl rfl rfl rfl rfl rfl (λ_ h=>h) ?_;refine p_front TY_ok 3 (by kernel_rfl) rfl rfl rfl rfl rfl rfl (λ_ h=>h) ?_;refine p_step 4 (by kernel_rfl) rfl λKa hKa=>?_;refine l_call0 [.slice v.A v.l.length v.c] rfl rfl rfl own_hvalue rfl rfl (λ_ _=>rfl) hval (λ_ h _=>⟨h.2.2.1.1,h.2.2.1.2 q v hv⟩) λ_=>?_;refine s_end (hKa _ (inv_of withG_is) ?_);refine p_step 5 (by kernel_rfl) rfl λKb hKb=>?_;refine l_call0 [(eTr x.t ((256-256)%256)).den,(eY 32 q).den,(eY 32 va).den] rfl rfl rfl own_tPut rfl rfl (λ_ _=>rfl) hput (λ_ h _=>⟨h.2.2.2.2.1,h.2.2.2.1.1.sh⟩) λ⟨t',ht'⟩=>?_;refine s_end (hKb _ (inv_of withG_is) ?_);refine p_tail [6,7] (by kernel_rfl) rfl ?_;refine l_autoS TY_ok rfl ?_
  have e1:wiL d ⟨seen',x.done++[(q,v)],if (x.h q).isSome then x.n else x.n+1,putF x.h q ⟨y.1,y.2,v.l⟩,t'⟩=iU (wiL d x) q v.l:=by rw [wiL_next,if_neg hvn]
  refine s_end (k_noloc (k_next ⟨seen',x.done++[(q,v)],if (x.h q).isSome then x.n else x.n+1,putF x.h q ⟨y.1,y.2,v.l⟩,t'⟩ ⟨hD',?_,?_,?_,?_,?_,?_⟩ hlt ⟨⟨rfl,rfl,rfl,rfl,trivial⟩,⟨rfl,rfl,rfl,rfl,trivial⟩,.refl _,λw h _=>⟨h.2.2.2.2.1,h.1,λk s e=>?_⟩,λ_ h=>trivial⟩))
  ·rw [e1]
   exact hdir.put hq hvn (h32 q v hv)
  ·rw [e1]
   exact hsm.put hv64
  ·rw [e1]
   exact hte.put q ⟨y.1,y.2,v.l⟩ hvn
  ·rw [e1,pairsD_put,hva]
   exact ht'
  ·rw [e1,aC]
   have:=putD_len (wiL d x) q v.l
   show _<=_+(_+1)
   omega
  ·rw [aC]
   exact hlt'
  ·have e:putF x.h q ⟨y.1,y.2,v.l⟩ k=some s:=e
   unfold putF at e
   split at e
   ·injection e with e
    rw [<-e];exact h.2.2.1
   ·exact h.2.2.2.2.2.2 k s e
 ·have hvn:v.l=[]:=List.eq_nil_of_length_eq_zero (by omega)
  have e1:wiL d ⟨seen',x.done++[(q,v)],x.n,x.h,x.t⟩=wiL d x:=by rw [wiL_next,if_pos hvn]
  refine s_skip (k_next ⟨seen',x.done++[(q,v)],x.n,x.h,x.t⟩ ⟨hD',?_,?_,?_,?_,?_,?_⟩ hlt ⟨⟨rfl,rfl,rfl,rfl,trivial⟩,⟨rfl,rfl,rfl,rfl,trivial⟩,.refl _,λ_ h _=>h,λ_ h=>h⟩)
  ·rw [e1]
   exact hdir
  ·rw [e1]
   exact hsm
  ·rw [e1]
   exact hte
  ·rw [e1]
   exact htr
  ·rw [e1,aC]
   exact cN hlen (Nat.add_le_add_left (Nat.le_succ _) _)
  ·rw [aC]
   exact hlt'
theorem SmallD.apply:∀{us:List UV} {l:List EntD},SmallD l->SmallD (fE l (us.map udH))
 | [],_,h=>h
 | u::us,l,h=>SmallD.apply (us:=us) (l:=g9 l (udH u)) (h.step u)
theorem us_ok{us:List UV}(h:∀u∈us,u.Ok):uP (us.map udH):=⟨λx hx=>by
 obtain⟨u,hu,rfl⟩:=bO.1 hx
 exact(h u hu).id,λx hx=>by
 obtain⟨u,hu,rfl⟩:=bO.1 hx
 exact(h u hu).key⟩
theorem take_apply{us:List UV}{i:Nat}{u:UV}(h:us[i]?=some u)(l:List EntD):fE l ((us.take (i+1)).map udH)=g9 (fE l ((us.take i).map udH)) (udH u):=by
 have:us.take (i+1)=us.take i++[u]:=by rw [qQ,h];rfl
 rw [this,iI,rH]
 rfl
theorem applyD_len:∀(us:List UD) (l:List EntD),(fE l us).length<=l.length+us.length
 | [],_=>aH _
 | u::us,l=>by
  have h1:=applyD_len us (g9 l u);have h2:=stepD_len l u
  show(fE (g9 l u) us).length<=_
  rw [List.length_cons]
  omega
structure GrownD(g:List UInt8->Option HSeg)(l z:List EntD):Prop where
  keys:∀k,bL z k=(match g k with|some s=>s.l|none=>bL l k)
  some:∀k s,g k=some s->s.l≠[]
theorem GrownD.nil(l:List EntD):GrownD (λ_=>none) l l:=⟨λ_=>rfl,λ_ _ h=>(by cases h)⟩
theorem GrownD.put{g:List UInt8->Option HSeg}{l z:List EntD}(h:GrownD g l z)(k:List UInt8)(s:HSeg)(hs:s.l≠[]):GrownD (putF g k s) l (iU z k s.l):=⟨λx=>by
 rw [iY]
 unfold putF
 by_cases c:x=k
 ·rw [if_pos c,if_pos c]
 ·rw [if_neg c,if_neg c]
  exact h.keys x,λx s' e=>by
 unfold putF at e
 split at e
 ·injection e with e
  rw [<-e];exact hs
 ·exact h.some x s' e⟩
theorem GrownD.over{g:List UInt8->Option HSeg}{l z:List EntD}(h:GrownD g l z)(k:List UInt8):overK g l k=bL z k:=by
 rw [h.keys]
 unfold overK
 cases hg:g k with
 | none=>rfl
 | some s=>exact if_neg (h.some k s hg)
theorem step_not{l:List EntD}{u:UV}(h:¬(signB u=true/\u.ver=((bL l u.id).length:Int)+1)):g9 l (udH u)=l:=if_neg λh2=>h (okD_iff.1 h2)
theorem step_ok{l:List EntD}{u:UV}(h:signB u=true/\u.ver=((bL l u.id).length:Int)+1):g9 l (udH u)=iU l u.id (bL l u.id++[u.key]):=if_pos (okD_iff.2 h)
structure ApS where
  i:Nat
  n:Nat
  g:List UInt8->Option HSeg
structure ApI(l:List EntD)(us:List UV)(x:ApS):Prop where
  i:x.i<=us.length
  n:x.n<=x.i
  g:GrownD x.g l (fE l ((us.take x.i).map udH))
theorem own_dapply:Own 9:=λ_ _=>by go_simp
theorem nxE_zeroD{l:List (List UInt8)}{u:UV}:nxE l u=0↔(signB u=true/\u.ver=(l.length:Int)+1):=by
 unfold nxE
 split
 ·rename_i h
  split<;>simp_all
 ·rename_i h
  simp [h]
theorem dapply_S{d:DirV}(hd:d.Ok){A:Option Addr}{c:Nat}{us:List UV}(hus:∀u∈us,u.Ok)(hsz:d.l.length+us.length<=1000) :
  Spec 9 [(eDv d).den,.slice A us.length c] [] (λw=>Ta w/\d.F w/\Rd 129 eU A c us w) { ret:=λx:DirV=>.q (eDv x),p:=λx w=>x.F w/\x.Ok/\x.ep=IntKind.i64.wrap (d.ep+1)/\x.l=fE d.l (us.map udH) }:=by
 refine spec_S [.p d.parts,.c (.v (.slice A us.length c))] 58 Tryz.func9 rfl (by rw [Tryz.ntmps9];rfl) (two_ok d.parts_ok trivial) λb=>?_;refine s_auto TY_ok rfl ?_;refine s_regA TY_ok rfl λK1 hK1=>?_;refine l_mkG TH ok32 rfl rfl rfl rfl λm=>?_;refine l_autoS TY_ok rfl ?_;refine s_end (hK1 _ ?_);refine s_seq λK hK=>?_;refine s_auto TY_ok rfl ?_;refine s_block ?_
 let Fs:ApS->Env:=λx=>⟨[(15,.v (.int .i64 (x.i:Int))),(14,.v (.int .i64 (us.length:Int))),(13,.v (.slice A us.length c)),(5,.v (.map (some m))),(2,.a 2 0),(4,.a 4 0)],[⟨4,none,33,zDirV.parts⟩,⟨2,none,33,d.parts⟩],[MapG TH ok32 m x.n x.g],λw=>(Ta w/\d.F w/\Rd 129 eU A c us w)/\∀k s,x.g k=some s->s.rd w,λ_=>True⟩
 refine c_weak (e':=Fs ⟨0,0,λ_=>none⟩) ⟨⟨rfl,rfl,rfl,rfl,rfl,rfl,trivial⟩,⟨rfl,rfl,rfl,rfl,trivial⟩,.refl _,λ_ h _=>⟨h,λ_ _ e=>by cases e⟩,λ_ _=>trivial⟩ (s_loop (λx=>us.length-x.i) Fs (ApI d.l us) ?_ ⟨0,0,λ_=>none⟩ ⟨aQ _,aH _,GrownD.nil _⟩)
 rintro⟨i,n,g⟩ ⟨hi,hn,hg⟩
 dsimp only at hi hn hg
 have hsm:SmallD (fE d.l ((us.take i).map udH)):=hd.small.apply;refine s_auto TY_ok rfl ?_;refine s_seq λK5 hK5=>?_;refine s_ifD ((i:Int)<(us.length:Int)) rfl (λhlt=>?_) (λhge=>?_)
 ·have hlt:i<us.length:=by omega
  obtain⟨u,hu⟩:∃u,us[i]?=some u:=⟨_,aP hlt⟩;have huo:=hus u (a6 hu);have htk:=take_apply hu d.l;refine s_skip (hK5 _ ?_);refine s_seq λK10 hK10=>?_
  have hgo:∀n' g',n'<=i+1->GrownD g' d.l (fE d.l ((us.take (i+1)).map udH))->∀e,Weak e ⟨[(15,.v (.int .i64 (i:Int))),(14,.v (.int .i64 (us.length:Int))),(13,.v (.slice A us.length c)),(5,.v (.map (some m))),(2,.a 2 0),(4,.a 4 0)],[⟨4,none,33,zDirV.parts⟩,⟨2,none,33,d.parts⟩],[MapG TH ok32 m n' g'],λw=>(Ta w/\d.F w/\Rd 129 eU A c us w)/\∀k s,g' k=some s->s.rd w,λ_=>True⟩->kS b K10 58 e:=by
   intro n' g' hn' hg' e hw
   refine k_weak hw (hK10 _ ?_);refine s_autoE TY_ok rfl ?_;exact k_next ⟨i+1,n',g'⟩ ⟨hlt,hn',hg'⟩ (by show us.length-(i+1)<us.length-i;omega) ⟨⟨congrArg (λz=>some (SV.v (.int .i64 z))) (wrapI (m:=(i:Int)+1) (r:=((i+1:Nat):Int)) (by omega) (by omega) (by omega)),rfl,rfl,rfl,rfl,rfl,trivial⟩,⟨rfl,rfl,rfl,rfl,trivial⟩,.refl _,λ_ h _=>h,λ_ h=>h⟩
  refine s_block ?_;refine s_regA TY_ok rfl λK11 hK11=>?_;refine l_elem TY_ok rfl rfl rfl i rfl hu rfl rfl (rd_fact λ_ h _=>h.1.2.2) ?_;refine l_autoS TY_ok rfl ?_;refine s_end (hK11 _ ?_);obtain⟨z,hz⟩:∃z,fE d.l ((us.take i).map udH)=z:=⟨_,rfl⟩;rw [hz] at hg hsm htk;have hk64:=hsm.keys u.id;refine s_regA TY_ok rfl λK12 hK12=>?_;refine l_opV (.t [eHs ((g u.id).getD nilH),.c (.b (g u.id).isSome)]) (two_ok trivial trivial) rfl rfl rfl (runO_grown (map_own 0 rfl) u.id huo.id rfl rfl rfl) ?_;refine l_autoS TY_ok rfl ?_;refine s_end (hK12 _ ?_);refine s_seq λK13 hK13=>?_
  have hrest:∀s:HSeg,s.l=bL z u.id->∀e,Weak e ⟨[(8,.q (eHs s)),(7,.a 7 0),(15,.v (.int .i64 (i:Int))),(14,.v (.int .i64 (us.length:Int))),(13,.v (.slice A us.length c)),(5,.v (.map (some m))),(2,.a 2 0),(4,.a 4 0)],[⟨7,none,76,u.parts⟩,⟨4,none,33,zDirV.parts⟩,⟨2,none,33,d.parts⟩],[MapG TH ok32 m n g],λw=>s.rd w/\(Ta w/\d.F w/\Rd 129 eU A c us w)/\∀k s,g k=some s->s.rd w,λ_=>True⟩->kS b K13 58 e:=by
   intro s hsl e hw
   refine k_weak hw (hK13 _ ?_);rw [<-hsl] at hk64;have hwr:IntKind.i64.wrap ((s.l.length:Int)+1)=(s.l.length:Int)+1:=wrapI rfl (by omega) (by omega);refine s_seq λK14 hK14=>?_;refine s_auto TY_ok rfl ?_;refine s_ifD (u.ver≠IntKind.i64.wrap ((s.l.length:Int)+1)) rfl (λhne=>?_) (λheq=>?_)
   ·rw [hwr] at hne
    refine s_exit (k_pass (k_out (hgo n g (by omega) ?_ _ ⟨⟨rfl,rfl,rfl,rfl,rfl,rfl,trivial⟩,⟨rfl,rfl,rfl,rfl,trivial⟩,.refl _,λ_ h _=>h.2,λ_ _=>trivial⟩)));rw [htk,step_not (λh=>hne (by rw [hsl];exact h.2))];exact hg
   rw [hwr] at heq;have heq:u.ver=(s.l.length:Int)+1:=Decidable.of_not_not heq;refine s_skip (hK14 _ ?_);obtain⟨ee,hee⟩:∃ee,nxE s.l u=ee:=⟨_,rfl⟩;obtain⟨kk,hkk⟩:∃kk,nxK s.l u=kk:=⟨_,rfl⟩;have hnx:=hnext_Q (A:=s.A) (c:=s.c) hee hkk huo (by omega);refine s_regA TY_ok rfl λK15 hK15=>?_;refine l_call0 [.slice s.A s.l.length s.c,(eU u).den] rfl rfl rfl own_hnext rfl rfl (λ_ _=>rfl) hnx (λ_ h _=>⟨h.2.1.1,h.1⟩) λ⟨X,c2⟩=>?_;refine l_autoS TY_ok rfl ?_;refine s_end (hK15 _ ?_);refine s_auto TY_ok rfl ?_;refine s_ifD ((ee:Int)=0) rfl (λh0=>?_) (λh0=>?_)
   ·have h0:nxE s.l u=0:=by omega
    have hk2:kk=s.l++[u.key]:=by rw [<-hkk];unfold nxK;rw [if_pos h0]
    have hst:=step_ok (l:=z) (u:=u) (by rw [<-hsl];exact nxE_zeroD.1 h0);rw [<-hsl,<-hk2] at hst;refine s_lit ?_;refine l_autoS TY_ok rfl ?_;refine l_updG TH_ok 0 rfl u.id ⟨X,c2,kk⟩ huo.id rfl rfl rfl rfl rfl rfl ?_;refine s_end (hgo (if (g u.id).isSome then n else n+1) (putF g u.id ⟨X,c2,kk⟩) (by split<;>omega) ?_ _ ⟨⟨rfl,rfl,rfl,rfl,rfl,rfl,trivial⟩,⟨rfl,rfl,rfl,rfl,trivial⟩,.refl _,λw h _=>⟨h.2.2.1,λk s' e=>?_⟩,λ_ _=>trivial⟩)
    ·rw [htk,hst]
     exact hg.put u.id ⟨X,c2,kk⟩ (by rw [hk2];simp)
    ·unfold putF at e
     split at e
     ·injection e with e
      rw [<-e];exact h.1
     ·exact h.2.2.2 k s' e
   ·refine s_skip (hgo n g (by omega) ?_ _ ⟨⟨rfl,rfl,rfl,rfl,rfl,rfl,trivial⟩,⟨rfl,rfl,rfl,rfl,trivial⟩,.refl _,λ_ h _=>h.2.2,λ_ _=>trivial⟩)
    rw [htk,step_not (λh=>h0 (by rw [<-hee,nxE_zeroD.2 (by rw [hsl];exact h)];rfl))];exact hg
  have hkz:=hg.keys u.id;refine s_auto TY_ok rfl ?_;refine s_if (!(g u.id).isSome) rfl (λh=>?_) (λh=>?_)
  ·have hs:g u.id=none:=by
    cases e:g u.id with
    | none=>rfl
    | some s=>rw [e] at h;cases h
   rw [hs] at hkz;refine s_lit ?_;refine l_autoS TY_ok rfl ?_;refine l_opV (.q (eHs (d.seg u.id))) trivial rfl rfl rfl (runO_hist hd (λ_ _ _ h=>h.fact.1.2.1) u.id huo.id rfl rfl rfl) ?_;refine l_autoS TY_ok rfl ?_;exact s_end (hrest (d.seg u.id) (by rw [hkz,hd.seg_l]) _ ⟨⟨rfl,rfl,rfl,rfl,rfl,rfl,rfl,rfl,trivial⟩,⟨rfl,rfl,rfl,rfl,rfl,rfl,trivial⟩,.refl _,λ_ h _=>⟨h.1.2.1.seg_rd _,h⟩,λ_ _=>trivial⟩)
  ·cases hs:g u.id with
   | none=>rw [hs] at h;cases h
   | some s =>
    rw [hs] at hkz;exact s_skip (hrest s hkz.symm _ ⟨⟨rfl,rfl,rfl,rfl,rfl,rfl,rfl,rfl,trivial⟩,⟨rfl,rfl,rfl,rfl,rfl,rfl,trivial⟩,.refl _,λ_ h _=>⟨h.2 _ _ hs,h⟩,λ_ _=>trivial⟩)
 ·obtain rfl:us.length=i:=by omega
  rw [List.take_length] at hg hsm;refine s_exit (k_pass (k_pass (k_out ?_)));refine hK _ ?_
  have h64:∀k s,g k=some s->s.l.length<=64:=λk s e=>by
   have h1:=hg.keys k;rw [e] at h1;have h2:=hsm.keys k;rw [h1] at h2;exact h2
  have hlz:=applyD_len (us.map udH) d.l;rw [cH] at hlz;refine s_regA TY_ok rfl λK16 hK16=>?_;refine l_callA (own:=[MapG TH ok32 m n g]) (R':=[]) [(eDv d).den,.int .i64 (IntKind.i64.wrap (d.ep+1)),.map (some m)] rfl rfl rfl own_dwith rfl rfl (λ_ _=>rfl) (dwith_S hd (IntKind.i64.wrap (d.ep+1)) m n g (by omega) h64) (λ_ h _=>⟨h.1.1,h.1.2.1,h.2⟩) λx=>?_;refine l_autoS TY_ok rfl ?_;refine s_end (hK16 _ ?_);refine s_ret (k_drop 0 rfl ?_);exact k_ret TY_ok x rfl (by decide) rfl rfl rfl (λw h _=>⟨h.1.1,h.1.2.1,h.1.2.2.1,DirOk.ext h.1.2.1.dir (hd.dir.apply (us_ok hus)) λk=>(h.1.2.2.2 k).trans (hg.over k)⟩) (λ_ _=>trivial)
theorem pairs_ok{l:List EntD}(h:DirOk l):∀p∈pairsD l,OkT2 p:=λp hp=>by
 obtain⟨e,he,rfl⟩:=bO.1 hp;exact⟨h.ids e he,dig_len _⟩
theorem own_dkeys:Own 12:=λ_ _=>by go_simp
theorem own_droot:Own 20:=λ_ _=>by go_simp
theorem own_dtree:Own 24:=λ_ _=>by go_simp
theorem own_depoch:Own 23:=λ_ _=>by go_simp
abbrev keysP(l:List (List UInt8)):Post PX:={ ret:=λx=>.v (.slice x.1 l.length x.2),own:=λx=>[KyS x.1 x.2 l] }
theorem dkeys_S{d:DirV}(hd:d.Ok){k:List UInt8}(hk:k.length=32):Spec 12 [(eDv d).den,(eY 32 k).den] [] d.F (keysP (bL d.l k)):=by
 have h64:=hd.small.keys k;rw [<-hd.seg_l k] at h64 ⊢;refine spec_S [.p d.parts,eY 32 k] 10 Tryz.func12 rfl (by rw [Tryz.ntmps12];rfl) (two_ok d.parts_ok (eY_ok hk).1) λb=>?_;refine s_auto TY_ok rfl ?_;refine s_regA TY_ok rfl λK hK=>?_;refine l_opV (.q (eHs (d.seg k))) trivial rfl rfl rfl (runO_hist hd (λ_ _ _ h=>h.fact) k hk rfl rfl rfl) ?_;refine l_call0 [.slice (d.seg k).A (d.seg k).l.length (d.seg k).c] rfl rfl rfl own_wclone rfl rfl (λ_ _=>rfl) (wclone_S (d.seg k).l (by omega)) (λ_ h _=>h.seg_rd k) λx=>?_;refine l_autoS TY_ok rfl ?_;refine s_end (hK _ ?_);exact s_ret (k_ret TY_ok x rfl (by decide) rfl rfl rfl (λ_ _ _=>trivial) (λ_ _=>trivial))
theorem droot_S{d:DirV}(hd:d.Ok):Spec 20 [(eDv d).den] [] d.F (one (.q (eY 32 (eX 256 (pairsD d.l))))):=by
 rw [<-hd.tree.root];refine spec_S [.p d.parts] 6 Tryz.func20 rfl (by rw [Tryz.ntmps20];rfl) (one_ok d.parts_ok) λb=>?_;refine s_auto TY_ok rfl ?_;refine s_regA TY_ok rfl λK hK=>?_;refine l_call0 [(eTr d.t 0).den] rfl rfl rfl own_tRoot rfl rfl (λ_ _=>rfl) (tRoot_S d.t 0) (λ_ h _=>h.2.2) λ_=>?_;refine l_autoS TY_ok rfl ?_;refine s_end (hK _ ?_);exact s_ret (k_ret TY_ok () rfl (by decide) rfl rfl rfl (λ_ _ _=>trivial) (λ_ _=>trivial))
theorem dtree_S(d:DirV):Spec 24 [(eDv d).den] [] (λ_=>True) (one (.q (.p [.agg 2 #[d.t.val,.int .u8 0]]))):=by
 refine spec_S [.p d.parts] 5 Tryz.func24 rfl (by rw [Tryz.ntmps24];rfl) (one_ok d.parts_ok) λb=>?_;refine s_auto TY_ok rfl ?_;refine s_auto TY_ok rfl ?_;exact s_ret (k_ret TY_ok () rfl (by decide) rfl rfl rfl (λ_ _ _=>trivial) (λ_ _=>trivial))
theorem depoch_S(d:DirV):Spec 23 [(eDv d).den] [] (λ_=>True) (one (.v (.int .i64 d.ep))):=by
 refine spec_S [.p d.parts] 5 Tryz.func23 rfl (by rw [Tryz.ntmps23];rfl) (one_ok d.parts_ok) λb=>?_;refine s_auto TY_ok rfl ?_;refine s_auto TY_ok rfl ?_;exact s_ret (k_ret TY_ok () rfl (by decide) rfl rfl rfl (λ_ _ _=>trivial) (λ_ _=>trivial))
theorem dtree_ok(d:DirV):(SQ.p [.agg 2 #[d.t.val,.int .u8 0]]).Ok:=λp hp=>by
 rw [aE.1 hp];exact d.parts_ok _ (by simp [DirV.parts])
theorem Spec.tell{f:FuncId}{args:List Value}{F:World->Prop}{α β:Type}{ret:α->RV}{lo e k:Nat}{fe:β->SQ}{A:α->Option Addr}{c:α->Nat}{l:List β}(h:Spec f args [] F { ret:=ret,own:=λx=>[OwnS lo e k fe (A x) (c x) l] }):Spec f args [] F { ret:=ret,p:=λx=>Rd k fe (A x) (c x) l }:=λw S X hs hX hF=>by
 refine(h w S X hs hX hF).mono ?_
 rintro e w' ⟨x,S',h1,h2,h3,⟨S1,S2,h4,h8,h9,h10⟩,h5,h6,h7⟩
 refine⟨x,λ_=>False,h1,h2,h3,λ_ h=>h,λ_ h=>h.elim,λw2 hw=>(OwnS.rd h4).keep hw.size λg hg hlt=>hw.block g hlt ?_,λ_ _=>trivial⟩
 rintro(hk|hk)
 ·have hS1:S1 g:=(h4.2.2 g).2 hg
  exact hs g (h5 g ((h9 g).2 (.inl hS1)) (hX g hk).1)
 ·exact hk
theorem wcut_nil(n d:Nat)(ks:List (List UInt8)):PW.cut n d [] ks = .empty:=by cases n<;>rfl
theorem wcut_hid(n d:Nat){l:List PairT}(h:l≠[]):PW.cut n d l [] = .hid (eX (256-d) l):=by
 cases l with
 | nil=>exact absurd rfl h
 | cons p l=>cases n<;>rfl
theorem wcut_leaf(n d:Nat)(p:PairT){ks:List (List UInt8)}(h:ks≠[]):PW.cut n d [p] ks = .leaf p:=by
 cases ks with
 | nil=>exact absurd rfl h
 | cons k ks=>cases n<;>rfl
theorem wcut_inner(n d:Nat){l:List PairT}{ks:List (List UInt8)}(h2:2<=l.length)(h:ks≠[]):PW.cut (n+1) d l ks = .inner (PW.cut n (d+1) (b6 d l) (PW.keyL d ks)) (PW.cut n (d+1) (bI d l) (PW.keyR d ks)):=by
 match l,ks,h2,h with
 | [],_,h2,_=>exact absurd h2 (by decide)
 | [_],_,h2,_=>exact absurd h2 (by simp)
 | _::_::_,[],_,h=>exact absurd rfl h
 | _::_::_,_::_,_,_=>rfl
theorem wcut_perm:∀(n d:Nat) (l:List PairT) {ks ks':List (List UInt8)},ks.Perm ks'->PW.cut n d l ks=PW.cut n d l ks'
 | n,d,[],_,_,_=>by rw [wcut_nil,wcut_nil]
 | n,d,p::l,ks,ks',h=>by
  by_cases e:ks=[]
  ·subst e
   rw [h.nil_eq]
  ·have e':ks'≠[]:=λh2=>e (by subst h2;exact h.eq_nil)
   cases l with
   | nil=>rw [wcut_leaf n d p e,wcut_leaf n d p e']
   | cons q l =>
    cases n with
    | zero =>
     cases ks with
     | nil=>exact absurd rfl e
     | cons=>cases ks' with
      | nil=>exact absurd rfl e'
      | cons=>rfl
    | succ n =>
     rw [wcut_inner n d (by simp) e,wcut_inner n d (by simp) e',wcut_perm n (d+1) _ (h.filter _),wcut_perm n (d+1) _ (h.filter _)]
theorem withG_some{G:Nat->Nat}:∀{L:List LV},∀u∈withG G L,u∈withG G L/\u.g.isSome=true:=λu hu=>⟨hu,by
 obtain⟨y,_,rfl⟩:=withG_mem hu
 rfl⟩
theorem l_pureV{P:Program}{b:Base}{ops:Array Oper}{Q:Exit->Act->World->Prop}{N:Nat}{E:SE}{L:List LV}{R:List Res}{F M:World->Prop}{l:List Oper}(φ:Prop)(h:∀G S w,View G S L R F M w->φ)(hn:φ->lS P b ops Q N l ⟨E,L,R,F,M⟩):lS P b ops Q N l ⟨E,L,R,F,M⟩:=λa w ⟨G,S,h1,h2,h3⟩=>hn (h G S w h3.view) a w ⟨G,S,h1,h2,h3⟩
theorem OwnS.start{α:Type}{lo e k c:Nat}{fe:α->SQ}{A:Option Addr}{l:List α}{w:World}{S:Nat->Prop}(h:(OwnS lo e k fe A c l).holds w S)(h0:0<l.length):∃g,A=some ⟨g,0,none⟩:=by
 obtain⟨h1,h2,h3⟩:=h
 rcases h2.2 with⟨h4,h5⟩|⟨g,cap,cur,hv,_⟩
 ·omega
 ·injection hv with h6 h7 h8
  exact⟨g,h6⟩
theorem own_wcut:Own 56:=λ_ _=>by go_simp
theorem own_wCut:Own 34:=λ_ _=>by go_simp
theorem wcut_S{A:Option Addr}{c:Nat}:∀(r:Nat) (l:List PairT) (t:TA) (P ks Z:List (List UInt8)) (A':Option Addr) (c':Nat),r<=256->TOk r l t->cV l->gE l->dN (256-r) l->KeyAt A A' c' P.length ks.length->(∀k∈ks,k.length=32) ->
  Spec 56 [(eTr t ((256-r)%256)).den,.slice A' ks.length c',.int .u8 (((256-r)%256:Nat):Int)] [KyS A c (P++ks++Z)] (TF t) { ret:=λ_:{ ks':List (List UInt8) // ks'.Perm ks }=>.v (PW.cut r (256-r) l ks).val,own:=λx=>[KyS A c (P++x.1++Z)] }:=by
 intro r
 induction r using Nat.strongRecOn with
 | ind r ih =>
 intro l t P ks Z A' c' hr ht hs hk hsh hat hks
 obtain⟨D,hD⟩:∃D,(256-r)%256=D:=⟨_,rfl⟩;rw [hD];refine spec_S [eTr t D,.c (.v (.slice A' ks.length c')),.c (.v (.int .u8 (D:Int)))] 67 Tryz.func56 rfl (by rw [Tryz.ntmps56];rfl) (more_ok (trPs_ok t _) (two_ok trivial trivial)) λb=>?_;refine s_auto TY_ok rfl ?_;refine s_seq λK hK=>?_;refine s_regA TY_ok rfl λK1 hK1=>?_;refine l_call0 [(eTr t D).den] rfl rfl rfl own_tLen rfl rfl (λ_ _=>rfl) (tLen_S t D) (λ_ h _=>h) λ_=>?_;refine l_autoS TY_ok rfl ?_;refine s_end (hK1 _ ?_);have hlen:=ht.len;have hroot:=ht.root
 by_cases hl0:l=[]
 ·subst hl0
  refine s_ifD ((t.len:Int)=0) rfl (λ_=>?_) (λh=>absurd (by rw [hlen];rfl) h);refine s_regA TY_ok rfl λK2 hK2=>?_;refine l_op (.v PW.empty.val) trivial rfl rfl rfl (run_mkI rfl Tryz.underlying154 rfl rfl) ?_;refine l_autoS TY_ok rfl ?_;refine s_end (hK2 _ ?_);exact s_ret (k_ret TY_ok ⟨ks,.refl _⟩ rfl (by decide) rfl (by rw [wcut_nil];rfl) rfl (λ_ _ _=>trivial) (λ_ _=>trivial))
 have hlpos:0<l.length:=nG.2 hl0;refine s_ifD ((t.len:Int)=0) rfl (λh=>absurd h (by omega)) (λ_=>?_);refine s_skip (hK _ ?_);refine s_seq λK2 hK2=>?_;refine s_auto TY_ok rfl ?_
 by_cases hk0:ks=[]
 ·subst hk0
  refine s_ifD ((([]:List (List UInt8)).length:Int)=0) rfl (λ_=>?_) (λh=>absurd rfl h);refine s_regA TY_ok rfl λK3 hK3=>?_;refine l_call0 [(eTr t D).den] rfl rfl rfl own_tRoot rfl rfl (λ_ _=>rfl) (tRoot_S t D) (λ_ h _=>h.2) λ_=>?_;refine l_autoS TY_ok rfl ?_;refine l_op (.v (PW.hid t.root).val) trivial rfl rfl rfl (run_mkI (q:=.p (PW.hid t.root).ps) rfl Tryz.underlying156 rfl rfl) ?_;refine l_autoS TY_ok rfl ?_;refine s_end (hK3 _ ?_);exact s_ret (k_ret TY_ok ⟨[],.refl _⟩ rfl (by decide) rfl (by rw [wcut_hid _ _ hl0,show 256-(256-r)=r by omega,<-hroot];rfl) rfl (λ_ _ _=>trivial) (λ_ _=>trivial))
 have hkpos:0<ks.length:=nG.2 hk0;refine s_ifD ((ks.length:Int)=0) rfl (λh=>absurd h (by omega)) (λ_=>?_);refine s_skip (hK2 _ ?_);refine s_seq λK3 hK3=>?_;refine s_regA TY_ok rfl λK4 hK4=>?_;refine l_call0 [(eTr t D).den] rfl rfl rfl own_tLeaf rfl rfl (λ_ _=>rfl) (tLeaf_S t D) (λ_ h _=>h.2) λ_=>?_
 cases t with
 | nil=>exact absurd ht.nil_inv hl0
 | leaf g0 h0 p =>
  obtain rfl:=ht.leaf_inv;refine l_autoS TY_ok rfl ?_;refine s_end (hK4 _ ?_);refine s_auto TY_ok rfl ?_;refine s_yes rfl ?_;refine s_regD 7 (by decide) (by kernel_rfl) (by kernel_rfl) λK5 hK5 G S w0 hst=>?_;refine g_autoS TY_ok hst rfl ?_;refine g_callS (F':=TF (.leaf g0 h0 p)) hst [(eTr (.leaf g0 h0 p) D).den] rfl rfl rfl own_tRoot rfl rfl (λ_=>rfl) (tRoot_S (.leaf g0 h0 p) D) (eY_ok (n:=32) (digest256_len _)).1 (λ_ _ _ hv=>hv.fact.2.2) ?_;refine g_autoS TY_ok hst rfl ?_;refine g_opS (.v (PW.leaf p).val) trivial rfl rfl rfl (run_mkI (q:=.p (PW.leaf p).ps) rfl Tryz.underlying160 rfl rfl) ?_;refine g_autoS TY_ok hst rfl ?_;refine g_endS hst ?_;refine s_end (hK5 _ ?_);exact s_ret (k_ret TY_ok ⟨ks,.refl _⟩ rfl (by decide) rfl (by rw [wcut_leaf _ _ _ hk0];rfl) rfl (λ_ _ _=>trivial) (λ_ _=>trivial))
 | node g0 x y =>
  obtain⟨r,rfl⟩:∃q,r=q+1:=⟨r-1,by
   cases r with
   | zero=>exact ht.elim
   | succ r=>rfl⟩
  obtain rfl:255-r=D:=by omega
  rw [show 256-(r+1)=255-r by omega] at hsh;obtain⟨d,hdr⟩:∃d,255-r=d:=⟨_,rfl⟩;obtain⟨e8,he8⟩:∃e,(256-r)%256=e:=⟨_,rfl⟩
  have hd:d<256:=by omega
  have hw8:IntKind.u8.wrap ((d:Int)+1)=(e8:Int):=wrapB2 ⟨hdr.symm,by omega⟩ he8;have ih2:=λl t P ks Z A' c' ht hs hk hsh=>ih r (by omega) l t P ks Z A' c' (by omega) ht hs hk hsh;simp only [he8] at ih2;clear ih;rw [hdr] at hsh ⊢;obtain⟨hl2,hx0,hy0⟩:=ht;rw [hdr] at hx0 hy0;have hshL:=hsh.left;have hshR:=hsh.right;rw [show d+1=256-r by omega] at hshL hshR;refine l_autoS TY_ok rfl ?_;refine s_end (hK4 _ ?_);refine s_auto TY_ok rfl ?_;refine s_no rfl ?_;refine s_skip (hK3 _ ?_);refine s_keep [1,2,3] [3] rfl rfl ?_;refine s_regA TY_ok rfl λK5 hK5=>?_;refine l_call0 [(eTr (.node g0 x y) d).den] rfl rfl rfl own_tSides rfl rfl (λ_ _=>rfl) (tSides_S (.node g0 x y) d e8 hw8) (λ_ h _=>h.2.2) λ_=>?_;refine l_autoS TY_ok rfl ?_;refine s_end (hK5 _ ?_);refine s_regA TY_ok rfl λK6 hK6=>?_;refine l_R ([KyS A c (P++ks++Z)]++[]) rfl ?_;refine l_callA [.slice A' ks.length c',.int .u8 (d:Int)] rfl rfl rfl own_wparted rfl rfl (λ_ _=>rfl) (wparted_S P ks Z d hd hat hks) (λ_ _ _=>trivial) λu=>?_;obtain⟨⟨ys,zs⟩,hpt⟩:=u;refine l_autoS TY_ok rfl ?_;refine s_end (hK6 _ ?_);have hplen:=hpt.len
  dsimp only at hplen
  have hysl:∀k∈ys,k.length=32:=λk h=>hks k ((hpt.perm.mem_iff).1 (List.mem_append_left _ h));have hzsl:∀k∈zs,k.length=32:=λk h=>hks k ((hpt.perm.mem_iff).1 (List.mem_append_right _ h));have hsL:cV (b6 d l):=hs.filter _;have hsR:cV (bI d l):=hs.filter _;have hkL:gE (b6 d l):=hk.filter _;have hkR:gE (bI d l):=hk.filter _;have hcall1:=ih2 (b6 d l) x P ys (zs++Z) A' c' hx0 hsL hkL hshL (hat.left (by omega)) hysl
  have hcall2:=λys':{ q:List (List UInt8) // q.Perm ys }=>ih2 (bI d l) y (P++ys'.1) zs Z (cutK 32 A' c' ys.length) (c'-ys.length) hy0 hsR hkR hshR (by
   have:=hat.right (m:=ys.length) (by omega);rw [show ks.length-ys.length=zs.length by omega] at this;rw [aC,ys'.2.length_eq]
   exact this) hzsl
  have hX:(PW.cut r (256-r) (b6 d l) ys).root=x.root:=by
   rw [(PW.cut_of r ys (by omega) hsL hkL hshL).root,hx0.root,show 256-(256-r)=r by omega]
  have hY:(PW.cut r (256-r) (bI d l) zs).root=y.root:=by
   rw [(PW.cut_of r zs (by omega) hsR hkR hshR).root,hy0.root,show 256-(256-r)=r by omega]
  have hfin:PW.cut (r+1) (256-(r+1)) l ks = .inner (PW.cut r (256-r) (b6 d l) ys) (PW.cut r (256-r) (bI d l) zs):=by
   rw [show 256-(r+1)=d by omega,wcut_inner r d hl2 hk0,show d+1=256-r by omega,wcut_perm r _ _ hpt.1,wcut_perm r _ _ hpt.2]
  have hroot2:fF x.root y.root=fF (PW.cut r (256-r) (b6 d l) ys).root (PW.cut r (256-r) (bI d l) zs).root:=by rw [hX,hY]
  generalize PW.cut r (256-r) (b6 d l) ys=X at *;generalize PW.cut r (256-r) (bI d l) zs=Y at *;refine s_keep [2,3,10,11,13,14] [3,10,11] rfl rfl ?_;refine s_locs λG=>?_;refine s_seq λK7 hK7=>?_;refine s_anyP [0,2,3,4,5,7,8,9,10] 11 5 (InvL (withG G [⟨11,none,31,trPs y e8⟩,⟨10,none,31,trPs x e8⟩,⟨3,none,31,trPs (.node g0 x y) d⟩])) (by kernel_rfl) rfl (inv_of withG_some) ?_;refine p_frontS TY_ok 0 (by kernel_rfl) rfl rfl rfl rfl rfl rfl (λx hx=>hx) (λ_ h=>h) ?_;refine p_frontS TY_ok 2 (by kernel_rfl) rfl rfl rfl rfl rfl rfl (λx hx=>hx) (λ_ h=>h) ?_;refine p_frontS TY_ok 3 (by kernel_rfl) rfl rfl rfl rfl rfl rfl (λx hx=>hx) (λ_ h=>h) ?_;refine p_frontS TY_ok 4 (by kernel_rfl) rfl rfl rfl rfl rfl rfl (λx hx=>hx) (λ_ h=>h) ?_;refine p_frontS TY_ok 5 (by kernel_rfl) rfl rfl rfl rfl rfl rfl (λx hx=>hx) (λ_ h=>h) ?_;refine p_frontS TY_ok 7 (by kernel_rfl) rfl rfl rfl rfl rfl rfl (λx hx=>hx) (λ_ h=>h) ?_;refine p_frontS TY_ok 8 (by kernel_rfl) rfl rfl rfl rfl rfl rfl (λx hx=>hx) (λ_ h=>h) ?_;refine p_frontS TY_ok 9 (by kernel_rfl) rfl rfl rfl rfl rfl rfl (λx hx=>hx) (λ_ h=>h) ?_;refine p_frontS TY_ok 10 (by kernel_rfl) rfl rfl rfl rfl rfl rfl (λx hx=>hx) (λ_ h=>h) ?_;refine p_step 1 (by kernel_rfl) rfl λK8 hK8=>?_;refine l_call0 [(eTr (.node g0 x y) d).den] rfl rfl rfl own_tRoot rfl rfl (λ_ _=>rfl) (tRoot_S (.node g0 x y) d) (λ_ h _=>h.2.2.2.2) λ_=>?_;refine s_end (hK8 _ (inv_of withG_some) ?_);refine p_step 6 (by kernel_rfl) rfl λK9 hK9=>?_;refine l_num 57 (e8:Int) rfl hw8 ?_;refine l_R [KyS A c (P++(ys++zs)++Z)] rfl ?_;refine l_R ([KyS A c (P++ys++(zs++Z))]++[]) (congrArg (λq=>[KyS A c q]) (by simp:P++(ys++zs)++Z=P++ys++(zs++Z))) ?_;refine l_callA [(eTr x e8).den,.slice A' ys.length c',.int .u8 (e8:Int)] rfl rfl rfl own_wcut rfl rfl (λ_ _=>rfl) hcall1 (λ_ h _=>h.2.2.2.2.2.2.1) λys'=>?_;refine s_end (hK9 _ (inv_of withG_some) ?_);refine p_tail [11,12,13,14,15] (by kernel_rfl) rfl ?_;refine l_num 62 (e8:Int) rfl hw8 ?_;refine l_R [KyS A c (P++ys'.1++(zs++Z))] rfl ?_;refine l_R ([KyS A c (P++ys'.1++zs++Z)]++[]) (congrArg (λq=>[KyS A c q]) (by simp:P++ys'.1++(zs++Z)=P++ys'.1++zs++Z)) ?_;refine l_callA [(eTr y e8).den,.slice (cutK 32 A' c' ys.length) zs.length (c'-ys.length),.int .u8 (e8:Int)] rfl rfl rfl own_wcut rfl rfl (λ_ _=>rfl) (hcall2 ys') (λ_ h _=>h.2.2.2.2.2.2.2.2) λzs'=>?_;refine l_op (.p (sdW X Y)) (sdW_ok _ _) rfl rfl rfl (run_sides rfl rfl rfl) ?_;refine l_eq 53 (.q (eY 32 (fF X.root Y.root))) rfl (congrArg (λq=>SV.q (eY 32 q)) hroot2) ?_;refine l_autoS TY_ok rfl ?_;refine l_op (.v (PW.inner X Y).val) trivial rfl rfl rfl (run_mkI (q:=.p (PW.inner X Y).ps) rfl Tryz.underlying167 rfl rfl) ?_
  refine l_autoS TY_ok rfl ?_;refine s_end (hK7 _ ?_);exact s_ret (k_ret TY_ok ⟨ys'.1++zs'.1,(ys'.2.append zs'.2).trans hpt.perm⟩ rfl (by decide) rfl (congrArg (λq:PW=>RV.v q.val) hfin) (congrArg (λq=>[KyS A c q]) (by simp:P++(ys'.1++zs'.1)++Z=P++ys'.1++zs'.1++Z)) (λ_ _ _=>trivial) (λ_ _=>trivial))
theorem wCut_S{A:Option Addr}{c:Nat}(l:List PairT)(t:TA)(ks:List (List UInt8))(ht:TOk 256 l t)(hs:cV l)(hk:gE l)(hl:ks.length<=1000000)(hks:∀k∈ks,k.length=32) :
  Spec 34 [(eTr t 0).den,.slice A ks.length c] [] (λw=>TF t w/\Rd 32 (eY 32) A c ks w) (one (.q (prQ (PW.cut 256 0 l ks)))):=by
 obtain⟨W,hW⟩:∃W,PW.cut 256 0 l ks=W:=⟨_,rfl⟩;rw [hW];refine spec_S [eTr t 0,.c (.v (.slice A ks.length c))] 10 Tryz.func34 rfl (by rw [Tryz.ntmps34];rfl) (two_ok (trPs_ok t _) trivial) λb=>?_;refine s_auto TY_ok rfl ?_;refine s_locs λG=>?_;refine s_seq λK hK=>?_;refine s_anyP [0,1] 3 3 (InvL (withG G [⟨4,none,91,[.one (.v .nilIface)]⟩,⟨2,none,31,trPs t 0⟩])) (by kernel_rfl) rfl (inv_of withG_some) ?_;refine p_frontS TY_ok 0 (by kernel_rfl) rfl rfl rfl rfl rfl rfl (λx hx=>hx) (λ_ h=>h) ?_;refine p_frontS TY_ok 1 (by kernel_rfl) rfl rfl rfl rfl rfl rfl (λx hx=>hx) (λ_ h=>h) ?_;refine p_step 2 (by kernel_rfl) rfl λK1 hK1=>?_;refine l_call0 [.slice A ks.length c] rfl rfl rfl own_wclone rfl rfl (λ_ _=>rfl) (wclone_S ks hl) (λ_ h _=>h.2) λx=>?_;obtain⟨A1,c1⟩:=x;refine s_end (hK1 _ (inv_of withG_some) ?_);refine p_tail [3,4,5] (by kernel_rfl) rfl ?_;refine l_R [KyS A1 c1 ks] rfl ?_;refine l_pureV (KeyAt A1 A1 c1 0 ks.length) (λG S w hv=>?_) λhat=>?_
 ·obtain⟨S1,S2,hh,_⟩:=hv.res
  have hr:=OwnS.rd hh
  exact⟨hr.1,hr.2.1,hr.2.2.1,λh0=>by
   obtain⟨g,hg⟩:=OwnS.start hh h0
   exact⟨g,hg,hg⟩⟩
 have hcut:=wcut_S (A:=A1) (c:=c1) 256 l t [] ks [] A1 c1 (aH _) ht hs hk (λ_ _ _ _ _ h=>absurd h (n7 _)) hat hks;replace hcut:Spec 56 [(eTr t 0).den,.slice A1 ks.length c1,.int .u8 0] [KyS A1 c1 ([]++ks++[])] (TF t) { ret:=λ_:{ ks':List (List UInt8) // ks'.Perm ks }=>.v (PW.cut 256 0 l ks).val,own:=λx=>[KyS A1 c1 ([]++x.1++[])] }:=hcut;rw [hW] at hcut;refine l_R ([KyS A1 c1 ([]++ks++[])]++[]) (congrArg (λq=>[KyS A1 c1 q]) (by simp:ks=[]++ks++[])) ?_;refine l_callA [(eTr t 0).den,.slice A1 ks.length c1,.int .u8 0] rfl rfl rfl own_wcut rfl rfl (λ_ _=>rfl) hcut (λ_ h _=>h.2.1) λys=>?_;refine l_call0 [W.val] rfl rfl rfl own_wpart rfl rfl (λ_ _=>rfl) (wpart_S W) (λ_ _ _=>trivial) λ_=>?_;refine l_autoS TY_ok rfl ?_;refine s_end (hK _ ?_);refine s_ret (k_drop 0 rfl ?_);exact k_ret TY_ok () rfl (by decide) rfl rfl rfl (λ_ _ _=>trivial) (λ_ _=>trivial)
theorem own_danswer:Own 14:=λ_ _=>by go_simp
theorem own_dright:Own 19:=λ_ _=>by go_simp
def partD(l:List EntD)(k:List UInt8):PW:=PW.cut 256 0 (pairsD l) [k]
theorem partD_of{l:List EntD}(h:DirOk l)(k:List UInt8):PW.Of 0 (pairsD l) [k] (partD l k):=PW.cut_of 256 [k] rfl (DirOk.pairs h).1 (DirOk.pairs h).2 shares0
theorem partD_right{l:List EntD}(h:DirOk l)(k:List UInt8):PW.Right [] (partD l k):=PW.Of.right (way:=[]) (partD_of h k) λp hp=>⟨(pairs_ok h p hp).1,(pairs_ok h p hp).2,λi hi=>absurd hi (n7 i)⟩
structure AnX where
  A:Option Addr
  c:Nat
  B:Option Addr
  d:Nat
def eAn(x:AnX)(n m:Nat):SQ:=.p [.one (.v (.slice x.A n x.c)),.one (.v (.slice x.B m x.d))]
theorem eAn_ok(x:AnX)(n m:Nat):(eAn x n m).Ok:=λp hp=>by
 rcases aJ.1 hp with rfl|hp
 ·exact⟨trivial,rfl,rfl⟩
 ·rw [aE.1 hp]
  exact⟨trivial,rfl,rfl⟩
theorem dright_S{l:List EntD}(hl:DirOk l)(h64:SmallD l){k:List UInt8}(hk:k.length=32)(x:AnX):Spec 19 [(eY 32 (eX 256 (pairsD l))).den,(eY 32 k).den,(eAn x (bL l k).length (partD l k).bytes.length).den] []
  (λw=>Ta w/\Rd 32 (eY 32) x.A x.c (bL l k) w/\Rd 1 eB x.B x.d (partD l k).bytes w) (one (.v (.int .i64 0))):=by
 have hW:=partD_right hl k;have hroot:(partD l k).root=eX 256 (pairsD l):=(partD_of hl k).root;have htell:=(partD_of hl k).tells (aE.2 rfl) (DirOk.pairs hl).1
 have hr32:(eX 256 (pairsD l)).length=32:=by rw [<-hroot];exact hW.good.root_len
 rw [getT_pairs hl] at htell;have hval:=hvalue_S (A:=x.A) (c:=x.c) (bL l k);have hv32:(valH (bL l k)).length=32:=dig_len _;have hk64:=h64.keys k;obtain⟨W,eW⟩:∃W,partD l k=W:=⟨_,rfl⟩;obtain⟨rt,ert⟩:∃rt,eX 256 (pairsD l)=rt:=⟨_,rfl⟩;obtain⟨ks,eks⟩:∃ks,bL l k=ks:=⟨_,rfl⟩;rw [eW] at hW hroot htell;rw [ert] at hroot hr32;rw [eks] at htell hval hv32 hk64;rw [eW,ert,eks];obtain⟨va,eva⟩:∃va,valH ks=va:=⟨_,rfl⟩;rw [eva] at htell hval hv32;clear eW ert eks;refine spec_S [eY 32 rt,eY 32 k,eAn x ks.length W.bytes.length] 50 Tryz.func19 rfl (by rw [Tryz.ntmps19];rfl) (more_ok (eY_ok hr32).1 (two_ok (eY_ok hk).1 (eAn_ok _ _ _))) λb=>?_;refine s_auto TY_ok rfl ?_;have hpar:=wParse_S (A:=x.B) (c:=x.d) W.bytes;rw [PW.parse_bytes hW] at hpar;refine s_regA TY_ok rfl λK hK=>?_;refine l_call0 [.slice x.B W.bytes.length x.d] rfl rfl rfl own_wParse rfl rfl (λ_ _=>rfl) hpar (λ_ h _=>⟨h.2.2,h.1.sh⟩) λ_=>?_;refine l_autoS TY_ok rfl ?_;refine s_end (hK _ ?_);refine s_seq λK1 hK1=>?_;refine s_auto TY_ok rfl ?_;refine s_ifD ((0:Int)≠0) rfl (λh=>absurd rfl h) λ_=>?_;refine s_skip (hK1 _ ?_);refine s_seq λK2 hK2=>?_;refine s_regH 4 (by decide) (by kernel_rfl) (by kernel_rfl) λK3 hK3 G S w0 hst=>?_;refine h_auto TY_ok hst rfl ?_;refine h_callS (F':=λ_=>True) (r:=.q (eY 32 W.root)) hst [(prQ W).den] rfl rfl rfl rfl own_wRoot rfl rfl (λ_=>rfl) (eY_ok (by rw [hroot];exact hr32)).1 (wRoot_S hW.good) (λ_ _ _ _=>trivial) ?_;refine h_auto TY_ok hst rfl ?_;refine h_op hst (.b (!decide (W.root=rt))) trivial rfl rfl rfl rfl (run_neqY rfl rfl rfl Tryz.underlying45 (by kernel_rfl) (by rw [hroot];exact hr32) hr32) ?_;refine h_end hst ?_;refine l_is 23 false rfl (by rw [hroot];simp) ?_;refine s_end (hK3 _ ?_);refine s_no rfl ?_;refine s_skip (hK2 _ ?_);have hget:=wGet_S hk W hW;rw [htell] at hget
 by_cases h0:ks=[]
 ·subst h0
  rw [if_pos rfl] at hget;refine s_regA TY_ok rfl λK4 hK4=>?_;refine l_call0 [(prQ W).den,(eY 32 k).den] rfl rfl rfl own_wGet rfl rfl (λ_ _=>rfl) hget (λ_ _ _=>trivial) λ_=>?_;refine l_autoS TY_ok rfl ?_;refine s_end (hK4 _ ?_);refine s_seq λK5 hK5=>?_;refine s_auto TY_ok rfl ?_;refine s_ifD ((0:Int)≠0) rfl (λh=>absurd rfl h) λ_=>?_;refine s_skip (hK5 _ ?_);refine s_seq λK6 hK6=>?_;refine s_regH 16 (by decide) (by kernel_rfl) (by kernel_rfl) λK7 hK7 G S w0 hst=>?_;refine h_auto TY_ok hst rfl ?_;refine h_op hst (.b (!(false==decide ((([]:List (List UInt8)).length:Int)>0)))) trivial rfl rfl rfl rfl (run_neqBoolW rfl rfl rfl (λ_=>rfl) (λ_=>rfl)) ?_;refine h_is 39 false rfl rfl ?_;refine h_auto TY_ok hst rfl ?_;refine h_end hst ?_;refine s_end (hK7 _ ?_);refine s_no rfl ?_;refine s_skip (hK6 _ ?_);refine s_auto TY_ok rfl ?_;exact s_ret (k_ret TY_ok () rfl (by decide) rfl rfl rfl (λ_ _ _=>trivial) (λ_ _=>trivial))
 ·rw [if_neg h0] at hget
  have hpos:decide ((ks.length:Int)>0)=true:=decide_eq_true (by have:=nG.2 h0;omega);refine s_regA TY_ok rfl λK4 hK4=>?_;refine l_call0 [(prQ W).den,(eY 32 k).den] rfl rfl rfl own_wGet rfl rfl (λ_ _=>rfl) hget (λ_ _ _=>trivial) λ_=>?_;refine l_autoS TY_ok rfl ?_;refine s_end (hK4 _ ?_);refine s_seq λK5 hK5=>?_;refine s_auto TY_ok rfl ?_;refine s_ifD ((0:Int)≠0) rfl (λh=>absurd rfl h) λ_=>?_;refine s_skip (hK5 _ ?_);refine s_seq λK6 hK6=>?_;refine s_regH 16 (by decide) (by kernel_rfl) (by kernel_rfl) λK7 hK7 G S w0 hst=>?_;refine h_auto TY_ok hst rfl ?_;refine h_op hst (.b (!(true==decide ((ks.length:Int)>0)))) trivial rfl rfl rfl rfl (run_neqBoolW rfl rfl rfl (λ_=>rfl) (λ_=>rfl)) ?_;refine h_is 39 false rfl (by rw [hpos];rfl) ?_;refine h_auto TY_ok hst rfl ?_;refine h_callS (F':=λw=>Ta w/\Rd 32 (eY 32) x.A x.c ks w) (r:=.q (eY 32 va)) hst [.slice x.A ks.length x.c] rfl rfl rfl rfl own_hvalue rfl rfl (λ_=>rfl) (eY_ok hv32).1 hval (λ_ _ _ h=>⟨h.fact.2.2.1,h.fact.2.2.2.1⟩) ?_;refine h_auto TY_ok hst rfl ?_;refine h_op hst (.b (!decide (va=va))) trivial rfl rfl rfl rfl (run_neqY rfl rfl rfl Tryz.underlying45 (by kernel_rfl) hv32 hv32) ?_;refine h_is 47 false rfl (by simp) ?_;refine h_auto TY_ok hst rfl ?_;refine h_end hst ?_;refine s_end (hK7 _ ?_);refine s_no rfl ?_;refine s_skip (hK6 _ ?_);refine s_auto TY_ok rfl ?_;exact s_ret (k_ret TY_ok () rfl (by decide) rfl rfl rfl (λ_ _ _=>trivial) (λ_ _=>trivial))
abbrev ansP(l:List EntD)(k:List UInt8):Post AnX:={ ret:=λx=>.q (eAn x (bL l k).length (partD l k).bytes.length),p:=λx w=>Rd 32 (eY 32) x.A x.c (bL l k) w/\Rd 1 eB x.B x.d (partD l k).bytes w }
theorem partD_le{l:List EntD}(h:DirOk l)(hl:l.length<=1000)(k:List UInt8):(partD l k).bytes.length<=1000000:=by
 have h1:=PW.cut_le 256 (d:=0) (ks:=[k]) (pairs_ok h);have h2:(pairsD l).length=l.length:=cH ..;have h3:(70+2*256)*(pairsD l).length<=(70+2*256)*1000:=Nat.mul_le_mul_left _ (by omega)
 unfold partD
 omega
theorem danswer_S{d:DirV}(hd:d.Ok)(hl:d.l.length<=1000){k:List UInt8}(hk:k.length=32):Spec 14 [(eDv d).den,(eY 32 k).den] [] d.F (ansP d.l k):=by
 have hW:=partD_right hd.dir k;have hlen:=partD_le hd.dir hl k;have hke:=dkeys_S hd hk;have hcut:=λA=>wCut_S (A:=A) (c:=1) (pairsD d.l) d.t [k] hd.tree (DirOk.pairs hd.dir).1 (DirOk.pairs hd.dir).2 (by show 1<=1000000;decide) (λx hx=>by rw [aE.1 hx];exact hk);have hcut:∀A,Spec 34 [(eTr d.t 0).den,.slice A 1 1] [] (λw=>TF d.t w/\Rd 32 (eY 32) A 1 [k] w) (one (.q (prQ (partD d.l k)))):=hcut
 unfold ansP
 obtain⟨W,eW⟩:∃W,partD d.l k=W:=⟨_,rfl⟩;obtain⟨ks,eks⟩:∃ks,bL d.l k=ks:=⟨_,rfl⟩;rw [eW] at hW hlen hcut ⊢;rw [eks] at hke ⊢;clear eW eks;refine spec_S [.p d.parts,eY 32 k] 15 Tryz.func14 rfl (by rw [Tryz.ntmps14];rfl) (two_ok d.parts_ok (eY_ok hk).1) λb=>?_;refine s_auto TY_ok rfl ?_;refine s_seq λK hK=>?_;refine s_locs λG=>?_;refine s_anyP [0,1,3,4,5] 10 1 (InvL (withG G [⟨4,none,53,[.one (.v (.slice none 0 0)),.one (.v (.slice none 0 0))]⟩,⟨3,none,45,[.agg 32 (By k).toArray]⟩,⟨2,none,33,d.parts⟩])) (by kernel_rfl) rfl (inv_of withG_is) ?_;refine p_front TY_ok 0 (by kernel_rfl) rfl rfl rfl rfl rfl rfl (λ_ h=>h) ?_;refine p_front TY_ok 1 (by kernel_rfl) rfl rfl rfl rfl rfl rfl (λ_ h=>h) ?_;refine p_front TY_ok 3 (by kernel_rfl) rfl rfl rfl rfl rfl rfl (λ_ h=>h) ?_;refine p_front TY_ok 4 (by kernel_rfl) rfl rfl rfl rfl rfl rfl (λ_ h=>h) ?_;refine p_front TY_ok 5 (by kernel_rfl) rfl rfl rfl rfl rfl rfl (λ_ h=>h) ?_
 let Ef:PX->Option Addr->Env:=λy A=>⟨[(7,.v (.slice y.1 ks.length y.2)),(11,.v (.slice A 1 1)),(9,.p [.agg 2 #[d.t.val,.int .u8 0]]),(4,.a 4 0)],withG G [⟨4,none,53,[.one (.v (.slice none 0 0)),.one (.v (.slice none 0 0))]⟩,⟨3,none,45,[.agg 32 (By k).toArray]⟩,⟨2,none,33,d.parts⟩],[KyS y.1 y.2 ks],λw=>Rd 32 (eY 32) A 1 [k] w/\TF d.t w,λ_=>True⟩
 refine p_step2 2 6 (by kernel_rfl) rfl rfl (λKa hKa=>?pa) λKa hKa=>?pb
 case' pa =>
  refine l_call0 [(eDv d).den,(eY 32 k).den] rfl rfl rfl own_dkeys rfl rfl (λ_ _=>rfl) hke (λ_ h _=>h) λy=>?_;refine s_end (hKa _ (inv_of withG_is) ?_);refine p_step 6 (by kernel_rfl) rfl λKb hKb=>?_;refine l_list (fe:=eY 32) TY_ok 0 [k] rfl rfl rfl rfl rfl (λ_=>rfl) rfl (by decide) (by decide) (λy hy=>by rw [aE.1 hy];exact eY_ok hk) (aQ _) λA=>?_;refine l_free 0 rfl ?_;refine s_end (hKb _ (inv_of withG_is) ?_);refine p_weak (e':=Ef y A) ⟨⟨rfl,rfl,rfl,rfl,trivial⟩,⟨rfl,rfl,rfl,rfl,rfl,rfl,trivial⟩,.refl _,λ_ h _=>⟨h.1,h.2.2.2.2⟩,λ_ _=>trivial⟩ ?_
 case' pb =>
  refine l_list (fe:=eY 32) TY_ok 0 [k] rfl rfl rfl rfl rfl (λ_=>rfl) rfl (by decide) (by decide) (λy hy=>by rw [aE.1 hy];exact eY_ok hk) (aQ _) λA=>?_;refine l_free 0 rfl ?_;refine s_end (hKa _ (inv_of withG_is) ?_);refine p_step 2 (by kernel_rfl) rfl λKb hKb=>?_;refine l_call0 [(eDv d).den,(eY 32 k).den] rfl rfl rfl own_dkeys rfl rfl (λ_ _=>rfl) hke (λ_ h _=>h.2) λy=>?_;refine s_end (hKb _ (inv_of withG_is) ?_);refine p_weak (e':=Ef y A) ⟨⟨rfl,rfl,rfl,rfl,trivial⟩,⟨rfl,rfl,rfl,rfl,rfl,rfl,trivial⟩,.refl _,λ_ h _=>⟨h.2.1,h.2.2.2.2⟩,λ_ _=>trivial⟩ ?_
 all_goals
  refine p_step 7 (by kernel_rfl) rfl λKc hKc=>?_;refine l_call0 [(eTr d.t 0).den,.slice A 1 1] rfl rfl rfl own_wCut rfl rfl (λ_ _=>rfl) (hcut A) (λ_ h _=>⟨h.2,h.1⟩) λ_=>?_;refine s_end (hKc _ (inv_of withG_is) ?_);refine p_step 8 (by kernel_rfl) rfl λKd hKd=>?_;refine l_call0 [(prQ W).den] rfl rfl rfl own_wBytes rfl rfl (λ_ _=>rfl) (wBytes_S hW.good hlen) (λ_ _ _=>trivial) λz=>?_;refine s_end (hKd _ (inv_of withG_is) ?_);refine p_step 9 (by kernel_rfl) rfl λKe hKe=>?_;refine l_autoS TY_ok rfl ?_;refine s_end (hKe _ (inv_of withG_is) ?_);refine p_tail [10] (by kernel_rfl) rfl ?_;refine l_autoS TY_ok rfl ?_;refine l_free 0 rfl (l_free 0 rfl ?_);refine s_end (hK _ ?_);exact s_ret (k_ret TY_ok (⟨y.1,y.2,z.1,z.2⟩:AnX) rfl (by decide) rfl rfl rfl (λ_ h _=>⟨h.1,h.2.1⟩) (λ_ _=>trivial))
end Go.Proofs.YtlhlkofpjhpaoaaGreatDoor
namespace Nums
def sD:Tri:=⟨0,1,1⟩
def sE:Tri:=⟨bx,bY,1⟩
theorem tC:fM sD Ed.zero:=by
 unfold fM sD
 rw [j8,fQ];exact Ed.Rep.zero cX
theorem tD:fM sE base:=by
 unfold fM sE
 rw [fQ]
 have e:∀u:F,u=u*1:=λu=>by grind only
 exact⟨λh=>lD cX h.symm,e _,e _⟩
theorem uS(n:Nat)(hn:n<2^256):fM (lB 256 n sD sE) (Ed.mul dd n base):=by
 have h:=kI 256 n sD sE Ed.zero base hn Ed.jR fO tC tD
 rwa [Ed.zero_add good] at h
def rD(t:Tri)(zi:Nat):List UInt8:=forced (t.y*zi%p) λy=>forced (t.x*zi%p%2) λo=>bytes 32 (y+57896044618658097711785492504343953926634992332820282019728792003956564819968*o)
theorem vG{t:Tri}{A:Ed.Pt p}(h:fM t A){zi:Nat}(hz:t.z*zi%p=1):dX A=rD t zi:=by
 have h1:fof t.z*fof zi=1:=by
  rw [<-dM,<-fQ];exact iK (by rw [hz];decide)
 have hf:fL (fof t.z)=fof zi:=pT cX h1;have ha:=h.aff cX;rw [hf,<-dM,<-dM] at ha
 unfold rD
 simp only [fP];rw [dX,mU,<-ha.1,<-ha.2,jS,jS]
end Nums
namespace Go.Proofs.YtlhlkofpjhpaoaaGreatDoor
open Nums
def powK:Nat->Nat->Nat->Nat->Nat
  | 0,_,_,a=>a
  | f+1,b,e,a=>forced (b*b%p) λb2=>forced (if e%2=1 then a*b%p else a) λa2=>powK f b2 (e/2) a2
def keyZ(n:Nat)(t:Tri)(zi:Nat):Option (List UInt8):=if decide (n<2^256)&&decide (t.z*zi%p=1) then some (rD t zi) else none
def keyT(n:Nat)(t:Tri):Option (List UInt8):=forced (powK 255 t.z (p-2) 1) (keyZ n t)
def keyK(seed:List UInt8):Option (List UInt8):=forced (le (lH ((jT dC 1 seed).take 32))) λn=>keyT n (lB 256 n sD sE)
theorem keyZ_ok{n zi:Nat}{t:Tri}{k:List UInt8}(ht:lB 256 n sD sE=t)(h:keyZ n t zi=some k):dX (Ed.mul dd n base)=k:=by
 unfold keyZ at h
 split at h
 ·rename_i hc
  rw [Bool.and_eq_true] at hc
  injection h with h
  rw [<-h];exact vG (ht▸uS n (of_decide_eq_true hc.1)) (of_decide_eq_true hc.2)
 ·cases h
theorem ab_is{seed:List UInt8}(hs:seed.length=32):le (jL seed)=le (lH ((jT dC 1 seed).take 32)):=by
 rw [jL,sgD,lU 1 seed (by decide) (by decide) (by rw [aC,hs];decide +kernel)]
theorem key_is{seed k:List UInt8}(hs:seed.length=32)(h:keyK seed=some k):eQ seed=k:=by
 rw [keyK,fP] at h;rw [eQ,ab_is hs];generalize le (lH ((jT dC 1 seed).take 32))=n at *;rw [keyT,fP] at h;exact keyZ_ok rfl h
theorem key_all{seed:List UInt8}(hs:seed.length=32)(h:(keyK seed).isSome=true):eQ seed=(keyK seed).getD []:=by
 cases hk:keyK seed with
 | none=>rw [hk] at h;cases h
 | some k=>exact key_is hs hk
theorem key_head{seed:List UInt8}{x:UInt8}(hs:seed.length=32)(h:(keyK seed).bind List.head?=some x):(eQ seed).head?=some x:=by
 cases hk:keyK seed with
 | none=>rw [hk] at h;cases h
 | some k =>
  rw [hk] at h;rw [key_is hs hk];exact h
end Go.Proofs.YtlhlkofpjhpaoaaGreatDoor
namespace Go.Proofs.YtlhlkofpjhpaoaaGreatDoor
open Go.RowKit Go.IntWalk Nums
section
variable{ro:Option Nat}{n:Nat}{b:Base}{ops:Array Oper}{Q:Exit->Act->World->Prop}{N:Nat}{e e':Env}{E:SE}{L:List LV}{R1 R':List Res}{F M:World->Prop}{l:List Oper}
theorem t_star(h:tS ro n b ops Q N l ⟨E,L,StarR R1::R',F,M⟩):tS ro n b ops Q N l ⟨E,L,R1++R',F,M⟩:=λa w ⟨G,S,h1,h2,h3⟩=>h a w ⟨G,S,h1,h2,{ h3 with res:=starR.2 h3.res }⟩
theorem t_weak(hw:Weak e e')(h:tS ro n b ops Q N l e'):tS ro n b ops Q N l e:=λa w hs=>h a w (hs.weak hw)
end
theorem own_dall:Own 21:=λ_ _=>by go_simp
theorem own_dall1:Own 43:=λ_ _=>by go_simp
theorem dall_S(d:DirV):Spec 21 [(eDv d).den] [] (λ_=>True) { ret:=λg:Nat=>.v (.func (.func 43) #[] #[.pointer (some ⟨g,0,none⟩)]),own:=λ_=>[],p:=λg=>ObjF g 33 d.parts }:=by
 refine spec_S [.p d.parts] 4 Tryz.func21 rfl (by rw [Tryz.ntmps21];rfl) (one_ok d.parts_ok) λb=>?_;refine s_regA TY_ok rfl λK hK=>?_;refine l_give 1 (E':=[]) rfl trivial λg=>?_;refine l_objOut 0 rfl ?_;refine s_end (hK _ ?_);refine s_regA TY_ok rfl λK2 hK2=>?_;refine l_op (.v (.func (.func 43) #[] #[.pointer (some ⟨g,0,none⟩)])) trivial rfl rfl rfl (run_makeF rfl rfl (λ_=>rfl)) ?_;refine l_autoS TY_ok rfl ?_;refine s_end (hK2 _ ?_);exact s_ret (k_ret TY_ok g rfl (by decide) rfl rfl rfl (λ_ h _=>h.1) (λ_ _=>trivial))
theorem pairs_at{l:List EntD}{j:Nat}{p:PairT}(h:(pairsD l)[j]?=some p):∃e,l[j]?=some e/\p.1=e.1:=by
 unfold pairsD at h
 rw [nR] at h
 cases he:l[j]? with
 | none=>rw [he] at h;cases h
 | some e =>
  rw [he] at h
  injection h with h
  exact⟨e,rfl,by rw [<-h];rfl⟩
theorem keysD_at{l:List EntD}(h:DirOk l){j:Nat}{e:EntD}(he:l[j]?=some e):bL l e.1=e.2:=oJ (h.sort.imp λhab e=>by
 rw [e,cE] at hab
 cases hab) (a6 he)
theorem dall1_S(l gb:Nat)(Fy:World->Prop)(JR:Nat->Res)(JX:Res){d:DirV}(hd:d.Ok)(hy:∀(j:Nat) (e:EntD) (y:PX),d.l[j]?=some e->YSpec l [(eY 32 e.1).den,.slice y.1 e.2.length y.2] Fy (StarR ([KyS y.1 y.2 e.2]++[JR j])) (JR (j+1)) JX) :
  Spec 43 [.func (.yield l) #[] #[],.pointer (some ⟨gb,0,none⟩)] [JR 0] (λw=>(ObjF gb 33 d.parts w/\d.F w)/\Fy w) (epost (JR d.l.length) JX):=by
 refine spec_D [.c (.v (.func (.yield l) #[] #[])),.c (.v (.pointer (some ⟨gb,0,none⟩)))] 16 Tryz.func43 rfl (by rw [Tryz.ntmps43];rfl) (two_ok trivial trivial) λb=>?_;have hall:d.t.all=pairsD d.l:=hd.tree.all_eq (DirOk.pairs hd.dir).1 (DirOk.pairs hd.dir).2 shares0 (aH _);have hplen:(pairsD d.l).length=d.l.length:=cH ..;refine d_auto TY_ok rfl ?_;refine d_regA TY_ok rfl λK hK=>?_;refine l_autoS TY_ok rfl ?_;refine l_ldO TY_ok rfl rfl rfl rfl rfl rfl (obj_fact λ_ h _=>h.1.1) ?_;refine l_call0 [(eTr d.t 0).den] rfl rfl rfl own_tAll rfl rfl (λ_ _=>rfl) (tAll_S d.t 0) (λ_ _ _=>trivial) λgt=>?_;refine d_end (hK _ ?_);refine d_block ?_
 let E0:SE:=[(6,.v (.func (.func 65) #[] #[.pointer (some ⟨gt,0,none⟩)])),(2,.a 2 0),(1,.v (.pointer (some ⟨gb,0,none⟩)))]
 let Lf:Option Nat->List LV:=λ_=>[⟨2,none,104,[.one (.v (.func (.yield l) #[] #[]))]⟩]
 let Rf:Option Nat->List Res:=λs=>match s with
  | some j=>[JR j]
  | none=>[JX]
 refine d_weak (e':=⟨E0,Lf (some 0),Rf (some 0),λw=>(ObjF gt 31 (trPs d.t 0) w/\TF d.t w)/\(ObjF gb 33 d.parts w/\d.F w)/\Fy w,λ_=>True⟩) ⟨⟨rfl,rfl,rfl,trivial⟩,⟨rfl,rfl,trivial⟩,.refl _,λ_ h _=>⟨⟨h.1,h.2.1.2.2.2⟩,h.2⟩,λ_ _=>trivial⟩ ?_;refine d_range (pairsD d.l) (λp=>eY 32 p.1) (λp=>eY 32 p.2) Lf Rf (λj s=>s=some j) (λc s=>c=none/\s=none) (some 0) (λw=>ObjF gt 31 (trPs d.t 0) w/\TF d.t w) (lb:=[.pointer (some ⟨gt,0,none⟩)]) rfl own_tAll1 (λ_=>rfl) (λx hx=>⟨(eY_ok (pairs_ok hd.dir x hx).1).1,(eY_ok (pairs_ok hd.dir x hx).2).1⟩) rfl rfl (λ_ h _=>h.1) (λy Fz JR2 JX2 hz=>?_) rfl ?_ ?_ ?_
 ·have:=tAll1_S y gt Fz JR2 JX2 d.t (by rw [hall];exact hz)
  rw [hall] at this;exact this
 ·rintro G y D m ready busy b1 j s p rfl hp K6 hK6
  obtain⟨e,he,hpe⟩:=pairs_at hp;have hid:=hd.dir.ids e (a6 he);have hke:=dkeys_S hd hid;rw [keysD_at hd.dir he] at hke;refine r_lit rfl ?_;refine l_autoS TY_ok rfl ?_;refine s_end (k_give 3 rfl (E':=[(2,.a 2 0),(1,.v (.pointer (some ⟨gb,0,none⟩)))]) ⟨rfl,rfl,trivial⟩ λg3=>k_objOut 0 rfl (hK6 _ _ _ _ _ ?_));refine r_block ?_;refine r_seq λK7 hK7=>?_;refine r_anyP [0,1,2,3] 5 2 (λw=>InvL [⟨2,some (G 2),104,[.one (.v (.func (.yield l) #[] #[]))]⟩] w/\ObjF gb 33 d.parts w/\ObjF g3 45 [.agg 32 (By p.1).toArray] w) (by kernel_rfl) rfl rfl (inv_two (λx hx=>⟨hx,by rw [aE.1 hx];rfl⟩) λ_ h _=>⟨h.2.1.2.1.1,h.1⟩) ?_;have hp32:=(pairs_ok hd.dir p (a6 hp)).1;have hok3:OkP [.agg 32 (By p.1).toArray]:=(eY_ok hp32).1;refine p_frontA (L0:=[⟨2,some (G 2),104,[.one (.v (.func (.yield l) #[] #[]))]⟩]) (.v (.func (.yield l) #[] #[])) trivial 0 (by kernel_rfl) rfl rfl rfl rfl rfl (λ_ h=>h) (λ_ h=>h.1) (runO_ldL _ rfl rfl rfl rfl Tryz.underlying104 rfl) ?_;refine p_ldO TY_ok 1 (by kernel_rfl) rfl rfl rfl rfl rfl rfl rfl hok3 (λ_ h=>h.2.2) ?_;refine p_ldO TY_ok 2 (by kernel_rfl) rfl rfl rfl rfl rfl rfl rfl d.parts_ok (λ_ h=>h.2.1) ?_;refine p_ldO TY_ok 3 (by kernel_rfl) rfl rfl rfl rfl rfl rfl rfl hok3 (λ_ h=>h.2.2) ?_;refine p_step 4 (by kernel_rfl) rfl λK8 hK8=>?_;refine l_call0 [(eDv d).den,(eY 32 e.1).den] rfl rfl rfl own_dkeys rfl rfl (λ_ _=>by rw [<-hpe];rfl) hke (λ_ h _=>h.2.1.2.1.2) λx=>?_;refine s_end (hK8 _ (inv_two (λx hx=>⟨hx,by rw [aE.1 hx];rfl⟩) λ_ h _=>⟨h.2.2.1.2.1.1,h.2.1⟩) ?_);refine p_tailR [5,6] (by kernel_rfl) rfl ?_;refine t_weak (e':=⟨[(9,.v (.func (.yield l) #[] #[])),(10,.q (eY 32 p.1)),(13,.v (.slice x.1 e.2.length x.2)),(2,.a 2 0)],[⟨2,some (G 2),104,[.one (.v (.func (.yield l) #[] #[]))]⟩],[KyS x.1 x.2 e.2,JR j]++[LoopR y busy,DefR D],Fy,λ_=>True⟩) ⟨⟨rfl,rfl,rfl,rfl,trivial⟩,⟨rfl,rfl,trivial⟩,?_,λ_ h _=>h.2.2.1.2.2,λ_ _=>trivial⟩ (t_star ?_)
  ·exact(List.Perm.cons _ (o8 (l₁:=[LoopR y busy,DefR D]) (a:=JR j) (l₂:=[])))
  refine t_yield (R':=[LoopR y busy,DefR D]) [(eY 32 e.1).den,.slice x.1 e.2.length x.2] rfl rfl rfl rfl rfl rfl (λ_=>by rw [<-hpe];rfl) (hy j e x he) (λ_ h _=>h) λt=>?_;refine t_list rfl ?_
  cases t with
  | true =>
   refine l_autoS TY_ok rfl ?_;refine s_end (hK7 _ ?_);refine r_no rfl ?_;exact r_skip (k_rnd (Ix:=λc s=>c=none/\s=none) (some (j+1)) rfl ⟨trivial,⟨rfl,rfl,trivial⟩,(o8 (l₁:=[LoopR y busy,DefR D]) (a:=JR (j+1)) (l₂:=[])).symm,λ_ _ _=>trivial,λ_ _=>trivial⟩)
  | false =>
   refine l_autoS TY_ok rfl ?_;refine s_end (hK7 _ ?_);refine r_yes rfl ?_;exact r_ret (k_jump (I:=λs=>s=some (j+1)) (Ix:=λc s=>c=none/\s=none) none none ⟨rfl,rfl⟩ ⟨trivial,⟨rfl,rfl,trivial⟩,(o8 (l₁:=[LoopR y busy,DefR D]) (a:=JX) (l₂:=[])).symm,λ_ _ _=>trivial,λ_ _=>trivial⟩)
 ·rintro s D rfl
  rw [hplen];exact k_retM [D] (R:=[JR d.l.length]) (k_ret TY_ok true rfl (by decide) rfl rfl rfl (λ_ _ _=>trivial) (λ_ _=>trivial))
 ·rintro c s D ⟨rfl,rfl⟩
  exact d_ret (k_retM [D] (R:=[JX]) (k_ret TY_ok false rfl (by decide) rfl rfl rfl (λ_ _ _=>trivial) (λ_ _=>trivial)))
abbrev EnX:=List UInt8×HSeg
structure DocV where
  ep:Int
  A:Option Addr
  c:Nat
  es:List EnX
theorem nextI(i n:Nat)(h:n<=9223372036854775807)(hi:i<n):some (SV.v (.int .i64 (IntKind.i64.wrap ((i:Int)+1))))=some (SV.v (.int .i64 ((i+1:Nat):Int))):=by rw [wrapI (m:=(i:Int)+1) (r:=((i+1:Nat):Int)) (by omega) (by omega) (by omega)]
theorem told_rd{z:PX}{l:List (List UInt8)}{w:World}(h:∃y:PX,(RV.v (.slice z.1 l.length z.2)).den=(RV.v (.slice y.1 l.length y.2)).den/\Rd 32 (eY 32) y.1 y.2 l w):Rd 32 (eY 32) z.1 z.2 l w:=by
 obtain⟨y,h1,h2⟩:=h;have h1:Value.slice z.1 l.length z.2 = .slice y.1 l.length y.2:=h1
 injection h1 with e1 _ e2
 rw [e1,e2];exact h2
def hB(x:UInt8):List UInt8:=x::aA 31 0
def hB2(x y:UInt8):List UInt8:=x::y::aA 30 0
theorem uv_cells(u:UV):(catP u.parts).toList=By u.id++(.int .i64 u.ver::(By u.key++By u.sig)):=by
 show(catP [Pt.agg 32 (By u.id).toArray,.one (.v (.int .i64 u.ver)),.agg 32 (By u.key).toArray,.agg 64 (By u.sig).toArray]).toList=_
 rw [catP_cons,catP_cons,catP_cons,catP_cons]
 simp [Pt.cells,catP,SC.den]
theorem own_first12:Own 7:=λ_ _=>by go_simp
theorem val_first:valH [hB 2]=jT cO 1 ([[2],be8 1,jT cO 2 ([[3],zH,hB 2]:List (List UInt8)).flatten]:List (List UInt8)).flatten:=by
 have h1:dH [hB 2]=jT cO 2 ([[3],zH,hB 2]:List (List UInt8)).flatten:=lU (s:=cO) 2 _ (by decide) (by decide) (by decide +kernel)
 unfold valH
 rw [h1];exact lU (s:=cO) 1 _ (by decide) (by decide) (by decide +kernel)
theorem root_first:eX 256 (pairsD [(eQ (hB 1),[hB 2])])≠dF:=by
 show iB (eQ (hB 1),valH [hB 2])≠dF
 rw [key_all (seed:=hB 1) rfl (by decide +kernel),val_first,iB,lU (s:=cO) 2 _ (by decide) (by decide) (by decide +kernel)]
 decide +kernel
section
variable{b:Base}{ops:Array Oper}{Q:Exit->Act->World->Prop}{N:Nat}{G:Nat->Nat}{S:Nat->Prop}{E:SE}{L:List LV}{R:List Res}{F M:World->Prop}{w0:World}{T':List Oper}{Fa:Told}{i k:Nat}{o:Oper}{rest:List (Nat×Oper)}
theorem h_buildY{t:TypeId}{parts:Array (Nat×Operand)}(vs:List (Nat×SC))(n:Nat)(l:List UInt8)(hst:StW b G S L R F M w0)(hf:farP i Fa=true)(hg:o.guard=none)(hd:o.dst=some k)(hk:Nat.blt k N=true)(ho:o.op = .build t parts)(hv:parts.toList.map (λp=>(p.1,evS E p.2))=vs.map (λx=>(x.1,some (.q (.c x.2)))))
 (hb:Tryz.prog.built t (vs.map λx=>(x.1,x.2.den))=some (By l).toArray)(hl:l.length=n)(hn:hS Tryz.prog ops Q N T' G w0 rest ((k,.q (eY n l))::E) Fa):hS Tryz.prog ops Q N T' G w0 ((i,o)::rest) E Fa :=
 h_f hst (.q (eY n l)) (eY_ok hl).1 hf (λ_ _ _ hQ=>f_build _ _ hg hd hk ho (parts_den _ _ hv) hb hQ) hn
end
theorem told_an{x:AnX}{n m:Nat}{p:AnX->World->Prop}{w:World}(h:∃y,(RV.q (eAn x n m)).den=(RV.q (eAn y n m)).den/\p y w):p x w:=by
 obtain⟨y,h1,h2⟩:=h;have h1:Value.agg #[.slice x.A n x.c,.slice x.B m x.d] = .agg #[.slice y.A n y.c,.slice y.B m y.d]:=h1
 have e:x=y:=by
  obtain⟨a,b,c,d⟩:=x;obtain⟨a',b',c',d'⟩:=y
  injection h1 with h1
  have h3:=congrArg Array.toList h1
  injection h3 with h4 h5
  injection h5 with h5 _
  injection h4 with e1 _ e2
  injection h5 with e3 _ e4
  subst e1 e2 e3 e4
  rfl
 rw [e];exact h2
theorem first12_S:Spec 7 [] [] Ta (one (.v (.bool true))):=by
 have hm:=hmake_S (seed:=hB 1) (key:=hB 2) 1 rfl rfl;have hsb:signB (mkH (hB 1) 1 (hB 2))=true:=signB_made _ _ _;have hok:(mkH (hB 1) 1 (hB 2)).Ok:=mkH_ok _ _ rfl;have hid:(mkH (hB 1) 1 (hB 2)).id=eQ (hB 1):=rfl;have hver:(mkH (hB 1) 1 (hB 2)).ver=1:=rfl;have hkey:(mkH (hB 1) 1 (hB 2)).key=hB 2:=rfl;have hrf:=root_first;rw [<-hid] at hrf;generalize mkH (hB 1) 1 (hB 2)=u at *
 have hap:fE [] ([u].map udH)=[(u.id,[hB 2])]:=by
  show g9 [] (udH u)=_
  rw [step_ok (l:=[]) ⟨hsb,by rw [hver];rfl⟩,hkey]
  rfl
 refine spec_S [] 48 Tryz.func7 rfl (by rw [Tryz.ntmps7];rfl) (λ_ h=>by cases h) λb=>?_;refine s_auto TY_ok rfl ?_;refine s_regA TY_ok rfl λK1 hK1=>?_;refine l_buildY [(0,.v (.int .u8 1))] 32 (hB 1) rfl rfl rfl rfl rfl rfl rfl ?_;refine l_autoS TY_ok rfl ?_;refine l_buildY [(0,.v (.int .u8 2))] 32 (hB 2) rfl rfl rfl rfl rfl rfl rfl ?_;refine l_call0 [.agg (By (hB 1)).toArray,.int .i64 1,.agg (By (hB 2)).toArray] rfl rfl rfl own_hmake rfl rfl (λ_ _=>rfl) hm (λ_ h _=>h) λ_=>?_;refine l_autoS TY_ok rfl ?_;refine s_end (hK1 _ ?_);refine s_regA TY_ok rfl λK2 hK2=>?_;refine l_list TY_ok 0 [u] (fe:=eU) rfl rfl rfl rfl rfl (λ_=>rfl) rfl (by decide) (by decide) (λy hy=>by rw [aE.1 hy];exact eU_ok hok) (aQ _) λB=>?_;refine l_free 0 rfl ?_;refine l_call0 [(eDv zDirV).den,.slice B [u].length 1] rfl rfl rfl own_dapply rfl rfl (λ_ _=>rfl) (dapply_S zDirV_ok (us:=[u]) (λy hy=>by rw [aE.1 hy];exact hok) (by show 0+1<=1000;decide)) (λw h _=>⟨h.2.2,zDirV_F w,h.1⟩) λd=>?_;refine l_autoS TY_ok rfl ?_;refine l_pure (d.Ok/\d.ep=IntKind.i64.wrap (0+1)/\d.l=fE [] ([u].map udH)) (λ_ h _=>⟨h.1.2.1,h.1.2.2⟩) λ⟨hd,hep,hl⟩=>?_;rw [hap] at hl;have hep:d.ep=1:=hep
 have hk1:bL d.l u.id=[hB 2]:=by rw [hl,cK,if_pos rfl]
 have hke:=(dkeys_S hd hok.id).tell;have hdr:=droot_S hd
 have hr32:(eX 256 (pairsD d.l)).length=32:=by rw [<-hd.tree.root];exact d.t.root_len
 have han:=danswer_S hd (by rw [hl];show 1<=1000;decide) hok.id;have hri:=dright_S hd.dir hd.small hok.id;rw [<-hl] at hrf
 unfold ansP at han
 rw [hk1] at hke han hri;generalize partD d.l u.id=W at *;generalize eX 256 (pairsD d.l)=rt at *;refine s_end (hK2 _ ?_);refine s_regA TY_ok rfl λK3 hK3=>?_;refine l_call0 [(eDv d).den,(eY 32 u.id).den] rfl rfl rfl own_dkeys rfl rfl (λ_ _=>rfl) hke (λ_ h _=>h.1.1) λz=>?_;refine l_autoS TY_ok rfl ?_
 refine l_pure (∃g o,z.1=some ⟨g,o,none⟩) (λ_ h _=>by
  obtain⟨g,o,e,_⟩:=h.1.2.2.2.2 (by decide)
  exact⟨g,o,e⟩) λ⟨g,o,hz⟩=>?_
 refine s_end (k_weak (e':=⟨[(3,.v (.slice (some ⟨g,o,none⟩) 1 z.2)),(2,.a 2 0),(1,.a 1 0)],[⟨2,none,33,d.parts⟩,⟨1,none,76,u.parts⟩],[],λw=>Rd 32 (eY 32) (some ⟨g,o,none⟩) z.2 [hB 2] w/\d.F w/\Ta w,λ_=>True⟩) ⟨⟨by rw [<-hz];rfl,rfl,rfl,trivial⟩,⟨rfl,rfl,rfl,rfl,trivial⟩,.refl _,λ_ h _=>⟨by rw [<-hz];exact h.1,h.2.1.1,h.2.2.2.2⟩,λ_ _=>trivial⟩ (hK3 _ ?_));refine s_regH 33 (by decide) (by kernel_rfl) (by kernel_rfl) λK4 hK4 G S w0 hst=>?_;refine h_auto TY_ok hst rfl ?_;refine h_callS (F':=λ_=>True) (r:=.v (.int .i64 d.ep)) hst [(eDv d).den] rfl rfl rfl rfl own_depoch rfl rfl (λ_=>rfl) trivial (depoch_S d) (λ_ _ _ _=>trivial) ?_;refine h_auto TY_ok hst rfl ?_;refine h_is 18 true rfl (by rw [hep];rfl) ?_;refine h_auto TY_ok hst rfl ?_;refine h_is 23 true rfl rfl ?_;refine h_auto TY_ok hst rfl ?_;refine h_op hst (.v (.pointer (some ⟨g,o+32*0,none⟩))) trivial rfl rfl rfl rfl (runO_ixS 0 rfl Tryz.underlying43 rfl rfl rfl (by decide)) ?_;refine h_auto TY_ok hst rfl ?_;have hb2:OkP (eY 32 (hB 2)).parts1:=(eY_ok (n:=32) (l:=hB 2) rfl).1;refine h_opV hst (.q (eY 32 (hB 2))) hb2 rfl rfl rfl rfl (run_ldEl (k':=32) (c:=z.2) (j:=0) (off:=0) (g:=g) (a:=o) (fe:=eY 32) (l:=[hB 2]) TY_ok rfl rfl rfl rfl hb2 (rd_fact λ_ h _=>h.1)) ?_;refine h_auto TY_ok hst rfl ?_;refine h_buildY [(0,.v (.int .u8 2))] 32 (hB 2) hst rfl rfl rfl rfl rfl rfl rfl rfl ?_;refine h_auto TY_ok hst rfl ?_;refine h_op hst (.b (decide (hB 2=hB 2))) trivial rfl rfl rfl rfl (run_eqY rfl rfl rfl Tryz.underlying45 (by kernel_rfl) rfl rfl) ?_;refine h_is 28 true rfl (by simp) ?_;refine h_auto TY_ok hst rfl ?_;refine h_callS (F':=d.F) (r:=.q (eY 32 rt)) hst [(eDv d).den] rfl rfl rfl rfl own_droot rfl rfl (λ_=>rfl) (eY_ok hr32).1 hdr (λ_ _ _ h=>h.fact.2.1) ?_;refine h_auto TY_ok hst rfl ?_;refine h_op hst (.b (!decide (rt=dF))) trivial rfl rfl rfl rfl (run_neqY rfl rfl rfl Tryz.underlying45 (by kernel_rfl) hr32 rfl) ?_;refine h_is 34 true rfl (by simp [hrf]) ?_;refine h_auto TY_ok hst rfl ?_;refine h_callS (F':=d.F) (r:=.q (eY 32 rt)) hst [(eDv d).den] rfl rfl rfl rfl own_droot rfl rfl (λ_=>rfl) (eY_ok hr32).1 hdr (λ_ _ _ h=>h.fact.2.1) ?_;refine h_auto TY_ok hst rfl ?_;refine h_callE (F':=d.F) hst [(eDv d).den,(eY 32 u.id).den] rfl rfl rfl rfl own_danswer rfl rfl (λ_=>rfl) han (λw hv _=>hv.fact.2.1) λx _=>?_;refine h_auto TY_ok hst rfl ?_;refine h_callE (F':=λw=>Ta w/\Rd 32 (eY 32) x.A x.c [hB 2] w/\Rd 1 eB x.B x.d W.bytes w) (post:=one (.v (.int .i64 0))) hst [(eY 32 rt).den,(eY 32 u.id).den,(eAn x [hB 2].length W.bytes.length).den] rfl rfl rfl rfl own_dright rfl rfl (λ_=>rfl) (hri x) (λw hv hu=>⟨hv.fact.2.2,told_an (p:=λy w=>Rd 32 (eY 32) y.A y.c [hB 2] w/\Rd 1 eB y.B y.d W.bytes w) (hu 29 _ rfl (by kernel_rfl))⟩) λ_ _=>?_
 refine h_auto TY_ok hst rfl ?_;refine h_is 47 true rfl rfl ?_;refine h_end hst ?_;refine l_autoS TY_ok rfl ?_;refine s_end (hK4 _ ?_);exact s_ret (k_ret TY_ok () rfl (by decide) rfl rfl rfl (λ_ _ _=>trivial) (λ_ _=>trivial))
theorem own_batches12:Own 8:=λ_ _=>by go_simp
structure AcV where
  who:Int
  ver:Int
  key:Int
  wr:Bool
  cut:Bool
def AcV.parts(a:AcV):List Pt:=[.one (.v (.int .i64 a.who)),.one (.v (.int .i64 a.ver)),.one (.v (.int .i64 a.key)),.one (.b a.wr),.one (.b a.cut)]
abbrev eAc(a:AcV):SQ:=.p a.parts
structure BaV where
  A:Option Addr
  c:Nat
  B:Option Addr
  d:Nat
  l:List UV
def eUs(p:BaV):SQ:=.c (.v (.slice p.A p.l.length p.c))
def eGs(p:BaV):SQ:=.c (.v (.slice p.B p.l.length p.d))
theorem eUs_ok(p:BaV):OkP (eUs p).parts1/\(eUs p).cl.length=1:=⟨λx hx=>by rw [aE.1 hx];exact⟨trivial,rfl,rfl⟩,rfl⟩
theorem eGs_ok(p:BaV):OkP (eGs p).parts1/\(eGs p).cl.length=1:=⟨λx hx=>by rw [aE.1 hx];exact⟨trivial,rfl,rfl⟩,rfl⟩
def BaV.rd(p:BaV)(w:World):Prop:=Rd 129 eU p.A p.c p.l w/\Rd 1 eT p.B p.d (p.l.map signB) w
instance baPst{p:BaV}:Pst p.rd:=⟨λ_ _ h hb=>⟨h.1.later hb,h.2.later hb⟩⟩
def GoodU(u:UV):Prop:=u.Ok/\∃w:Nat,w<4/\u.id=eQ (hB2 (bD w) 77)
abbrev allB(ps:List BaV):List UV:=(ps.map (·.l)).flatten
theorem allB_next(ps:List BaV)(p:BaV):allB (ps++[p])=allB ps++p.l:=by simp [allB]
abbrev TC:MapT Int Int:={ t:=72,kt:=3,vt:=3,kv:=eI,vv:=eI }
abbrev okI(n:Int):Prop:=(Lit.int .i64 n).wf=true
theorem TC_ok:TC.Ok okI:=mapI_ok Tryz.underlying72 Tryz.underlying3 rfl
theorem zeroI:∀w,(zeroValue TC.vt).run Tryz.prog w = .ok (TC.V 0) w:=λw=>by
 have hi:(Tryz.prog.info? 3).bind (·.zero)=some (.int .i64 0):=by kernel_rfl
 unfold zeroValue typeInfo
 cases h:Tryz.prog.info? 3 with
 | none=>rw [h] at hi;cases hi
 | some i =>
  rw [h] at hi;have hi:i.zero=some (.int .i64 0):=hi
  simp [h,hi]
  rfl
theorem runO_count{N:Nat}{E:SE}{L:List LV}{R:List Res}{F M:World->Prop}{o:Oper}{x y:Operand}{m n:Nat}{f:Int->Option Int}(hA:∀G S w,View G S L R F M w->MapA TC okI m n f w)(k:Int)(hk:okI k)(ho:o.op = .lookup TC.t x y false)(hx:evS E x=some (.v (.map (some m))))(hy:evS E y=some (.q (eI k))) :
  ∀(G:Nat->Nat) (S:Nat->Prop) (a:Act) (w:World),Fr N (denE G E) a->View G S L R F M w->(execOp a.eval o).run Tryz.prog w = .ok (.value ((SV.q (eI ((f k).getD 0))).den G)) w:=by
 cases hs:f k with
 | none=>exact runO_noneA TC_ok hA k 0 hk hs zeroI ho hx hy
 | some s=>exact runO_lookA TC_ok hA k s hk hs ho hx hy
theorem xor_b2(a:UInt8):∃y:UInt8,bits .xor .u8 (a.toNat:Int) 2=(y.toNat:Int):=by
 have key:∀m:Nat,m<256->0<=bits .xor .u8 (m:Int) 2/\bits .xor .u8 (m:Int) 2<256:=by decide +kernel
 exact⟨bD (bits .xor .u8 (a.toNat:Int) 2).toNat,by have:=key a.toNat a.toNat_lt;rw [iE];omega⟩
theorem uv_atJ{u:UV}(hu:u.Ok){j:Nat}{s:UInt8}(hs:u.sig[j]?=some s):(catP u.parts)[65+j]?=some (.int .u8 (s.toNat:Int)):=by
 rw [<-Array.getElem?_toList,uv_cells,cD (by rw [By_len,hu.id];omega),By_len,hu.id,show 65+j-32=32+j+1 by omega,List.getElem?_cons_succ,cD (by rw [By_len,hu.key];omega),By_len,hu.key,g6]
 show(u.sig.map λx=>Value.int .u8 (x.toNat:Int))[j]?=_
 rw [nR,hs]
 rfl
theorem uv_setJ{u:UV}(hu:u.Ok)(j:Nat)(y:UInt8):(catP ({ u with sig:=u.sig.set j y }:UV).parts).toList=(catP u.parts).toList.set (65+j) (.int .u8 (y.toNat:Int)):=by
 rw [uv_cells,uv_cells,gA _ _ (by rw [By_len,hu.id];omega),By_len,hu.id,show 65+j-32=32+j+1 by omega,List.set_cons_succ,gA _ _ (by rw [By_len,hu.key];omega),By_len,hu.key,g6]
 show _++_::(_++(u.sig.set j y).map _)=_++_::(_++(u.sig.map _).set j _)
 rw [List.map_set]
structure BtS where
  i:Nat
  ps:List BaV
  X:KX
  Y:KX
  l:List UV
  U:KX
  V:KX
  n:Nat
  f:Int->Option Int
structure BtI(k:Nat)(s:BtS):Prop where
  i:s.i<=k
  i12:s.i<=12
  tot:(allB s.ps).length+s.l.length<=s.i
  num:s.ps.length<=s.i
  good:∀u∈allB s.ps,GoodU u
  goodl:∀u∈s.l,GoodU u
structure BtX where
  ps:List BaV
  X:KX
  Y:KX
structure BtX.Ok(x:BtX):Prop where
  tot:(allB x.ps).length<=12
  num:x.ps.length<=13
  good:∀u∈allB x.ps,GoodU u
def BtX.F(x:BtX)(w:World):Prop:=Rd 1 eUs x.X.1 x.X.2 x.ps w/\Rd 1 eGs x.Y.1 x.Y.2 x.ps w/\∀p∈x.ps,p.rd w
theorem batches12_S{A:Option Addr}{c:Nat}(acts:List AcV):Spec 8 [.slice A acts.length c] [] (λw=>Ta w/\Rd 5 eAc A c acts w) { ret:=λx:{ x:BtX // x.Ok }=>.t [.c (.v (.slice x.1.X.1 x.1.ps.length x.1.X.2)),.c (.v (.slice x.1.Y.1 x.1.ps.length x.1.Y.2))],p:=λx=>x.1.F }:=by
 refine spec_S [.c (.v (.slice A acts.length c))] 99 Tryz.func8 rfl (by rw [Tryz.ntmps8];rfl) (one_ok trivial) λb=>?_;refine s_pure (acts.length<=9223372036854775807) (λw h _=>cN h.2.1 h.2.2.1) λhmax=>?_;refine s_auto TY_ok rfl ?_;refine s_auto TY_ok rfl ?_;refine s_auto TY_ok rfl ?_;refine s_auto TY_ok rfl ?_;refine s_auto TY_ok rfl ?_;refine s_regA TY_ok rfl λK0 hK0=>?_;refine l_mkG TC okI rfl rfl rfl rfl λm=>?_;refine l_autoS TY_ok rfl ?_;refine s_end (hK0 _ ?_);refine s_seq λK hK=>?_;refine s_auto TY_ok rfl ?_;refine s_block ?_;refine s_nil0 0 42 1 eGs (s_nil0 0 40 1 eUs (s_nil0 0 4 1 eT (s_nil0 0 76 129 eU ?_)))
 let Es:BtS->SE:=λs=>[(18,.v (.int .i64 (s.i:Int))),(17,.v (.int .i64 (acts.length:Int))),(16,.v (.slice A acts.length c)),(4,.v (.slice s.X.1 s.ps.length s.X.2)),(5,.v (.slice s.Y.1 s.ps.length s.Y.2)),(6,.v (.slice s.U.1 s.l.length s.U.2)),(7,.v (.slice s.V.1 s.l.length s.V.2)),(8,.v (.map (some m)))]
 let Rs:BtS->List Res:=λs=>[OwnS 0 76 129 eU s.U.1 s.U.2 s.l,OwnS 0 4 1 eT s.V.1 s.V.2 (s.l.map signB),OwnS 0 40 1 eUs s.X.1 s.X.2 s.ps,OwnS 0 42 1 eGs s.Y.1 s.Y.2 s.ps,MapG TC okI m s.n s.f]
 let Ff:BtS->World->Prop:=λs w=>(Ta w/\Rd 5 eAc A c acts w)/\∀p∈s.ps,p.rd w
 let Fs:BtS->Env:=λs=>⟨Es s,[],Rs s,Ff s,λ_=>True⟩
 refine c_weak (e':=Fs ⟨0,[],(none,0),(none,0),[],(none,0),(none,0),0,λ_=>none⟩) ⟨⟨rfl,rfl,rfl,rfl,rfl,rfl,rfl,rfl,trivial⟩,trivial,.refl _,λ_ h _=>⟨h,(λ_ h=>(by cases h))⟩,λ_ _=>trivial⟩ (s_loop (λs=>acts.length-s.i) Fs (BtI acts.length) ?_ ⟨0,[],(none,0),(none,0),[],(none,0),(none,0),0,λ_=>none⟩ ⟨aQ _,aQ _,aH _,aH _,(λ_ h=>(by cases h)),(λ_ h=>(by cases h))⟩)
 rintro s ⟨hi,hi12,htot,hnum,hgood,hgoodl⟩
 have hend:∀e',Weak e' (Fs s)->kS b K 99 e':=by
  intro e' hw
  refine k_weak hw (hK _ ?_);refine s_regA TY_ok rfl λK1 hK1=>?_;refine l_push TY_ok 2 (⟨s.U.1,s.U.2,s.V.1,s.V.2,s.l⟩:BaV) rfl rfl rfl rfl rfl rfl rfl (eUs_ok _) (by decide) (by decide) (by show(s.ps.length+1)*24<=_;omega) (by omega) (aQ _) λX1 x1=>?_;refine l_autoS TY_ok rfl ?_;refine l_push TY_ok 3 (⟨s.U.1,s.U.2,s.V.1,s.V.2,s.l⟩:BaV) rfl rfl rfl rfl rfl rfl rfl (eGs_ok _) (by decide) (by decide) (by show(s.ps.length+1)*24<=_;omega) (by omega) (aQ _) λY1 y1=>?_;refine l_autoS TY_ok rfl ?_;refine l_free 0 rfl (l_free 0 rfl (l_free 0 rfl (l_free 0 rfl ?_)));refine s_end (hK1 _ ?_);refine s_ret (k_drop 0 rfl ?_);refine k_ret TY_ok ⟨⟨s.ps++[(⟨s.U.1,s.U.2,s.V.1,s.V.2,s.l⟩:BaV)],(X1,x1),(Y1,y1)⟩,?_⟩ rfl (by decide) rfl rfl rfl (λw h _=>⟨h.2.1,h.1,λp hp=>?_⟩) (λ_ _=>trivial)
  ·refine⟨?_,?_,λu hu=>?_⟩
   ·show(allB (s.ps++[_])).length<=12
    rw [allB_next,aC];exact cN htot hi12
   ·show(s.ps++[_]).length<=13
    rw [aC]
    show s.ps.length+1<=13
    omega
   ·have hu:u∈allB (s.ps++[_]):=hu
    rw [allB_next] at hu
    rcases cB.1 hu with hu|hu
    ·exact hgood u hu
    ·exact hgoodl u hu
  ·have hp:p∈s.ps++[_]:=hp
   rcases cB.1 hp with hp|hp
   ·exact h.2.2.2.2.2 p hp
   ·rw [aE.1 hp]
    exact⟨h.2.2.2.1,h.2.2.1⟩
 refine s_auto TY_ok rfl ?_;refine s_seq λK5 hK5=>?_;refine s_ifD ((s.i:Int)<(acts.length:Int)) rfl (λhlt=>?_) (λhge=>?_)
 ·have hlt:s.i<acts.length:=by omega
  obtain⟨a,ha⟩:∃a,acts[s.i]?=some a:=⟨_,aP hlt⟩;refine s_skip (hK5 _ ?_);refine s_seq λK6 hK6=>?_;refine s_block ?_;refine s_regA TY_ok rfl λK7 hK7=>?_;refine l_elem TY_ok rfl rfl rfl s.i rfl ha rfl rfl (rd_fact λ_ h _=>h.1.2) ?_;refine l_autoS TY_ok rfl ?_;refine s_end (hK7 _ ?_);refine s_seq λK8 hK8=>?_;refine s_auto TY_ok rfl ?_;refine s_ifD ((s.i:Int)>=12) rfl (λh12=>?_) (λh12=>?_)
  ·exact s_exit (k_pass (k_passB rfl (k_pass (k_pass (k_out (hend _ ⟨⟨rfl,rfl,rfl,rfl,rfl,rfl,rfl,rfl,trivial⟩,trivial,.refl _,λ_ h _=>h,λ_ h=>h⟩))))))
  refine s_skip (hK8 _ ?_);obtain⟨w4,hw4,_,hww⟩:=wrapU_mod a.who 4 (by decide) (by decide)
  have hwk:okI (w4:Int):=by
   show(Lit.int .i64 (w4:Int)).wf=true
   simp [Lit.wf,IntKind.min,IntKind.max,IntKind.signed,IntKind.bits]
   omega
  refine s_regA TY_ok rfl λK9 hK9=>?_;refine l_num 11 (w4:Int) rfl (by rw [show(IntKind.u64.wrap a.who).tmod 4=(IntKind.u64.wrap a.who).tmod ((4:Nat):Int) from rfl,hww]) ?_;refine s_end (hK9 _ ?_)
  -- the end of a round
  have hF:∀t:BtS,t.i=s.i->(allB t.ps).length+t.l.length<=s.i+1->t.ps.length<=s.i+1->(∀u∈allB t.ps,GoodU u)->(∀u∈t.l,GoodU u)->∀e',Weak e' (Fs t)->kS b K6 99 e':=by
   intro t ht h1 h2 h3 h4 e' hw
   refine k_weak hw (hK6 _ ?_);refine s_autoE TY_ok rfl ?_;exact k_next ({ t with i:=s.i+1 }:BtS) ⟨hlt,(by show s.i+1<=12;omega),h1,h2,h3,h4⟩ (by show acts.length-(s.i+1)<acts.length-s.i;omega) ⟨⟨by rw [ht];exact congrArg (λz=>some (SV.v (.int .i64 z))) (wrapI (m:=(s.i:Int)+1) (r:=((s.i+1:Nat):Int)) (by omega) (by omega) (by omega)),rfl,rfl,rfl,rfl,rfl,rfl,rfl,trivial⟩,trivial,.refl _,λ_ h _=>h,λ_ h=>h⟩
  refine s_auto TY_ok rfl ?_;refine s_seq λK10 hK10=>?_
  have hV:∀v:Int,∀e',Weak e' ⟨(12,.v (.int .i64 v))::(11,.v (.int .i64 (w4:Int)))::(10,.a 10 0)::(9,.v (.int .i64 (s.i:Int)))::Es s,[⟨10,none,80,a.parts⟩],Rs s,Ff s,λ_=>True⟩->kS b K10 99 e':=by
   intro v e' hw
   refine k_weak hw (hK10 _ ?_);obtain⟨kb,hkb⟩:∃kb:UInt8,IntKind.u8.wrap a.key=(kb.toNat:Int):=byte_z (by show 0<=a.key%256/\a.key%256<256;omega);obtain⟨ib,hib⟩:∃ib:UInt8,IntKind.u8.wrap (s.i:Int)=(ib.toNat:Int):=byte_z (by show 0<=(s.i:Int)%256/\(s.i:Int)%256<256;omega)
   have hwb:IntKind.u8.wrap (w4:Int)=((bD w4).toNat:Int):=by
    rw [iE]
    show(w4:Int)%256=_
    omega
   have hm:=hmake_S (seed:=hB2 (bD w4) 77) (key:=hB2 kb ib) v rfl rfl;have hgu:GoodU (mkH (hB2 (bD w4) 77) v (hB2 kb ib)):=⟨mkH_ok _ _ rfl,w4,hw4,rfl⟩;generalize mkH (hB2 (bD w4) 77) v (hB2 kb ib)=u at *;refine s_regA TY_ok rfl λK11 hK11=>?_;refine l_num 39 ((bD w4).toNat:Int) rfl hwb ?_;refine l_buildY [(0,.v (.int .u8 ((bD w4).toNat:Int))),(1,.v (.int .u8 77))] 32 (hB2 (bD w4) 77) rfl rfl rfl rfl rfl rfl rfl ?_;refine l_autoS TY_ok rfl ?_;refine l_num 44 (kb.toNat:Int) rfl hkb ?_;refine l_num 46 (ib.toNat:Int) rfl hib ?_;refine l_buildY [(0,.v (.int .u8 (kb.toNat:Int))),(1,.v (.int .u8 (ib.toNat:Int)))] 32 (hB2 kb ib) rfl rfl rfl rfl rfl rfl rfl ?_;refine l_call0 [.agg (By (hB2 (bD w4) 77)).toArray,.int .i64 v,.agg (By (hB2 kb ib)).toArray] rfl rfl rfl own_hmake rfl rfl (λ_ _=>rfl) hm (λ_ h _=>h.1.1) λ_=>?_;refine l_autoS TY_ok rfl ?_;refine s_end (hK11 _ ?_);refine s_seq λK12 hK12=>?_
   have hW:∀u:UV,GoodU u->∀e',Weak e' ⟨(13,.a 13 0)::(12,.v (.int .i64 v))::(11,.v (.int .i64 (w4:Int)))::(10,.a 10 0)::Es s,[⟨13,none,76,u.parts⟩,⟨10,none,80,a.parts⟩],Rs s,Ff s,λ_=>True⟩->kS b K12 99 e':=by
    intro u hgu e' hw
    refine k_weak hw (hK12 _ ?_);refine s_regA TY_ok rfl λK13 hK13=>?_;refine l_call0 [(eU u).den] rfl rfl rfl own_hsigned rfl rfl (λ_ _=>rfl) (hsigned_S hgu.1) (λ_ h _=>h.1.1) λ_=>?_;refine l_autoS TY_ok rfl ?_;refine s_end (hK13 _ ?_);refine s_seq λK14 hK14=>?_
    have hX:∀n f,∀e',Weak e' ⟨(14,.b (signB u))::(13,.a 13 0)::(10,.a 10 0)::Es s,[⟨13,none,76,u.parts⟩,⟨10,none,80,a.parts⟩],Rs { s with n:=n,f:=f },Ff s,λ_=>True⟩->kS b K14 99 e':=by
     intro n f e' hw
     refine k_weak hw (hK14 _ ?_)
     have e1:s.l.map signB++[signB u]=(s.l++[u]).map signB:=by rw [iI];rfl
     refine s_regA TY_ok rfl λK15 hK15=>?_;refine l_push TY_ok 0 u (fe:=eU) rfl rfl rfl rfl rfl rfl rfl (eU_ok hgu.1) (by decide) (by decide) (by show(s.l.length+1)*136<=_;omega) (by show s.l.length<_;omega) (aQ _) λU1 u1=>?_;refine l_autoS TY_ok rfl ?_;refine l_push TY_ok 1 (signB u) (fe:=eT) rfl rfl rfl rfl rfl rfl (cH ..).symm (eT_ok _) (by decide) (by decide) (by rw [cH];show(s.l.length+1)*1<=_;omega) (by rw [cH];show s.l.length<_;omega) (aQ _) λV1 v1=>?_;rw [e1,cH];refine l_autoS TY_ok rfl ?_;refine s_end (hK15 _ ?_);refine s_auto TY_ok rfl ?_
     have hgl:∀u2∈s.l++[u],GoodU u2:=λu2 h2=>by
      rcases cB.1 h2 with h2|h2
      ·exact hgoodl u2 h2
      ·rw [aE.1 h2]
       exact hgu
     have hll:(s.l++[u]).length=s.l.length+1:=aC;refine s_if a.cut rfl (λ_=>?_) (λ_=>?_)
     ·refine s_regA TY_ok rfl λK16 hK16=>?_
      refine l_push TY_ok 2 (⟨U1,u1,V1,v1,s.l++[u]⟩:BaV) rfl rfl rfl rfl rfl rfl rfl (eUs_ok _) (by decide) (by decide) (by show(s.ps.length+1)*24<=_;omega) (by show s.ps.length<_;omega) (aQ _) λX1 x1=>?_;refine l_autoS TY_ok rfl ?_;refine l_push TY_ok 3 (⟨U1,u1,V1,v1,s.l++[u]⟩:BaV) rfl rfl rfl rfl rfl rfl rfl (eGs_ok _) (by decide) (by decide) (by show(s.ps.length+1)*24<=_;omega) (by show s.ps.length<_;omega) (aQ _) λY1 y1=>?_;refine l_autoS TY_ok rfl ?_;refine l_free 0 rfl (l_free 0 rfl ?_);refine s_end (hK16 _ ?_);refine s_nil0 0 4 1 eT (s_nil0 0 76 129 eU (s_autoE TY_ok rfl ?_));refine hF ⟨s.i,s.ps++[⟨U1,u1,V1,v1,s.l++[u]⟩],(X1,x1),(Y1,y1),[],(none,0),(none,0),n,f⟩ rfl ?_ ?_ ?_ (λ_ h=>by cases h) _ ⟨⟨rfl,rfl,rfl,rfl,rfl,rfl,rfl,rfl,trivial⟩,trivial,.refl _,λw h _=>⟨h.2.2.1,λp hp=>?_⟩,λ_ h=>h⟩
      ·show(allB (s.ps++[_])).length+0<=_
       rw [allB_next,aC,hll]
       omega
      ·show(s.ps++[_]).length<=_
       rw [aC]
       show s.ps.length+1<=_
       omega
      ·intro u2 h2
       have h2:u2∈allB (s.ps++[_]):=h2;rw [allB_next] at h2
       rcases cB.1 h2 with h2|h2
       ·exact hgood u2 h2
       ·exact hgl u2 h2
      ·have hp:p∈s.ps++[_]:=hp
       rcases cB.1 hp with hp|hp
       ·exact h.2.2.2 p hp
       ·rw [aE.1 hp]
        exact⟨h.2.1,h.1⟩
     ·exact s_skip (hF ⟨s.i,s.ps,s.X,s.Y,s.l++[u],(U1,u1),(V1,v1),n,f⟩ rfl (by show(allB s.ps).length+(s.l++[u]).length<=_;rw [hll];omega) (by show s.ps.length<=_;omega) hgood hgl _ ⟨⟨rfl,rfl,rfl,rfl,rfl,rfl,rfl,rfl,trivial⟩,trivial,.refl _,λ_ h _=>h,λ_ h=>h⟩)
    cases hsb:signB u with
    | false =>
     refine s_regA TY_ok rfl λK15 hK15=>?_;refine l_is 60 false rfl rfl ?_;refine l_autoS TY_ok rfl ?_;refine l_as 14 (.b (signB u)) rfl (λ_=>by rw [hsb];rfl) trivial ?_;refine s_end (hK15 _ ?_);refine s_no rfl ?_;exact s_skip (hX s.n s.f _ ⟨⟨rfl,rfl,rfl,rfl,rfl,rfl,rfl,rfl,rfl,rfl,rfl,trivial⟩,⟨rfl,rfl,rfl,rfl,trivial⟩,.refl _,λ_ h _=>h.2,λ_ _=>trivial⟩)
    | true =>
     refine s_regA TY_ok rfl λK15 hK15=>?_;refine l_is 60 true rfl rfl ?_;refine l_autoS TY_ok rfl ?_;refine l_opV (.q (eI ((s.f (w4:Int)).getD 0))) trivial rfl rfl rfl (runO_count (map_own 4 rfl) (w4:Int) hwk rfl rfl rfl) ?_;refine l_autoS TY_ok rfl ?_;refine l_as 14 (.b (signB u)) rfl (λ_=>by rw [hsb];rfl) trivial ?_;refine s_end (hK15 _ ?_);refine s_ifD (v=IntKind.i64.wrap ((s.f (w4:Int)).getD 0+1)) rfl (λ_=>?_) (λ_=>?_)
     ·refine s_lit ?_
      refine l_autoS TY_ok rfl ?_;refine l_opV (.q (eI ((s.f (w4:Int)).getD 0))) trivial rfl rfl rfl (runO_count (map_own 4 rfl) (w4:Int) hwk rfl rfl rfl) ?_;refine l_autoS TY_ok rfl ?_;refine l_updG TC_ok 4 rfl (w4:Int) (IntKind.i64.wrap ((s.f (w4:Int)).getD 0+1)) hwk rfl rfl rfl rfl rfl rfl ?_;exact s_end (hX (if (s.f (w4:Int)).isSome then s.n else s.n+1) (putF s.f (w4:Int) (IntKind.i64.wrap ((s.f (w4:Int)).getD 0+1))) _ ⟨⟨rfl,rfl,rfl,rfl,rfl,rfl,rfl,rfl,rfl,rfl,rfl,trivial⟩,⟨rfl,rfl,rfl,rfl,trivial⟩,.refl _,λ_ h _=>h.2,λ_ _=>trivial⟩)
     ·exact s_skip (hX s.n s.f _ ⟨⟨rfl,rfl,rfl,rfl,rfl,rfl,rfl,rfl,rfl,rfl,rfl,trivial⟩,⟨rfl,rfl,rfl,rfl,trivial⟩,.refl _,λ_ h _=>h.2,λ_ _=>trivial⟩)
   refine s_auto TY_ok rfl ?_;refine s_if a.wr rfl (λ_=>?_) (λ_=>?_)
   ·obtain⟨sb,hsb⟩:∃sb,u.sig[1]?=some sb:=⟨_,aP (by rw [hgu.1.sig];decide)⟩
    obtain⟨y,hy⟩:=xor_b2 sb;have hok2:({ u with sig:=u.sig.set 1 y }:UV).Ok:=⟨hgu.1.id,hgu.1.key,by show(u.sig.set 1 y).length=64;rw [List.length_set];exact hgu.1.sig⟩;refine s_lit ?_;refine l_autoS TY_ok rfl ?_;refine l_op (.a 13 (65+1*1)) trivial rfl rfl rfl (runO_ixA 1 rfl Tryz.underlying74 rfl rfl rfl (by decide)) ?_;refine l_opV (.v (.int .u8 (sb.toNat:Int))) trivial rfl rfl rfl (runO_ldA _ rfl rfl rfl (uv_atJ hgu.1 hsb) Tryz.underlying5 rfl) ?_;refine l_op (.v (.int .u8 (bits .xor .u8 (sb.toNat:Int) 2))) trivial rfl rfl rfl (run_xor rfl rfl rfl) ?_;refine l_num 54 (y.toNat:Int) rfl hy ?_;refine l_autoS TY_ok rfl ?_;refine l_op (.a 13 (65+1*1)) trivial rfl rfl rfl (runO_ixA 1 rfl Tryz.underlying74 rfl rfl rfl (by decide)) ?_;refine l_stA ({ u with sig:=u.sig.set 1 y }:UV).parts rfl rfl rfl rfl rfl rfl rfl rfl rfl (by rw [OkP.size hgu.1.parts_ok];show _<129;decide) hok2.parts_ok (uv_setJ hgu.1 1 y) ?_;exact s_end (hW { u with sig:=u.sig.set 1 y } ⟨hok2,hgu.2⟩ _ ⟨⟨rfl,rfl,rfl,rfl,rfl,rfl,rfl,rfl,rfl,rfl,rfl,rfl,trivial⟩,⟨rfl,rfl,rfl,rfl,trivial⟩,.refl _,λ_ h _=>h.2,λ_ _=>trivial⟩)
   ·exact s_skip (hW u hgu _ ⟨⟨rfl,rfl,rfl,rfl,rfl,rfl,rfl,rfl,rfl,rfl,rfl,rfl,trivial⟩,⟨rfl,rfl,rfl,rfl,trivial⟩,.refl _,λ_ h _=>h.2,λ_ _=>trivial⟩)
  refine s_auto TY_ok rfl ?_;refine s_ifD (a.ver=0) rfl (λ_=>?_) (λ_=>?_)
  ·refine s_lit ?_
   refine l_autoS TY_ok rfl ?_;refine l_opV (.q (eI ((s.f (w4:Int)).getD 0))) trivial rfl rfl rfl (runO_count (map_own 4 rfl) (w4:Int) hwk rfl rfl rfl) ?_;refine l_autoS TY_ok rfl ?_;exact s_end (hV _ _ ⟨⟨rfl,rfl,rfl,rfl,rfl,rfl,rfl,rfl,rfl,rfl,rfl,rfl,trivial⟩,⟨rfl,rfl,trivial⟩,.refl _,λ_ h _=>h,λ_ h=>h⟩)
  ·exact s_skip (hV _ _ ⟨⟨rfl,rfl,rfl,rfl,rfl,rfl,rfl,rfl,rfl,rfl,rfl,rfl,trivial⟩,⟨rfl,rfl,trivial⟩,.refl _,λ_ h _=>h,λ_ h=>h⟩)
 ·exact s_exit (k_pass (k_pass (k_out (hend _ ⟨⟨rfl,rfl,rfl,rfl,rfl,rfl,rfl,rfl,trivial⟩,trivial,.refl _,λ_ h _=>h,λ_ h=>h⟩))))
section
variable{b:Base}{ops:Array Oper}{Q:Exit->Act->World->Prop}{N fuel:Nat}{p:Nat->Bool}{Fin:Array Bool->Act->World->Prop}{listed:Array Bool}{E:SE}{L:List LV}{R:List Res}{F M:World->Prop}{Inv:World->Prop}{o:Oper}{k:Nat}
theorem p_frontW(v:SV)(hvo:v.Ok)(i:Nat)(hc:frontP ops p i listed=true)(ho:ops[i]?=some o)(hg:o.guard=none)(hd:o.dst=some k)(hk:Nat.blt k N=true)(hs:stillG o.op=true)
 (hv:∀(G:Nat->Nat) (S:Nat->Prop) (a:Act) (w:World),Fr N (denE G E) a->View G S [] [] Inv (λ_=>True) w->(execOp a.eval o).run Tryz.prog w = .ok (.value (v.den G)) w)
 (hn:pS Tryz.prog b Q N ops Inv p Fin fuel (listed.setIfInBounds i true) ⟨(k,v)::E,L,R,F,M⟩):pS Tryz.prog b Q N ops Inv p Fin (fuel+1) listed ⟨E,L,R,F,M⟩ :=
 p_frontI v hvo i hc ho hg hd hk hs (λG a w hF hI=>hv G (λ_=>False) a w hF ⟨(λ_ h=>(by cases h)),λ_ h=>h,hI,trivial⟩) hn
end
theorem allB_take{ps:List BaV}{j:Nat}{p:BaV}(h:ps[j]?=some p):allB (ps.take (j+1))=allB (ps.take j)++p.l:=by
 rw [qQ,h];exact allB_next _ _
theorem allB_le(ps:List BaV)(j:Nat):(allB (ps.take j)).length<=(allB ps).length:=by
 have h:allB ps=allB (ps.take j)++allB (ps.drop j):=by
  unfold allB
  rw [<-List.flatten_append,<-iI,List.take_append_drop]
 rw [h,aC]
 omega
theorem BtX.Ok.batch{x:BtX}(h:x.Ok){j:Nat}{p:BaV}(hp:x.ps[j]?=some p):(∀u∈p.l,GoodU u)/\(allB (x.ps.take j)).length+p.l.length<=12:=by
 have h1:=allB_le x.ps (j+1);rw [allB_take hp,aC] at h1;refine⟨λu hu=>h.good u ?_,cN h1 h.tot⟩;exact List.mem_flatten.2 ⟨p.l,bO.2 ⟨p,a6 hp,rfl⟩,hu⟩
instance btPst{x:BtX}:Pst x.F:=⟨λ_ _ h hb=>⟨h.1.later hb,h.2.1.later hb,λp hp=>Pst.later (p:=p.rd) _ _ (h.2.2 p hp) hb⟩⟩
theorem own_dbuild:Own 22:=λ_ _=>by go_simp
abbrev bldP(ep:Int)(mh n:Nat)(g:List UInt8->Option HSeg):Post (Option DirV):={ ret:=λx=>.t [eDv (x.getD zDirV),.c (.v (.int .i64 (if x.isSome then 0 else 2)))],own:=λ_=>[MapG TH ok32 mh n g],p:=λx w=>(match x with|some d=>dirP ep (overK g []) d w/\0<=ep/\∀k s,g k=some s->s.l.length<=64|none=>ep<0\/∃k s,g k=some s/\64<s.l.length) }
theorem dbuild_S(ep:Int)(mh n:Nat)(g:List UInt8->Option HSeg)(hsz:n<=1000):Spec 22 [.int .i64 ep,.map (some mh)] [MapG TH ok32 mh n g] (λw=>Ta w/\∀k s,g k=some s->s.rd w) (bldP ep mh n g):=by
 refine spec_S [.c (.v (.int .i64 ep)),.c (.v (.map (some mh)))] 25 Tryz.func22 rfl (by rw [Tryz.ntmps22];rfl) (two_ok trivial trivial) λb=>?_;refine s_auto TY_ok rfl ?_;refine s_seq λK hK=>?_;refine s_auto TY_ok rfl ?_;refine s_ifD (ep<0) rfl (λh0=>?_) (λh0=>?_)
 ·refine s_auto TY_ok rfl ?_
  exact s_ret (k_ret TY_ok none rfl (by decide) rfl rfl rfl (λ_ _ _=>.inl h0) (λ_ _=>trivial))
 refine s_skip (hK _ ?_);refine s_seq λK4 hK4=>?_;refine s_regA TY_ok rfl λK5 hK5=>?_;refine l_openG 0 rfl λes clock hH=>?_;refine l_rangeM rfl rfl rfl rfl Tryz.underlying28 rfl (es:=es) (clock:=clock) (mapE_own 0 rfl) λr=>?_;refine s_end (hK5 _ ?_);refine s_block ?_
 let Fs:Array Nat×List (List UInt8×HSeg)->Env:=λx=>⟨[(12,.v (.pointer (some ⟨r,0,none⟩))),(0,.v (.int .i64 ep)),(1,.v (.map (some mh))),(4,.a 4 0)],[⟨4,none,33,zDirV.parts⟩],[ItR (some mh) r clock x.1,MapB mh es clock],λw=>Ta w/\∀k s,g k=some s->s.rd w,λ_=>True⟩
 refine c_weak (e':=Fs (#[],[])) ⟨⟨rfl,rfl,rfl,rfl,trivial⟩,⟨rfl,rfl,trivial⟩,.refl _,λ_ h _=>h,λ_ _=>trivial⟩ (s_loop (λx=>(leftOf es x.1).size) Fs (λx=>DidM TH ok32 es g x.1 x.2/\∀d∈x.2,d.2.l.length<=64) ?_ (#[],[]) ⟨DidM.nil,λ_ h=>by cases h⟩)
 rintro⟨seen,done⟩ ⟨hD,h64⟩
 dsimp only at hD h64
 refine s_regA TY_ok rfl λK6 hK6=>?_;refine l_nextM hH hD (λ_ h=>(eY_ok h).1) (λ_=>trivial) 0 rfl rfl rfl rfl rfl rfl (mapE_own 1 rfl) (λhz=>?_) λq v seen' hq hv hne hlt hla hD'=>?_
 ·refine l_autoS TY_ok rfl ?_
  refine s_end (hK6 _ ?_);refine s_seq λK7 hK7=>?_;refine s_no rfl ?_;refine s_exit (k_pass (k_pass (k_out ?_)));refine k_drop 0 rfl (k_closeG TH 0 rfl hH ?_);refine hK4 _ ?_;have hall:∀k s,g k=some s->s.l.length<=64:=λk s e=>h64 _ (hD.all TH_ok hH hz e);refine s_regA TY_ok rfl λK8 hK8=>?_;refine l_callA (own:=[MapG TH ok32 mh n g]) (R':=[]) [(eDv zDirV).den,.int .i64 ep,.map (some mh)] rfl rfl rfl own_dwith rfl rfl (λ_ _=>rfl) (dwith_S zDirV_ok ep mh n g (by show 0+n<=1000;omega) hall) (λw h _=>⟨h.1,zDirV_F w,h.2⟩) λx=>?_;refine l_autoS TY_ok rfl ?_;refine s_end (hK8 _ ?_);exact s_ret (k_ret TY_ok (some x) rfl (by decide) rfl rfl rfl (λ_ h _=>⟨h.1,by omega,hall⟩) (λ_ _=>trivial))
 refine l_autoS TY_ok rfl ?_;refine s_end (hK6 _ ?_);refine s_seq λK7 hK7=>?_;refine s_yes rfl ?_;refine s_skip (hK7 _ ?_);refine s_block ?_;refine s_regA TY_ok rfl λK8 hK8=>?_;refine l_opV (.t [eY 32 q,eHs v]) (two_ok (eY_ok hq).1 trivial) rfl rfl rfl (runO_entry hH 0 rfl hla (mapE_own 1 rfl) rfl rfl) ?_;refine l_autoS TY_ok rfl ?_;refine s_end (hK8 _ ?_);refine s_auto TY_ok rfl ?_;refine s_ifD ((v.l.length:Int)>64) rfl (λhgt=>?_) (λhle=>?_)
 ·refine s_auto TY_ok rfl ?_
  refine s_ret (k_drop 0 rfl (k_closeG TH 0 rfl hH ?_));exact k_ret TY_ok none rfl (by decide) rfl rfl rfl (λ_ _ _=>.inr ⟨q,v,hv,by omega⟩) (λ_ _=>trivial)
 ·exact s_skip (k_next (seen',done++[(q,v)]) ⟨hD',λd hd=>by
   rcases cB.1 hd with hd|hd
   ·exact h64 d hd
   ·rw [aE.1 hd]
    show v.l.length<=64
    omega⟩ hlt ⟨⟨rfl,rfl,rfl,rfl,trivial⟩,⟨rfl,rfl,trivial⟩,.refl _,λ_ h _=>h,λ_ h=>h⟩)
end Go.Proofs.YtlhlkofpjhpaoaaGreatDoor
