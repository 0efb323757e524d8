import Derived.Test.YtlhlkofpjhpaoaaGreatDoorMp
import Derived.Test.YtlhlkofpjhpaoaaGreatDoorMo
import Derived.Test.YtlhlkofpjhpaoaaGreatDoorMj
import Derived.Test.YtlhlkofpjhpaoaaGreatDoorMh
import Derived.Test.YtlhlkofpjhpaoaaGreatDoorMi
import Derived.Test.YtlhlkofpjhpaoaaGreatDoorMn
import Derived.Test.YtlhlkofpjhpaoaaGreatDoorMm
import Derived.Test.YtlhlkofpjhpaoaaGreatDoorMe
set_option maxRecDepth 100000
set_option maxHeartbeats 4000000
open List renaming replicate->aA,length_append->aB,mem_singleton->aF,getElem?_eq_getElem->aJ,mem_cons->aL,length_take->aR,mem_of_getElem?->aX,append_assoc->aY,getElem?_eq_some_iff->bG,mem_map->bU,mem_append->cB,length_map->cC,take_length->fE,getElem?_map->fX,map_append->g6,length_pos_iff->nM,take_add_one->rD
open Nat renaming le_refl->aE,zero_le->aI,not_lt_zero->oH
namespace Go.Proofs.YtlhlkofpjhpaoaaGreatDoor
open Go.RowKit Go.IntWalk Nums
theorem SmallD.apply:∀{us:List UV} {l:List EntD},SmallD l->SmallD (fJ l (us.map udH))
 | [],_,h=>h
 | u::us,l,h=>SmallD.apply (us:=us) (l:=iU l (udH u)) (h.step u)
theorem us_ok{us:List UV}(h:∀u∈us,u.Ok):tE (us.map udH):=⟨λx hx=>by
 obtain⟨u,hu,rfl⟩:=bU.1 hx
 exact(h u hu).id,λx hx=>by
 obtain⟨u,hu,rfl⟩:=bU.1 hx
 exact(h u hu).key⟩
theorem take_apply{us:List UV}{i:Nat}{u:UV}(h:us[i]?=some u)(l:List EntD):fJ l ((us.take (i+1)).map udH)=iU (fJ l ((us.take i).map udH)) (udH u):=by
 have:us.take (i+1)=us.take i++[u]:=by rw [rD,h];rfl
 rw [this,g6,rX]
 rfl
theorem applyD_len:∀(us:List UD) (l:List EntD),(fJ l us).length<=l.length+us.length
 | [],_=>aE _
 | u::us,l=>by
  have h1:=applyD_len us (iU l u);have h2:=stepD_len l u
  show(fJ (iU l u) us).length<=_
  rw [List.length_cons]
  omega
structure GrownD(g:List UInt8->Option HSeg)(l z:List EntD):Prop where
  keys:∀k,bS z k=(match g k with|some s=>s.l|none=>bS l k)
  some:∀k s,g k=some s->s.l≠[]
theorem GrownD.nil(l:List EntD):GrownD (λ_=>none) l l:=⟨λ_=>rfl,λ_ _ h=>(by cases h)⟩
theorem GrownD.put{g:List UInt8->Option HSeg}{l z:List EntD}(h:GrownD g l z)(k:List UInt8)(s:HSeg)(hs:s.l≠[]):GrownD (putF g k s) l (iA z k s.l):=⟨λx=>by
 rw [kG]
 unfold putF
 by_cases c:x=k
 ·rw [if_pos c,if_pos c]
 ·rw [if_neg c,if_neg c]
  exact h.keys x,λx s' e=>by
 unfold putF at e
 split at e
 ·injection e with e
  rw [<-e];exact hs
 ·exact h.some x s' e⟩
theorem GrownD.over{g:List UInt8->Option HSeg}{l z:List EntD}(h:GrownD g l z)(k:List UInt8):overK g l k=bS z k:=by
 rw [h.keys]
 unfold overK
 cases hg:g k with
 | none=>rfl
 | some s=>exact if_neg (h.some k s hg)
theorem step_not{l:List EntD}{u:UV}(h:¬(signB u=true/\u.ver=((bS l u.id).length:Int)+1)):iU l (udH u)=l:=if_neg λh2=>h (okD_iff.1 h2)
theorem step_ok{l:List EntD}{u:UV}(h:signB u=true/\u.ver=((bS l u.id).length:Int)+1):iU l (udH u)=iA l u.id (bS l u.id++[u.key]):=if_pos (okD_iff.2 h)
structure ApS where
  i:Nat
  n:Nat
  g:List UInt8->Option HSeg
structure ApI(l:List EntD)(us:List UV)(x:ApS):Prop where
  i:x.i<=us.length
  n:x.n<=x.i
  g:GrownD x.g l (fJ l ((us.take x.i).map udH))
theorem own_dapply:Own 9:=λ_ _=>by go_simp
theorem nxE_zeroD{l:List (List UInt8)}{u:UV}:nxE l u=0↔(signB u=true/\u.ver=(l.length:Int)+1):=by
 unfold nxE
 split
 ·rename_i h
  split<;>simp_all
 ·rename_i h
  simp [h]
theorem dapply_S{d:DirV}(hd:d.Ok){A:Option Addr}{c:Nat}{us:List UV}(hus:∀u∈us,u.Ok)(hsz:d.l.length+us.length<=1000) :
  Spec 9 [(eDv d).den,.slice A us.length c] [] (λw=>Ta w/\d.F w/\Rd 129 eU A c us w) { ret:=λx:DirV=>.q (eDv x),p:=λx w=>x.F w/\x.Ok/\x.ep=IntKind.i64.wrap (d.ep+1)/\x.l=fJ d.l (us.map udH) }:=by
 refine spec_S [.p d.parts,.c (.v (.slice A us.length c))] 58 Tryz.func9 rfl (by rw [Tryz.ntmps9];rfl) (two_ok d.parts_ok trivial) λb=>?_;refine s_auto TY_ok rfl ?_;refine s_regA TY_ok rfl λK1 hK1=>?_;refine l_mkG TH ok32 rfl rfl rfl rfl λm=>?_;refine l_autoS TY_ok rfl ?_;refine s_end (hK1 _ ?_);refine s_seq λK hK=>?_;refine s_auto TY_ok rfl ?_;refine s_block ?_
 let Fs:ApS->Env:=λx=>⟨[(15,.v (.int .i64 (x.i:Int))),(14,.v (.int .i64 (us.length:Int))),(13,.v (.slice A us.length c)),(5,.v (.map (some m))),(2,.a 2 0),(4,.a 4 0)],[⟨4,none,33,zDirV.parts⟩,⟨2,none,33,d.parts⟩],[MapG TH ok32 m x.n x.g],λw=>(Ta w/\d.F w/\Rd 129 eU A c us w)/\∀k s,x.g k=some s->s.rd w,λ_=>True⟩
 refine c_weak (e':=Fs ⟨0,0,λ_=>none⟩) ⟨⟨rfl,rfl,rfl,rfl,rfl,rfl,trivial⟩,⟨rfl,rfl,rfl,rfl,trivial⟩,.refl _,λ_ h _=>⟨h,λ_ _ e=>by cases e⟩,λ_ _=>trivial⟩ (s_loop (λx=>us.length-x.i) Fs (ApI d.l us) ?_ ⟨0,0,λ_=>none⟩ ⟨aI _,aE _,GrownD.nil _⟩)
 rintro⟨i,n,g⟩ ⟨hi,hn,hg⟩
 dsimp only at hi hn hg
 have hsm:SmallD (fJ d.l ((us.take i).map udH)):=hd.small.apply;refine s_auto TY_ok rfl ?_;refine s_seq λK5 hK5=>?_;refine s_ifD ((i:Int)<(us.length:Int)) rfl (λhlt=>?_) (λhge=>?_)
 ·have hlt:i<us.length:=by omega
  obtain⟨u,hu⟩:∃u,us[i]?=some u:=⟨_,aJ hlt⟩;have huo:=hus u (aX hu);have htk:=take_apply hu d.l;refine s_skip (hK5 _ ?_);refine s_seq λK10 hK10=>?_
  have hgo:∀n' g',n'<=i+1->GrownD g' d.l (fJ d.l ((us.take (i+1)).map udH))->∀e,Weak e ⟨[(15,.v (.int .i64 (i:Int))),(14,.v (.int .i64 (us.length:Int))),(13,.v (.slice A us.length c)),(5,.v (.map (some m))),(2,.a 2 0),(4,.a 4 0)],[⟨4,none,33,zDirV.parts⟩,⟨2,none,33,d.parts⟩],[MapG TH ok32 m n' g'],λw=>(Ta w/\d.F w/\Rd 129 eU A c us w)/\∀k s,g' k=some s->s.rd w,λ_=>True⟩->kS b K10 58 e:=by
   intro n' g' hn' hg' e hw
   refine k_weak hw (hK10 _ ?_);refine s_autoE TY_ok rfl ?_;exact k_next ⟨i+1,n',g'⟩ ⟨hlt,hn',hg'⟩ (by show us.length-(i+1)<us.length-i;omega) ⟨⟨congrArg (λz=>some (SV.v (.int .i64 z))) (wrapI (m:=(i:Int)+1) (r:=((i+1:Nat):Int)) (by omega) (by omega) (by omega)),rfl,rfl,rfl,rfl,rfl,trivial⟩,⟨rfl,rfl,rfl,rfl,trivial⟩,.refl _,λ_ h _=>h,λ_ h=>h⟩
  refine s_block ?_;refine s_regA TY_ok rfl λK11 hK11=>?_;refine l_elem TY_ok rfl rfl rfl i rfl hu rfl rfl (rd_fact λ_ h _=>h.1.2.2) ?_;refine l_autoS TY_ok rfl ?_;refine s_end (hK11 _ ?_);obtain⟨z,hz⟩:∃z,fJ d.l ((us.take i).map udH)=z:=⟨_,rfl⟩;rw [hz] at hg hsm htk;have hk64:=hsm.keys u.id;refine s_regA TY_ok rfl λK12 hK12=>?_;refine l_opV (.t [eHs ((g u.id).getD nilH),.c (.b (g u.id).isSome)]) (two_ok trivial trivial) rfl rfl rfl (runO_grown (map_own 0 rfl) u.id huo.id rfl rfl rfl) ?_;refine l_autoS TY_ok rfl ?_;refine s_end (hK12 _ ?_);refine s_seq λK13 hK13=>?_
  have hrest:∀s:HSeg,s.l=bS z u.id->∀e,Weak e ⟨[(8,.q (eHs s)),(7,.a 7 0),(15,.v (.int .i64 (i:Int))),(14,.v (.int .i64 (us.length:Int))),(13,.v (.slice A us.length c)),(5,.v (.map (some m))),(2,.a 2 0),(4,.a 4 0)],[⟨7,none,76,u.parts⟩,⟨4,none,33,zDirV.parts⟩,⟨2,none,33,d.parts⟩],[MapG TH ok32 m n g],λw=>s.rd w/\(Ta w/\d.F w/\Rd 129 eU A c us w)/\∀k s,g k=some s->s.rd w,λ_=>True⟩->kS b K13 58 e:=by
   intro s hsl e hw
   refine k_weak hw (hK13 _ ?_);rw [<-hsl] at hk64;have hwr:IntKind.i64.wrap ((s.l.length:Int)+1)=(s.l.length:Int)+1:=wrapI rfl (by omega) (by omega);refine s_seq λK14 hK14=>?_;refine s_auto TY_ok rfl ?_;refine s_ifD (u.ver≠IntKind.i64.wrap ((s.l.length:Int)+1)) rfl (λhne=>?_) (λheq=>?_)
   ·rw [hwr] at hne
    refine s_exit (k_pass (k_out (hgo n g (by omega) ?_ _ ⟨⟨rfl,rfl,rfl,rfl,rfl,rfl,trivial⟩,⟨rfl,rfl,rfl,rfl,trivial⟩,.refl _,λ_ h _=>h.2,λ_ _=>trivial⟩)));rw [htk,step_not (λh=>hne (by rw [hsl];exact h.2))];exact hg
   rw [hwr] at heq;have heq:u.ver=(s.l.length:Int)+1:=Decidable.of_not_not heq;refine s_skip (hK14 _ ?_);obtain⟨ee,hee⟩:∃ee,nxE s.l u=ee:=⟨_,rfl⟩;obtain⟨kk,hkk⟩:∃kk,nxK s.l u=kk:=⟨_,rfl⟩;have hnx:=hnext_Q (A:=s.A) (c:=s.c) hee hkk huo (by omega);refine s_regA TY_ok rfl λK15 hK15=>?_;refine l_call0 [.slice s.A s.l.length s.c,(eU u).den] rfl rfl rfl own_hnext rfl rfl (λ_ _=>rfl) hnx (λ_ h _=>⟨h.2.1.1,h.1⟩) λ⟨X,c2⟩=>?_;refine l_autoS TY_ok rfl ?_;refine s_end (hK15 _ ?_);refine s_auto TY_ok rfl ?_;refine s_ifD ((ee:Int)=0) rfl (λh0=>?_) (λh0=>?_)
   ·have h0:nxE s.l u=0:=by omega
    have hk2:kk=s.l++[u.key]:=by rw [<-hkk];unfold nxK;rw [if_pos h0]
    have hst:=step_ok (l:=z) (u:=u) (by rw [<-hsl];exact nxE_zeroD.1 h0);rw [<-hsl,<-hk2] at hst;refine s_lit ?_;refine l_autoS TY_ok rfl ?_;refine l_updG TH_ok 0 rfl u.id ⟨X,c2,kk⟩ huo.id rfl rfl rfl rfl rfl rfl ?_;refine s_end (hgo (if (g u.id).isSome then n else n+1) (putF g u.id ⟨X,c2,kk⟩) (by split<;>omega) ?_ _ ⟨⟨rfl,rfl,rfl,rfl,rfl,rfl,trivial⟩,⟨rfl,rfl,rfl,rfl,trivial⟩,.refl _,λw h _=>⟨h.2.2.1,λk s' e=>?_⟩,λ_ _=>trivial⟩)
    ·rw [htk,hst]
     exact hg.put u.id ⟨X,c2,kk⟩ (by rw [hk2];simp)
    ·unfold putF at e
     split at e
     ·injection e with e
      rw [<-e];exact h.1
     ·exact h.2.2.2 k s' e
   ·refine s_skip (hgo n g (by omega) ?_ _ ⟨⟨rfl,rfl,rfl,rfl,rfl,rfl,trivial⟩,⟨rfl,rfl,rfl,rfl,trivial⟩,.refl _,λ_ h _=>h.2.2,λ_ _=>trivial⟩)
    rw [htk,step_not (λh=>h0 (by rw [<-hee,nxE_zeroD.2 (by rw [hsl];exact h)];rfl))];exact hg
  have hkz:=hg.keys u.id;refine s_auto TY_ok rfl ?_;refine s_if (!(g u.id).isSome) rfl (λh=>?_) (λh=>?_)
  ·have hs:g u.id=none:=by
    cases e:g u.id with
    | none=>rfl
    | some s=>rw [e] at h;cases h
   rw [hs] at hkz;refine s_lit ?_;refine l_autoS TY_ok rfl ?_;refine l_opV (.q (eHs (d.seg u.id))) trivial rfl rfl rfl (runO_hist hd (λ_ _ _ h=>h.fact.1.2.1) u.id huo.id rfl rfl rfl) ?_;refine l_autoS TY_ok rfl ?_;exact s_end (hrest (d.seg u.id) (by rw [hkz,hd.seg_l]) _ ⟨⟨rfl,rfl,rfl,rfl,rfl,rfl,rfl,rfl,trivial⟩,⟨rfl,rfl,rfl,rfl,rfl,rfl,trivial⟩,.refl _,λ_ h _=>⟨h.1.2.1.seg_rd _,h⟩,λ_ _=>trivial⟩)
  ·cases hs:g u.id with
   | none=>rw [hs] at h;cases h
   | some s =>
    rw [hs] at hkz;exact s_skip (hrest s hkz.symm _ ⟨⟨rfl,rfl,rfl,rfl,rfl,rfl,rfl,rfl,trivial⟩,⟨rfl,rfl,rfl,rfl,rfl,rfl,trivial⟩,.refl _,λ_ h _=>⟨h.2 _ _ hs,h⟩,λ_ _=>trivial⟩)
 ·obtain rfl:us.length=i:=by omega
  rw [fE] at hg hsm;refine s_exit (k_pass (k_pass (k_out ?_)));refine hK _ ?_
  have h64:∀k s,g k=some s->s.l.length<=64:=λk s e=>by
   have h1:=hg.keys k;rw [e] at h1;have h2:=hsm.keys k;rw [h1] at h2;exact h2
  have hlz:=applyD_len (us.map udH) d.l;rw [cC] at hlz;refine s_regA TY_ok rfl λK16 hK16=>?_;refine l_callA (own:=[MapG TH ok32 m n g]) (R':=[]) [(eDv d).den,.int .i64 (IntKind.i64.wrap (d.ep+1)),.map (some m)] rfl rfl rfl own_dwith rfl rfl (λ_ _=>rfl) (dwith_S hd (IntKind.i64.wrap (d.ep+1)) m n g (by omega) h64) (λ_ h _=>⟨h.1.1,h.1.2.1,h.2⟩) λx=>?_;refine l_autoS TY_ok rfl ?_;refine s_end (hK16 _ ?_);refine s_ret (k_drop 0 rfl ?_);exact k_ret TY_ok x rfl (by decide) rfl rfl rfl (λw h _=>⟨h.1.1,h.1.2.1,h.1.2.2.1,DirOk.ext h.1.2.1.dir (hd.dir.apply (us_ok hus)) λk=>(h.1.2.2.2 k).trans (hg.over k)⟩) (λ_ _=>trivial)
theorem pairs_ok{l:List EntD}(h:DirOk l):∀p∈pairsD l,OkT2 p:=λp hp=>by
 obtain⟨e,he,rfl⟩:=bU.1 hp;exact⟨h.ids e he,dig_len _⟩
theorem own_dkeys:Own 12:=λ_ _=>by go_simp
theorem own_droot:Own 20:=λ_ _=>by go_simp
theorem own_depoch:Own 23:=λ_ _=>by go_simp
abbrev keysP(l:List (List UInt8)):Post PX:={ ret:=λx=>.v (.slice x.1 l.length x.2),own:=λx=>[KyS x.1 x.2 l] }
theorem dkeys_S{d:DirV}(hd:d.Ok){k:List UInt8}(hk:k.length=32):Spec 12 [(eDv d).den,(eY 32 k).den] [] d.F (keysP (bS d.l k)):=by
 have h64:=hd.small.keys k;rw [<-hd.seg_l k] at h64 ⊢;refine spec_S [.p d.parts,eY 32 k] 10 Tryz.func12 rfl (by rw [Tryz.ntmps12];rfl) (two_ok d.parts_ok (eY_ok hk).1) λb=>?_;refine s_auto TY_ok rfl ?_;refine s_regA TY_ok rfl λK hK=>?_;refine l_opV (.q (eHs (d.seg k))) trivial rfl rfl rfl (runO_hist hd (λ_ _ _ h=>h.fact) k hk rfl rfl rfl) ?_;refine l_call0 [.slice (d.seg k).A (d.seg k).l.length (d.seg k).c] rfl rfl rfl own_wclone rfl rfl (λ_ _=>rfl) (wclone_S (d.seg k).l (by omega)) (λ_ h _=>h.seg_rd k) λx=>?_;refine l_autoS TY_ok rfl ?_;refine s_end (hK _ ?_);exact s_ret (k_ret TY_ok x rfl (by decide) rfl rfl rfl (λ_ _ _=>trivial) (λ_ _=>trivial))
theorem droot_S{d:DirV}(hd:d.Ok):Spec 20 [(eDv d).den] [] d.F (one (.q (eY 32 (dY 256 (pairsD d.l))))):=by
 rw [<-hd.tree.root];refine spec_S [.p d.parts] 6 Tryz.func20 rfl (by rw [Tryz.ntmps20];rfl) (one_ok d.parts_ok) λb=>?_;refine s_auto TY_ok rfl ?_;refine s_regA TY_ok rfl λK hK=>?_;refine l_call0 [(eTr d.t 0).den] rfl rfl rfl own_tRoot rfl rfl (λ_ _=>rfl) (tRoot_S d.t 0) (λ_ h _=>h.2.2) λ_=>?_;refine l_autoS TY_ok rfl ?_;refine s_end (hK _ ?_);exact s_ret (k_ret TY_ok () rfl (by decide) rfl rfl rfl (λ_ _ _=>trivial) (λ_ _=>trivial))
theorem depoch_S(d:DirV):Spec 23 [(eDv d).den] [] (λ_=>True) (one (.v (.int .i64 d.ep))):=by
 refine spec_S [.p d.parts] 5 Tryz.func23 rfl (by rw [Tryz.ntmps23];rfl) (one_ok d.parts_ok) λb=>?_;refine s_auto TY_ok rfl ?_;refine s_auto TY_ok rfl ?_;exact s_ret (k_ret TY_ok () rfl (by decide) rfl rfl rfl (λ_ _ _=>trivial) (λ_ _=>trivial))
theorem Spec.tell{f:FuncId}{args:List Value}{F:World->Prop}{α β:Type}{ret:α->RV}{lo e k:Nat}{fe:β->SQ}{A:α->Option Addr}{c:α->Nat}{l:List β}(h:Spec f args [] F { ret:=ret,own:=λx=>[OwnS lo e k fe (A x) (c x) l] }):Spec f args [] F { ret:=ret,p:=λx=>Rd k fe (A x) (c x) l }:=λw S X hs hX hF=>by
 refine(h w S X hs hX hF).mono ?_
 rintro e w' ⟨x,S',h1,h2,h3,⟨S1,S2,h4,h8,h9,h10⟩,h5,h6,h7⟩
 refine⟨x,λ_=>False,h1,h2,h3,λ_ h=>h,λ_ h=>h.elim,λw2 hw=>(OwnS.rd h4).keep hw.size λg hg hlt=>hw.block g hlt ?_,λ_ _=>trivial⟩
 rintro(hk|hk)
 ·have hS1:S1 g:=(h4.2.2 g).2 hg
  exact hs g (h5 g ((h9 g).2 (.inl hS1)) (hX g hk).1)
 ·exact hk
theorem wcut_nil(n d:Nat)(ks:List (List UInt8)):PW.cut n d [] ks = .empty:=by cases n<;>rfl
theorem wcut_hid(n d:Nat){l:List PairT}(h:l≠[]):PW.cut n d l [] = .hid (dY (256-d) l):=by
 cases l with
 | nil=>exact absurd rfl h
 | cons p l=>cases n<;>rfl
theorem wcut_leaf(n d:Nat)(p:PairT){ks:List (List UInt8)}(h:ks≠[]):PW.cut n d [p] ks = .leaf p:=by
 cases ks with
 | nil=>exact absurd rfl h
 | cons k ks=>cases n<;>rfl
theorem wcut_inner(n d:Nat){l:List PairT}{ks:List (List UInt8)}(h2:2<=l.length)(h:ks≠[]):PW.cut (n+1) d l ks = .inner (PW.cut n (d+1) (bR d l) (PW.keyL d ks)) (PW.cut n (d+1) (bB d l) (PW.keyR d ks)):=by
 match l,ks,h2,h with
 | [],_,h2,_=>exact absurd h2 (by decide)
 | [_],_,h2,_=>exact absurd h2 (by simp)
 | _::_::_,[],_,h=>exact absurd rfl h
 | _::_::_,_::_,_,_=>rfl
theorem wcut_perm:∀(n d:Nat) (l:List PairT) {ks ks':List (List UInt8)},ks.Perm ks'->PW.cut n d l ks=PW.cut n d l ks'
 | n,d,[],_,_,_=>by rw [wcut_nil,wcut_nil]
 | n,d,p::l,ks,ks',h=>by
  by_cases e:ks=[]
  ·subst e
   rw [h.nil_eq]
  ·have e':ks'≠[]:=λh2=>e (by subst h2;exact h.eq_nil)
   cases l with
   | nil=>rw [wcut_leaf n d p e,wcut_leaf n d p e']
   | cons q l =>
    cases n with
    | zero =>
     cases ks with
     | nil=>exact absurd rfl e
     | cons=>cases ks' with
      | nil=>exact absurd rfl e'
      | cons=>rfl
    | succ n =>
     rw [wcut_inner n d (by simp) e,wcut_inner n d (by simp) e',wcut_perm n (d+1) _ (h.filter _),wcut_perm n (d+1) _ (h.filter _)]
theorem withG_some{G:Nat->Nat}:∀{L:List LV},∀u∈withG G L,u∈withG G L/\u.g.isSome=true:=λu hu=>⟨hu,by
 obtain⟨y,_,rfl⟩:=withG_mem hu
 rfl⟩
theorem l_pureV{P:Program}{b:Base}{ops:Array Oper}{Q:Exit->Act->World->Prop}{N:Nat}{E:SE}{L:List LV}{R:List Res}{F M:World->Prop}{l:List Oper}(φ:Prop)(h:∀G S w,View G S L R F M w->φ)(hn:φ->lS P b ops Q N l ⟨E,L,R,F,M⟩):lS P b ops Q N l ⟨E,L,R,F,M⟩:=λa w ⟨G,S,h1,h2,h3⟩=>hn (h G S w h3.view) a w ⟨G,S,h1,h2,h3⟩
theorem OwnS.start{α:Type}{lo e k c:Nat}{fe:α->SQ}{A:Option Addr}{l:List α}{w:World}{S:Nat->Prop}(h:(OwnS lo e k fe A c l).holds w S)(h0:0<l.length):∃g,A=some ⟨g,0,none⟩:=by
 obtain⟨h1,h2,h3⟩:=h
 rcases h2.2 with⟨h4,h5⟩|⟨g,cap,cur,hv,_⟩
 ·omega
 ·injection hv with h6 h7 h8
  exact⟨g,h6⟩
theorem own_wcut:Own 56:=λ_ _=>by go_simp
theorem own_wCut:Own 34:=λ_ _=>by go_simp
theorem wcut_S{A:Option Addr}{c:Nat}:∀(r:Nat) (l:List PairT) (t:TA) (P ks Z:List (List UInt8)) (A':Option Addr) (c':Nat),r<=256->TOk r l t->cP l->gP l->c7 (256-r) l->KeyAt A A' c' P.length ks.length->(∀k∈ks,k.length=32) ->
  Spec 56 [(eTr t ((256-r)%256)).den,.slice A' ks.length c',.int .u8 (((256-r)%256:Nat):Int)] [KyS A c (P++ks++Z)] (TF t) { ret:=λ_:{ ks':List (List UInt8) // ks'.Perm ks }=>.v (PW.cut r (256-r) l ks).val,own:=λx=>[KyS A c (P++x.1++Z)] }:=by
 intro r
 induction r using Nat.strongRecOn with
 | ind r ih =>
 intro l t P ks Z A' c' hr ht hs hk hsh hat hks
 obtain⟨D,hD⟩:∃D,(256-r)%256=D:=⟨_,rfl⟩;rw [hD];refine spec_S [eTr t D,.c (.v (.slice A' ks.length c')),.c (.v (.int .u8 (D:Int)))] 67 Tryz.func56 rfl (by rw [Tryz.ntmps56];rfl) (more_ok (trPs_ok t _) (two_ok trivial trivial)) λb=>?_;refine s_auto TY_ok rfl ?_;refine s_seq λK hK=>?_;refine s_regA TY_ok rfl λK1 hK1=>?_;refine l_call0 [(eTr t D).den] rfl rfl rfl own_tLen rfl rfl (λ_ _=>rfl) (tLen_S t D) (λ_ h _=>h) λ_=>?_;refine l_autoS TY_ok rfl ?_;refine s_end (hK1 _ ?_);have hlen:=ht.len;have hroot:=ht.root
 by_cases hl0:l=[]
 ·subst hl0
  refine s_ifD ((t.len:Int)=0) rfl (λ_=>?_) (λh=>absurd (by rw [hlen];rfl) h);refine s_regA TY_ok rfl λK2 hK2=>?_;refine l_op (.v PW.empty.val) trivial rfl rfl rfl (run_mkI rfl Tryz.underlying154 rfl rfl) ?_;refine l_autoS TY_ok rfl ?_;refine s_end (hK2 _ ?_);exact s_ret (k_ret TY_ok ⟨ks,.refl _⟩ rfl (by decide) rfl (by rw [wcut_nil];rfl) rfl (λ_ _ _=>trivial) (λ_ _=>trivial))
 have hlpos:0<l.length:=nM.2 hl0;refine s_ifD ((t.len:Int)=0) rfl (λh=>absurd h (by omega)) (λ_=>?_);refine s_skip (hK _ ?_);refine s_seq λK2 hK2=>?_;refine s_auto TY_ok rfl ?_
 by_cases hk0:ks=[]
 ·subst hk0
  refine s_ifD ((([]:List (List UInt8)).length:Int)=0) rfl (λ_=>?_) (λh=>absurd rfl h);refine s_regA TY_ok rfl λK3 hK3=>?_;refine l_call0 [(eTr t D).den] rfl rfl rfl own_tRoot rfl rfl (λ_ _=>rfl) (tRoot_S t D) (λ_ h _=>h.2) λ_=>?_;refine l_autoS TY_ok rfl ?_;refine l_op (.v (PW.hid t.root).val) trivial rfl rfl rfl (run_mkI (q:=.p (PW.hid t.root).ps) rfl Tryz.underlying156 rfl rfl) ?_;refine l_autoS TY_ok rfl ?_;refine s_end (hK3 _ ?_);exact s_ret (k_ret TY_ok ⟨[],.refl _⟩ rfl (by decide) rfl (by rw [wcut_hid _ _ hl0,show 256-(256-r)=r by omega,<-hroot];rfl) rfl (λ_ _ _=>trivial) (λ_ _=>trivial))
 have hkpos:0<ks.length:=nM.2 hk0;refine s_ifD ((ks.length:Int)=0) rfl (λh=>absurd h (by omega)) (λ_=>?_);refine s_skip (hK2 _ ?_);refine s_seq λK3 hK3=>?_;refine s_regA TY_ok rfl λK4 hK4=>?_;refine l_call0 [(eTr t D).den] rfl rfl rfl own_tLeaf rfl rfl (λ_ _=>rfl) (tLeaf_S t D) (λ_ h _=>h.2) λ_=>?_
 cases t with
 | nil=>exact absurd ht.nil_inv hl0
 | leaf g0 h0 p =>
  obtain rfl:=ht.leaf_inv;refine l_autoS TY_ok rfl ?_;refine s_end (hK4 _ ?_);refine s_auto TY_ok rfl ?_;refine s_yes rfl ?_;refine s_regD 7 (by decide) (by kernel_rfl) (by kernel_rfl) λK5 hK5 G S w0 hst=>?_;refine g_autoS TY_ok hst rfl ?_;refine g_callS (F':=TF (.leaf g0 h0 p)) hst [(eTr (.leaf g0 h0 p) D).den] rfl rfl rfl own_tRoot rfl rfl (λ_=>rfl) (tRoot_S (.leaf g0 h0 p) D) (eY_ok (n:=32) (digest256_len _)).1 (λ_ _ _ hv=>hv.fact.2.2) ?_;refine g_autoS TY_ok hst rfl ?_;refine g_opS (.v (PW.leaf p).val) trivial rfl rfl rfl (run_mkI (q:=.p (PW.leaf p).ps) rfl Tryz.underlying160 rfl rfl) ?_;refine g_autoS TY_ok hst rfl ?_;refine g_endS hst ?_;refine s_end (hK5 _ ?_);exact s_ret (k_ret TY_ok ⟨ks,.refl _⟩ rfl (by decide) rfl (by rw [wcut_leaf _ _ _ hk0];rfl) rfl (λ_ _ _=>trivial) (λ_ _=>trivial))
 | node g0 x y =>
  obtain⟨r,rfl⟩:∃q,r=q+1:=⟨r-1,by
   cases r with
   | zero=>exact ht.elim
   | succ r=>rfl⟩
  obtain rfl:255-r=D:=by omega
  rw [show 256-(r+1)=255-r by omega] at hsh;obtain⟨d,hdr⟩:∃d,255-r=d:=⟨_,rfl⟩;obtain⟨e8,he8⟩:∃e,(256-r)%256=e:=⟨_,rfl⟩
  have hd:d<256:=by omega
  have hw8:IntKind.u8.wrap ((d:Int)+1)=(e8:Int):=wrapB2 ⟨hdr.symm,by omega⟩ he8;have ih2:=λl t P ks Z A' c' ht hs hk hsh=>ih r (by omega) l t P ks Z A' c' (by omega) ht hs hk hsh;simp only [he8] at ih2;clear ih;rw [hdr] at hsh ⊢;obtain⟨hl2,hx0,hy0⟩:=ht;rw [hdr] at hx0 hy0;have hshL:=hsh.left;have hshR:=hsh.right;rw [show d+1=256-r by omega] at hshL hshR;refine l_autoS TY_ok rfl ?_;refine s_end (hK4 _ ?_);refine s_auto TY_ok rfl ?_;refine s_no rfl ?_;refine s_skip (hK3 _ ?_);refine s_keep [1,2,3] [3] rfl rfl ?_;refine s_regA TY_ok rfl λK5 hK5=>?_;refine l_call0 [(eTr (.node g0 x y) d).den] rfl rfl rfl own_tSides rfl rfl (λ_ _=>rfl) (tSides_S (.node g0 x y) d e8 hw8) (λ_ h _=>h.2.2) λ_=>?_;refine l_autoS TY_ok rfl ?_;refine s_end (hK5 _ ?_);refine s_regA TY_ok rfl λK6 hK6=>?_;refine l_R ([KyS A c (P++ks++Z)]++[]) rfl ?_;refine l_callA [.slice A' ks.length c',.int .u8 (d:Int)] rfl rfl rfl own_wparted rfl rfl (λ_ _=>rfl) (wparted_S P ks Z d hd hat hks) (λ_ _ _=>trivial) λu=>?_;obtain⟨⟨ys,zs⟩,hpt⟩:=u;refine l_autoS TY_ok rfl ?_;refine s_end (hK6 _ ?_);have hplen:=hpt.len
  dsimp only at hplen
  have hysl:∀k∈ys,k.length=32:=λk h=>hks k ((hpt.perm.mem_iff).1 (List.mem_append_left _ h));have hzsl:∀k∈zs,k.length=32:=λk h=>hks k ((hpt.perm.mem_iff).1 (List.mem_append_right _ h));have hsL:cP (bR d l):=hs.filter _;have hsR:cP (bB d l):=hs.filter _;have hkL:gP (bR d l):=hk.filter _;have hkR:gP (bB d l):=hk.filter _;have hcall1:=ih2 (bR d l) x P ys (zs++Z) A' c' hx0 hsL hkL hshL (hat.left (by omega)) hysl
  have hcall2:=λys':{ q:List (List UInt8) // q.Perm ys }=>ih2 (bB d l) y (P++ys'.1) zs Z (cutK 32 A' c' ys.length) (c'-ys.length) hy0 hsR hkR hshR (by
   have:=hat.right (m:=ys.length) (by omega);rw [show ks.length-ys.length=zs.length by omega] at this;rw [aB,ys'.2.length_eq]
   exact this) hzsl
  have hX:(PW.cut r (256-r) (bR d l) ys).root=x.root:=by
   rw [(PW.cut_of r ys (by omega) hsL hkL hshL).root,hx0.root,show 256-(256-r)=r by omega]
  have hY:(PW.cut r (256-r) (bB d l) zs).root=y.root:=by
   rw [(PW.cut_of r zs (by omega) hsR hkR hshR).root,hy0.root,show 256-(256-r)=r by omega]
  have hfin:PW.cut (r+1) (256-(r+1)) l ks = .inner (PW.cut r (256-r) (bR d l) ys) (PW.cut r (256-r) (bB d l) zs):=by
   rw [show 256-(r+1)=d by omega,wcut_inner r d hl2 hk0,show d+1=256-r by omega,wcut_perm r _ _ hpt.1,wcut_perm r _ _ hpt.2]
  have hroot2:fM x.root y.root=fM (PW.cut r (256-r) (bR d l) ys).root (PW.cut r (256-r) (bB d l) zs).root:=by rw [hX,hY]
  generalize PW.cut r (256-r) (bR d l) ys=X at *;generalize PW.cut r (256-r) (bB d l) zs=Y at *;refine s_keep [2,3,10,11,13,14] [3,10,11] rfl rfl ?_;refine s_locs λG=>?_;refine s_seq λK7 hK7=>?_;refine s_anyP [0,2,3,4,5,7,8,9,10] 11 5 (InvL (withG G [⟨11,none,31,trPs y e8⟩,⟨10,none,31,trPs x e8⟩,⟨3,none,31,trPs (.node g0 x y) d⟩])) (by kernel_rfl) rfl (inv_of withG_some) ?_;refine p_frontS TY_ok 0 (by kernel_rfl) rfl rfl rfl rfl rfl rfl (λx hx=>hx) (λ_ h=>h) ?_;refine p_frontS TY_ok 2 (by kernel_rfl) rfl rfl rfl rfl rfl rfl (λx hx=>hx) (λ_ h=>h) ?_;refine p_frontS TY_ok 3 (by kernel_rfl) rfl rfl rfl rfl rfl rfl (λx hx=>hx) (λ_ h=>h) ?_;refine p_frontS TY_ok 4 (by kernel_rfl) rfl rfl rfl rfl rfl rfl (λx hx=>hx) (λ_ h=>h) ?_;refine p_frontS TY_ok 5 (by kernel_rfl) rfl rfl rfl rfl rfl rfl (λx hx=>hx) (λ_ h=>h) ?_;refine p_frontS TY_ok 7 (by kernel_rfl) rfl rfl rfl rfl rfl rfl (λx hx=>hx) (λ_ h=>h) ?_;refine p_frontS TY_ok 8 (by kernel_rfl) rfl rfl rfl rfl rfl rfl (λx hx=>hx) (λ_ h=>h) ?_;refine p_frontS TY_ok 9 (by kernel_rfl) rfl rfl rfl rfl rfl rfl (λx hx=>hx) (λ_ h=>h) ?_;refine p_frontS TY_ok 10 (by kernel_rfl) rfl rfl rfl rfl rfl rfl (λx hx=>hx) (λ_ h=>h) ?_;refine p_step 1 (by kernel_rfl) rfl λK8 hK8=>?_;refine l_call0 [(eTr (.node g0 x y) d).den] rfl rfl rfl own_tRoot rfl rfl (λ_ _=>rfl) (tRoot_S (.node g0 x y) d) (λ_ h _=>h.2.2.2.2) λ_=>?_;refine s_end (hK8 _ (inv_of withG_some) ?_);refine p_step 6 (by kernel_rfl) rfl λK9 hK9=>?_;refine l_num 57 (e8:Int) rfl hw8 ?_;refine l_R [KyS A c (P++(ys++zs)++Z)] rfl ?_;refine l_R ([KyS A c (P++ys++(zs++Z))]++[]) (congrArg (λq=>[KyS A c q]) (by simp:P++(ys++zs)++Z=P++ys++(zs++Z))) ?_;refine l_callA [(eTr x e8).den,.slice A' ys.length c',.int .u8 (e8:Int)] rfl rfl rfl own_wcut rfl rfl (λ_ _=>rfl) hcall1 (λ_ h _=>h.2.2.2.2.2.2.1) λys'=>?_;refine s_end (hK9 _ (inv_of withG_some) ?_);refine p_tail [11,12,13,14,15] (by kernel_rfl) rfl ?_;refine l_num 62 (e8:Int) rfl hw8 ?_;refine l_R [KyS A c (P++ys'.1++(zs++Z))] rfl ?_;refine l_R ([KyS A c (P++ys'.1++zs++Z)]++[]) (congrArg (λq=>[KyS A c q]) (by simp:P++ys'.1++(zs++Z)=P++ys'.1++zs++Z)) ?_;refine l_callA [(eTr y e8).den,.slice (cutK 32 A' c' ys.length) zs.length (c'-ys.length),.int .u8 (e8:Int)] rfl rfl rfl own_wcut rfl rfl (λ_ _=>rfl) (hcall2 ys') (λ_ h _=>h.2.2.2.2.2.2.2.2) λzs'=>?_;refine l_op (.p (sdW X Y)) (sdW_ok _ _) rfl rfl rfl (run_sides rfl rfl rfl) ?_;refine l_eq 53 (.q (eY 32 (fM X.root Y.root))) rfl (congrArg (λq=>SV.q (eY 32 q)) hroot2) ?_;refine l_autoS TY_ok rfl ?_;refine l_op (.v (PW.inner X Y).val) trivial rfl rfl rfl (run_mkI (q:=.p (PW.inner X Y).ps) rfl Tryz.underlying167 rfl rfl) ?_
  refine l_autoS TY_ok rfl ?_;refine s_end (hK7 _ ?_);exact s_ret (k_ret TY_ok ⟨ys'.1++zs'.1,(ys'.2.append zs'.2).trans hpt.perm⟩ rfl (by decide) rfl (congrArg (λq:PW=>RV.v q.val) hfin) (congrArg (λq=>[KyS A c q]) (by simp:P++(ys'.1++zs'.1)++Z=P++ys'.1++zs'.1++Z)) (λ_ _ _=>trivial) (λ_ _=>trivial))
theorem wCut_S{A:Option Addr}{c:Nat}(l:List PairT)(t:TA)(ks:List (List UInt8))(ht:TOk 256 l t)(hs:cP l)(hk:gP l)(hl:ks.length<=1000000)(hks:∀k∈ks,k.length=32) :
  Spec 34 [(eTr t 0).den,.slice A ks.length c] [] (λw=>TF t w/\Rd 32 (eY 32) A c ks w) (one (.q (prQ (PW.cut 256 0 l ks)))):=by
 obtain⟨W,hW⟩:∃W,PW.cut 256 0 l ks=W:=⟨_,rfl⟩;rw [hW];refine spec_S [eTr t 0,.c (.v (.slice A ks.length c))] 10 Tryz.func34 rfl (by rw [Tryz.ntmps34];rfl) (two_ok (trPs_ok t _) trivial) λb=>?_;refine s_auto TY_ok rfl ?_;refine s_locs λG=>?_;refine s_seq λK hK=>?_;refine s_anyP [0,1] 3 3 (InvL (withG G [⟨4,none,91,[.one (.v .nilIface)]⟩,⟨2,none,31,trPs t 0⟩])) (by kernel_rfl) rfl (inv_of withG_some) ?_;refine p_frontS TY_ok 0 (by kernel_rfl) rfl rfl rfl rfl rfl rfl (λx hx=>hx) (λ_ h=>h) ?_;refine p_frontS TY_ok 1 (by kernel_rfl) rfl rfl rfl rfl rfl rfl (λx hx=>hx) (λ_ h=>h) ?_;refine p_step 2 (by kernel_rfl) rfl λK1 hK1=>?_;refine l_call0 [.slice A ks.length c] rfl rfl rfl own_wclone rfl rfl (λ_ _=>rfl) (wclone_S ks hl) (λ_ h _=>h.2) λx=>?_;obtain⟨A1,c1⟩:=x;refine s_end (hK1 _ (inv_of withG_some) ?_);refine p_tail [3,4,5] (by kernel_rfl) rfl ?_;refine l_R [KyS A1 c1 ks] rfl ?_;refine l_pureV (KeyAt A1 A1 c1 0 ks.length) (λG S w hv=>?_) λhat=>?_
 ·obtain⟨S1,S2,hh,_⟩:=hv.res
  have hr:=OwnS.rd hh
  exact⟨hr.1,hr.2.1,hr.2.2.1,λh0=>by
   obtain⟨g,hg⟩:=OwnS.start hh h0
   exact⟨g,hg,hg⟩⟩
 have hcut:=wcut_S (A:=A1) (c:=c1) 256 l t [] ks [] A1 c1 (aE _) ht hs hk (λ_ _ _ _ _ h=>absurd h (oH _)) hat hks;replace hcut:Spec 56 [(eTr t 0).den,.slice A1 ks.length c1,.int .u8 0] [KyS A1 c1 ([]++ks++[])] (TF t) { ret:=λ_:{ ks':List (List UInt8) // ks'.Perm ks }=>.v (PW.cut 256 0 l ks).val,own:=λx=>[KyS A1 c1 ([]++x.1++[])] }:=hcut;rw [hW] at hcut;refine l_R ([KyS A1 c1 ([]++ks++[])]++[]) (congrArg (λq=>[KyS A1 c1 q]) (by simp:ks=[]++ks++[])) ?_;refine l_callA [(eTr t 0).den,.slice A1 ks.length c1,.int .u8 0] rfl rfl rfl own_wcut rfl rfl (λ_ _=>rfl) hcut (λ_ h _=>h.2.1) λys=>?_;refine l_call0 [W.val] rfl rfl rfl own_wpart rfl rfl (λ_ _=>rfl) (wpart_S W) (λ_ _ _=>trivial) λ_=>?_;refine l_autoS TY_ok rfl ?_;refine s_end (hK _ ?_);refine s_ret (k_drop 0 rfl ?_);exact k_ret TY_ok () rfl (by decide) rfl rfl rfl (λ_ _ _=>trivial) (λ_ _=>trivial)
theorem own_danswer:Own 14:=λ_ _=>by go_simp
theorem own_dright:Own 19:=λ_ _=>by go_simp
def partD(l:List EntD)(k:List UInt8):PW:=PW.cut 256 0 (pairsD l) [k]
theorem partD_of{l:List EntD}(h:DirOk l)(k:List UInt8):PW.Of 0 (pairsD l) [k] (partD l k):=PW.cut_of 256 [k] rfl (DirOk.pairs h).1 (DirOk.pairs h).2 shares0
theorem partD_right{l:List EntD}(h:DirOk l)(k:List UInt8):PW.Right [] (partD l k):=PW.Of.right (way:=[]) (partD_of h k) λp hp=>⟨(pairs_ok h p hp).1,(pairs_ok h p hp).2,λi hi=>absurd hi (oH i)⟩
structure AnX where
  A:Option Addr
  c:Nat
  B:Option Addr
  d:Nat
def eAn(x:AnX)(n m:Nat):SQ:=.p [.one (.v (.slice x.A n x.c)),.one (.v (.slice x.B m x.d))]
theorem eAn_ok(x:AnX)(n m:Nat):(eAn x n m).Ok:=λp hp=>by
 rcases aL.1 hp with rfl|hp
 ·exact⟨trivial,rfl,rfl⟩
 ·rw [aF.1 hp]
  exact⟨trivial,rfl,rfl⟩
theorem dright_S{l:List EntD}(hl:DirOk l)(h64:SmallD l){k:List UInt8}(hk:k.length=32)(x:AnX):Spec 19 [(eY 32 (dY 256 (pairsD l))).den,(eY 32 k).den,(eAn x (bS l k).length (partD l k).bytes.length).den] []
  (λw=>Ta w/\Rd 32 (eY 32) x.A x.c (bS l k) w/\Rd 1 eB x.B x.d (partD l k).bytes w) (one (.v (.int .i64 0))):=by
 have hW:=partD_right hl k;have hroot:(partD l k).root=dY 256 (pairsD l):=(partD_of hl k).root;have htell:=(partD_of hl k).tells (aF.2 rfl) (DirOk.pairs hl).1
 have hr32:(dY 256 (pairsD l)).length=32:=by rw [<-hroot];exact hW.good.root_len
 rw [getT_pairs hl] at htell;have hval:=hvalue_S (A:=x.A) (c:=x.c) (bS l k);have hv32:(valH (bS l k)).length=32:=dig_len _;have hk64:=h64.keys k;obtain⟨W,eW⟩:∃W,partD l k=W:=⟨_,rfl⟩;obtain⟨rt,ert⟩:∃rt,dY 256 (pairsD l)=rt:=⟨_,rfl⟩;obtain⟨ks,eks⟩:∃ks,bS l k=ks:=⟨_,rfl⟩;rw [eW] at hW hroot htell;rw [ert] at hroot hr32;rw [eks] at htell hval hv32 hk64;rw [eW,ert,eks];obtain⟨va,eva⟩:∃va,valH ks=va:=⟨_,rfl⟩;rw [eva] at htell hval hv32;clear eW ert eks;refine spec_S [eY 32 rt,eY 32 k,eAn x ks.length W.bytes.length] 50 Tryz.func19 rfl (by rw [Tryz.ntmps19];rfl) (more_ok (eY_ok hr32).1 (two_ok (eY_ok hk).1 (eAn_ok _ _ _))) λb=>?_;refine s_auto TY_ok rfl ?_;have hpar:=wParse_S (A:=x.B) (c:=x.d) W.bytes;rw [PW.parse_bytes hW] at hpar;refine s_regA TY_ok rfl λK hK=>?_;refine l_call0 [.slice x.B W.bytes.length x.d] rfl rfl rfl own_wParse rfl rfl (λ_ _=>rfl) hpar (λ_ h _=>⟨h.2.2,h.1.sh⟩) λ_=>?_;refine l_autoS TY_ok rfl ?_;refine s_end (hK _ ?_);refine s_seq λK1 hK1=>?_;refine s_auto TY_ok rfl ?_;refine s_ifD ((0:Int)≠0) rfl (λh=>absurd rfl h) λ_=>?_;refine s_skip (hK1 _ ?_);refine s_seq λK2 hK2=>?_;refine s_regH 4 (by decide) (by kernel_rfl) (by kernel_rfl) λK3 hK3 G S w0 hst=>?_;refine h_auto TY_ok hst rfl ?_;refine h_callS (F':=λ_=>True) (r:=.q (eY 32 W.root)) hst [(prQ W).den] rfl rfl rfl rfl own_wRoot rfl rfl (λ_=>rfl) (eY_ok (by rw [hroot];exact hr32)).1 (wRoot_S hW.good) (λ_ _ _ _=>trivial) ?_;refine h_auto TY_ok hst rfl ?_;refine h_op hst (.b (!decide (W.root=rt))) trivial rfl rfl rfl rfl (run_neqY rfl rfl rfl Tryz.underlying45 (by kernel_rfl) (by rw [hroot];exact hr32) hr32) ?_;refine h_end hst ?_;refine l_is 23 false rfl (by rw [hroot];simp) ?_;refine s_end (hK3 _ ?_);refine s_no rfl ?_;refine s_skip (hK2 _ ?_);have hget:=wGet_S hk W hW;rw [htell] at hget
 by_cases h0:ks=[]
 ·subst h0
  rw [if_pos rfl] at hget;refine s_regA TY_ok rfl λK4 hK4=>?_;refine l_call0 [(prQ W).den,(eY 32 k).den] rfl rfl rfl own_wGet rfl rfl (λ_ _=>rfl) hget (λ_ _ _=>trivial) λ_=>?_;refine l_autoS TY_ok rfl ?_;refine s_end (hK4 _ ?_);refine s_seq λK5 hK5=>?_;refine s_auto TY_ok rfl ?_;refine s_ifD ((0:Int)≠0) rfl (λh=>absurd rfl h) λ_=>?_;refine s_skip (hK5 _ ?_);refine s_seq λK6 hK6=>?_;refine s_regH 16 (by decide) (by kernel_rfl) (by kernel_rfl) λK7 hK7 G S w0 hst=>?_;refine h_auto TY_ok hst rfl ?_;refine h_op hst (.b (!(false==decide ((([]:List (List UInt8)).length:Int)>0)))) trivial rfl rfl rfl rfl (run_neqBoolW rfl rfl rfl (λ_=>rfl) (λ_=>rfl)) ?_;refine h_is 39 false rfl rfl ?_;refine h_auto TY_ok hst rfl ?_;refine h_end hst ?_;refine s_end (hK7 _ ?_);refine s_no rfl ?_;refine s_skip (hK6 _ ?_);refine s_auto TY_ok rfl ?_;exact s_ret (k_ret TY_ok () rfl (by decide) rfl rfl rfl (λ_ _ _=>trivial) (λ_ _=>trivial))
 ·rw [if_neg h0] at hget
  have hpos:decide ((ks.length:Int)>0)=true:=decide_eq_true (by have:=nM.2 h0;omega);refine s_regA TY_ok rfl λK4 hK4=>?_;refine l_call0 [(prQ W).den,(eY 32 k).den] rfl rfl rfl own_wGet rfl rfl (λ_ _=>rfl) hget (λ_ _ _=>trivial) λ_=>?_;refine l_autoS TY_ok rfl ?_;refine s_end (hK4 _ ?_);refine s_seq λK5 hK5=>?_;refine s_auto TY_ok rfl ?_;refine s_ifD ((0:Int)≠0) rfl (λh=>absurd rfl h) λ_=>?_;refine s_skip (hK5 _ ?_);refine s_seq λK6 hK6=>?_;refine s_regH 16 (by decide) (by kernel_rfl) (by kernel_rfl) λK7 hK7 G S w0 hst=>?_;refine h_auto TY_ok hst rfl ?_;refine h_op hst (.b (!(true==decide ((ks.length:Int)>0)))) trivial rfl rfl rfl rfl (run_neqBoolW rfl rfl rfl (λ_=>rfl) (λ_=>rfl)) ?_;refine h_is 39 false rfl (by rw [hpos];rfl) ?_;refine h_auto TY_ok hst rfl ?_;refine h_callS (F':=λw=>Ta w/\Rd 32 (eY 32) x.A x.c ks w) (r:=.q (eY 32 va)) hst [.slice x.A ks.length x.c] rfl rfl rfl rfl own_hvalue rfl rfl (λ_=>rfl) (eY_ok hv32).1 hval (λ_ _ _ h=>⟨h.fact.2.2.1,h.fact.2.2.2.1⟩) ?_;refine h_auto TY_ok hst rfl ?_;refine h_op hst (.b (!decide (va=va))) trivial rfl rfl rfl rfl (run_neqY rfl rfl rfl Tryz.underlying45 (by kernel_rfl) hv32 hv32) ?_;refine h_is 47 false rfl (by simp) ?_;refine h_auto TY_ok hst rfl ?_;refine h_end hst ?_;refine s_end (hK7 _ ?_);refine s_no rfl ?_;refine s_skip (hK6 _ ?_);refine s_auto TY_ok rfl ?_;exact s_ret (k_ret TY_ok () rfl (by decide) rfl rfl rfl (λ_ _ _=>trivial) (λ_ _=>trivial))
abbrev ansP(l:List EntD)(k:List UInt8):Post AnX:={ ret:=λx=>.q (eAn x (bS l k).length (partD l k).bytes.length),p:=λx w=>Rd 32 (eY 32) x.A x.c (bS l k) w/\Rd 1 eB x.B x.d (partD l k).bytes w }
theorem partD_le{l:List EntD}(h:DirOk l)(hl:l.length<=1000)(k:List UInt8):(partD l k).bytes.length<=1000000:=by
 have h1:=PW.cut_le 256 (d:=0) (ks:=[k]) (pairs_ok h);have h2:(pairsD l).length=l.length:=cC ..;have h3:(70+2*256)*(pairsD l).length<=(70+2*256)*1000:=Nat.mul_le_mul_left _ (by omega)
 unfold partD
 omega
theorem danswer_S{d:DirV}(hd:d.Ok)(hl:d.l.length<=1000){k:List UInt8}(hk:k.length=32):Spec 14 [(eDv d).den,(eY 32 k).den] [] d.F (ansP d.l k):=by
 have hW:=partD_right hd.dir k;have hlen:=partD_le hd.dir hl k;have hke:=dkeys_S hd hk;have hcut:=λA=>wCut_S (A:=A) (c:=1) (pairsD d.l) d.t [k] hd.tree (DirOk.pairs hd.dir).1 (DirOk.pairs hd.dir).2 (by show 1<=1000000;decide) (λx hx=>by rw [aF.1 hx];exact hk);have hcut:∀A,Spec 34 [(eTr d.t 0).den,.slice A 1 1] [] (λw=>TF d.t w/\Rd 32 (eY 32) A 1 [k] w) (one (.q (prQ (partD d.l k)))):=hcut
 unfold ansP
 obtain⟨W,eW⟩:∃W,partD d.l k=W:=⟨_,rfl⟩;obtain⟨ks,eks⟩:∃ks,bS d.l k=ks:=⟨_,rfl⟩;rw [eW] at hW hlen hcut ⊢;rw [eks] at hke ⊢;clear eW eks;refine spec_S [.p d.parts,eY 32 k] 15 Tryz.func14 rfl (by rw [Tryz.ntmps14];rfl) (two_ok d.parts_ok (eY_ok hk).1) λb=>?_;refine s_auto TY_ok rfl ?_;refine s_seq λK hK=>?_;refine s_locs λG=>?_;refine s_anyP [0,1,3,4,5] 10 1 (InvL (withG G [⟨4,none,53,[.one (.v (.slice none 0 0)),.one (.v (.slice none 0 0))]⟩,⟨3,none,45,[.agg 32 (By k).toArray]⟩,⟨2,none,33,d.parts⟩])) (by kernel_rfl) rfl (inv_of withG_is) ?_;refine p_front TY_ok 0 (by kernel_rfl) rfl rfl rfl rfl rfl rfl (λ_ h=>h) ?_;refine p_front TY_ok 1 (by kernel_rfl) rfl rfl rfl rfl rfl rfl (λ_ h=>h) ?_;refine p_front TY_ok 3 (by kernel_rfl) rfl rfl rfl rfl rfl rfl (λ_ h=>h) ?_;refine p_front TY_ok 4 (by kernel_rfl) rfl rfl rfl rfl rfl rfl (λ_ h=>h) ?_;refine p_front TY_ok 5 (by kernel_rfl) rfl rfl rfl rfl rfl rfl (λ_ h=>h) ?_
 let Ef:PX->Option Addr->Env:=λy A=>⟨[(7,.v (.slice y.1 ks.length y.2)),(11,.v (.slice A 1 1)),(9,.p [.agg 2 #[d.t.val,.int .u8 0]]),(4,.a 4 0)],withG G [⟨4,none,53,[.one (.v (.slice none 0 0)),.one (.v (.slice none 0 0))]⟩,⟨3,none,45,[.agg 32 (By k).toArray]⟩,⟨2,none,33,d.parts⟩],[KyS y.1 y.2 ks],λw=>Rd 32 (eY 32) A 1 [k] w/\TF d.t w,λ_=>True⟩
 refine p_step2 2 6 (by kernel_rfl) rfl rfl (λKa hKa=>?pa) λKa hKa=>?pb
 case' pa =>
  refine l_call0 [(eDv d).den,(eY 32 k).den] rfl rfl rfl own_dkeys rfl rfl (λ_ _=>rfl) hke (λ_ h _=>h) λy=>?_;refine s_end (hKa _ (inv_of withG_is) ?_);refine p_step 6 (by kernel_rfl) rfl λKb hKb=>?_;refine l_list (fe:=eY 32) TY_ok 0 [k] rfl rfl rfl rfl rfl (λ_=>rfl) rfl (by decide) (by decide) (λy hy=>by rw [aF.1 hy];exact eY_ok hk) (aI _) λA=>?_;refine l_free 0 rfl ?_;refine s_end (hKb _ (inv_of withG_is) ?_);refine p_weak (e':=Ef y A) ⟨⟨rfl,rfl,rfl,rfl,trivial⟩,⟨rfl,rfl,rfl,rfl,rfl,rfl,trivial⟩,.refl _,λ_ h _=>⟨h.1,h.2.2.2.2⟩,λ_ _=>trivial⟩ ?_
 case' pb =>
  refine l_list (fe:=eY 32) TY_ok 0 [k] rfl rfl rfl rfl rfl (λ_=>rfl) rfl (by decide) (by decide) (λy hy=>by rw [aF.1 hy];exact eY_ok hk) (aI _) λA=>?_;refine l_free 0 rfl ?_;refine s_end (hKa _ (inv_of withG_is) ?_);refine p_step 2 (by kernel_rfl) rfl λKb hKb=>?_;refine l_call0 [(eDv d).den,(eY 32 k).den] rfl rfl rfl own_dkeys rfl rfl (λ_ _=>rfl) hke (λ_ h _=>h.2) λy=>?_;refine s_end (hKb _ (inv_of withG_is) ?_);refine p_weak (e':=Ef y A) ⟨⟨rfl,rfl,rfl,rfl,trivial⟩,⟨rfl,rfl,rfl,rfl,rfl,rfl,trivial⟩,.refl _,λ_ h _=>⟨h.2.1,h.2.2.2.2⟩,λ_ _=>trivial⟩ ?_
 all_goals
  refine p_step 7 (by kernel_rfl) rfl λKc hKc=>?_;refine l_call0 [(eTr d.t 0).den,.slice A 1 1] rfl rfl rfl own_wCut rfl rfl (λ_ _=>rfl) (hcut A) (λ_ h _=>⟨h.2,h.1⟩) λ_=>?_;refine s_end (hKc _ (inv_of withG_is) ?_);refine p_step 8 (by kernel_rfl) rfl λKd hKd=>?_;refine l_call0 [(prQ W).den] rfl rfl rfl own_wBytes rfl rfl (λ_ _=>rfl) (wBytes_S hW.good hlen) (λ_ _ _=>trivial) λz=>?_;refine s_end (hKd _ (inv_of withG_is) ?_);refine p_step 9 (by kernel_rfl) rfl λKe hKe=>?_;refine l_autoS TY_ok rfl ?_;refine s_end (hKe _ (inv_of withG_is) ?_);refine p_tail [10] (by kernel_rfl) rfl ?_;refine l_autoS TY_ok rfl ?_;refine l_free 0 rfl (l_free 0 rfl ?_);refine s_end (hK _ ?_);exact s_ret (k_ret TY_ok (⟨y.1,y.2,z.1,z.2⟩:AnX) rfl (by decide) rfl rfl rfl (λ_ h _=>⟨h.1,h.2.1⟩) (λ_ _=>trivial))
end Go.Proofs.YtlhlkofpjhpaoaaGreatDoor
namespace Nums
def sT:Tri:=⟨0,1,1⟩
def sU:Tri:=⟨bx,bY,1⟩
theorem tQ:fV sT Ed.zero:=by
 unfold fV sT
 rw [kH,gB];exact Ed.Rep.zero cV
theorem tR:fV sU base:=by
 unfold fV sU
 rw [gB]
 have e:∀u:F,u=u*1:=λu=>by grind only
 exact⟨λh=>lK cV h.symm,e _,e _⟩
theorem vC(n:Nat)(hn:n<2^256):fV (lJ 256 n sT sU) (Ed.mul dd n base):=by
 have h:=kP 256 n sT sU Ed.zero base hn Ed.jW fY tQ tR
 rwa [Ed.zero_add good] at h
def rU(t:Tri)(zi:Nat):List UInt8:=forced (t.y*zi%p) λy=>forced (t.x*zi%p%2) λo=>bytes 32 (y+57896044618658097711785492504343953926634992332820282019728792003956564819968*o)
theorem vU{t:Tri}{A:Ed.Pt p}(h:fV t A){zi:Nat}(hz:t.z*zi%p=1):eO A=rU t zi:=by
 have h1:fof t.z*fof zi=1:=by
  rw [<-dQ,<-gB];exact iR (by rw [hz];decide)
 have hf:fU (fof t.z)=fof zi:=qD cV h1;have ha:=h.aff cV;rw [hf,<-dQ,<-dQ] at ha
 unfold rU
 simp only [gA];rw [eO,nB,<-ha.1,<-ha.2,jX,jX]
end Nums
namespace Go.Proofs.YtlhlkofpjhpaoaaGreatDoor
open Nums
def powK:Nat->Nat->Nat->Nat->Nat
  | 0,_,_,a=>a
  | f+1,b,e,a=>forced (b*b%p) λb2=>forced (if e%2=1 then a*b%p else a) λa2=>powK f b2 (e/2) a2
def keyZ(n:Nat)(t:Tri)(zi:Nat):Option (List UInt8):=if decide (n<2^256)&&decide (t.z*zi%p=1) then some (rU t zi) else none
def keyT(n:Nat)(t:Tri):Option (List UInt8):=forced (powK 255 t.z (p-2) 1) (keyZ n t)
def keyK(seed:List UInt8):Option (List UInt8):=forced (le (lO ((jY dF 1 seed).take 32))) λn=>keyT n (lJ 256 n sT sU)
theorem keyZ_ok{n zi:Nat}{t:Tri}{k:List UInt8}(ht:lJ 256 n sT sU=t)(h:keyZ n t zi=some k):eO (Ed.mul dd n base)=k:=by
 unfold keyZ at h
 split at h
 ·rename_i hc
  rw [Bool.and_eq_true] at hc
  injection h with h
  rw [<-h];exact vU (ht▸vC n (of_decide_eq_true hc.1)) (of_decide_eq_true hc.2)
 ·cases h
theorem ab_is{seed:List UInt8}(hs:seed.length=32):le (jN seed)=le (lO ((jY dF 1 seed).take 32)):=by
 rw [jN,sgD,l7 1 seed (by decide) (by decide) (by rw [aB,hs];decide +kernel)]
theorem key_is{seed k:List UInt8}(hs:seed.length=32)(h:keyK seed=some k):gD seed=k:=by
 rw [keyK,gA] at h;rw [gD,ab_is hs];generalize le (lO ((jY dF 1 seed).take 32))=n at *;rw [keyT,gA] at h;exact keyZ_ok rfl h
theorem key_all{seed:List UInt8}(hs:seed.length=32)(h:(keyK seed).isSome=true):gD seed=(keyK seed).getD []:=by
 cases hk:keyK seed with
 | none=>rw [hk] at h;cases h
 | some k=>exact key_is hs hk
end Go.Proofs.YtlhlkofpjhpaoaaGreatDoor
namespace Go.Proofs.YtlhlkofpjhpaoaaGreatDoor
open Go.RowKit Go.IntWalk Nums
section
variable{α:Type}{fe:α->SQ}{l:List α}{T:List TyR}{b:Base}{ops:Array Oper}{Q:Exit->Act->World->Prop}{N:Nat}{G:Nat->Nat}{S:Nat->Prop}{E:SE}{L:List LV}{R:List Res}{F M:World->Prop}{w0:World}{T':List Oper}{Fa:Told}{i1 i2:Nat}{o1 o2:Oper}{rest:List (Nat×Oper)}{u:EL}
theorem h_elem(hst:StW b G S L R F M w0)(h:elemS TY N E o1 o2=some u)(hg:o1.guard=none)(hg2:o2.guard=none)(hf1:farP i1 Fa=true)(hf2:farP i2 Fa=true)(j:Nat){x:α}(hj:u.i=(j:Int))(hx:l[j]?=some x)(hn:u.n=l.length)(hl:loadS TY (fe x).parts1 u.t 0=some (fe x))
 (hrd:∀G S w,View G S L R F M w->Rd u.sz fe u.A u.c l w)(hk:hS Tryz.prog ops Q N T' G w0 rest ((u.k2,.q (fe x))::(u.k1,.o (ptrAt u.A (u.sz*j)))::E) Fa):hS Tryz.prog ops Q N T' G w0 ((i1,o1)::(i2,o2)::rest) E Fa:=by
 obtain⟨d1,d2,n1,n2,ho2, -⟩:=elemS_ok (P:=Tryz.prog) TY_ok h;obtain⟨_,_,_,h4,_⟩:=hrd G S w0 hst.view;refine h_opV hst (.o (ptrAt u.A (u.sz*j))) (ptrAt_ok _ _) hf1 hg d1 n1 (λG S a w ha hv=>(elem_run TY_ok h j hj hx hn hl (hrd G S w hv) ha).1) ?_;refine h_opV hst (.q (fe x)) (SQ.ok_parts (h4 x (aX hx)).1) hf2 hg2 d2 n2 (λG S a w ha hv=>?_) hk;obtain⟨_,_,_,hok,hr⟩:=hrd G S w hv;obtain⟨bk,o,hA,hb,hr⟩:=hr (by have:=(bG.1 hx).1;omega);obtain⟨hp,hsz⟩:=hok x (aX hx)
 have ha':a.eval (.tmp u.k1) = .pointer (some ⟨bk,o+u.sz*j,none⟩):=by
  have e:=ha.get u.k1 _ (by rw [denE,look_cons,if_pos rfl]);rw [hA] at e;exact e
 obtain⟨_,h12⟩:=loadS_at TY_ok hp hl;have h13:=h12 (w:=w) (g:=bk) (base:=o+u.sz*j) (by rw [<-SQ.cl_parts hp];exact hr j x hx);rw [Nat.add_zero] at h13
 unfold execOp
 simp only [ho2,ha',h13,Sem.run_bind,Sem.run_pure,Result.andThen_ok]
 rfl
end
abbrev EnX:=List UInt8×HSeg
def eEn(e:EnX):SQ:=.p [.agg 32 (By e.1).toArray,.one (.v (.slice e.2.A e.2.l.length e.2.c))]
theorem eEn_ok{e:EnX}(h:e.1.length=32):OkP (eEn e).parts1/\(eEn e).cl.length=33:=⟨λp hp=>by
 rcases aL.1 hp with rfl|hp
 ·exact(eY_ok h).1 _ List.mem_cons_self
 ·rw [aF.1 hp]
  exact⟨trivial,rfl,rfl⟩,by
 show(catP [.agg 32 (By e.1).toArray,.one (.v (.slice e.2.A e.2.l.length e.2.c))]).toList.length=33
 rw [catP_cons]
 simp [Pt.cells,catP,By_len,h]⟩
structure DocV where
  ep:Int
  A:Option Addr
  c:Nat
  es:List EnX
def DocV.parts(x:DocV):List Pt:=[.one (.v (.int .i64 x.ep)),.one (.v (.slice x.A x.es.length x.c))]
abbrev eDc(x:DocV):SQ:=.p x.parts
theorem DocV.parts_ok(x:DocV):OkP x.parts:=λp hp=>by
 rcases aL.1 hp with rfl|hp
 ·exact⟨trivial,rfl,rfl⟩
 ·rw [aF.1 hp]
  exact⟨trivial,rfl,rfl⟩
def DocV.F(x:DocV)(w:World):Prop:=Rd 33 eEn x.A x.c x.es w/\∀e∈x.es,e.2.rd w
instance docPst{x:DocV}:Pst x.F:=⟨λ_ _ ⟨h1,h2⟩ hb=>⟨h1.later hb,λe he=>Pst.later (p:=e.2.rd) _ _ (h2 e he) hb⟩⟩
def DocV.l(x:DocV):List EntD:=x.es.map entD
theorem DocV.len(x:DocV):x.l.length=x.es.length:=cC ..
theorem DocV.at{x:DocV}{i:Nat}{e:EnX}(h:x.es[i]?=some e):x.l.drop i=entD e::x.l.drop (i+1):=by
 have h1:x.l[i]?=some (entD e):=by unfold DocV.l;rw [fX,h];rfl
 obtain⟨h2,h3⟩:=bG.1 h1;rw [List.drop_eq_getElem_cons h2,h3]
theorem DocV.done(x:DocV):x.l.drop x.es.length=[]:=List.drop_of_length_le (by rw [x.len];exact aE _)
def zDocV:DocV:=⟨0,none,0,[]⟩
theorem zDocV_F(w:World):zDocV.F w:=⟨Rd.nil _ _ _,λ_ h=>by cases h⟩
theorem nextI(i n:Nat)(h:n<=9223372036854775807)(hi:i<n):some (SV.v (.int .i64 (IntKind.i64.wrap ((i:Int)+1))))=some (SV.v (.int .i64 ((i+1:Nat):Int))):=by rw [wrapI (m:=(i:Int)+1) (r:=((i+1:Nat):Int)) (by omega) (by omega) (by omega)]
theorem own_r12keys:Own 16:=λ_ _=>by go_simp
theorem own_r12pairs:Own 18:=λ_ _=>by go_simp
theorem en_32{x:DocV}{w:World}(h:x.F w):∀e∈x.es,e.1.length=32:=λe he=>by
 have h1:=(h.1.2.2.2.1 e he).1 (.agg 32 (By e.1).toArray) (by simp [SQ.parts1,eEn]);have:=h1.1
 rwa [List.size_toArray,By_len] at this
theorem r12keys_S(x:DocV){k:List UInt8}(hk:k.length=32):Spec 16 [(eDc x).den,(eY 32 k).den] [] x.F { ret:=λs:{ s:HSeg // s.l=bS x.l k }=>.q (eHs s.1),p:=λs=>s.1.rd }:=by
 refine spec_S [.p x.parts,eY 32 k] 21 Tryz.func16 rfl (by rw [Tryz.ntmps16];rfl) (two_ok x.parts_ok (eY_ok hk).1) λb=>?_;refine s_pure ((∀e∈x.es,e.1.length=32)/\x.es.length<=9223372036854775807) (λw h _=>⟨en_32 h,Nat.le_trans h.1.1 h.1.2.1⟩) λ⟨h32,hmax⟩=>?_;refine s_auto TY_ok rfl ?_;refine s_seq λK hK=>?_;refine s_auto TY_ok rfl ?_;refine s_block ?_
 let Fs:Nat->Env:=λi=>⟨[(10,.v (.int .i64 (i:Int))),(9,.v (.int .i64 (x.es.length:Int))),(8,.v (.slice x.A x.es.length x.c)),(3,.a 3 0)],[⟨3,none,45,[.agg 32 (By k).toArray]⟩],[],x.F,λ_=>True⟩
 refine c_weak (e':=Fs 0) ⟨⟨rfl,rfl,rfl,rfl,trivial⟩,⟨rfl,rfl,trivial⟩,.refl _,λ_ h _=>h,λ_ _=>trivial⟩ (s_loop (λi=>x.es.length-i) Fs (λi=>i<=x.es.length/\bS x.l k=bS (x.l.drop i) k) ?_ 0 ⟨aI _,rfl⟩)
 rintro i ⟨hi,hke⟩
 refine s_auto TY_ok rfl ?_;refine s_seq λK5 hK5=>?_;refine s_ifD ((i:Int)<(x.es.length:Int)) rfl (λhlt=>?_) (λhge=>?_)
 ·have hlt:i<x.es.length:=by omega
  obtain⟨e,he⟩:∃e,x.es[i]?=some e:=⟨_,aJ hlt⟩;have hem:=aX he;rw [DocV.at he,cE] at hke;refine s_skip (hK5 _ ?_);refine s_seq λK6 hK6=>?_;refine s_block ?_;refine s_regA TY_ok rfl λK7 hK7=>?_;refine l_elem TY_ok rfl rfl rfl i rfl he rfl rfl (rd_fact λ_ h _=>h.1) ?_;refine l_autoS TY_ok rfl ?_;refine s_end (hK7 _ ?_);refine s_regA TY_ok rfl λK8 hK8=>?_;refine l_op (.b (decide (e.1=k))) trivial rfl rfl rfl (run_eqY rfl rfl rfl Tryz.underlying45 (by kernel_rfl) (h32 e hem) hk) ?_;refine s_end (hK8 _ ?_);refine s_ifD (e.1=k) rfl (λhek=>?_) (λhek=>?_)
  ·rw [if_pos hek] at hke
   refine s_auto TY_ok rfl ?_;exact s_ret (k_ret TY_ok ⟨e.2,hke.symm⟩ rfl (by decide) rfl rfl rfl (λ_ h _=>h.2 e hem) (λ_ _=>trivial))
  ·rw [if_neg hek] at hke
   refine s_skip (hK6 _ ?_);refine s_autoE TY_ok rfl ?_;exact k_next (i+1) ⟨hlt,hke⟩ (by show x.es.length-(i+1)<x.es.length-i;omega) ⟨⟨nextI i x.es.length (by omega) hlt,rfl,rfl,rfl,trivial⟩,⟨rfl,rfl,trivial⟩,.refl _,λ_ h _=>h,λ_ h=>h⟩
 ·obtain rfl:x.es.length=i:=by omega
  rw [x.done] at hke;refine s_exit (k_pass (k_pass (k_out ?_)));refine hK _ ?_;refine s_auto TY_ok rfl ?_;exact s_ret (k_ret TY_ok ⟨nilH,hke.symm⟩ rfl (by decide) rfl rfl rfl (λw _ _=>Rd.nil _ _ w) (λ_ _=>trivial))
theorem pairs_at'(x:DocV){i:Nat}{e:EnX}(h:x.es[i]?=some e):(pairsD x.l).take (i+1)=(pairsD x.l).take i++[(e.1,valH e.2.l)]:=by
 have h1:(pairsD x.l)[i]?=some (e.1,valH e.2.l):=by
  unfold pairsD DocV.l
  rw [fX,fX,h]
  rfl
 rw [rD,h1]
 rfl
theorem r12pairs_S(x:DocV)(hl:x.es.length<=1000):Spec 18 [(eDc x).den] [] x.F { ret:=λy:PX=>.v (.slice y.1 (pairsD x.l).length y.2),p:=λy=>Rd 64 eP y.1 y.2 (pairsD x.l) }:=by
 have hpl:(pairsD x.l).length=x.es.length:=by rw [pairsD,cC,x.len]
 refine spec_S [.p x.parts] 24 Tryz.func18 rfl (by rw [Tryz.ntmps18];rfl) (one_ok x.parts_ok) λb=>?_;refine s_pure (∀e∈x.es,e.1.length=32) (λw h _=>en_32 h) λh32=>?_;refine s_auto TY_ok rfl ?_;refine s_auto TY_ok rfl ?_;refine s_seq λK hK=>?_;refine s_auto TY_ok rfl ?_;refine s_block ?_
 let Fs:Nat×PX->Env:=λy=>⟨[(9,.v (.int .i64 (y.1:Int))),(8,.v (.int .i64 (x.es.length:Int))),(7,.v (.slice x.A x.es.length x.c)),(3,.v (.slice y.2.1 ((pairsD x.l).take y.1).length y.2.2))],[],[OwnS 0 96 64 eP y.2.1 y.2.2 ((pairsD x.l).take y.1)],x.F,λ_=>True⟩
 refine s_nil0 0 96 64 eP ?_;refine c_weak (e':=Fs (0,none,0)) ⟨⟨rfl,rfl,rfl,rfl,trivial⟩,trivial,.refl _,λ_ h _=>h,λ_ _=>trivial⟩ (s_loop (λy=>x.es.length-y.1) Fs (λy=>y.1<=x.es.length) ?_ (0,none,0) (aI _))
 rintro⟨i,B,c⟩ hi
 dsimp only at hi
 refine s_auto TY_ok rfl ?_;refine s_seq λK5 hK5=>?_;refine s_ifD ((i:Int)<(x.es.length:Int)) rfl (λhlt=>?_) (λhge=>?_)
 ·have hlt:i<x.es.length:=by omega
  obtain⟨e,he⟩:∃e,x.es[i]?=some e:=⟨_,aJ hlt⟩;have hem:=aX he;have htk:=pairs_at' x he
  have hlen:((pairsD x.l).take i).length<=1000:=by rw [aR];omega
  have hval:=λA c=>rvalue_S (A:=A) (c:=c) e.2.l;have hv32:(valH e.2.l).length=32:=dig_len _;generalize valH e.2.l=va at *;refine s_skip (hK5 _ ?_);refine s_seq λK6 hK6=>?_;refine s_block ?_;refine s_regA TY_ok rfl λK7 hK7=>?_;refine l_elem TY_ok rfl rfl rfl i rfl he rfl rfl (rd_fact λ_ h _=>h.1) ?_;refine l_autoS TY_ok rfl ?_;refine s_end (hK7 _ ?_);refine s_locs λG=>?_;have hwg:∀u∈withG G [⟨5,none,50,[.agg 32 (By e.1).toArray,.one (.v (.slice e.2.A e.2.l.length e.2.c))]⟩],u∈withG G [⟨5,none,50,[.agg 32 (By e.1).toArray,.one (.v (.slice e.2.A e.2.l.length e.2.c))]⟩]/\u.g.isSome=true:=λu hu=>⟨hu,by rw [aF.1 hu];rfl⟩;refine s_anyP [0,1,2,3,4] 8 2 (InvL (withG G [⟨5,none,50,[.agg 32 (By e.1).toArray,.one (.v (.slice e.2.A e.2.l.length e.2.c))]⟩])) (by kernel_rfl) rfl (inv_of hwg) ?_;refine p_front TY_ok 0 (by kernel_rfl) rfl rfl rfl rfl rfl rfl (λ_ h=>h) ?_;refine p_front TY_ok 1 (by kernel_rfl) rfl rfl rfl rfl rfl rfl (λ_ h=>h) ?_;refine p_front TY_ok 2 (by kernel_rfl) rfl rfl rfl rfl rfl rfl (λ_ h=>h) ?_;refine p_front TY_ok 3 (by kernel_rfl) rfl rfl rfl rfl rfl rfl (λ_ h=>h) ?_;refine p_front TY_ok 4 (by kernel_rfl) rfl rfl rfl rfl rfl rfl (λ_ h=>h) ?_;refine p_step 5 (by kernel_rfl) rfl λKa hKa=>?_;refine l_call0 [.slice e.2.A e.2.l.length e.2.c] rfl rfl rfl own_rvalue11 rfl rfl (λ_ _=>rfl) (hval e.2.A e.2.c) (λ_ h _=>h.2 e hem) λ_=>?_;refine s_end (hKa _ (inv_of hwg) ?_);refine p_step 6 (by kernel_rfl) rfl λKb hKb=>?_;refine l_autoS TY_ok rfl ?_;refine s_end (hKb _ (inv_of hwg) ?_);refine p_step 7 (by kernel_rfl) rfl λKc hKc=>?_;refine l_list TY_ok 0 [((e.1,va):PairT)] (fe:=eP) rfl rfl rfl rfl rfl (λ_=>rfl) rfl (by decide) (by decide) (λy hy=>by rw [aF.1 hy];exact eP_ok ⟨h32 e hem,hv32⟩) (aI _) λC=>?_;refine l_free 0 rfl ?_;refine s_end (hKc _ (inv_of hwg) ?_);refine p_tail [8,9] (by kernel_rfl) rfl ?_;refine l_appY TY_ok 0 [((e.1,va):PairT)] rfl rfl rfl rfl rfl rfl rfl rfl rfl (rd_fact λw h _=>h.1) (by decide) (by show(((pairsD x.l).take i).length+1)*64<=_;omega) (by show((pairsD x.l).take i).length+1<=_;omega) (aI _) λA' c'=>?_;refine l_autoS TY_ok rfl ?_;rw [<-htk];refine s_end (k_noloc (hK6 _ ?_));refine s_autoE TY_ok rfl ?_;exact k_next (i+1,A',c') hlt (by show x.es.length-(i+1)<x.es.length-i;omega) ⟨⟨nextI i x.es.length (by omega) hlt,rfl,rfl,rfl,trivial⟩,trivial,.refl _,λ_ h _=>h.2.2,λ_ _=>trivial⟩
 ·obtain rfl:x.es.length=i:=by omega
  refine s_exit (k_pass (k_pass (k_out ?_)));refine hK _ ?_;refine s_free 0 rfl ?_;refine s_auto TY_ok rfl ?_;have e0:(pairsD x.l).take x.es.length=pairsD x.l:=List.take_of_length_le (by omega);rw [e0];exact s_ret (k_ret TY_ok (B,c) rfl (by decide) rfl rfl rfl (λ_ h _=>h.1) (λ_ _=>trivial))
theorem own_r12with:Own 30:=λ_ _=>by go_simp
theorem own_r12apply:Own 10:=λ_ _=>by go_simp
structure WdS where
  i:Nat
  A:Option Addr
  c:Nat
  o:List EnX
  dn:Bool
structure WdI(x:DocV)(id key:List UInt8)(s:WdS):Prop where
  i:s.i<=x.es.length
  run:s.o.map entD++n7 id key (x.l.drop s.i) s.dn=n7 id key x.l false
  len:s.o.length<=2*s.i
theorem r12with_S(x:DocV)(hd:DirOk x.l)(hsm:SmallD x.l)(hl:x.es.length<=1000){id key:List UInt8}(hid:id.length=32)(hkey:key.length=32):Spec 30 [(eDc x).den,(eY 32 id).den,(eY 32 key).den] [] x.F
  { ret:=λy:{ y:DocV // y.ep=x.ep/\y.l=iA x.l id (bS x.l id++[key]) }=>.q (eDc y.1),p:=λy=>y.1.F }:=by
 refine spec_S [.p x.parts,eY 32 id,eY 32 key] 71 Tryz.func30 rfl (by rw [Tryz.ntmps30];rfl) (more_ok x.parts_ok (two_ok (eY_ok hid).1 (eY_ok hkey).1)) λb=>?_;refine s_pure (∀e∈x.es,e.1.length=32) (λw h _=>en_32 h) λh32=>?_;refine s_auto TY_ok rfl ?_;refine s_auto TY_ok rfl ?_;refine s_auto TY_ok rfl ?_;refine s_seq λK hK=>?_;refine s_auto TY_ok rfl ?_;refine s_block ?_;refine s_nil0 0 50 33 eEn ?_
 let Fs:WdS->Env:=λs=>⟨[(18,.v (.int .i64 (s.i:Int))),(17,.v (.int .i64 (x.es.length:Int))),(16,.v (.slice x.A x.es.length x.c)),(8,.v (.bool s.dn)),(7,.a 7 0),(6,.a 6 0),(5,.a 5 0),(4,.a 4 0)],[⟨7,none,36,[.one (.v (.int .i64 x.ep)),.one (.v (.slice s.A s.o.length s.c))]⟩,⟨6,none,36,zDocV.parts⟩,⟨5,none,45,[.agg 32 (By key).toArray]⟩,⟨4,none,45,[.agg 32 (By id).toArray]⟩],[OwnS 0 50 33 eEn s.A s.c s.o],λw=>x.F w/\∀e∈s.o,e.2.rd w,λ_=>True⟩
 refine c_weak (e':=Fs ⟨0,none,0,[],false⟩) ⟨⟨rfl,rfl,rfl,rfl,rfl,rfl,rfl,rfl,trivial⟩,⟨rfl,rfl,rfl,rfl,rfl,rfl,rfl,rfl,trivial⟩,.refl _,λ_ h _=>⟨h,λ_ h=>by cases h⟩,λ_ _=>trivial⟩ (s_loop (λs=>x.es.length-s.i) Fs (WdI x id key) ?_ ⟨0,none,0,[],false⟩ ⟨aI _,rfl,aE _⟩)
 rintro⟨i,A,c,o,dn⟩ ⟨hi,hrun,hlen⟩
 dsimp only at hi hrun hlen
 refine s_auto TY_ok rfl ?_;refine s_seq λK5 hK5=>?_;refine s_ifD ((i:Int)<(x.es.length:Int)) rfl (λhlt=>?_) (λhge=>?_)
 ·have hlt:i<x.es.length:=by omega
  obtain⟨e,he⟩:∃e,x.es[i]?=some e:=⟨_,aJ hlt⟩;have hem:=aX he;have he32:=h32 e hem;have he64:e.2.l.length<=64:=hsm (entD e) (bU.2 ⟨e,hem,rfl⟩);rw [DocV.at he] at hrun;have hrun:o.map entD++((if (!dn&&cY id e.1)=true then [(id,[key])] else [])++(e.1,if e.1=id then e.2.l++[key] else e.2.l)::n7 id key (x.l.drop (i+1)) (dn||cY id e.1||decide (e.1=id)))=n7 id key x.l false:=hrun;refine s_skip (hK5 _ ?_);refine s_seq λK6 hK6=>?_;refine s_block ?_;refine s_regA TY_ok rfl λK7 hK7=>?_;refine l_elem TY_ok rfl rfl rfl i rfl he rfl rfl (rd_fact λ_ h _=>h.1.1) ?_;refine l_autoS TY_ok rfl ?_;refine s_end (hK7 _ ?_);refine s_seq λK8 hK8=>?_
  have hC:∀A1 c1 (o1:List EnX) dn1,o1.map entD=o.map entD++(if (!dn&&cY id e.1)=true then [(id,[key])] else [])->dn1=(dn||cY id e.1)->o1.length<=o.length+1->∀e',Weak e' ⟨[(18,.v (.int .i64 (i:Int))),(17,.v (.int .i64 (x.es.length:Int))),(16,.v (.slice x.A x.es.length x.c)),(8,.v (.bool dn1)),(7,.a 7 0),(6,.a 6 0),(5,.a 5 0),(4,.a 4 0),(10,.a 10 0)],[⟨10,none,50,[.agg 32 (By e.1).toArray,.one (.v (.slice e.2.A e.2.l.length e.2.c))]⟩,⟨7,none,36,[.one (.v (.int .i64 x.ep)),.one (.v (.slice A1 o1.length c1))]⟩,⟨6,none,36,zDocV.parts⟩,⟨5,none,45,[.agg 32 (By key).toArray]⟩,⟨4,none,45,[.agg 32 (By id).toArray]⟩],[OwnS 0 50 33 eEn A1 c1 o1],λw=>x.F w/\∀e∈o1,e.2.rd w,λ_=>True⟩->kS b K8 71 e':=by
   intro A1 c1 o1 dn1 ho1 hdn1 hlo1 e' hw
   rw [<-aY,<-ho1,<-hdn1] at hrun;refine k_weak hw (hK8 _ ?_);refine s_seq λK9 hK9=>?_
   have hE:∀(s2:HSeg) dn2,s2.l=(if e.1=id then e.2.l++[key] else e.2.l)->dn2=(dn1||decide (e.1=id))->∀e',Weak e' ⟨[(18,.v (.int .i64 (i:Int))),(17,.v (.int .i64 (x.es.length:Int))),(16,.v (.slice x.A x.es.length x.c)),(8,.v (.bool dn2)),(7,.a 7 0),(6,.a 6 0),(5,.a 5 0),(4,.a 4 0),(10,.a 10 0)],[⟨10,none,50,[.agg 32 (By e.1).toArray,.one (.v (.slice s2.A s2.l.length s2.c))]⟩,⟨7,none,36,[.one (.v (.int .i64 x.ep)),.one (.v (.slice A1 o1.length c1))]⟩,⟨6,none,36,zDocV.parts⟩,⟨5,none,45,[.agg 32 (By key).toArray]⟩,⟨4,none,45,[.agg 32 (By id).toArray]⟩],[OwnS 0 50 33 eEn A1 c1 o1],λw=>s2.rd w/\x.F w/\∀e∈o1,e.2.rd w,λ_=>True⟩->kS b K9 71 e':=by
    intro s2 dn2 hs2 hdn2 e' hw
    rw [<-hs2,<-hdn2] at hrun;refine k_weak hw (hK9 _ ?_);refine s_lit ?_;refine l_autoS TY_ok rfl ?_;refine l_push TY_ok 0 ((e.1,s2):EnX) rfl rfl rfl rfl rfl rfl rfl (eEn_ok he32) (by decide) (by decide) (by show(o1.length+1)*56<=_;omega) (by omega) (aI _) λA2 c2=>?_;refine l_autoS TY_ok rfl ?_;refine s_end (hK6 _ ?_);refine s_autoE TY_ok rfl ?_;refine k_next ⟨i+1,A2,c2,o1++[(e.1,s2)],dn2⟩ ⟨hlt,?_,by show(o1++[(e.1,s2)]).length<=2*(i+1);rw [aB];show o1.length+1<=_;omega⟩ (by show x.es.length-(i+1)<x.es.length-i;omega) ⟨⟨nextI i x.es.length (by omega) hlt,rfl,rfl,rfl,rfl,rfl,rfl,rfl,trivial⟩,⟨rfl,rfl,rfl,rfl,rfl,rfl,rfl,rfl,trivial⟩,.refl _,λw h _=>⟨h.2.1,λy hy=>?_⟩,λ_ _=>trivial⟩
    ·rw [<-hrun]
     show(o1++[(e.1,s2)]).map entD++_=_
     rw [g6,aY]
     rfl
    ·rcases cB.1 hy with hy|hy
     ·exact h.2.2 y hy
     ·rw [aF.1 hy]
      exact h.1
   refine s_regA TY_ok rfl λKa hKa=>?_;refine l_op (.b (decide (e.1=id))) trivial rfl rfl rfl (run_eqY rfl rfl rfl Tryz.underlying45 (by kernel_rfl) he32 hid) ?_;refine s_end (hKa _ ?_);refine s_ifD (e.1=id) rfl (λhei=>?_) (λhei=>?_)
   ·refine s_regA TY_ok rfl λKb hKb=>?_
    refine l_list0 (e:=45) (sz:=32) 0 (eY 32) rfl rfl rfl rfl (aI _) (λw=>by go_simp) λB=>?_;refine l_autoS TY_ok rfl ?_;refine l_appY TY_ok 0 e.2.l (fe:=eY 32) rfl rfl rfl rfl rfl rfl rfl rfl rfl (rd_fact λw h _=>h.1.2 e hem) (by decide) (by show(0+_)*32<=_;omega) (by show 0+_<=_;omega) (aI _) λB1 d1=>?_;rw [List.nil_append];refine l_autoS TY_ok rfl ?_;refine s_end (hKb _ ?_);refine s_regA TY_ok rfl λKc hKc=>?_;refine l_autoS TY_ok rfl ?_;refine l_push TY_ok 0 key (fe:=eY 32) rfl rfl rfl rfl rfl rfl rfl (eY_ok hkey) (by decide) (by decide) (by show(_+1)*32<=_;omega) (by omega) (aI _) λB2 d2=>?_;refine l_autoS TY_ok rfl ?_;refine l_free 0 rfl ?_;refine s_end (hKc _ ?_);refine s_autoE TY_ok rfl ?_;exact hE ⟨B2,d2,e.2.l++[key]⟩ true (by rw [if_pos hei]) (by rw [decide_eq_true hei,Bool.or_true]) _ ⟨⟨rfl,rfl,rfl,rfl,rfl,rfl,rfl,rfl,rfl,trivial⟩,⟨rfl,rfl,rfl,rfl,rfl,rfl,rfl,rfl,rfl,rfl,trivial⟩,.refl _,λ_ h _=>h,λ_ h=>h⟩
   ·exact s_skip (hE e.2 dn1 (by rw [if_neg hei]) (by rw [decide_eq_false hei,Bool.or_false]) _ ⟨⟨rfl,rfl,rfl,rfl,rfl,rfl,rfl,rfl,rfl,trivial⟩,⟨rfl,rfl,rfl,rfl,rfl,rfl,rfl,rfl,rfl,rfl,trivial⟩,.refl _,λ_ h _=>⟨h.1.2 e hem,h⟩,λ_ h=>h⟩)
  cases dn with
  | true =>
   refine s_auto TY_ok rfl ?_;refine s_no rfl ?_;exact s_skip (hC A c o true (by simp) rfl (Nat.le_succ _) _ ⟨⟨rfl,rfl,rfl,rfl,rfl,rfl,rfl,rfl,rfl,trivial⟩,⟨rfl,rfl,rfl,rfl,rfl,rfl,rfl,rfl,rfl,rfl,trivial⟩,.refl _,λ_ h _=>h,λ_ h=>h⟩)
  | false =>
   refine s_regA TY_ok rfl λKa hKa=>?_;refine l_call0 [(eY 32 id).den,(eY 32 e.1).den] rfl rfl rfl own_rless9 rfl rfl (λ_ _=>rfl) (rless_S hid he32) (λ_ _ _=>trivial) λ_=>?_;refine l_autoS TY_ok rfl ?_;refine s_end (hKa _ ?_);refine s_if (cY id e.1) rfl (λhlt2=>?_) (λhlt2=>?_)
   ·refine s_regA TY_ok rfl λKb hKb=>?_
    refine l_list TY_ok 0 [key] (fe:=eY 32) rfl rfl rfl rfl rfl (λ_=>rfl) rfl (by decide) (by decide) (okF_Y λl hl=>by rw [aF.1 hl];exact hkey) (aI _) λB=>?_;refine l_free 0 rfl ?_;refine l_autoS TY_ok rfl ?_;refine l_push TY_ok 0 ((id,⟨B,1,[key]⟩):EnX) rfl rfl rfl rfl rfl rfl rfl (eEn_ok hid) (by decide) (by decide) (by show(o.length+1)*56<=_;omega) (by show o.length<_;omega) (aI _) λA2 c2=>?_;refine l_autoS TY_ok rfl ?_;refine s_end (hKb _ ?_);refine s_autoE TY_ok rfl ?_
    exact hC A2 c2 (o++[(id,⟨B,1,[key]⟩)]) true (by rw [g6,hlt2];rfl) (by rw [hlt2];rfl) (by rw [aB];exact aE _) _ ⟨⟨rfl,rfl,rfl,rfl,rfl,rfl,rfl,rfl,rfl,trivial⟩,⟨rfl,rfl,rfl,rfl,rfl,rfl,rfl,rfl,rfl,rfl,trivial⟩,.refl _,λw h _=>⟨h.2.2.1,λy hy=>by
     rcases cB.1 hy with hy|hy
     ·exact h.2.2.2 y hy
     ·rw [aF.1 hy]
      exact h.1⟩,λ_ _=>trivial⟩
   ·exact s_skip (hC A c o false (by rw [hlt2];simp) (by rw [hlt2];rfl) (Nat.le_succ _) _ ⟨⟨rfl,rfl,rfl,rfl,rfl,rfl,rfl,rfl,rfl,trivial⟩,⟨rfl,rfl,rfl,rfl,rfl,rfl,rfl,rfl,rfl,rfl,trivial⟩,.refl _,λ_ h _=>h.2,λ_ _=>trivial⟩)
 ·obtain rfl:x.es.length=i:=by omega
  rw [x.done] at hrun;rw [qT hid hd] at hrun;refine s_exit (k_pass (k_pass (k_out ?_)));refine hK _ ?_;refine s_seq λK6 hK6=>?_
  have hE:∀A1 c1 (o1:List EnX),o1.map entD=iA x.l id (bS x.l id++[key])->∀e',Weak e' ⟨[(7,.a 7 0),(6,.a 6 0)],[⟨7,none,36,[.one (.v (.int .i64 x.ep)),.one (.v (.slice A1 o1.length c1))]⟩,⟨6,none,36,zDocV.parts⟩],[OwnS 0 50 33 eEn A1 c1 o1],λw=>∀e∈o1,e.2.rd w,λ_=>True⟩->kS b K6 71 e':=by
   intro A1 c1 o1 ho1 e' hw
   refine k_weak hw (hK6 _ ?_);refine s_free 0 rfl ?_;refine s_auto TY_ok rfl ?_;exact s_ret (k_ret TY_ok ⟨⟨x.ep,A1,c1,o1⟩,rfl,ho1⟩ rfl (by decide) rfl rfl rfl (λ_ h _=>h) (λ_ _=>trivial))
  cases dn with
  | true =>
   have hrun:o.map entD++[]=_:=hrun;rw [List.append_nil] at hrun;refine s_auto TY_ok rfl ?_;refine s_no rfl ?_;exact s_skip (hE A c o hrun _ ⟨⟨rfl,rfl,trivial⟩,⟨rfl,rfl,rfl,rfl,trivial⟩,.refl _,λ_ h _=>h.2,λ_ _=>trivial⟩)
  | false =>
   have hrun:o.map entD++[(id,[key])]=_:=hrun;refine s_auto TY_ok rfl ?_;refine s_yes rfl ?_;refine s_lit ?_;refine l_autoS TY_ok rfl ?_;refine l_list TY_ok 0 [key] (fe:=eY 32) rfl rfl rfl rfl rfl (λ_=>rfl) rfl (by decide) (by decide) (okF_Y λl hl=>by rw [aF.1 hl];exact hkey) (aI _) λB=>?_;refine l_free 0 rfl ?_;refine l_autoS TY_ok rfl ?_;refine l_push TY_ok 0 ((id,⟨B,1,[key]⟩):EnX) rfl rfl rfl rfl rfl rfl rfl (eEn_ok hid) (by decide) (by decide) (by show(o.length+1)*56<=_;omega) (by show o.length<_;omega) (aI _) λA2 c2=>?_;refine l_autoS TY_ok rfl ?_;refine s_end (hE A2 c2 (o++[(id,⟨B,1,[key]⟩)]) (by rw [g6];exact hrun) _ ⟨⟨rfl,rfl,trivial⟩,⟨rfl,rfl,rfl,rfl,trivial⟩,.refl _,λw h _=>λy hy=>?_,λ_ _=>trivial⟩)
   rcases cB.1 hy with hy|hy
   ·exact h.2.2 y hy
   ·rw [aF.1 hy]
    exact h.1
structure RaI(x:DocV)(us:List UV)(s:Nat×DocV):Prop where
  i:s.1<=us.length
  ep:s.2.ep=x.ep
  l:s.2.l=fJ x.l ((us.take s.1).map udH)
theorem r12apply_S(x:DocV)(hd:DirOk x.l)(hsm:SmallD x.l){A B:Option Addr}{c c2:Nat}{us:List UV}(hus:∀u∈us,u.Ok)(hl:x.es.length+us.length<=1000) :
  Spec 10 [(eDc x).den,.slice A us.length c,.slice B us.length c2] [] (λw=>x.F w/\Rd 129 eU A c us w/\Rd 1 eT B c2 (us.map signB) w) { ret:=λy:{ y:DocV // y.ep=IntKind.i64.wrap (x.ep+1)/\y.l=fJ x.l (us.map udH) }=>.q (eDc y.1),p:=λy=>y.1.F }:=by
 refine spec_S [.p x.parts,.c (.v (.slice A us.length c)),.c (.v (.slice B us.length c2))] 43 Tryz.func10 rfl (by rw [Tryz.ntmps10];rfl) (more_ok x.parts_ok (two_ok trivial trivial)) λb=>?_;refine s_auto TY_ok rfl ?_;refine s_seq λK hK=>?_;refine s_auto TY_ok rfl ?_;refine s_block ?_
 let Fs:Nat×DocV->Env:=λs=>⟨[(11,.v (.int .i64 (s.1:Int))),(10,.v (.int .i64 (us.length:Int))),(9,.v (.slice A us.length c)),(2,.v (.slice B us.length c2)),(3,.a 3 0),(6,.a 6 0)],[⟨6,none,36,zDocV.parts⟩,⟨3,none,36,s.2.parts⟩],[],λw=>(Rd 129 eU A c us w/\Rd 1 eT B c2 (us.map signB) w)/\s.2.F w,λ_=>True⟩
 refine c_weak (e':=Fs (0,x)) ⟨⟨rfl,rfl,rfl,rfl,rfl,rfl,trivial⟩,⟨rfl,rfl,rfl,rfl,trivial⟩,.refl _,λ_ h _=>⟨h.2,h.1⟩,λ_ _=>trivial⟩ (s_loop (λs=>us.length-s.1) Fs (RaI x us) ?_ (0,x) ⟨aI _,rfl,rfl⟩)
 rintro⟨i,z⟩ ⟨hi,hep,hz⟩
 dsimp only at hi hep hz
 have hus2:tE ((us.take i).map udH):=us_ok λu hu=>hus u (List.mem_of_mem_take hu)
 have hdz:DirOk z.l:=by rw [hz];exact hd.apply hus2
 have hsz:SmallD z.l:=by rw [hz];exact hsm.apply
 have hzl:z.es.length<=x.es.length+i:=by
  have h1:=applyD_len ((us.take i).map udH) x.l;rw [<-hz,z.len,x.len,cC,aR] at h1
  omega
 refine s_auto TY_ok rfl ?_;refine s_seq λK5 hK5=>?_;refine s_ifD ((i:Int)<(us.length:Int)) rfl (λhlt=>?_) (λhge=>?_)
 ·have hlt:i<us.length:=by omega
  obtain⟨u,hu⟩:∃u,us[i]?=some u:=⟨_,aJ hlt⟩;have huo:=hus u (aX hu);have htk:=take_apply hu x.l;rw [<-hz] at htk
  have hgu:(us.map signB)[i]?=some (signB u):=by rw [fX,hu];rfl
  refine s_skip (hK5 _ ?_);refine s_seq λK6 hK6=>?_
  have hgo:∀y:DocV,y.ep=x.ep->y.l=iU z.l (udH u)->∀e',Weak e' ⟨[(11,.v (.int .i64 (i:Int))),(10,.v (.int .i64 (us.length:Int))),(9,.v (.slice A us.length c)),(2,.v (.slice B us.length c2)),(3,.a 3 0),(6,.a 6 0)],[⟨6,none,36,zDocV.parts⟩,⟨3,none,36,y.parts⟩],[],λw=>(Rd 129 eU A c us w/\Rd 1 eT B c2 (us.map signB) w)/\y.F w,λ_=>True⟩->kS b K6 43 e':=by
   intro y hy1 hy2 e' hw
   refine k_weak hw (hK6 _ ?_);refine s_autoE TY_ok rfl ?_;exact k_next (i+1,y) ⟨hlt,hy1,hy2.trans htk.symm⟩ (by show us.length-(i+1)<us.length-i;omega) ⟨⟨nextI i us.length (by omega) hlt,rfl,rfl,rfl,rfl,rfl,trivial⟩,⟨rfl,rfl,rfl,rfl,trivial⟩,.refl _,λ_ h _=>h,λ_ h=>h⟩
  refine s_block ?_;refine s_regA TY_ok rfl λK7 hK7=>?_;refine l_elem TY_ok rfl rfl rfl i rfl hu rfl rfl (rd_fact λ_ h _=>h.1.1) ?_;refine l_autoS TY_ok rfl ?_;refine s_end (hK7 _ ?_);refine s_regH 15 (by decide) (by kernel_rfl) (by kernel_rfl) λK8 hK8 G S w0 hst=>?_;refine h_auto TY_ok hst rfl ?_;refine h_elem hst rfl rfl rfl rfl rfl i rfl hgu (by rw [cC]) rfl (rd_fact λ_ h _=>h.1.2) ?_
  cases hs:signB u with
  | false =>
   refine h_is 19 false rfl rfl ?_;refine h_auto TY_ok hst rfl ?_;refine h_end hst ?_;refine s_end (hK8 _ ?_);refine s_no rfl ?_;exact s_skip (hgo z hep (step_not λh=>by rw [hs] at h;cases h.1).symm _ ⟨⟨rfl,rfl,rfl,rfl,rfl,rfl,trivial⟩,⟨rfl,rfl,rfl,rfl,trivial⟩,.refl _,λ_ h _=>h,λ_ h=>h⟩)
  | true =>
   refine h_is 19 true rfl rfl ?_;refine h_auto TY_ok hst rfl ?_;refine h_callE (F':=z.F) hst [(eDc z).den,(eY 32 u.id).den] rfl rfl rfl rfl own_r12keys rfl rfl (λ_=>rfl) (r12keys_S z huo.id) (λw hv _=>hv.fact.2) λs _=>?_;obtain⟨s,hsl⟩:=s;have hk64:=hsz.keys u.id;refine h_auto TY_ok hst rfl ?_;refine h_end hst ?_;refine s_end (hK8 _ ?_);have hwr:IntKind.i64.wrap ((s.l.length:Int)+1)=(s.l.length:Int)+1:=wrapI rfl (by rw [hsl];omega) (by rw [hsl];omega);refine s_ifD (u.ver=IntKind.i64.wrap ((s.l.length:Int)+1)) rfl (λhv=>?_) (λhv=>?_)
   ·rw [hwr,hsl] at hv
    refine s_lit ?_;refine l_autoS TY_ok rfl ?_;refine l_call0 [(eDc z).den,(eY 32 u.id).den,(eY 32 u.key).den] rfl rfl rfl own_r12with rfl rfl (λ_ _=>rfl) (r12with_S z hdz hsz (by omega) huo.id huo.key) (λ_ h _=>h.2) λy=>?_;obtain⟨y,hy1,hy2⟩:=y;refine l_autoS TY_ok rfl ?_;exact s_end (hgo y (hy1.trans hep) (by rw [step_ok ⟨hs,hv⟩];exact hy2) _ ⟨⟨rfl,rfl,rfl,rfl,rfl,rfl,trivial⟩,⟨rfl,rfl,rfl,rfl,trivial⟩,.refl _,λ_ h _=>⟨h.2.1,h.1⟩,λ_ _=>trivial⟩)
   ·rw [hwr,hsl] at hv
    exact s_skip (hgo z hep (step_not λh=>hv h.2).symm _ ⟨⟨rfl,rfl,rfl,rfl,rfl,rfl,trivial⟩,⟨rfl,rfl,rfl,rfl,trivial⟩,.refl _,λ_ h _=>h,λ_ h=>h⟩)
 ·obtain rfl:us.length=i:=by omega
  rw [fE] at hz;refine s_exit (k_pass (k_pass (k_out ?_)));refine hK _ ?_;refine s_auto TY_ok rfl ?_;refine s_auto TY_ok rfl ?_;exact s_ret (k_ret TY_ok ⟨⟨IntKind.i64.wrap (z.ep+1),z.A,z.c,z.es⟩,by rw [hep],hz⟩ rfl (by decide) rfl rfl rfl (λ_ h _=>h.2) (λ_ _=>trivial))
def hB(x:UInt8):List UInt8:=x::aA 31 0
def hB2(x y:UInt8):List UInt8:=x::y::aA 30 0
theorem uv_cells(u:UV):(catP u.parts).toList=By u.id++(.int .i64 u.ver::(By u.key++By u.sig)):=by
 show(catP [Pt.agg 32 (By u.id).toArray,.one (.v (.int .i64 u.ver)),.agg 32 (By u.key).toArray,.agg 64 (By u.sig).toArray]).toList=_
 rw [catP_cons,catP_cons,catP_cons,catP_cons]
 simp [Pt.cells,catP,SC.den]
theorem own_first12:Own 7:=λ_ _=>by go_simp
theorem val_first:valH [hB 2]=jY bL 1 ([[2],be8 1,jY bL 2 ([[3],zH,hB 2]:List (List UInt8)).flatten]:List (List UInt8)).flatten:=by
 have h1:dH [hB 2]=jY bL 2 ([[3],zH,hB 2]:List (List UInt8)).flatten:=l7 (s:=bL) 2 _ (by decide) (by decide) (by decide +kernel)
 unfold valH
 rw [h1];exact l7 (s:=bL) 1 _ (by decide) (by decide) (by decide +kernel)
theorem root_first:dY 256 (pairsD [(gD (hB 1),[hB 2])])≠dE:=by
 show gX (gD (hB 1),valH [hB 2])≠dE
 rw [key_all (seed:=hB 1) rfl (by decide +kernel),val_first,gX,l7 (s:=bL) 2 _ (by decide) (by decide) (by decide +kernel)]
 decide +kernel
section
variable{b:Base}{ops:Array Oper}{Q:Exit->Act->World->Prop}{N:Nat}{G:Nat->Nat}{S:Nat->Prop}{E:SE}{L:List LV}{R:List Res}{F M:World->Prop}{w0:World}{T':List Oper}{Fa:Told}{i k:Nat}{o:Oper}{rest:List (Nat×Oper)}
theorem h_buildY{t:TypeId}{parts:Array (Nat×Operand)}(vs:List (Nat×SC))(n:Nat)(l:List UInt8)(hst:StW b G S L R F M w0)(hf:farP i Fa=true)(hg:o.guard=none)(hd:o.dst=some k)(hk:Nat.blt k N=true)(ho:o.op = .build t parts)(hv:parts.toList.map (λp=>(p.1,evS E p.2))=vs.map (λx=>(x.1,some (.q (.c x.2)))))
 (hb:Tryz.prog.built t (vs.map λx=>(x.1,x.2.den))=some (By l).toArray)(hl:l.length=n)(hn:hS Tryz.prog ops Q N T' G w0 rest ((k,.q (eY n l))::E) Fa):hS Tryz.prog ops Q N T' G w0 ((i,o)::rest) E Fa :=
 h_f hst (.q (eY n l)) (eY_ok hl).1 hf (λ_ _ _ hQ=>f_build _ _ hg hd hk ho (parts_den _ _ hv) hb hQ) hn
end
theorem told_an{x:AnX}{n m:Nat}{p:AnX->World->Prop}{w:World}(h:∃y,(RV.q (eAn x n m)).den=(RV.q (eAn y n m)).den/\p y w):p x w:=by
 obtain⟨y,h1,h2⟩:=h;have h1:Value.agg #[.slice x.A n x.c,.slice x.B m x.d] = .agg #[.slice y.A n y.c,.slice y.B m y.d]:=h1
 have e:x=y:=by
  obtain⟨a,b,c,d⟩:=x;obtain⟨a',b',c',d'⟩:=y
  injection h1 with h1
  have h3:=congrArg Array.toList h1
  injection h3 with h4 h5
  injection h5 with h5 _
  injection h4 with e1 _ e2
  injection h5 with e3 _ e4
  subst e1 e2 e3 e4
  rfl
 rw [e];exact h2
theorem first12_S:Spec 7 [] [] Ta (one (.v (.bool true))):=by
 have hm:=hmake_S (seed:=hB 1) (key:=hB 2) 1 rfl rfl;have hsb:signB (mkH (hB 1) 1 (hB 2))=true:=signB_made _ _ _;have hok:(mkH (hB 1) 1 (hB 2)).Ok:=mkH_ok _ _ rfl;have hid:(mkH (hB 1) 1 (hB 2)).id=gD (hB 1):=rfl;have hver:(mkH (hB 1) 1 (hB 2)).ver=1:=rfl;have hkey:(mkH (hB 1) 1 (hB 2)).key=hB 2:=rfl;have hrf:=root_first;rw [<-hid] at hrf;generalize mkH (hB 1) 1 (hB 2)=u at *
 have hap:fJ [] ([u].map udH)=[(u.id,[hB 2])]:=by
  show iU [] (udH u)=_
  rw [step_ok (l:=[]) ⟨hsb,by rw [hver];rfl⟩,hkey]
  rfl
 refine spec_S [] 48 Tryz.func7 rfl (by rw [Tryz.ntmps7];rfl) (λ_ h=>by cases h) λb=>?_;refine s_auto TY_ok rfl ?_;refine s_regA TY_ok rfl λK1 hK1=>?_;refine l_buildY [(0,.v (.int .u8 1))] 32 (hB 1) rfl rfl rfl rfl rfl rfl rfl ?_;refine l_autoS TY_ok rfl ?_;refine l_buildY [(0,.v (.int .u8 2))] 32 (hB 2) rfl rfl rfl rfl rfl rfl rfl ?_;refine l_call0 [.agg (By (hB 1)).toArray,.int .i64 1,.agg (By (hB 2)).toArray] rfl rfl rfl own_hmake rfl rfl (λ_ _=>rfl) hm (λ_ h _=>h) λ_=>?_;refine l_autoS TY_ok rfl ?_;refine s_end (hK1 _ ?_);refine s_regA TY_ok rfl λK2 hK2=>?_;refine l_list TY_ok 0 [u] (fe:=eU) rfl rfl rfl rfl rfl (λ_=>rfl) rfl (by decide) (by decide) (λy hy=>by rw [aF.1 hy];exact eU_ok hok) (aI _) λB=>?_;refine l_free 0 rfl ?_;refine l_call0 [(eDv zDirV).den,.slice B [u].length 1] rfl rfl rfl own_dapply rfl rfl (λ_ _=>rfl) (dapply_S zDirV_ok (us:=[u]) (λy hy=>by rw [aF.1 hy];exact hok) (by show 0+1<=1000;decide)) (λw h _=>⟨h.2.2,zDirV_F w,h.1⟩) λd=>?_;refine l_autoS TY_ok rfl ?_;refine l_pure (d.Ok/\d.ep=IntKind.i64.wrap (0+1)/\d.l=fJ [] ([u].map udH)) (λ_ h _=>⟨h.1.2.1,h.1.2.2⟩) λ⟨hd,hep,hl⟩=>?_;rw [hap] at hl;have hep:d.ep=1:=hep
 have hk1:bS d.l u.id=[hB 2]:=by rw [hl,cE,if_pos rfl]
 have hke:=(dkeys_S hd hok.id).tell;have hdr:=droot_S hd
 have hr32:(dY 256 (pairsD d.l)).length=32:=by rw [<-hd.tree.root];exact d.t.root_len
 have han:=danswer_S hd (by rw [hl];show 1<=1000;decide) hok.id;have hri:=dright_S hd.dir hd.small hok.id;rw [<-hl] at hrf
 unfold ansP at han
 rw [hk1] at hke han hri;generalize partD d.l u.id=W at *;generalize dY 256 (pairsD d.l)=rt at *;refine s_end (hK2 _ ?_);refine s_regA TY_ok rfl λK3 hK3=>?_;refine l_call0 [(eDv d).den,(eY 32 u.id).den] rfl rfl rfl own_dkeys rfl rfl (λ_ _=>rfl) hke (λ_ h _=>h.1.1) λz=>?_;refine l_autoS TY_ok rfl ?_
 refine l_pure (∃g o,z.1=some ⟨g,o,none⟩) (λ_ h _=>by
  obtain⟨g,o,e,_⟩:=h.1.2.2.2.2 (by decide)
  exact⟨g,o,e⟩) λ⟨g,o,hz⟩=>?_
 refine s_end (k_weak (e':=⟨[(3,.v (.slice (some ⟨g,o,none⟩) 1 z.2)),(2,.a 2 0),(1,.a 1 0)],[⟨2,none,33,d.parts⟩,⟨1,none,76,u.parts⟩],[],λw=>Rd 32 (eY 32) (some ⟨g,o,none⟩) z.2 [hB 2] w/\d.F w/\Ta w,λ_=>True⟩) ⟨⟨by rw [<-hz];rfl,rfl,rfl,trivial⟩,⟨rfl,rfl,rfl,rfl,trivial⟩,.refl _,λ_ h _=>⟨by rw [<-hz];exact h.1,h.2.1.1,h.2.2.2.2⟩,λ_ _=>trivial⟩ (hK3 _ ?_));refine s_regH 33 (by decide) (by kernel_rfl) (by kernel_rfl) λK4 hK4 G S w0 hst=>?_;refine h_auto TY_ok hst rfl ?_;refine h_callS (F':=λ_=>True) (r:=.v (.int .i64 d.ep)) hst [(eDv d).den] rfl rfl rfl rfl own_depoch rfl rfl (λ_=>rfl) trivial (depoch_S d) (λ_ _ _ _=>trivial) ?_;refine h_auto TY_ok hst rfl ?_;refine h_is 18 true rfl (by rw [hep];rfl) ?_;refine h_auto TY_ok hst rfl ?_;refine h_is 23 true rfl rfl ?_;refine h_auto TY_ok hst rfl ?_;refine h_op hst (.v (.pointer (some ⟨g,o+32*0,none⟩))) trivial rfl rfl rfl rfl (runO_ixS 0 rfl Tryz.underlying43 rfl rfl rfl (by decide)) ?_;refine h_auto TY_ok hst rfl ?_;have hb2:OkP (eY 32 (hB 2)).parts1:=(eY_ok (n:=32) (l:=hB 2) rfl).1;refine h_opV hst (.q (eY 32 (hB 2))) hb2 rfl rfl rfl rfl (run_ldEl (k':=32) (c:=z.2) (j:=0) (off:=0) (g:=g) (a:=o) (fe:=eY 32) (l:=[hB 2]) TY_ok rfl rfl rfl rfl hb2 (rd_fact λ_ h _=>h.1)) ?_;refine h_auto TY_ok hst rfl ?_;refine h_buildY [(0,.v (.int .u8 2))] 32 (hB 2) hst rfl rfl rfl rfl rfl rfl rfl rfl ?_;refine h_auto TY_ok hst rfl ?_;refine h_op hst (.b (decide (hB 2=hB 2))) trivial rfl rfl rfl rfl (run_eqY rfl rfl rfl Tryz.underlying45 (by kernel_rfl) rfl rfl) ?_;refine h_is 28 true rfl (by simp) ?_;refine h_auto TY_ok hst rfl ?_;refine h_callS (F':=d.F) (r:=.q (eY 32 rt)) hst [(eDv d).den] rfl rfl rfl rfl own_droot rfl rfl (λ_=>rfl) (eY_ok hr32).1 hdr (λ_ _ _ h=>h.fact.2.1) ?_;refine h_auto TY_ok hst rfl ?_;refine h_op hst (.b (!decide (rt=dE))) trivial rfl rfl rfl rfl (run_neqY rfl rfl rfl Tryz.underlying45 (by kernel_rfl) hr32 rfl) ?_;refine h_is 34 true rfl (by simp [hrf]) ?_;refine h_auto TY_ok hst rfl ?_;refine h_callS (F':=d.F) (r:=.q (eY 32 rt)) hst [(eDv d).den] rfl rfl rfl rfl own_droot rfl rfl (λ_=>rfl) (eY_ok hr32).1 hdr (λ_ _ _ h=>h.fact.2.1) ?_;refine h_auto TY_ok hst rfl ?_;refine h_callE (F':=d.F) hst [(eDv d).den,(eY 32 u.id).den] rfl rfl rfl rfl own_danswer rfl rfl (λ_=>rfl) han (λw hv _=>hv.fact.2.1) λx _=>?_;refine h_auto TY_ok hst rfl ?_;refine h_callE (F':=λw=>Ta w/\Rd 32 (eY 32) x.A x.c [hB 2] w/\Rd 1 eB x.B x.d W.bytes w) (post:=one (.v (.int .i64 0))) hst [(eY 32 rt).den,(eY 32 u.id).den,(eAn x [hB 2].length W.bytes.length).den] rfl rfl rfl rfl own_dright rfl rfl (λ_=>rfl) (hri x) (λw hv hu=>⟨hv.fact.2.2,told_an (p:=λy w=>Rd 32 (eY 32) y.A y.c [hB 2] w/\Rd 1 eB y.B y.d W.bytes w) (hu 29 _ rfl (by kernel_rfl))⟩) λ_ _=>?_
 refine h_auto TY_ok hst rfl ?_;refine h_is 47 true rfl rfl ?_;refine h_end hst ?_;refine l_autoS TY_ok rfl ?_;refine s_end (hK4 _ ?_);exact s_ret (k_ret TY_ok () rfl (by decide) rfl rfl rfl (λ_ _ _=>trivial) (λ_ _=>trivial))
end Go.Proofs.YtlhlkofpjhpaoaaGreatDoor
