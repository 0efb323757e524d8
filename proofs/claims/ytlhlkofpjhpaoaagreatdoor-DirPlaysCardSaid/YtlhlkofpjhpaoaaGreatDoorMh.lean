import Derived.Test.YtlhlkofpjhpaoaaGreatDoorMg
import Derived.Test.YtlhlkofpjhpaoaaGreatDoorMd
import Derived.Test.YtlhlkofpjhpaoaaGreatDoorMf
import Derived.Test.YtlhlkofpjhpaoaaGreatDoorMb
import Derived.Laws.CopyOwn
import Derived.Maps.AppendAt
import Derived.ArgAppend
import Derived.Lib.Mul64
import Derived.StillTailTactics
import Derived.Test.YtlhlkofpjhpaoaaGreatDoorMa
import Derived.Deep.AppendLies
import Derived.Deep.OwnRows
import Derived.OwnWalk
set_option maxRecDepth 100000
set_option maxHeartbeats 2000000
open And renaming intro->eO
open Go.Addr renaming add_mid->dA
open Go.IntKind renaming wrap_u64->a8,u8->dQ
open Go.Lib renaming hid->c9,half_mul_le->qU
open Go.Obj renaming cells->iJ
open Go.Result renaming andThen_ok->aD
open Go.Sem renaming run_bind->aG,run_pure->aH
open Go.Value renaming int->bM
open Go.World renaming size_alloc->c8
open Int renaming eq_ofNat_of_zero_le->mD
open List renaming replicate->aA,length_append->aB,getElem?_eq_getElem->aK,size_toArray->aT,length_take->aU,length_cons->bD,length_map->bO,length_set->bQ,eq_nil_of_length_eq_zero->bV,map_cons->bX,take_append_drop->cW,length_reverse->fJ,take_length->fU,take_succ_eq_append_getElem->gA,flatten_append->nU
open Nat renaming le_refl->aF,zero_le->aI,blt->aQ,mod_eq_of_lt->aY,zero_add->aZ,pow_succ->cN,mod_lt->cO,lt_of_le_of_lt->dP,div_le_self->dU,mul_comm->eN,add_zero->eX,mul_le_mul->iW,lt_trans->jS,add_mul->o6
open UInt8 renaming ofNat->bK
namespace Go.Proofs.YtlhlkofpjhpaoaaGreatDoor
open Go.RowKit Go.IntWalk Nums
abbrev outP(l:List UInt8):Post (Option Addr×Nat):={ ret:=λx=>.v (.slice x.1 l.length x.2),own:=λx=>[OwnS 0 5 1 eB x.1 x.2 l] }
theorem digest_S{A0:Option Addr}{c0:Nat}{l:List UInt8}(hl:l.length<=70368744177664):Spec 79 [.slice A0 l.length c0,.int .u64 32] [] (Rd 1 eB A0 c0 l) (outP (cE bJ l)):=by
 refine zQ [.c (.v (.slice A0 l.length c0)),eWd 32] 359 Tryz.func79 rfl (by rw [Tryz.ntmps79];rfl) (two_ok trivial trivial) λB=>?_;refine zA rfl ?_;refine s_reg λK hK=>l_list zY B.B.heap.size n256 (fe:=eWd) rfl rfl rfl rfl rfl (λ_=>rfl) rfl (by decide) (by decide) (okF_U _) (aF _) λAN=>l_free 0 rfl (l_N hK rfl ?_);refine zA rfl (zM λK1 hK1=>?_);refine zA rfl ?_;refine zW ((32:Int)=64) rfl (λh=>absurd h (by decide)) (λ_=>zO (hK1 _ ?_));refine s_reg λK hK=>zB rfl (l_num 7 4 rfl rfl (zJ (hK _ ?_)));refine s_reg λK hK=>l_list0 B.B.heap.size eB (e:=5) (sz:=1) rfl rfl rfl rfl (aF _) (λw=>by go_simp) λA1=>zB rfl (l_appY zY 0 l rfl rfl rfl rfl rfl rfl rfl rfl rfl (rd_fact λw h _=>h.2) (by decide) (by show(0+_)*1<=_;omega) (by show 0+_<=_;omega) (aF _) λA2 c2=>l_N hK rfl ?_);refine s_reg λK hK=>zB rfl (l_push zY 0 (128:UInt8) rfl rfl rfl rfl rfl rfl rfl (eB_ok _) (by decide) (by decide) (by show(l.length+1)*1<=_;omega) (by show l.length<_;omega) (aF _) λA3 c3=>l_N hK rfl ?_);refine zM λK2 hK2=>?_;refine zN ?_;refine c_weak (e':=DP B AN A0 c0 l [] [] A3 c3 (pdq l 0)) ⟨zE rfl, trivial, .refl _,λ_ h _=>h,λ_ h=>h⟩ (padding_S hl A3 c3 λA c Z hZ hz=>hK2 _ ?_);have hp:=pdq_len l Z;refine s_reg λK hK=>zB rfl (l_num 56 8 rfl rfl (l_makeS zY B.B.heap.size 8 (0:UInt8) (fe:=eB) rfl rfl rfl rfl rfl rfl rfl rfl (eB_ok 0) (by decide) (by decide) (aF _) λAL=>l_N hK rfl ?_))
 refine s_reg λK hK=>zB rfl (l_num 10 ((8*l.length:Nat):Int) rfl (by
  show IntKind.u64.wrap (IntKind.u64.wrap (l.length:Int)*8)=_
  rw [wrapN _ (by omega),show(l.length:Int)*8=((8*l.length:Nat):Int) by omega,wrapN _ (by omega)]) (zJ (hK _ ?_)))
 refine zM λK3 hK3=>?_;refine s_reg λK hK=>zB rfl (l_num 11 7 rfl rfl (zJ (hK _ ?_)));refine zN ?_
 have hy:8*l.length<18446744073709551616:=by omega
 have htl:=pdq_tail l Z hZ hz;have hlq:=lq_len (8*l.length);refine c_weak (e':=DP B AN A0 c0 l [(11,.v (.int .i64 7)),(10,.v (.int .u64 ((8*l.length:Nat):Int))),(9,.v (.slice AL 8 8))] [ownB B AL 8 (lqrow (8*l.length) 8)] A c (pdq l Z)) ⟨⟨rfl,rfl,rfl,rfl,rfl,rfl,rfl,rfl,rfl,trivial⟩,trivial,.of_eq (congrArg (λx=>[ownB B AL 8 x,ownB B A c (pdq l Z)]) (lqrow_top _).symm),λ_ h _=>h,λ_ h=>h⟩ (length_S hy (hK3 _ ?_));generalize lq (8*l.length)=q at *;refine s_reg λK hK=>zB rfl (l_appY (A2:=AL) (c2:=8) zY 1 q rfl rfl rfl rfl rfl rfl (by rw [hlq];rfl) rfl rfl (rd_own 0 rfl) (by decide) (by show((pdq l Z).length+_)*1<=_;omega) (by show(pdq l Z).length+_<=_;omega) (aF _) λAM cm=>l_free 0 rfl (l_free 0 rfl (l_N hK rfl ?_)));rw [htl];generalize hm:l++eC 64 (l.length%64) (8*l.length)=m at *
 have hml:m.length=l.length+9+Z:=by rw [<-htl,aB,hp,hlq];omega
 have hdg:outq (eH bJ 64 first256 m).list 8=cE bJ l:=by rw [<-hm];exact outq_digest l
 refine s_reg λK hK=>l_makeS zY B.B.heap.size 8 (0:Nat) (fe:=eWd) rfl rfl rfl rfl rfl rfl rfl rfl (eWd_ok 0) (by decide) (by decide) (aF _) λAH=>l_N hK rfl ?_;refine zM λK4 hK4=>?_;refine zA rfl (zN ?_);refine c_weak (e':=DH B AN AM AH cm m [(83,.v (.int .i64 0)),(82,.v (.int .i64 8))] (aA 8 0)) ⟨zE rfl, trivial, .refl _,λ_ h _=>⟨h.2.2.1,h.1⟩,λ_ h=>h⟩ (firsts_S (hK4 _ ?_));refine zM λK5 hK5=>?_;refine zA rfl (zN ?_);refine c_weak (e':=DB B AN AM cm AH m first256.list 0) ⟨zE rfl, trivial, .refl _,λ_ h _=>h,λ_ h=>h⟩ (blocks_S first256 first256_ok (M:=m.length/64) (by omega) (by omega) (hK5 _ ?_));refine zA rfl (s_nil0 0 5 1 eB ?_);refine zM λK6 hK6=>?_;refine zA rfl (zN ?_);refine c_weak (e':=DQ B AH (eH bJ 64 first256 m).list [(338,.v (.int .i64 0))] (none,0,[])) ⟨zE rfl, trivial, .refl _,λ_ _ _=>trivial,λ_ h=>h⟩ (outs_S rfl λA c=>hK6 _ (s_free 1 rfl ?_));rw [hdg];refine zA rfl (zP ?_);exact zR zY (A,c) rfl (by decide) rfl rfl rfl (λ_ _ _=>trivial) λ_ _=>trivial
end Go.Proofs.YtlhlkofpjhpaoaaGreatDoor
namespace Go.Proofs.YtlhlkofpjhpaoaaGreatDoor
open Go.RowKit Go.IntWalk
abbrev PartsF(P:Option Addr)(pc:Nat)(ss:List Seg)(w:World):Prop:=(0<ss.length->Rd 1 eSeg P pc ss w)/\∀s∈ss,s.rd w
instance pst_parts{P:Option Addr}{pc:Nat}{ss:List Seg}:Pst (PartsF P pc ss):=⟨λw w' h hb=>⟨λh0=>Pst.later _ _ (h.1 h0) hb,λs hs=>Pst.later (p:=s.rd) w w' (h.2 s hs) hb⟩⟩
theorem segs_of{w:World}{P:Option Addr}{pc:Nat}{ls:List (List UInt8)}(hn:ls.length<=pc/\pc<=9223372036854775807)(hP:Parts w w.heap.size P ls):∃ss:List Seg,ss.map Seg.l=ls/\PartsF P pc ss w:=by
 by_cases h0:0<ls.length
 ·obtain⟨ad,rfl,hb,h⟩:=hP h0
  have key:∀(ls:List (List UInt8)) (k:Nat),(∀(i:Nat) l,ls[i]?=some l->∃A' c,w.cell? (ad.add (k+i))=some (.slice A' l.length c)/\SL w 0 w.heap.size A' l c)->∃ss:List Seg,ss.map Seg.l=ls/\(∀i s,ss[i]?=some s->w.cell? (ad.add (k+i))=some (.slice s.A s.l.length s.c))/\∀s∈ss,s.rd w:=λls=>by
   induction ls with
   | nil=>exact λk _=>⟨[],rfl,λi s hs=>by simp at hs,λ_ h=>by cases h⟩
   | cons l ls ih =>
    intro k h
    obtain⟨ss,e,h1,h2⟩:=ih (k+1) λi l hl=>by rw [show k+1+i=k+(i+1) by omega];exact h (i+1) l hl
    obtain⟨A',c,h3,h4⟩:=h 0 l rfl;refine⟨⟨A',c,l⟩::ss,by rw [bX,e],λi s hs=>?_,λs hs=>?_⟩
    ·cases i with
     | zero=>cases hs;exact h3
     | succ i=>rw [show k+(i+1)=k+1+i by omega];exact h1 i s hs
    ·rcases List.mem_cons.1 hs with rfl|hs
     ·exact(Rd.of_sb ⟨A',c,rfl,h4⟩).2
     ·exact h2 s hs
  obtain⟨ss,e,h1,h2⟩:=key ls 0 λi l hl=>by rw [aZ];exact h i l hl
  refine⟨ss,e,λh0'=>⟨by rw [<-e,bO] at hn;exact hn.1,hn.2,λh=>(by cases h),okF_seg _,λ_=>?_⟩,h2⟩;obtain⟨b,o,sp⟩:=ad;have h0'':0<ss.length:=h0'
  have hsp:sp=none:=by
   have h8:=h1 0 ss[0] (aK h0'')
   cases sp with
   | none=>rfl
   | some s =>
    unfold World.cell? Addr.add at h8
    simp only [if_true] at h8
    split at h8
    ·simp at h8
    ·cases h8
  subst hsp;refine⟨b,o,rfl,hb,λi x hi j v hj=>?_⟩;have h8:=h1 i x hi;rw [dA,aZ] at h8
  cases j with
  | zero =>
   cases hj
   rw [Nat.one_mul];exact h8
  | succ j=>cases hj
 ·obtain rfl:=bV (Nat.eq_zero_of_not_pos h0)
  exact⟨[],rfl,λh=>absurd h (Nat.lt_irrefl 0),λ_ h=>by cases h⟩
theorem take_flatS{ss:List Seg}{i:Nat}{s:Seg}(h:ss[i]?=some s):((ss.take i).map Seg.l).flatten++s.l=((ss.take (i+1)).map Seg.l).flatten:=by
 rw [List.take_add_one,h]
 simp
end Go.Proofs.YtlhlkofpjhpaoaaGreatDoor
namespace Go.Proofs.YtlhlkofpjhpaoaaGreatDoor
open Go.RowKit Go.IntWalk Nums
theorem digest256_len(m:List UInt8):(cE bJ m).length=32:=by
 rw [<-outq_digest,outq_len (aF 8)]
theorem rsum_C{P:Option Addr}{pc:Nat}{ss:List Seg}(hn:ss.length<=9223372036854775807)(hl:(ss.map Seg.l).flatten.length<=70368744177664):Ct (PartsF P pc ss) 58 [.c (.v (.slice P ss.length pc))] (one (.q (eY 32 (cE bJ (ss.map Seg.l).flatten)))):=⟨λ_ _=>by go_simp,by
 have hle:∀i s,ss[i]?=some s->((ss.take i).map Seg.l).flatten.length+s.l.length<=70368744177664:=λi s h=>by
  have h1:=congrArg List.length (take_flatS h)
  have h2:(ss.map Seg.l).flatten=((ss.take (i+1)).map Seg.l).flatten++((ss.drop (i+1)).map Seg.l).flatten:=by
   rw [<-nU,<-List.map_append,cW]
  rw [aB] at h1;rw [h2,aB] at hl
  omega
 refine zQ [.c (.v (.slice P ss.length pc))] 32 Tryz.func58 rfl (by rw [Tryz.ntmps58];rfl) (one_ok trivial) λB=>?_;refine zA rfl ?_;refine zA rfl (s_nil0 B.B.heap.size 5 1 eB ?_);refine zM λK1 hK1=>?_;refine zA rfl (zN ?_)
 let V:Nat×Option Addr×Nat->Env:=λs=>⟨[(11,.v (.int .i64 (s.1:Int))),(10,.v (.int .i64 (ss.length:Int))),(9,.v (.slice P ss.length pc)),(3,.v (.slice s.2.1 ((ss.take s.1).map Seg.l).flatten.length s.2.2)),(2,.a 2 0)],[⟨2,none,45,[.agg 32 (By (aA 32 0)).toArray]⟩],[ownB B s.2.1 s.2.2 ((ss.take s.1).map Seg.l).flatten],PartsF P pc ss,λ_=>True⟩
 refine c_weak (e':=V (0,none,0)) ⟨zE rfl, zL rfl rfl, .refl _,λ_ h _=>h, zU⟩ (s_loop (λs=>ss.length-s.1) V (λs=>s.1<=ss.length) ?_ (0,none,0) (aI _))
 rintro⟨i,A,c⟩ hi
 dsimp only at hi
 refine zA rfl (zM λK2 hK2=>?_);refine zW ((i:Int)<(ss.length:Int)) rfl (λhlt=>?_) (λhge=>?_)
 ·have hlt:i<ss.length:=by omega
  obtain⟨s,hs⟩:∃s,ss[i]?=some s:=⟨_,aK hlt⟩;have h1:=hle i s hs;refine zO (hK2 _ (zM λK3 hK3=>?_));refine zN ?_;refine s_reg λK hK=>l_elem (fe:=eSeg) (x:=s) zY rfl rfl rfl i rfl hs rfl rfl (λ_ _ _ hv=>hv.fact.1 (by omega)) (l_N hK rfl ?_);refine s_lit (zB rfl (l_appY zY 0 s.l rfl rfl rfl rfl rfl rfl rfl rfl rfl (rd_fact λw h _=>h.2 s (List.mem_of_getElem? hs)) (by decide) (by show(((ss.take i).map Seg.l).flatten.length+s.l.length)*1<=_;omega) (by show((ss.take i).map Seg.l).flatten.length+s.l.length<=_;omega) (aF _) λA' c'=>?_));rw [take_flatS hs];refine l_E rfl (hK3 _ ?_);refine zD rfl ?_;exact zX (i+1,A',c') hlt (by show ss.length-(i+1)<ss.length-i;omega) ⟨⟨congrArg (λx=>some (SV.v (.int .i64 x))) (addI i 1 (by omega)),rfl,rfl,rfl,rfl,trivial⟩,⟨rfl,rfl,trivial⟩,.refl _,λ_ h _=>h,λ_ h=>h⟩
 ·obtain rfl:i=ss.length:=by omega
  rw [fU] at *;refine s_exit (zS (zS (k_out (hK1 _ ?_))));generalize hm:(ss.map Seg.l).flatten=m at *;have hD:=digest256_len m;refine zA rfl (s_free 0 rfl ?_);refine zM λK4 hK4=>?_;refine s_reg λK hK=>zB rfl (l_call0 [.slice A m.length c,.int .u64 32] rfl rfl rfl (λ_ _=>by go_simp) rfl rfl (λ_ _=>rfl) (digest_S hl) (λw h _=>h.1) λ⟨A2,c2⟩=>l_free 0 rfl (l_N hK rfl ?_));generalize cE bJ m=D at *;refine zN ?_
  let W:Nat->Env:=λj=>⟨[(22,.v (.int .i64 (j:Int))),(21,.v (.int .i64 (D.length:Int))),(20,.v (.slice A2 D.length c2)),(6,.a 6 0),(2,.a 2 0)],[⟨6,none,45,[.agg 32 (By (fb D j)).toArray]⟩,⟨2,none,45,[.agg 32 (By (aA 32 0)).toArray]⟩],[],Rd 1 eB A2 c2 D,λ_=>True⟩
  have e6:(some ⟨6,none,45,[.agg 32 (By (aA 32 0)).toArray]⟩:Option LV)=some ⟨6,none,45,[.agg 32 (By (fb D 0)).toArray]⟩:=by rw [fb_zero]
  refine c_weak (e':=W 0) ⟨zE rfl, ⟨e6,rfl,rfl,rfl,trivial⟩,.refl _,λ_ h _=>h.1,λ_ h=>trivial⟩ (s_loop (λj=>D.length-j) W (λj=>j<=D.length) ?_ 0 (aI _))
  rintro j hj
  refine zA rfl (zM λK5 hK5=>?_);refine zW ((j:Int)<(D.length:Int)) rfl (λhlt=>?_) (λhge=>?_)
  ·have hlt:j<D.length:=by omega
   refine zO (hK5 _ (zM λK6 hK6=>?_));refine zN ?_;refine s_reg λK hK=>zB rfl (l_elem (fe:=eB) (x:=D[j]!) zY rfl rfl rfl j rfl (by rw [getElem!_pos D j hlt,aK hlt]) rfl rfl (λ_ _ _ hv=>hv.fact) (l_N hK rfl ?_));refine s_lit (zB rfl (l_put rfl arr32 (by show j<32;omega) [.agg 32 (By (fb D (j+1))).toArray] (eY_ok (fb_len _ _)).1 ?_ ?_ (zJ (hK6 _ ?_))))
   ·show 0+j<(By (fb D j)).toArray.size
    rw [aT,By_len,fb_len]
    omega
   ·show By (fb D (j+1))=(By (fb D j)).set (0+j) (.int .u8 ((D[j]!).toNat:Int))
    rw [aZ,By,By,<-fb_set,List.map_set]
   refine zD rfl ?_;exact zX (j+1) hlt (by omega) ⟨⟨congrArg (λx=>some (SV.v (.int .i64 x))) (addI j 1 (by omega)),rfl,rfl,rfl,rfl,trivial⟩,zL rfl rfl, .refl _,λ_ h _=>h,λ_ h=>h⟩
  ·obtain rfl:j=D.length:=by omega
   refine s_exit (zS (zS (k_out (hK4 _ ?_))))
   have e7:fb D D.length=D:=by rw [hD];exact fb_all hD
   refine zA rfl (zP ?_);rw [e7]
   exact zR zY () rfl (by decide) rfl rfl rfl (λ_ _ _=>trivial) λ_ _=>trivial⟩
theorem rsum_f(P:Option Addr)(ls:List (List UInt8))(pc:Nat)(hn:ls.length<=pc/\pc<=9223372036854775807)(hl:ls.flatten.length<=70368744177664)(w:World)(hP:Parts w w.heap.size P ls) :
  Calls Tryz.prog 58 #[.slice P ls.length pc] w λe w'=>e = .returned (.agg (By (cE bJ ls.flatten)).toArray)/\Below w.heap.size w w':=by
 obtain⟨ss,rfl,h⟩:=segs_of (pc:=pc) ⟨hn.1,by omega⟩ hP;rw [bO] at *;exact(rsum_C (P:=P) (pc:=pc) (by omega) hl).row h
end Go.Proofs.YtlhlkofpjhpaoaaGreatDoor
namespace Nums
def xsl(s:Sha)(b:List UInt8):Nat->List Nat
  | 0=>[]
  | t+1=>sx s b t::xsl s b t
theorem mW(s:Sha)(b:List UInt8):∀t,(xsl s b t).length=t
 | 0=>rfl
 | t+1=>by rw [xsl,bD,mW]
theorem nJ(s:Sha)(b:List UInt8):∀t j,j<t->(xsl s b t)[j]! = sx s b (t-1-j)
 | 0,_,h=>absurd h (by omega)
 | t+1,0,_=>by
  show(sx s b t::xsl s b t)[0]! = _
  rw [Nat.add_sub_cancel,Nat.sub_zero]
  rfl
 | t+1,j+1,h=>by
  show(sx s b t::xsl s b t)[j+1]! = _
  have e:(sx s b t::xsl s b t)[j+1]! = (xsl s b t)[j]!:=by simp
  rw [e,nJ s b t j (by omega)]
  congr 1
  omega
def qK(s:Sha)(b:List UInt8):Nat->List Nat
  | 0=>[]
  | t+1=>forced (vD s b t) λv=>v::qK s b t
theorem p8(s:Sha)(b:List UInt8):∀t,t<=16->qK s b t=xsl s b t
 | 0,_=>rfl
 | t+1,h=>by
  have e:sx s b t=vD s b t:=by rw [sx,dif_pos (by omega)]
  rw [qK,gC,xsl,p8 s b t (by omega),e]
def grow(s:Sha):Nat->List Nat->List Nat
  | 0,L=>L
  | k+1,L=>forced ((jR s.w s.low1 L[1]! + L[6]! + jR s.w s.low0 L[14]! + L[15]!)%2^s.w) λv=>grow s k (v::L)
theorem sR(s:Sha)(b:List UInt8):∀k t,16<=t->grow s k (xsl s b t)=xsl s b (t+k)
 | 0,_,_=>rfl
 | k+1,t,h=>by
  have e:(jR s.w s.low1 (xsl s b t)[1]! + (xsl s b t)[6]! + jR s.w s.low0 (xsl s b t)[14]! + (xsl s b t)[15]!)%2^s.w=sx s b t:=by
   rw [nJ s b t 1 (by omega),nJ s b t 6 (by omega),nJ s b t 14 (by omega),nJ s b t 15 (by omega)]
   conv=>rhs;rw [sx,dif_neg (by omega)]
   rw [show t-1-1=t-2 from by omega,show t-1-6=t-7 from by omega,show t-1-14=t-15 from by omega,show t-1-15=t-16 from by omega]
  rw [grow,gC,e];have h2:=sR s b k (t+1) (by omega);rw [xsl] at h2;rw [h2]
  congr 1
  omega
def vK(s:Sha):List Nat->Nat->Oct->Oct
  | [],_,o=>o
  | x::r,t,o=>forced (t1w s (s.k t) x o) λT=>forced ((T+t2w s o)%2^s.w) λA=>forced ((o.d+T)%2^s.w) λE=>vK s r (t+1) ⟨A,o.a,o.b,o.c,E,o.e,o.f,o.g⟩
theorem sL(s:Sha)(b:List UInt8)(o:Oct):∀(l:List Nat) (t:Nat),(∀j x,l[j]?=some x->x=sx s b (t+j))->vK s l t (kZ s b o t)=kZ s b o (t+l.length)
 | [],_,_=>rfl
 | x::r,t,h=>by
  have hx:=h 0 x rfl;rw [eX] at hx;subst hx;rw [vK];simp only [gC];have h2:=sL s b o r (t+1) (λj x hj=>by rw [h (j+1) x (by simpa using hj)];congr 1;omega);rw [show kZ s b o (t+1)=rnd s (s.k t) (sx s b t) (kZ s b o t) from rfl] at h2;rw [show t+(sx s b t::r).length=t+1+r.length from by rw [bD];omega,<-h2]
  rfl
def vF(w:Nat)(o q:Oct):Oct :=
  forced ((o.a+q.a)%2^w) λa=>forced ((o.b+q.b)%2^w) λb=>forced ((o.c+q.c)%2^w) λc=>forced ((o.d+q.d)%2^w) λd =>
  forced ((o.e+q.e)%2^w) λe=>forced ((o.f+q.f)%2^w) λf=>forced ((o.g+q.g)%2^w) λg=>forced ((o.h+q.h)%2^w) λh=>⟨a,b,c,d,e,f,g,h⟩
theorem vE(w:Nat)(o q:Oct):vF w o q=nQ w o q:=by
 unfold vF
 simp only [gC]
 rfl
def tW(s:Sha)(o:Oct)(b:List UInt8):Oct:=vF s.w o (vK s (grow s (s.n-16) (qK s b 16)).reverse 0 o)
theorem tV{s:Sha}(hn:16<=s.n)(o:Oct)(b:List UInt8):tW s o b=fP s o b:=by
 rw [tW,vE,fP,p8 s b 16 (aF _),sR s b _ 16 (aF _),show 16+(s.n-16)=s.n from by omega]
 congr 1
 have h:=sL s b o (xsl s b s.n).reverse 0 (λj x hj=>by
  have hl:j<(xsl s b s.n).reverse.length:=(List.getElem?_eq_some_iff.1 hj).1;rw [fJ,mW] at hl;rw [List.getElem?_reverse (by rw [mW];exact hl),mW] at hj;have h1:=nJ s b s.n (s.n-1-j) (by omega);rw [List.getElem!_eq_getElem?_getD,hj] at h1;rw [show 0+j=s.n-1-(s.n-1-j) from by omega,<-h1]
  rfl)
 rw [fJ,mW,aZ] at h;exact h
def uC(s:Sha)(B:Nat):Nat->Oct->List UInt8->Oct
  | 0,o,_=>o
  | k+1,o,l=>uC s B k (tW s o (l.take B)) (l.drop B)
theorem sJ{s:Sha}{B:Nat}(hB:0<B)(hn:16<=s.n):∀k o l,l.length=k*B->uC s B k o l=eH s B o l
 | 0,o,l,h=>by
  have h0:l=[]:=bV (by omega);subst h0;rw [uC,fW (by simpa using hB)]
 | k+1,o,l,h=>by
  have hl:(l.take B).length=B:=by rw [aU,h,o6];omega
  have hd:(l.drop B).length=k*B:=by rw [List.length_drop,h,o6];omega
  rw [uC,tV hn,sJ hB hn k _ _ hd]
  conv=>rhs;rw [<-cW B l,fX hB hl]
def j4(s:Sha)(n:Nat)(m:List UInt8):List UInt8 :=
  ((uC s (2*s.w) n ⟨s.start[0]!,s.start[1]!,s.start[2]!,s.start[3]!,s.start[4]!,s.start[5]!,s.start[6]!,s.start[7]!⟩ (m++eC (2*s.w) (m.length%(2*s.w)) (8*m.length))).list.map (iN s)).flatten
theorem mC{s:Sha}(n:Nat)(m:List UInt8)(hw:0<2*s.w)(hn:16<=s.n)(h:(m++eC (2*s.w) (m.length%(2*s.w)) (8*m.length)).length=n*(2*s.w)):cE s m=j4 s n m:=by
 rw [cE,wL,j4,sJ hw hn n _ _ h]
end Nums
namespace Go.Proofs.YtlhlkofpjhpaoaaGreatDoor
open Go.RowKit
def row(k v:Nat):Array Value:=(By (aA (8-k) 0++(be8 v).drop (8-k))).toArray
theorem row_zero(v:Nat):row 0 v = #[bM dQ 0,bM dQ 0,bM dQ 0,bM dQ 0,bM dQ 0,bM dQ 0,bM dQ 0,bM dQ 0]:=rfl
theorem wrow_at(k v:Nat)(h:k<8):∃u,(row k v)[7-k]?=some (bM dQ u):=by
 have:k=0\/k=1\/k=2\/k=3\/k=4\/k=5\/k=6\/k=7:=by omega
 rcases this with rfl|rfl|rfl|rfl|rfl|rfl|rfl|rfl<;>exact⟨_,rfl⟩
theorem byte_of(q:Nat):bM dQ ((q:Int)%256)=bM dQ ((bK q).toNat:Int):=by
 simp
theorem row_next(k v:Nat)(h:k<8):(row k v).setIfInBounds (7-k) (bM dQ (((v/256^k:Nat):Int)%256))=row (k+1) v:=by
 have:k=0\/k=1\/k=2\/k=3\/k=4\/k=5\/k=6\/k=7:=by omega
 rw [byte_of]
 rcases this with rfl|rfl|rfl|rfl|rfl|rfl|rfl|rfl<;>simp [row,By,be8,aA]
theorem pow_next(k v:Nat):v/256^k/256=v/256^(k+1):=by rw [Nat.div_div_eq_div_mul,cN]
theorem size57(cs:Array Value)(h:cs.size=8):(Tryz.prog.info? 179).map (·.size)=some cs.size:=by
 rw [h]
 kernel_rfl
theorem row_one(v:Nat):∀u∈(row 8 v).toList,u.oneCell'=true:=By_one _
theorem lay_any(v:Nat)(w:World)(hv:v<18446744073709551616) :
  Calls Tryz.prog 90 #[.int .u64 v] w λe w'=>e = .returned (.agg (By (be8 v)).toArray)/\Below w.heap.size w w':=by
 go_enter Tryz.func90,Tryz.ntmps90
 go_wp2
 go_loopw [0,4,5] (λq _ i wr=>∃k:Nat,k<=8/\i = .int .i64 k/\q = .int .u64 ((v/256^k:Nat):Int)/\Blk wr (w.heap.size+1) 179 (row k v)/\Blk wr w.heap.size 179 (row 0 v)/\Below w.heap.size w wr) (λ_ _ i _=>8-(intOf i).toNat)
 case atStart =>
  refine⟨0,by omega,rfl,by simp,?_,?_,?_⟩
  ·rw [row_zero]
   exact heap_alloc2_new w _ _
  ·rw [row_zero]
   exact heap_alloc2_old w _ _
  ·exact((Below.refl _ _).alloc (aF _) _).alloc (by simp) _
 case round =>
  obtain⟨k,hk,rfl,rfl,hb1,hb0,hbel⟩:=hrel
  by_cases hlt:k<8
  ·obtain⟨u,hu⟩:=wrow_at k v hlt
   have hc:=(hb1.cell (7-k)).trans hu;have hf:=hb1.free (7-k);have hq:v/256^k<18446744073709551616:=dP (dU _ _) hv;clear hu
   go_wp2
   go_roundw
   case rel =>
    refine⟨k+1,by omega,by go_num,?_,?_,?_,?_⟩
    ·rw [<-pow_next]
     simp
    ·rw [<-row_next k v hlt]
     simpa using hb1.set (7-k) _
    ·exact hb0.far (by simp) _
    ·exact hbel.setCell (by simp) _
   case measure=>simp [intOf];omega
  ·obtain rfl:k=8:=by omega
   go_wp2_with (first
    | (refine wpList_load_row rfl 179 _ rfl (w.heap.size+1) rfl 179 (row 8 v) (0,0) _ hb1 Tryz.underlying179 rfl (size57 _ rfl) ?_)
    | (refine wpList_store_row rfl 179 _ _ rfl w.heap.size rfl (row 8 v) rfl 179 (row 0 v) hb0 (size57 _ rfl) rfl (row_one v) ?_))
   refine bodyPost_ret (results_cell_row rfl _ _ w.heap.size 179 (row 8 v) (0,0) _ rfl (hb0.row _) Tryz.underlying179 rfl (size57 _ rfl)) rfl ⟨rfl,?_⟩;exact below_setRow hbel (aF _) _
def wtot(ls:List (List UInt8)):Nat:=ls.flatten.length
theorem wtot_take(ls:List (List UInt8))(k:Nat)(h:k<ls.length):(ls.take (k+1)).flatten=(ls.take k).flatten++ls[k]:=by
 rw [gA h,nU,List.flatten_cons,List.flatten_nil,List.append_nil]
theorem wtot_succ(ls:List (List UInt8))(k:Nat)(h:k<ls.length):wtot (ls.take (k+1))=wtot (ls.take k)+ls[k].length:=by
 unfold wtot
 rw [wtot_take ls k h,aB]
theorem wtot_le(ls:List (List UInt8))(k:Nat)(h:k<ls.length):wtot (ls.take k)+ls[k].length<=wtot ls:=by
 rw [<-wtot_succ ls k h]
 unfold wtot
 conv=>rhs;rw [<-cW (k+1) ls,nU,aB]
 omega
theorem info5:(Tryz.prog.info? 5).map (λi=>(i.zero,i.size,i.bytes))=some (some (.int .u8 0),1,1):=by kernel_rfl
theorem join_any(PA:Option Addr)(ls:List (List UInt8))(pc hi:Nat)(w:World)(h:Parts w hi PA ls)(hhi:hi<=w.heap.size)(hpc:ls.length<=pc)(hm:pc<=9223372036854775807)(ht:wtot ls<=281474976710656) :
  Calls Tryz.prog 70 #[.slice PA ls.length pc] w λe w'=>e = .returned (.slice (some ⟨w.heap.size,0,none⟩) (wtot ls) (wtot ls)) /\
   w'.ownsRow w.heap.size 5 1 (.slice (some ⟨w.heap.size,0,none⟩) (wtot ls) (wtot ls)) (wtot ls) (By ls.flatten)/\Below w.heap.size w w':=by
 obtain⟨i0,hi0,hz0,hz1,hz2⟩:=info_parts info5
 go_enter Tryz.func70,Tryz.ntmps70
 go_wp2
 go_loop [3,5,11] (λs _ i=>∃k:Nat,k<=ls.length/\i = .int .i64 k/\s = .int .i64 (wtot (ls.take k))) (λ_ _ i=>ls.length-(intOf i).toNat)
 case atStart=>exact⟨0,aI _,rfl,rfl⟩
 case round =>
  obtain⟨k,hk,rfl,rfl⟩:=hrel
  by_cases hlt:k<ls.length
  ·obtain⟨ad,rfl,_,hcell⟩:=h (by omega)
   obtain⟨A',c',hx,hsl⟩:=hcell k ls[k] (aK hlt);have hle:=wtot_le ls k hlt;have hl1:=hsl.1;have hl2:=hsl.2.1;clear hcell hsl
   go_wp2
   go_round
   case rel=>exact⟨k+1,by omega,by go_num,by rw [wtot_succ ls k hlt];go_num⟩
   case measure=>simp [intOf];omega
  ·obtain rfl:k=ls.length:=by omega
   have H:=c9 ht;rw [fU]
   go_wp2_with (at_make;refine wpList_make_own _ rfl _ _ 51 rfl w.heap.size 5 i0 _ 1 Tryz.underlying51 hi0 hz0 hz1 .i64 .i64 _ (wtot ls) rfl rfl rfl (by rw [hz2];have:=H.out;omega) (by have:=H.out;unfold maxLen;omega) (aF _) ?_;intro w1 hown1 hg1)
   have hb1:Below w.heap.size w w1:=(Below.refl _ _).grown hg1 (aF _) (by simp);clear hg1
   go_loopw [6,8,24] (λv _ i wr=>∃k:Nat,k<=ls.length/\i = .int .i64 k/\v = .slice (some ⟨w.heap.size,0,none⟩) (wtot (ls.take k)) (wtot ls) /\
    wr.ownsRow w.heap.size 5 1 (.slice (some ⟨w.heap.size,0,none⟩) (wtot (ls.take k)) (wtot ls)) (wtot (ls.take k)) (By (ls.take k).flatten)/\Below w.heap.size w wr) (λ_ _ i _=>ls.length-(intOf i).toNat)
   case atStart=>exact⟨0,aI _,rfl,rfl,hown1,hb1⟩
   case round =>
    obtain⟨k,hk,rfl,rfl,hown,hb⟩:=hrel
    by_cases hlt:k<ls.length
    ·obtain⟨ad,rfl,_,hcell⟩:=h.below hb hhi (by omega)
     obtain⟨A',c',hx,hsl⟩:=hcell k ls[k] (aK hlt);have hle:=wtot_le ls k hlt;have hn:=hsl.none_;have hcs:=hsl.cells;have HN:=c9 hn;have HC:=c9 hcs;have HL:=c9 hown;clear hcell hsl hn hcs hown
     go_wp2_with (at_builtin;refine wpList_append_fits_any _ rfl (.tmp 28) (.tmp 29) 51 rfl w.heap.size 5 i0 1 Tryz.underlying51 hi0 hz1 w.heap.size (wtot (ls.take k)) (wtot ls) _ rfl HL.out A' ls[k].length c' (By ls[k]) rfl (by rw [By_len,Nat.mul_one]) HN.out HC.out (By_one _) hle ?_;intro w2 hown2 hg2)
     go_roundw
     case rel =>
      rw [<-By_app,<-wtot_take ls k hlt,<-wtot_succ ls k hlt] at hown2;exact⟨k+1,by omega,by go_num,by rw [wtot_succ ls k hlt],hown2,hb.grown hg2 hb.size (by intro x hx;injection hx with hx;omega)⟩
     case measure=>simp [intOf];omega
    ·obtain rfl:k=ls.length:=by omega
     rw [fU] at hown ⊢
     go_wp2
     go_ret
     exact⟨rfl,hown,hb⟩
theorem own_base{w:World}{base base' size n:Nat}{e:TypeId}{v:Value}{xs:List Value}(h:w.ownsRow base e size v n xs)(hb:base'<=base):w.ownsRow base' e size v n xs:=by
 obtain⟨h1,h2⟩:=h;refine⟨h1,?_⟩
 rcases h2 with h2|⟨g,cap,cur,hv,hg,r⟩
 ·exact .inl h2
 ·exact .inr ⟨g,cap,cur,hv,by omega,r⟩
def Made(w:World)(l:List UInt8)(e:Ending)(w':World):Prop :=
  ∃g,e = .returned (.slice (some ⟨g,0,none⟩) l.length l.length)/\w'.ownsRow w.heap.size 5 1 (.slice (some ⟨g,0,none⟩) l.length l.length) l.length (By l)/\Below w.heap.size w w'
theorem SL.blk{w:World}{g t lo hi:Nat}{l:List UInt8}(h:Blk w g t (By l).toArray)(h1:lo<=g)(h2:g<hi)(hm:l.length<=9223372036854775807):SL w lo hi (some ⟨g,0,none⟩) l l.length :=
 ⟨aF _,hm,λh=>(by cases h),λ_=>⟨_,rfl,h1,h2,λj x hx=>by
  have hadd:(⟨g,0,none⟩:Addr).add j=⟨g,j,none⟩:=by unfold Addr.add;split<;>simp_all
  rw [hadd,h.cell]
  simp [By,hx]⟩⟩
theorem parts_new7{w:World}{hi:Nat}{ls:List (List UInt8)}{vs:List Value}(hhi:hi<=w.heap.size)
 (h:∀(i:Nat) l,ls[i]?=some l->∃A c,vs[i]?=some (.slice A l.length c)/\SL w 0 hi A l c) :
  Parts (w.alloc (.cells vs.toArray 51)) (w.heap.size+1) (some ⟨w.heap.size,0,none⟩) ls:=λ_=>by
 refine⟨_,rfl,by simp,λi l hi'=>?_⟩;obtain⟨A,c,h1,h2⟩:=h i l hi';refine⟨A,c,?_,(h2.alloc _ hhi).more (aF _) (by omega)⟩
 have hadd:(⟨w.heap.size,0,none⟩:Addr).add i=⟨w.heap.size,i,none⟩:=by unfold Addr.add;split<;>simp_all
 rw [hadd,(Blk.new w 51 vs.toArray).cell]
 simpa using h1
theorem join_made(w wz:World)(PA:Option Addr)(n hi:Nat)(ls:List (List UInt8))(hn:ls.length=n)(h:Parts wz hi PA ls)(hhi:hi<=wz.heap.size)(hm:n<=9223372036854775807)(ht:wtot ls<=281474976710656)(hb:Below w.heap.size w wz) :
  Calls Tryz.prog 70 #[.slice PA n n] wz (Made w ls.flatten):=by
 subst hn;refine(join_any PA ls ls.length hi wz h hhi (aF _) hm ht).mono λe w' ⟨he,ho,hb'⟩=>?_;exact⟨wz.heap.size,he,own_base ho hb.size,hb.trans (hb'.mono hb.size)⟩
theorem bytes_any(A X:Option Addr)(l x:List UInt8)(c d hi:Nat)(w:World)(h:SL w 0 hi A l c)(hx:SL w 0 hi X x d)(hhi:hi<=w.heap.size)(hl:l.length+8+x.length<=281474976710656) :
  Calls Tryz.prog 100 #[.slice A l.length c,.slice X x.length d] w (Made w (l++be8 x.length++x)):=by
 have hxl:x.length<18446744073709551616:=by omega
 go_enter Tryz.func100,Tryz.ntmps100
 go_wp2_with (fail)
 refine(lay_any x.length w hxl).mono ?_
 rintro e w1 ⟨rfl,hb1⟩
 have h1:Blk (w1.alloc (iJ (row 0 0) 179)) w1.heap.size 179 (row 0 0):=Blk.new w1 179 (row 0 0);have hbz:=below_setRow (hb1.alloc hb1.size (iJ (row 0 0) 179)) hb1.size (By (be8 x.length)).toArray;have hs1:SL ((w1.alloc (iJ (row 0 0) 179)).setRow w1.heap.size (By (be8 x.length)).toArray) 0 (w1.heap.size+1) (some ⟨w1.heap.size,0,none⟩) (be8 x.length) 8:=SL.blk (h1.row _) (aI _) (by omega) (by rw [be8_len];omega);have hs2:=(h.below hbz hhi).more (aF 0) (show hi<=w1.heap.size+1 by have:=hb1.size;omega);have hs3:=(hx.below hbz hhi).more (aF 0) (show hi<=w1.heap.size+1 by have:=hb1.size;omega)
 have hp:=parts_new7 (w:=(w1.alloc (iJ (row 0 0) 179)).setRow w1.heap.size (By (be8 x.length)).toArray) (hi:=w1.heap.size+1) (ls:=[l,be8 x.length,x]) (vs:=[.slice A l.length c,.slice (some ⟨w1.heap.size,0,none⟩) 8 8,.slice X x.length d]) (by simp) (by
  intro i y hy
  match i,hy with
  | 0,hy=>injection hy with hy;subst hy;exact⟨_,_,rfl,hs2⟩
  | 1,hy=>injection hy with hy;subst hy;exact⟨_,_,rfl,hs1⟩
  | 2,hy=>injection hy with hy;subst hy;exact⟨_,_,rfl,hs3⟩)
 have hbq:=hbz.alloc hbz.size (iJ #[.slice A l.length c,.slice (some ⟨w1.heap.size,0,none⟩) 8 8,.slice X x.length d] 51);simp only [c8,size_setRow] at hp;rw [row_zero] at h1 hp hbq;have hJ:=join_made w _ _ 3 _ [l,be8 x.length,x] rfl hp (by simp) (by omega) (by unfold wtot;simp [be8_len];omega) hbq;have HJ:=c9 hJ;clear hJ hp hbq hs1 hs2 hs3 hbz
 go_wp2_with (refine wpList_store_row rfl 179 _ _ rfl w1.heap.size rfl (By (be8 x.length)).toArray rfl 179 _ h1 (size57 _ rfl) rfl (By_one _) ?_)
 refine HJ.out.mono ?_
 rintro e w2 ⟨g,rfl,ho,hb2⟩
 go_wp2
 go_ret
 exact⟨g,by simp [be8_len],by simpa [be8_len,List.append_assoc] using ho,hb2⟩
theorem refnum_any(v:Nat)(w:World)(hv:v<18446744073709551616) :
  Calls Tryz.prog 59 #[.int .u64 v] w (Made w (be8 v)):=by
 obtain⟨i0,hi0,hz0,hz1,hz2⟩:=info_parts info5
 go_enter Tryz.func59,Tryz.ntmps59
 go_wp2_with (at_make;refine wpList_make_full _ rfl _ _ 51 rfl w.heap.size 5 i0 _ 1 Tryz.underlying51 hi0 hz0 hz1 .i64 .i64 _ _ 8 rfl rfl rfl rfl (by rw [hz2];omega) (by unfold maxLen;omega) (aF _) ?_;intro w1 hown1 hg1)
 have hb1:Below w.heap.size w w1:=(Below.refl _ _).grown hg1 (aF _) (by simp)
 have e0:(madeCells (bM dQ 0).cells (8*1)).toList=(row 0 v).toList:=by
  show(madeCells #[bM dQ 0] 8).toList=_
  rw [toList_madeCells_one]
  rfl
 rw [e0] at hown1;clear hg1 e0
 go_loopw [0,4] (λq i wr=>∃(k x:Nat),k<=8/\x=v/256^k/\i = .int .i64 (7-(k:Int))/\q = .int .u64 (x:Int)/\wr.ownsRow w.heap.size 5 1 (.slice (some ⟨w.heap.size,0,none⟩) 8 8) 8 (row k v).toList/\Below w.heap.size w wr) (λ_ i _=>(intOf i+1).toNat)
 case atStart=>exact⟨0,v,by omega,by simp,rfl,rfl,hown1,hb1⟩
 case round =>
  obtain⟨k,x,hk,hxe,rfl,rfl,hown,hb⟩:=hrel
  by_cases hlt:k<8
  ·have hq:x<18446744073709551616:=by rw [hxe];exact dP (dU _ _) hv
   obtain⟨u,hu⟩:=wrow_at k v hlt;have hc:=(hown.cellAt (7-k) (by omega)).trans (by simpa using hu);have hf:=hown.frozenAt (7-k);have hs:=(hown.stored (7-k) (bM dQ ((x:Int)%256))).1;have HX:=c9 hxe;have HS:=c9 hs;clear hu hxe hs
   go_wp2
   go_roundw
   case rel =>
    refine⟨k+1,x/256,by omega,by rw [HX.out,pow_next],by rw [Int.natCast_add];congr 1;omega,by go_num,?_,hb.setCell (aF _) _⟩;have e:=row_next k v hlt;rw [<-HX.out] at e;rw [<-e,Array.toList_setIfInBounds];exact HS.out
   case measure=>simp [intOf];omega
  ·obtain rfl:k=8:=by omega
   go_wp2
   go_ret
   exact⟨w.heap.size,rfl,hown,hb⟩
end Go.Proofs.YtlhlkofpjhpaoaaGreatDoor
namespace Go.Proofs.YtlhlkofpjhpaoaaGreatDoor
open Go.RowKit Go.IntWalk
def msg(t:UInt8)(b:List UInt8):List UInt8:=[119,105,116,97,110,t]++be8 b.length++b
theorem msg_app(t:UInt8)(b:List UInt8):[119,105,116,97,110]++[t]++be8 b.length++b=msg t b:=by simp [msg]
theorem run_sliceB(vs:List Value)(n:Nat)(parts:Array (Nat×Value))(hp:parts.toList=(vs.zipIdx 0).map λx=>(x.2,x.1))(hn:vs.length=n)(h0:0<n)(h24:n<=16777216)(h1:∀v∈vs,v.cells = #[v])(w:World) :
  (Instr.buildSlice 51 n parts).run Tryz.prog w = .ok (.slice (some ⟨w.heap.size,0,none⟩) n n) (w.alloc (.cells vs.toArray 5)):=by
 obtain⟨ie,h2,h3,h4,_⟩:=info_parts info_byte;refine run_buildSlice w 51 5 n parts vs.toArray ie _ Tryz.underlying51 h2 h3 (by rw [h4];omega) (by rw [h4];omega) ?_;rw [hp,h4];exact Great.fill_flat _ _ h1 (by simp [hn])
section
variable{ops:Array Oper}{Q:Exit->Act->World->Prop}{N:Nat}{E:List (Nat×Value)}{w:World}{o o2:Oper}{rest:List Oper}{k k2:Nat}
theorem l_sliceB{n:Nat}{parts:Array (Nat×Operand)}(l:List UInt8)(hw:WG ops N E o)(hd:o.dst=some k)(hk:aQ k N=true)(ho:o.op = .buildSlice 51 n parts)
 (hv:parts.toList.map (λp=>(p.1,ev E p.2))=((By l).zipIdx 0).map λx=>(x.2,some x.1))(hn:l.length=n)(h0:0<n)(h24:n<=16777216)
 (hk2:lF Tryz.prog ops Q rest N ((k,.slice (some ⟨w.heap.size,0,none⟩) n n)::E) (w.alloc (.cells (By l).toArray 5))):lF Tryz.prog ops Q (o::rest) N E w:=by
 refine l_valW (.slice (some ⟨w.heap.size,0,none⟩) n n) (w.alloc (.cells (By l).toArray 5)) hw hd hk (λa ha=>?_) hk2
 have hm:∀(l:List (Nat×Operand)) (m:List (Value×Nat)),l.map (λp=>(p.1,ev E p.2))=m.map (λx=>(x.2,some x.1))->l.map (λ(i,x)=>(i,a.eval x))=m.map λx=>(x.2,x.1):=by
  intro l
  induction l with
  | nil=>intro m h;cases m with
   | nil=>rfl
   | cons=>cases h
  | cons p l ih=>intro m h;cases m with
   | nil=>cases h
   | cons u m =>
    simp only [bX,List.cons.injEq,Prod.mk.injEq] at h ⊢;exact⟨⟨h.1.1,ha.eval h.1.2⟩,ih m h.2⟩
 have hr:=run_sliceB (By l) n (parts.map λ(i,x)=>(i,a.eval x)) (by rw [Array.toList_map];exact hm _ _ hv) (by rw [By_len];exact hn) h0 h24 (λv hv=>by
  obtain⟨x,_,rfl⟩:=List.mem_map.1 hv
  rfl) w
 unfold execOp
 simp only [ho,aG,hr,aD,aH]
theorem l_litB{n:Nat}{parts:Array (Nat×Operand)}(l:List UInt8)(hw:WG ops N E o)(hd:o.dst=some k)(hk:aQ k N=true)(ho:o.op = .buildSlice 51 n parts)
 (hv:parts.toList.map (λp=>(p.1,ev E p.2))=((By l).zipIdx 0).map λx=>(x.2,some x.1))(hn:l.length=n)(h0:0<n)(h24:n<=16777216)
 (hw2:∀v,WG ops N ((k,v)::E) o2)(hd2:o2.dst=some k2)(hk2:aQ k2 N=true)(ho2:o2.op = .convert 51 51 (.tmp k))
 (hn2:∀W g,Up w W->SB W (.slice (some ⟨g,0,none⟩) n n) l->lF Tryz.prog ops Q rest N ((k2,.slice (some ⟨g,0,none⟩) n n)::(k,.slice (some ⟨g,0,none⟩) n n)::E) W):lF Tryz.prog ops Q (o::o2::rest) N E w:=by
 refine l_sliceB l hw hd hk ho hv hn h0 h24 ?_
 have hsz:(By l).toArray.size=n:=by rw [aT,By_len,hn]
 refine l_valW (.slice (some ⟨w.heap.size,0,none⟩) n n) (w.alloc (.cells (By l).toArray 5 (n,n+1))) (hw2 _) hd2 hk2 (λa ha=>?_) (hn2 _ w.heap.size ((Up.refl w).alloc _) ?_)
 ·have h1:a.eval (.tmp k) = .slice (some ⟨w.heap.size,0,none⟩) n n:=ha.get k _ (by rw [look_cons,if_pos rfl])
  have hr:=Lib.run_convert_bytes_const (P:=Tryz.prog) w 51 5 (By l).toArray n n Tryz.underlying51 Tryz.underlying5;rw [hsz] at hr
  unfold execOp
  simp only [ho2,h1,aG,hr,aD,aH]
 ·have hc:(w.alloc (.cells (By l).toArray 5 (n,n+1))).heap[w.heap.size]?=some (.cells (By l).toArray 5 (n,n+1)):=heap_alloc_new w _
  have hs2:(w.alloc (.cells (By l).toArray 5 (n,n+1))).heap.size=w.heap.size+1:=c8 _ _;refine⟨some ⟨w.heap.size,0,none⟩,n,by rw [hn],by omega,by omega,λh=>(by cases h),λ_=>⟨_,rfl,aI _,by rw [hs2];exact Nat.lt_succ_self _,λj u hu=>?_⟩⟩;rw [dA,cell_of_row _ _ _ _ _ _ hc,aZ]
  simp [By,hu]
theorem l_appG{s x:Operand}{c d:Nat}{A X:Option Addr}{xs l:List UInt8}(hg:o.guard=none)(hd:o.dst=some k)(hk:aQ k N=true)(ho:o.op = .call { callee:=.builtin .append,args:=#[s,x],argTypes:=#[51,51] })
 (hs:ev E s=some (.slice A xs.length c))(hx:ev E x=some (.slice X l.length d))(hS:SL w 0 w.heap.size A xs c)(hX:SL w 0 w.heap.size X l d)(h0:0<xs.length)(hl:0<l.length)(hc:c<xs.length+l.length)(hb:xs.length+l.length<=140737488355328)
 (hn:∀W v,Up w W->SB W v (xs++l)->lF Tryz.prog ops Q rest N ((k,v)::E) W):lF Tryz.prog ops Q (o::rest) N E w:=by
 obtain⟨i,hi0,hz0,hs0,hby⟩:=info_parts info_byte;obtain⟨ad,rfl,_,_,_⟩:=hS.2.2.2 h0;obtain⟨bd,rfl,_,_,_⟩:=hX.2.2.2 hl;obtain⟨v',w',hr,ho',hgr⟩:=run_append_arg_grows (P:=Tryz.prog) w 51 o.type 5 i _ 1 1 Tryz.underlying51 hi0 hz0 hs0 hby rfl (by omega) ad xs.length c (By xs) (by rw [By_len,Nat.mul_one]) (hS.cells ad rfl) bd l.length d (By l) (by rw [By_len,Nat.mul_one]) (hX.cells bd rfl) hc (by unfold maxLen;omega) (by omega);rw [<-By_app,<-aB] at ho';have hU:Up w w':=(Below.refl _ _).grown hgr (aF _) (by simp);refine l_val v' hg hd hk (λa ha=>?_) (hn w' v' hU ?_)
 ·have h2:=ha.eval hs
  have h3:=ha.eval hx
  unfold execOp
  simp only [ho,resolve,invoke,builtin,aG,aH,aD,List.map_toArray,bX,List.map_nil,h2,h3,hr]
 ·obtain⟨A',c',rfl⟩:∃A' c',v' = .slice A' (xs++l).length c':=by
   rcases ho'.2 with⟨h0,hn⟩|⟨g,cap,cur,hv,_⟩
   ·exact⟨none,0,by rw [h0,hn]⟩
   ·exact⟨_,_,hv⟩
  exact(show GS w' w.heap.size 5 A' c' (By (xs++l)) from by unfold GS;rw [By_len];exact ho').sb
end
theorem SB.sl{w:World}{v:Value}{l:List UInt8}(h:SB w v l):∃A c,v = .slice A l.length c/\SL w 0 w.heap.size A l c:=h
theorem signed_M(t:UInt8){v:Value}{b:List UInt8}(w:World)(hv:SB w v b)(hb:b.length<=140737488355312):Calls Tryz.prog 69 #[.int .u8 (t.toNat:Int),v] w (Made w (msg t b)):=by
 refine calls_F (vs:=[.int .u8 (t.toNat:Int),v]) 12 Tryz.func69 rfl (by rw [Tryz.ntmps69];rfl) ?_;refine c_seq λK hK=>?_;refine c_qF ?_;refine f_assign (.slice none 0 0) rfl rfl rfl rfl rfl ?_;refine f_end λw1 hw1=>hK _ _ ?_;clear hK K;replace hv:=hv.later hw1;have hU:Up w w1:=hw1;clear hw1;refine c_seq λK hK=>?_;refine c_lit ?_;refine l_litB [119,105,116,97,110] (.inl rfl) rfl rfl rfl rfl rfl (by decide) (by decide) (λ_=>.inl rfl) rfl rfl rfl λw2 g2 hw2 h2=>?_;replace hv:=hv.later hw2;replace hU:=hU.step hw2;clear hw2;refine l_move (.int .u8 (t.toNat:Int)) rfl rfl rfl rfl rfl ?_;refine l_sliceB [t] (.inl rfl) rfl rfl rfl rfl rfl (by decide) (by decide) ?_;have hal:=(Up.refl w2).alloc (.cells (By [t]).toArray 5);have h3:SB (w2.alloc (.cells (By [t]).toArray 5)) (.slice (some ⟨w2.heap.size,0,none⟩) 1 1) [t]:=SB.all (Blk.new w2 5 _) rfl (by decide);replace h2:=h2.later hal;replace hv:=hv.later hal;replace hU:=hU.step hal;clear hal;generalize w2.alloc (.cells (By [t]).toArray 5)=w3 at *;generalize w2.heap.size=g3 at *;obtain⟨A2,c2,e2,s2⟩:=h2.sl;obtain⟨A3,c3,e3,s3⟩:=h3.sl
 injection e2 with x1 x2 x3
 injection e3 with y1 y2 y3
 subst x1 x3 y1 y3;refine l_appG (xs:=[119,105,116,97,110]) (l:=[t]) rfl rfl rfl rfl rfl rfl s2 s3 (by decide) (Nat.zero_lt_one) (show 5<5+1 by omega) (show 5+1<=140737488355328 by omega) λw4 v4 hw4 h4=>?_;replace hv:=hv.later hw4;replace hU:=hU.step hw4;refine l_move v rfl rfl rfl rfl rfl ?_;obtain⟨L,hL⟩:∃L,L=[119,105,116,97,110]++[t]:=⟨_,rfl⟩
 have hm:L++be8 b.length++b=msg t b:=by rw [hL,msg_app]
 have hlen:L.length=6:=by rw [hL];rfl
 rw [<-hL] at h4;clear hL;obtain⟨A4,c4,rfl,s4⟩:=h4.sl;obtain⟨A5,c5,rfl,s5⟩:=hv.sl;refine l_call #[.slice A4 L.length c4,.slice A5 b.length c5] rfl rfl rfl (λ_ _=>by go_simp) (bytes_any A4 A5 L b c4 c5 w4.heap.size w4 s4 s5 (aF _) (by omega)) rfl rfl ?_
 rintro e w5 ⟨g,rfl,ho,hb5⟩
 rw [hm] at ho ⊢;have h6:w5.ownsRow w.heap.size 5 1 (.slice (some ⟨g,0,none⟩) (msg t b).length (msg t b).length) (msg t b).length (By (msg t b)):=⟨ho.1,ho.2.elim Or.inl λ⟨g,cap,cur,hv,hg,r⟩=>Or.inr ⟨g,cap,cur,hv,Nat.le_trans hU.size hg,r⟩⟩;refine⟨_,rfl,?_⟩;refine l_assign (.slice (some ⟨g,0,none⟩) (msg t b).length (msg t b).length) rfl rfl rfl rfl rfl ?_;refine l_nil ?_;refine hK _ _ ?_;clear hK K;refine c_ret λa ha=>?_;exact bodyPost_ret (results_tmp rfl _ _ _) ha.defers ⟨g,congrArg Ending.returned (ha.get 4 _ rfl),h6,hU.step hb5⟩
theorem mul64_any(x y:Nat)(hx:x<18446744073709551616)(hy:y<18446744073709551616)(w:World) :
  Calls Tryz.prog 163 #[.int .u64 x,.int .u64 y] w λe w'=>e = .returned (.tuple #[.int .u64 ((x*y/18446744073709551616:Nat):Int),.int .u64 ((x*y%18446744073709551616:Nat):Int)])/\w'=w:=by
 obtain⟨bd,bt,bw,hhi⟩:=Lib.mul64_hi x y hx hy;have ba:=qU (a:=x/4294967296) (b:=y/4294967296) (by omega) (by omega);have bb:=qU (a:=x/4294967296) (b:=y%4294967296) (by omega) (by omega);have bc:=qU (a:=x%4294967296) (b:=y/4294967296) (by omega) (by omega)
 have ba':x/4294967296*(y/4294967296)<18446744073709551616:=by omega
 have bb':x/4294967296*(y%4294967296)<18446744073709551616:=by omega
 have bc':x%4294967296*(y/4294967296)<18446744073709551616:=by omega
 have bh1:x/4294967296*(y/4294967296)+(x/4294967296*(y%4294967296)+x%4294967296*(y%4294967296)/4294967296)/4294967296<18446744073709551616:=by omega
 have bh:x/4294967296*(y/4294967296)+(x/4294967296*(y%4294967296)+x%4294967296*(y%4294967296)/4294967296)/4294967296+((x/4294967296*(y%4294967296)+x%4294967296*(y%4294967296)/4294967296)%4294967296+x%4294967296*(y/4294967296))/4294967296<18446744073709551616:=by omega
 go_enter Tryz.func163,Tryz.ntmps163
 go_wp2
 simp only [mask32 x hx,mask32 y hy,div32,mulN,addN,wrapN _ bd,wrapN _ bb',wrapN _ bt,mask32 _ bt,wrapN _ bc',wrapN _ bw,wrapN _ ba',wrapN _ bh1,wrapN _ bh,wrapM (x*y)];rw [hhi]
 go_ret2
 exact⟨rfl,rfl⟩
theorem add64_run(x y c:Nat)(hc:c<=1)(w:World):(callFunc 162 #[.int .u64 x,.int .u64 y,.int .u64 c]).run Tryz.prog w =
  .ok (.value (.tuple #[.int .u64 (((x+y+c)%18446744073709551616:Nat):Int),.int .u64 (((x+y+c)/18446744073709551616:Nat):Int)])) w:=by
 rw [run_callFunc_extern Tryz.func162 (by kernel_rfl) (by kernel_rfl) (by kernel_rfl) (e:=add64Entry) (by kernel_rfl),run_add64 x y c (by omega) (by omega) (by omega) (by omega)];simp only [Result.andThen]
 congr 5<;>omega
theorem add64_int(x y c:Int)(hx:0<=x)(hy:0<=y)(hc0:0<=c)(hc:c<=1)(w:World):(callFunc 162 #[.int .u64 x,.int .u64 y,.int .u64 c]).run Tryz.prog w =
  .ok (.value (.tuple #[.int .u64 ((x+y+c)%18446744073709551616),.int .u64 ((x+y+c)/18446744073709551616)])) w:=by
 obtain⟨x,rfl⟩:=mD hx;obtain⟨y,rfl⟩:=mD hy;obtain⟨c,rfl⟩:=mD hc0;refine(add64_run x y c (by omega) w).trans ?_
 congr 5<;>omega
theorem add64_int0(x y:Int)(hx:0<=x)(hy:0<=y)(w:World):(callFunc 162 #[.int .u64 x,.int .u64 y,.int .u64 0]).run Tryz.prog w =
  .ok (.value (.tuple #[.int .u64 ((x+y)%18446744073709551616),.int .u64 ((x+y)/18446744073709551616)])) w:=by
 simpa using add64_int x y 0 hx hy (Int.le_refl 0) (by decide) w
theorem sub64_run(x y b:Nat)(hb:b<=1)(w:World):(callFunc 164 #[.int .u64 x,.int .u64 y,.int .u64 b]).run Tryz.prog w =
  .ok (.value (.tuple #[.int .u64 (((x+18446744073709551616-y-b)%18446744073709551616:Nat):Int),.int .u64 ((if x<y+b then 1 else 0:Nat):Int)])) w:=by
 rw [run_callFunc_extern Tryz.func164 (by kernel_rfl) (by kernel_rfl) (by kernel_rfl) (e:=subEntry) (by kernel_rfl),run_sub x y b hb]
 rfl
end Go.Proofs.YtlhlkofpjhpaoaaGreatDoor
namespace Go.Proofs.YtlhlkofpjhpaoaaGreatDoor
open Go.RowKit Go.IntWalk Nums
theorem size_w4(cs:Array Value)(h:cs.size=4):(Tryz.prog.info? 143).map (·.size)=some cs.size:=by
 rw [h]
 kernel_rfl
theorem size_sc(cs:Array Value)(h:cs.size=4):(Tryz.prog.info? 145).map (·.size)=some cs.size:=by
 rw [h]
 kernel_rfl
def z4:Array Value:=(Us [0,0,0,0]).toArray
theorem len_u4{l:List Nat}(h:l.length=4):(Us l).toArray.size=4:=by rw [aT,Us_len,h]
theorem wsum_f{A B:Nat}(hA:A<115792089237316195423570985008687907853269984665640564039457584007913129639936)(hB:B<115792089237316195423570985008687907853269984665640564039457584007913129639936)(w:World) :
  Calls Tryz.prog 130 #[.agg (Us (ws A)).toArray,.agg (Us (ws B)).toArray] w λe w'=>e = .returned (.agg (Us (ws ((A+B)%115792089237316195423570985008687907853269984665640564039457584007913129639936))).toArray)/\Below w.heap.size w w':=by
 rw [<-wM hA hB];have ha:=λk=>kC A (k:=k);have hb:=λk=>kC B (k:=k);have la:=j7 A;have lb:=j7 B;have hc:=sup_le ha hb;clear hA hB;generalize ws A=a at *;generalize ws B=b at *
 go_enter Tryz.func130,Tryz.ntmps130
 go_wp2
 go_loopw [7,5] (λi u wr=>∃k:Nat,k<=4/\i = .int .i64 k/\u = .int .u64 (sup a b k:Nat)/\Blk wr w.heap.size 143 (Us (mxl (swd a b) a k)).toArray/\Blk wr (w.heap.size+1) 143 (Us b).toArray/\Blk wr (w.heap.size+1+1) 143 z4/\Below w.heap.size w wr) (λi _ _=>4-(intOf i).toNat)
 case atStart =>
  refine⟨0,by omega,rfl,rfl,?_,blk3_1 w _ _ _ _,blk3_2 w _ _ _ _,(((Below.refl _ _).alloc (aF _) _).alloc (by simp) _).alloc (by simp;omega) _⟩;rw [jH];exact blk3_0 w _ _ _ _
 case round =>
  obtain⟨k,hk,rfl,rfl,h0,h1,h2,hbel⟩:=hrel
  by_cases hlt:k<4
  ·have hN:=gX (swd a b) a (k:=k)
   have hU:sup a b (k+1)=(a[k]! + b[k]! + sup a b k)/18446744073709551616:=rfl;have hS:swd a b k=(a[k]! + b[k]! + sup a b k)%18446744073709551616:=rfl;have hg:=oL (swd a b) a (k:=k) (by omega);have c0:=(h0.drew.cell k).trans (Us_at (by rw [fD];omega));rw [hg] at c0;have c1:=(h1.drew.cell k).trans (Us_at (by omega));have b0:=ha k hlt;have b1:=hb k hlt;have b2:=hc k (by omega);have hf:=h0.drew.free k;rw [hS] at hN;generalize a[k]! = u at *;generalize b[k]! = v at *;generalize sup a b k=c at *;have hA:=add64_run u v c b2
   have q2:(0:Int)<=(k:Int):=by omega
   have HK:=c9 (eO h0 (eO h1 (eO h2 (eO hbel (eO hN hU)))));clear h0 h1 h2 hbel hN hg hU hS ha hb hc;generalize (u+v+c)%18446744073709551616=s at *;generalize (u+v+c)/18446744073709551616=t at *
   go_wp2
   go_region_with (simp only [hA])
   all_goals (
    go_wp2
    go_roundw
    case rel =>
     obtain⟨h0,h1,h2,hbel,hN,hU⟩:=HK.out;have h4:=h0.set k (.int .u64 ((s:Nat):Int));rw [Us_set,hN] at h4;exact⟨k+1,by omega,by go_num,by rw [hU],h4,h1.far (by simp) _,h2.far (by simp;omega) _,(hbel.setCell (by simp) _).drew⟩
    case measure=>simp [intOf];omega)
  ·obtain rfl:k=4:=by omega
   have hz:(Us (mxl (swd a b) a 4)).toArray.size=4:=len_u4 (by rw [fD,la])
   go_wp2_with (first
    | (refine wpList_load_row rfl 143 _ rfl w.heap.size rfl 143 (Us (mxl (swd a b) a 4)).toArray (0,0) _ h0 Tryz.underlying143 rfl (size_w4 _ hz) ?_)
    | (refine wpList_store_row rfl 143 _ _ rfl (w.heap.size+1+1) rfl (Us (mxl (swd a b) a 4)).toArray rfl 143 _ h2 (size_w4 _ hz) (by rw [hz];rfl) (Us_one _) ?_))
   refine bodyPost_ret (results_cell_row rfl _ _ (w.heap.size+1+1) 143 (Us (mxl (swd a b) a 4)).toArray (0,0) _ rfl (h2.row _) Tryz.underlying143 rfl (size_w4 _ hz)) rfl ⟨rfl,?_⟩;exact below_setRow hbel (by omega) _
theorem own_wsum:Own 130:=λ_ _=>by go_simp
theorem ws_LL:ws LL=[6346243789798364141,1503914060200516822,0,1152921504606846976]:=by decide
theorem cell4(a b c d:Nat):(Us [a,b,c,d]).toArray = #[.int .u64 (a:Int),.int .u64 (b:Int),.int .u64 (c:Int),.int .u64 (d:Int)]:=rfl
theorem mask60(a:Nat)(ha:a<18446744073709551616):bits .and .u64 (a:Int) 1152921504606846975=((a%1152921504606846976:Nat):Int):=by
 have h:=u64_and_nat a 1152921504606846975 ha (by omega);have e:a &&& 1152921504606846975=a%1152921504606846976:=Nat.and_two_pow_sub_one_eq_mod a 60;rw [e] at h;exact h
theorem red_f{v0 v1 v2 v3 u:Nat}(h0:v0<18446744073709551616)(h1:v1<18446744073709551616)(h2:v2<18446744073709551616)(h3:v3<18446744073709551616)(hu:u<1073741824)(w:World) :
  Calls Tryz.prog 131 #[.agg (Us [v0,v1,v2,v3,u]).toArray] w λe w'=>e = .returned (.agg (Us (ws ((v4 v0 v1 v2 v3+115792089237316195423570985008687907853269984665640564039457584007913129639936*u)%LL))).toArray)/\Below w.heap.size w w':=by
 obtain⟨t,ht⟩:∃t,t=u*16+v3/1152921504606846976:=⟨_,rfl⟩
 have htb:t<34359738368:=by omega
 have qt:bits .or .u64 ((u:Int)*16) ((v3:Int)/1152921504606846976)=(t:Int):=by
  have e:=orW 4 (u*16) (v3/1152921504606846976) (by omega) (by omega) (by omega) (by omega);rw [ht,<-e]
  rfl
 have HM0:=λw1=>c9 (mul64_any t 6346243789798364141 (by omega) (by omega) w1);have HM1:=λw1=>c9 (mul64_any t 1503914060200516822 (by omega) (by omega) w1);obtain⟨V,hV⟩:∃V,V=v4 v0 v1 v2 v3+115792089237316195423570985008687907853269984665640564039457584007913129639936*u:=⟨_,rfl⟩;rw [<-hV]
 have hV2:V=v4 v0 v1 v2 (v3%1152921504606846976)+7237005577332262213973186563042994240829374041602535252466099000494570602496*t:=by
  rw [hV,ht]
  unfold v4
  omega
 have q3:=mask60 v3 h3
 have hv3:v3%1152921504606846976<1152921504606846976:=by omega
 obtain⟨m0,hm0⟩:∃m,m=t*6346243789798364141:=⟨_,rfl⟩;obtain⟨m1,hm1⟩:∃m,m=t*1503914060200516822:=⟨_,rfl⟩;rw [<-hm0] at HM0;rw [<-hm1] at HM1;obtain⟨p1,hp1⟩:∃p,p=m1%18446744073709551616+m0/18446744073709551616:=⟨_,rfl⟩
 have hA:∀w1,(callFunc 162 #[.int .u64 ((m1%18446744073709551616:Nat):Int),.int .u64 ((m0/18446744073709551616:Nat):Int),.int .u64 0]).run Tryz.prog w1 = .ok (.value (.tuple #[.int .u64 ((p1%18446744073709551616:Nat):Int),.int .u64 ((p1/18446744073709551616:Nat):Int)])) w1:=by
  rw [hp1];exact λw1=>add64_run (m1%18446744073709551616) (m0/18446744073709551616) 0 (by omega) w1
 have qd:IntKind.u64.wrap (((m1/18446744073709551616:Nat):Int)+((p1/18446744073709551616:Nat):Int))=((m1/18446744073709551616+p1/18446744073709551616:Nat):Int):=by
  rw [a8]
  omega
 obtain⟨r0,l0,hr0,hl0,H0⟩:∃r0 l0:Nat,r0=(v0+18446744073709551616-m0%18446744073709551616-0)%18446744073709551616/\l0=(if v0<m0%18446744073709551616+0 then 1 else 0) /\
   ∀w1,(callFunc 164 #[.int .u64 (v0:Int),.int .u64 ((m0%18446744073709551616:Nat):Int),.int .u64 0]).run Tryz.prog w1 = .ok (.value (.tuple #[.int .u64 (r0:Int),.int .u64 (l0:Int)])) w1 :=
  ⟨_,_,rfl,rfl,λw1=>sub64_run v0 (m0%18446744073709551616) 0 (by omega) w1⟩
 have b0:l0<=1:=by rw [hl0];split<;>omega
 obtain⟨r1,l1,hr1,hl1,H1⟩:∃r1 l1:Nat,r1=(v1+18446744073709551616-p1%18446744073709551616-l0)%18446744073709551616/\l1=(if v1<p1%18446744073709551616+l0 then 1 else 0) /\
   ∀w1,(callFunc 164 #[.int .u64 (v1:Int),.int .u64 ((p1%18446744073709551616:Nat):Int),.int .u64 (l0:Int)]).run Tryz.prog w1 = .ok (.value (.tuple #[.int .u64 (r1:Int),.int .u64 (l1:Int)])) w1 :=
  ⟨_,_,rfl,rfl,λw1=>sub64_run v1 (p1%18446744073709551616) l0 b0 w1⟩
 have b1:l1<=1:=by rw [hl1];split<;>omega
 obtain⟨r2,l2,hr2,hl2,H2⟩:∃r2 l2:Nat,r2=(v2+18446744073709551616-(m1/18446744073709551616+p1/18446744073709551616)-l1)%18446744073709551616/\l2=(if v2<m1/18446744073709551616+p1/18446744073709551616+l1 then 1 else 0) /\
   ∀w1,(callFunc 164 #[.int .u64 (v2:Int),.int .u64 ((m1/18446744073709551616+p1/18446744073709551616:Nat):Int),.int .u64 (l1:Int)]).run Tryz.prog w1 = .ok (.value (.tuple #[.int .u64 (r2:Int),.int .u64 (l2:Int)])) w1 :=
  ⟨_,_,rfl,rfl,λw1=>sub64_run v2 (m1/18446744073709551616+p1/18446744073709551616) l1 b1 w1⟩
 have b2:l2<=1:=by rw [hl2];split<;>omega
 obtain⟨r3,l3,hr3,hl3,H3⟩:∃r3 l3:Nat,r3=(v3%1152921504606846976+18446744073709551616-0-l2)%18446744073709551616/\l3=(if v3%1152921504606846976<0+l2 then 1 else 0) /\
   ∀w1,(callFunc 164 #[.int .u64 ((v3%1152921504606846976:Nat):Int),.int .u64 0,.int .u64 (l2:Int)]).run Tryz.prog w1 = .ok (.value (.tuple #[.int .u64 (r3:Int),.int .u64 (l3:Int)])) w1 :=
  ⟨_,_,rfl,rfl,λw1=>sub64_run (v3%1152921504606846976) 0 l2 b2 w1⟩
 obtain⟨e0,e1,b3,_,_,_,c0,c1,c2,c3⟩:=wO (V:=V) h0 h1 h2 hv3 htb hm0 hm1 hp1 hl0 hr0 hl1 hr1 hl2 hr2 hl3 hr3 hV2
 have hR:v4 r0 r1 r2 r3<115792089237316195423570985008687907853269984665640564039457584007913129639936:=by unfold v4;omega
 have HW:=λw1=>wsum_f hR (B:=LL) (by rw [oA];omega) w1;rw [tT c0 c1 c2 c3,ws_LL,cell4,cell4] at HW;have hwR:=tT c0 c1 c2 c3;clear hm0 hm1 hp1 hl0 hr0 hl1 hr1 hl2 hr2 hl3 hr3 hV2 hV ht htb;generalize hmh0:m0/18446744073709551616=mh0 at *;generalize hml0:m0%18446744073709551616=ml0 at *;generalize hmh1:m1/18446744073709551616=mh1 at *;generalize hml1:m1%18446744073709551616=ml1 at *;generalize hph1:p1/18446744073709551616=ph1 at *;generalize hpl1:p1%18446744073709551616=pl1 at *;generalize mh1+ph1=d at *;generalize v3%1152921504606846976=v3' at *;clear hmh0 hml0 hmh1 hml1 hph1 hpl1;have e0':(Us [v0,v1,v2,v3,u]).toArray = #[.int .u64 (v0:Int),.int .u64 (v1:Int),.int .u64 (v2:Int),.int .u64 (v3:Int),.int .u64 (u:Int)]:=rfl;rw [e0'];clear e0'
 rcases(show l3=0\/l3=1 by omega) with rfl|rfl
 ·have hF:=e0 rfl
  rw [<-hF,hwR,cell4];have HK:=c9 (eO hF hR);clear e0 e1 HW hF hR hwR
  go_enter Tryz.func131,Tryz.ntmps131
  go_wp2_with (fail)
  refine(HM0 _).out.mono ?_
  rintro e w1 ⟨rfl,rfl⟩
  go_wp2_with (fail)
  refine(HM1 _).out.mono ?_
  rintro e w1 ⟨rfl,rfl⟩
  go_wp2_with (fail)
  refine bodyPost_ret (results_cell_row rfl _ _ (w.heap.size+1) 145 _ (0,0) _ rfl (blk3_1 w _ _ _ _) Tryz.underlying145 rfl (size_sc _ rfl)) rfl ⟨rfl,?_⟩;exact(((Below.refl _ _).alloc (aF _) _).alloc (by simp) _).alloc (by simp;omega) _
 ·have hF:=e1 rfl
  rw [hF] at HW;rw [<-hF];have hn:V%LL<115792089237316195423570985008687907853269984665640564039457584007913129639936:=jS (cO _ (by decide)) (by decide);rw [hF];obtain⟨x0,x1,x2,x3,_,hx,_⟩:=nK hn;rw [hx,cell4] at HW ⊢;have HW:=λw1=>c9 (HW w1);clear e0 e1 hF hR hwR hx hn
  go_enter Tryz.func131,Tryz.ntmps131
  go_wp2_with (fail)
  refine(HM0 _).out.mono ?_
  rintro e w1 ⟨rfl,rfl⟩
  go_wp2_with (fail)
  refine(HM1 _).out.mono ?_
  rintro e w1 ⟨rfl,rfl⟩
  go_wp2_with (fail)
  refine(HW _).out.mono ?_
  rintro e w1 ⟨rfl,hw1⟩
  have k1:=(blk3_1 w 145 (Us [0,0,0,0]).toArray (.cells (Us [v0,v1,v2,v3,u]).toArray 191) (.cells (Us [r0,r1,r2,r3]).toArray 143)).later hw1;have k2:=(blk3_2 w 143 (Us [r0,r1,r2,r3]).toArray (.cells (Us [v0,v1,v2,v3,u]).toArray 191) (.cells (Us [0,0,0,0]).toArray 145)).later hw1;have hbe:=below_up ((((Below.refl w.heap.size w).alloc (aF _) _).alloc (by simp) _).alloc (by simp;omega) _) hw1;have k1':=k1.rowFar (g':=w.heap.size+1+1) (by omega) (Us [x0,x1,x2,x3]).toArray;have k2':=k2.row (Us [x0,x1,x2,x3]).toArray;have hbe':=below_setRow hbe (g:=w.heap.size+1+1) (cs:=(Us [x0,x1,x2,x3]).toArray) (by omega);clear hw1
  go_wp2_with (first
   | (refine wpList_store_row rfl 143 _ _ rfl (w.heap.size+1+1) rfl (Us [x0,x1,x2,x3]).toArray rfl 143 _ k2 (size_w4 _ rfl) rfl (Us_one _) ?_)
   | (refine wpList_load_row rfl 143 _ rfl (w.heap.size+1+1) rfl 143 #[.int .u64 (x0:Int),.int .u64 (x1:Int),.int .u64 (x2:Int),.int .u64 (x3:Int)] (0,0) _ k2' Tryz.underlying143 rfl (size_w4 _ rfl) ?_)
   | (refine wpList_store_row rfl 145 _ _ rfl (w.heap.size+1) rfl (Us [x0,x1,x2,x3]).toArray rfl 145 _ k1' (size_sc _ rfl) rfl (Us_one _) ?_))
  refine bodyPost_ret (results_cell_row rfl _ _ (w.heap.size+1) 145 (Us [x0,x1,x2,x3]).toArray (0,0) _ rfl (k1'.row _) Tryz.underlying145 rfl (size_sc _ rfl)) rfl ⟨rfl,?_⟩;exact below_setRow hbe' (by omega) _
end Go.Proofs.YtlhlkofpjhpaoaaGreatDoor
namespace Nums
def upw(a:List Nat):Nat->Nat
  | 0=>0
  | k+1=>a[k]! / 4294967296
def ful(a b:List Nat)(h:Nat):Nat->Nat
  | 0=>0
  | k+1=>(b[k]! * h+ful a b h k+(a[k]! % 4294967296*4294967296+upw a k))/18446744073709551616
def nxw(a b:List Nat)(h k:Nat):Nat:=(b[k]! * h+ful a b h k+(a[k]! % 4294967296*4294967296+upw a k))%18446744073709551616
theorem tU{a:List Nat}(ha:∀k,k<4->a[k]! < 18446744073709551616):∀k,k<=4->upw a k<4294967296
 | 0,_=>by
  show 0<4294967296
  decide
 | k+1,hk=>by
  have:=ha k (by omega)
  show a[k]! / 4294967296<4294967296
  omega
theorem wH{b h:Nat}(hb:b<18446744073709551616)(hh:h<4294967296):b*h<=18446744073709551615*4294967295:=iW (by omega) (by omega)
theorem uW{a b:List Nat}{h:Nat}(ha:∀k,k<4->a[k]! < 18446744073709551616)(hb:∀k,k<4->b[k]! < 18446744073709551616)(hh:h<4294967296):∀k,k<=4->ful a b h k<8589934592
 | 0,_=>by
  show 0<8589934592
  decide
 | k+1,hk=>by
  have h0:=uW ha hb hh k (by omega);have h1:=tU ha k (by omega);have h2:=ha k (by omega);have h3:=wH (hb k (by omega)) hh
  show(b[k]! * h+ful a b h k+(a[k]! % 4294967296*4294967296+upw a k))/18446744073709551616<8589934592
  omega
theorem xX(f:Nat->Nat)(a0 a1 a2 a3 a4:Nat):mxl f [a0,a1,a2,a3,a4] 4=[f 0,f 1,f 2,f 3,a4]:=rfl
theorem vU{A B h:Nat}(hA:A<115792089237316195423570985008687907853269984665640564039457584007913129639936)(hB:B<115792089237316195423570985008687907853269984665640564039457584007913129639936) :
  v4 (nxw (ws A) (ws B) h 0) (nxw (ws A) (ws B) h 1) (nxw (ws A) (ws B) h 2) (nxw (ws A) (ws B) h 3)+115792089237316195423570985008687907853269984665640564039457584007913129639936*(ful (ws A) (ws B) h 4+upw (ws A) 4)=4294967296*A+B*h:=by
 obtain⟨a0,a1,a2,a3,eA,wA,p0,p1,p2,p3⟩:=nK hA;obtain⟨b0,b1,b2,b3,eB,wB,q0,q1,q2,q3⟩:=nK hB;rw [wA,wB];have u0:upw [a0,a1,a2,a3] 0=0:=rfl;have u1:upw [a0,a1,a2,a3] 1=a0/4294967296:=rfl;have u2:upw [a0,a1,a2,a3] 2=a1/4294967296:=rfl;have u3:upw [a0,a1,a2,a3] 3=a2/4294967296:=rfl;have u4:upw [a0,a1,a2,a3] 4=a3/4294967296:=rfl;have f0:ful [a0,a1,a2,a3] [b0,b1,b2,b3] h 0=0:=rfl;have f1:ful [a0,a1,a2,a3] [b0,b1,b2,b3] h 1=(b0*h+ful [a0,a1,a2,a3] [b0,b1,b2,b3] h 0+(a0%4294967296*4294967296+upw [a0,a1,a2,a3] 0))/18446744073709551616:=rfl;have f2:ful [a0,a1,a2,a3] [b0,b1,b2,b3] h 2=(b1*h+ful [a0,a1,a2,a3] [b0,b1,b2,b3] h 1+(a1%4294967296*4294967296+upw [a0,a1,a2,a3] 1))/18446744073709551616:=rfl;have f3:ful [a0,a1,a2,a3] [b0,b1,b2,b3] h 3=(b2*h+ful [a0,a1,a2,a3] [b0,b1,b2,b3] h 2+(a2%4294967296*4294967296+upw [a0,a1,a2,a3] 2))/18446744073709551616:=rfl;have f4:ful [a0,a1,a2,a3] [b0,b1,b2,b3] h 4=(b3*h+ful [a0,a1,a2,a3] [b0,b1,b2,b3] h 3+(a3%4294967296*4294967296+upw [a0,a1,a2,a3] 3))/18446744073709551616:=rfl;have n0:nxw [a0,a1,a2,a3] [b0,b1,b2,b3] h 0=(b0*h+ful [a0,a1,a2,a3] [b0,b1,b2,b3] h 0+(a0%4294967296*4294967296+upw [a0,a1,a2,a3] 0))%18446744073709551616:=rfl;have n1:nxw [a0,a1,a2,a3] [b0,b1,b2,b3] h 1=(b1*h+ful [a0,a1,a2,a3] [b0,b1,b2,b3] h 1+(a1%4294967296*4294967296+upw [a0,a1,a2,a3] 1))%18446744073709551616:=rfl;have n2:nxw [a0,a1,a2,a3] [b0,b1,b2,b3] h 2=(b2*h+ful [a0,a1,a2,a3] [b0,b1,b2,b3] h 2+(a2%4294967296*4294967296+upw [a0,a1,a2,a3] 2))%18446744073709551616:=rfl;have n3:nxw [a0,a1,a2,a3] [b0,b1,b2,b3] h 3=(b3*h+ful [a0,a1,a2,a3] [b0,b1,b2,b3] h 3+(a3%4294967296*4294967296+upw [a0,a1,a2,a3] 3))%18446744073709551616:=rfl
 have eBh:B*h=b0*h+18446744073709551616*(b1*h)+340282366920938463463374607431768211456*(b2*h)+6277101735386680763835789423207666416102355444464034512896*(b3*h):=by
  rw [eB]
  unfold v4
  grind only
 rw [eBh,eA];generalize nxw [a0,a1,a2,a3] [b0,b1,b2,b3] h 0=x0 at *;generalize nxw [a0,a1,a2,a3] [b0,b1,b2,b3] h 1=x1 at *;generalize nxw [a0,a1,a2,a3] [b0,b1,b2,b3] h 2=x2 at *;generalize nxw [a0,a1,a2,a3] [b0,b1,b2,b3] h 3=x3 at *;generalize ful [a0,a1,a2,a3] [b0,b1,b2,b3] h 0=c0 at *;generalize ful [a0,a1,a2,a3] [b0,b1,b2,b3] h 1=c1 at *;generalize ful [a0,a1,a2,a3] [b0,b1,b2,b3] h 2=c2 at *;generalize ful [a0,a1,a2,a3] [b0,b1,b2,b3] h 3=c3 at *;generalize ful [a0,a1,a2,a3] [b0,b1,b2,b3] h 4=c4 at *;generalize upw [a0,a1,a2,a3] 0=y0 at *;generalize upw [a0,a1,a2,a3] 1=y1 at *;generalize upw [a0,a1,a2,a3] 2=y2 at *;generalize upw [a0,a1,a2,a3] 3=y3 at *;generalize upw [a0,a1,a2,a3] 4=y4 at *;generalize b0*h=z0 at *;generalize b1*h=z1 at *;generalize b2*h=z2 at *;generalize b3*h=z3 at *;clear eBh eA eB wA wB hA hB q0 q1 q2 q3
 unfold v4
 omega
end Nums
namespace Go.Proofs.YtlhlkofpjhpaoaaGreatDoor
open Go.RowKit Go.IntWalk Nums
theorem size_w5(cs:Array Value)(h:cs.size=5):(Tryz.prog.info? 191).map (·.size)=some cs.size:=by
 rw [h]
 kernel_rfl
structure NS(w wr:World)(a b l:List Nat):Prop where
  ba:Blk wr w.heap.size 145 (Us a).toArray
  bb:Blk wr (w.heap.size+1) 145 (Us b).toArray
  bo:Blk wr (w.heap.size+1+1) 145 z4
  bv:Blk wr (w.heap.size+1+1+1) 191 (Us l).toArray
  be:Below w.heap.size w wr
theorem NS.set{w wr:World}{a b l:List Nat}(h:NS w wr a b l)(k x:Nat):NS w (wr.setCell ⟨w.heap.size+1+1+1,k,none⟩ (.int .u64 (x:Int))) a b (l.set k x) where
 ba:=h.ba.far (by show w.heap.size≠w.heap.size+1+1+1;omega) _
 bb:=h.bb.far (by show w.heap.size+1≠w.heap.size+1+1+1;omega) _
 bo:=h.bo.far (by show w.heap.size+1+1≠w.heap.size+1+1+1;omega) _
 bv:=by
  have h4:=h.bv.set k (.int .u64 (x:Int))
  rwa [Us_set] at h4
 be:=h.be.setCell (by show w.heap.size<=w.heap.size+1+1+1;omega) _
theorem next_f{A B h:Nat}(hA:A<LL)(hB:B<LL)(hh:h<4294967296)(w:World) :
  Calls Tryz.prog 132 #[.agg (Us (ws A)).toArray,.agg (Us (ws B)).toArray,.int .u64 (h:Int)] w λe w'=>e = .returned (.agg (Us (ws ((4294967296*A+B*h)%LL))).toArray)/\Below w.heap.size w w':=by
 have hA2:A<115792089237316195423570985008687907853269984665640564039457584007913129639936:=jS hA (by decide);have hB2:B<115792089237316195423570985008687907853269984665640564039457584007913129639936:=jS hB (by decide);have hE:=vU (h:=h) hA2 hB2;have ha:=λk=>kC A (k:=k);have hb:=λk=>kC B (k:=k);have la:=j7 A;have lb:=j7 B;have hf:=uW ha hb hh;have hu:=tU ha;have hn:∀k,nxw (ws A) (ws B) h k<18446744073709551616:=λk=>cO _ (by decide);have hBh:B*h<=LL*4294967296:=iW (Nat.le_of_lt hB) (Nat.le_of_lt hh)
 have hR:=λw1=>red_f (hn 0) (hn 1) (hn 2) (hn 3) (u:=ful (ws A) (ws B) h 4+upw (ws A) 4) (by
  unfold v4 at hE
  rw [oA] at hA hB hBh;generalize B*h=z at *
  omega) w1
 rw [hE] at hR;generalize (4294967296*A+B*h)%LL=res at *;clear hE hBh hA2 hB2 hn hA hB;generalize ws A=a at *;generalize ws B=b at *;have hR:=c9 hR
 go_enter Tryz.func132,Tryz.ntmps132
 go_wp2
 go_loopw [14,8,9] (λi u8 u9 wr=>∃k:Nat,k<=4/\i = .int .i64 k/\u8 = .int .u64 (upw a k:Nat)/\u9 = .int .u64 (ful a b h k:Nat)/\NS w wr a b (mxl (nxw a b h) [0,0,0,0,0] k)) (λi _ _ _=>4-(intOf i).toNat)
 case atStart =>
  refine⟨0,by omega,rfl,rfl,rfl,?_,?_,?_,?_,?_⟩
  ·exact blk4_0 w _ _ _ _ _
  ·exact blk4_1 w _ _ _ _ _
  ·exact blk4_2 w _ _ _ _ _
  ·exact blk4_3 w _ _ _ _ _
  ·exact below4 w _ _ _ _
 case round =>
  obtain⟨k,hk,rfl,rfl,rfl,hS⟩:=hrel
  by_cases hlt:k<4
  ·have hN:=hS.set k (nxw a b h k)
   rw [gX] at hN;have hU:upw a (k+1)=a[k]! / 4294967296:=rfl;have hF:ful a b h (k+1)=(b[k]! * h+ful a b h k+(a[k]! % 4294967296*4294967296+upw a k))/18446744073709551616:=rfl;have hX:nxw a b h k=(b[k]! * h+ful a b h k+(a[k]! % 4294967296*4294967296+upw a k))%18446744073709551616:=rfl;have c0:=(hS.ba.cell k).trans (Us_at (by omega));have c1:=(hS.bb.cell k).trans (Us_at (by omega));have c2:=(hS.bv.cell k).trans (Us_at (by rw [fD];simp;omega));have c3:=hS.bv.free k;have b0:=ha k hlt;have b1:=hb k hlt;have b2:=hf k (by omega);have b3:=hu k (by omega);have b4:=wH b1 hh;have b5:=hf (k+1) (by omega);rw [hF] at b5;generalize (mxl (nxw a b h) [0,0,0,0,0] k)[k]! = old at *;generalize a[k]! = u at *;generalize b[k]! = v at *;generalize upw a k=y at *;generalize ful a b h k=c at *;generalize nxw a b h k=x at *;have HM:=λw1=>c9 (mul64_any v h b1 (by omega) w1);generalize v*h=z at *;have hA1:=λw1=>add64_run (z%18446744073709551616) c 0 (by omega) w1
   have q1:IntKind.u64.wrap (((z/18446744073709551616:Nat):Int)+(((z%18446744073709551616+c+0)/18446744073709551616:Nat):Int))=((z/18446744073709551616+(z%18446744073709551616+c+0)/18446744073709551616:Nat):Int):=by
    rw [a8]
    omega
   have q2:bits .or .u64 (IntKind.u64.wrap ((u:Int)*4294967296)) (y:Int)=((u%4294967296*4294967296+y:Nat):Int):=by
    have e1:IntKind.u64.wrap ((u:Int)*4294967296)=((u%4294967296*4294967296:Nat):Int):=by
     rw [a8]
     omega
    rw [e1];exact orW 32 _ _ (by omega) (by omega) (by omega) (by omega)
   have hA2:=λw1=>add64_run ((z%18446744073709551616+c+0)%18446744073709551616) (u%4294967296*4294967296+y) 0 (by omega) w1
   have q3:IntKind.u64.wrap (((z/18446744073709551616+(z%18446744073709551616+c+0)/18446744073709551616:Nat):Int)+((((z%18446744073709551616+c+0)%18446744073709551616+(u%4294967296*4294967296+y)+0)/18446744073709551616:Nat):Int))=(((z+c+(u%4294967296*4294967296+y))/18446744073709551616:Nat):Int):=by
    rw [a8]
    omega
   have e4:((z%18446744073709551616+c+0)%18446744073709551616+(u%4294967296*4294967296+y)+0)%18446744073709551616=x:=by omega
   have q5:(0:Int)<=(k:Int):=by omega
   have q6:(u:Int)/4294967296=((u/4294967296:Nat):Int):=div32 u;rw [e4] at hA2;have HK:=c9 (eO hN (eO hU hF));clear hN hU hF hX hS b4 b5 b2 b3 e4 b0 b1 hf hu ha hb;generalize (z+c+(u%4294967296*4294967296+y))/18446744073709551616=n9 at *;generalize ((z%18446744073709551616+c+0)%18446744073709551616+(u%4294967296*4294967296+y)+0)/18446744073709551616=m1 at *;generalize u%4294967296*4294967296+y=m2 at *;generalize z/18446744073709551616+(z%18446744073709551616+c+0)/18446744073709551616=m3 at *;generalize (z%18446744073709551616+c+0)%18446744073709551616=m4 at *;generalize (z%18446744073709551616+c+0)/18446744073709551616=m5 at *;generalize z%18446744073709551616=m6 at *;generalize z/18446744073709551616=m7 at *;generalize u/4294967296=m8 at *;replace hA1:∀w1,(callFunc 162 #[.int .u64 (m6:Int),.int .u64 (c:Int),.int .u64 0]).run Tryz.prog w1 = .ok (.value (.tuple #[.int .u64 (m4:Int),.int .u64 (m5:Int)])) w1:=hA1;replace hA2:∀w1,(callFunc 162 #[.int .u64 (m4:Int),.int .u64 (m2:Int),.int .u64 0]).run Tryz.prog w1 = .ok (.value (.tuple #[.int .u64 (x:Int),.int .u64 (m1:Int)])) w1:=hA2
   go_wp2_with (fail)
   refine(HM _).out.mono ?_
   rintro e w1 ⟨rfl,rfl⟩
   go_wp2
   go_roundw
   case rel =>
    obtain⟨hN,hU,hF⟩:=HK.out;exact⟨k+1,by omega,by go_num,by rw [hU],by rw [hF],hN⟩
   case measure=>simp [intOf];omega
  ·obtain rfl:k=4:=by omega
   have b2:=hf 4 (by omega);have b3:=hu 4 (by omega);have e5:mxl (nxw a b h) [0,0,0,0,0] 4=[nxw a b h 0,nxw a b h 1,nxw a b h 2,nxw a b h 3,0]:=xX _ _ _ _ _ _;rw [e5] at hS;have hN:=hS.set 4 (ful a b h 4+upw a 4);have c2:=(hS.bv.cell 4).trans (Us_at (by simp));have c3:=hS.bv.free 4
   have q1:IntKind.u64.wrap (((ful a b h 4:Nat):Int)+((upw a 4:Nat):Int))=((ful a b h 4+upw a 4:Nat):Int):=by
    rw [a8]
    omega
   have e6:[nxw a b h 0,nxw a b h 1,nxw a b h 2,nxw a b h 3,0].set 4 (ful a b h 4+upw a 4)=[nxw a b h 0,nxw a b h 1,nxw a b h 2,nxw a b h 3,ful a b h 4+upw a 4]:=rfl;rw [e6] at hN;clear e5 e6 hf hu ha hb b2 b3 hS;generalize ful a b h 4+upw a 4=s at *;generalize ful a b h 4=f4 at *;generalize upw a 4=u4 at *;have hbv:=hN.bv;generalize hl:(Us [nxw a b h 0,nxw a b h 1,nxw a b h 2,nxw a b h 3,s]).toArray=cs at *
   have hcs:cs.size=5:=by rw [<-hl];rfl
   have HN:=c9 hN;clear hN hl
   go_wp2_with (refine wpList_load_row rfl 191 _ rfl (w.heap.size+1+1+1) rfl 191 cs (0,0) _ hbv Tryz.underlying191 rfl (size_w5 _ hcs) ?_)
   refine(hR.out _).mono ?_
   rintro e w1 ⟨rfl,hw1⟩
   have hN:=HN.out;have ho:=hN.bo.later hw1;have hbe:=below_up hN.be hw1;have hz:=len_u4 (j7 res);clear hN HN hw1 hR
   go_wp2_with (refine wpList_store_row rfl 145 _ _ rfl (w.heap.size+1+1) rfl (Us (ws res)).toArray rfl 145 _ ho (size_sc _ hz) (by rw [hz];rfl) (Us_one _) ?_)
   refine bodyPost_ret (results_cell_row rfl _ _ (w.heap.size+1+1) 145 (Us (ws res)).toArray (0,0) _ rfl (ho.row _) Tryz.underlying145 rfl (size_sc _ hz)) rfl ⟨rfl,?_⟩;exact below_setRow hbe (by omega) _
end Go.Proofs.YtlhlkofpjhpaoaaGreatDoor
namespace Nums
theorem zz{n:Nat}[NeZero n](d:Fin n):0*0*d+1=1:=by grind only
theorem xV(a:F) : -a * -a=a*a:=by grind only
def mQ(x:F):F:=if x.val%2=1 then -x else x
theorem n8(x:F):(mQ x).val%2=0:=by
 unfold mQ
 by_cases h:x.val%2=1
 ·rw [if_pos h,oK (by rintro rfl;exact absurd h (by decide)),h]
 ·rw [if_neg h];omega
theorem p9(x:F):mQ x*mQ x=x*x:=by
 unfold mQ
 by_cases h:x.val%2=1
 ·rw [if_pos h];grind only
 ·rw [if_neg h]
theorem q9{a b:F}(h:a*a=b*b)(hp:a.val%2=b.val%2):a=b:=by
 rcases sK c7 h with h1|h1
 ·exact h1
 ·by_cases h0:b=0
  ·rw [h1,h0];grind only
  ·have:=oK h0
   rw [<-h1] at this
   omega
theorem sF(y:F):y*y*dd+1≠0:=by
 intro h
 have hy:y≠0:=by
  rintro rfl
  have e:(0:F)*0*dd+1=1:=zz dd;rw [e] at h;exact lT c7 h.symm
 have h1:=gY c7 hy;refine good.d (im*fY y) ?_;have hi:=wJ;generalize fY y=z at *;generalize im=i at *;generalize dd=d at *
 have a:i*z*(i*z)=(i*i)*(z*z):=by grind only
 have b:d = -(1:F)*(z*z):=by
  have c:d*(y*z)*(y*z)=(y*y*d)*(z*z):=by grind only
  have e:y*y*d = -1:=by grind only
  rw [h1,e] at c
  grind only
 rw [a,hi,b]
def ww(y:F):F:=(y*y-1)*fY (y*y*dd+1)
theorem qJ(x y:F):Ed.On dd ⟨x,y⟩↔x*x=ww y:=by
 have h:=gY c7 (sF y)
 unfold ww
 show y*y-x*x=1+dd*x*x*y*y↔_
 have hv:=sF y;generalize hV:y*y*dd+1=v at *;generalize fY v=u at *;generalize dd=d at *
 constructor
 ·intro h1
  have a:y*y-1=x*x*v:=by rw [<-hV];grind only
  have b:x*x*v*u=x*x*(v*u):=by grind only
  rw [a,b,h]
  grind only
 ·intro h1
  have a:x*x*v=y*y-1:=by
   have b:(y*y-1)*u*v=(y*y-1)*(v*u):=by grind only
   rw [h1,b,h]
   grind only
  rw [<-hV] at a
  grind only
def nF(P:Ed.Pt p):Nat:=P.y.val+57896044618658097711785492504343953926634992332820282019728792003956564819968*(P.x.val%2)
def fB(P:Ed.Pt p):List UInt8:=bytes 32 (nF P)
theorem jI(P:Ed.Pt p):(fB P).length=32:=bW _ _
theorem uR:p<57896044618658097711785492504343953926634992332820282019728792003956564819968:=by decide
theorem k9(P:Ed.Pt p):le (fB P)=nF P:=by
 unfold fB
 rw [iM]
 apply aY
 have h:=P.y.isLt;have h2:=uR
 have h3:57896044618658097711785492504343953926634992332820282019728792003956564819968*2=256^32:=by decide
 unfold nF
 omega
theorem u7{P Q:Ed.Pt p}(h:nF P=nF Q):P.y=Q.y/\P.x.val%2=Q.x.val%2:=by
 unfold nF at h
 have h1:=P.y.isLt;have h2:=Q.y.isLt;have h3:=uR;exact⟨Fin.ext (by omega),by omega⟩
theorem nE{P Q:Ed.Pt p}(hP:Ed.On dd P)(hQ:Ed.On dd Q)(h:fB P=fB Q):P=Q:=by
 have h1:nF P=nF Q:=by rw [<-k9,<-k9,h]
 obtain⟨h2,h3⟩:=u7 h1;obtain⟨x,y⟩:=P;obtain⟨u,v⟩:=Q;simp only at h2 h3;subst h2;have a:=(qJ x y).mp hP;have b:=(qJ u y).mp hQ;rw [q9 (a.trans b.symm) h3]
end Nums
namespace Nums
theorem gR:∀a b:List UInt8,le (a++b)=le a+256^a.length*le b
 | [],b=>by show le b=0+1*le b;omega
 | x::a,b=>by
  show x.toNat+256*le (a++b)=x.toNat+256*le a+256^(a.length+1)*le b
  rw [gR a b,cN,Nat.mul_add,eN (256^a.length) 256,Nat.mul_assoc]
  omega
theorem n5:∀a:List UInt8,le a<256^a.length
 | []=>by decide
 | x::a=>by
  have h1:=n5 a;have h2:=x.toNat_lt
  show x.toNat+256*le a<256^(a.length+1)
  rw [cN]
  omega
section
variable{b:List UInt8}(hb:b.length=32)
include hb
theorem xT:b=b.take 31++[b[31]!]:=by
 conv=>lhs;rw [<-cW 31 b]
 rw [List.drop_eq_getElem_cons (by omega),List.drop_eq_nil_of_le (by omega),getElem!_pos b 31 (by omega)]
theorem le_top:le b=le (b.take 31)+452312848583266388373324160190187140051835877600158453279131187530910662656*(b[31]!).toNat:=by
 conv=>lhs;rw [xT hb]
 rw [gR,aU,hb]
 show _+256^31*((b[31]!).toNat+256*0)=_
 rw [show(256:Nat)^31=452312848583266388373324160190187140051835877600158453279131187530910662656 by decide]
 omega
theorem sQ:le (b.take 31)<452312848583266388373324160190187140051835877600158453279131187530910662656:=by
 have h:=n5 (b.take 31);rw [aU,hb,show(256:Nat)^min 31 32=452312848583266388373324160190187140051835877600158453279131187530910662656 by decide] at h;exact h
theorem wG(x:UInt8):le (b.set 31 x)=le (b.take 31)+452312848583266388373324160190187140051835877600158453279131187530910662656*x.toNat:=by
 have h:(b.set 31 x).length=32:=by rw [bQ,hb]
 rw [le_top h,List.take_set_of_le (by omega),getElem!_pos _ 31 (by omega),List.getElem_set_self]
theorem sI:(b[31]!).toNat<128↔le b<57896044618658097711785492504343953926634992332820282019728792003956564819968:=by
 have h1:=le_top hb;have h2:=sQ hb
 omega
end
theorem tF{P:Ed.Pt p}(h:P.x.val%2≠1):fB P=enc P.y:=by
 apply mO (by rw [jI,gM])
 rw [k9,mP]
 unfold nF
 have:P.x.val%2=0:=by omega
 rw [this]
 omega
theorem qM(y:F):((enc y)[31]!).toNat<128:=by
 rw [sI (gM y),mP];exact jS y.isLt uR
theorem u6{P:Ed.Pt p}(h:P.x.val%2=1):fB P=(enc P.y).set 31 (bK (((enc P.y)[31]!).toNat+128)):=by
 apply mO (by rw [jI,bQ,gM])
 have h1:=qM P.y;have h2:=le_top (gM P.y);rw [k9,wG (gM P.y),UInt8.toNat_ofNat_of_lt' (by show _<256;omega)];rw [mP] at h2
 unfold nF
 rw [h]
 omega
end Nums
namespace Go.Proofs.YtlhlkofpjhpaoaaGreatDoor
open Go.RowKit Go.IntWalk Nums
theorem ws_wd(n:Nat){k:Nat}(hk:k<4):(ws n)[k]! = wd n k:=by
 have h4:k=0\/k=1\/k=2\/k=3:=by omega
 rcases h4 with rfl|rfl|rfl|rfl
 ·show n%18446744073709551616=n/1%18446744073709551616
  rw [Nat.div_one]
 ·rfl
 ·rfl
 ·rfl
structure HS4(w wr:World)(a:List Nat)(b:List UInt8)(n:Nat):Prop where
  b0:Blk wr w.heap.size 145 (Us a).toArray
  b1:Blk wr (w.heap.size+1) 45 z32
  b2:Blk wr (w.heap.size+1+1) 45 (By (fb b n)).toArray
  be:Below w.heap.size w wr
theorem HS4.set{w wr:World}{a:List Nat}{b:List UInt8}{n:Nat}(h:HS4 w wr a b n):HS4 w (wr.setCell ⟨w.heap.size+1+1,n,none⟩ (.int .u8 ((b[n]!).toNat:Int))) a b (n+1) where
 b0:=h.b0.far (by show w.heap.size≠w.heap.size+1+1;omega) _
 b1:=h.b1.far (by show w.heap.size+1≠w.heap.size+1+1;omega) _
 b2:=by
  have h4:=h.b2.set n (.int .u8 ((b[n]!).toNat:Int));rw [By_set,fb_set] at h4;exact h4
 be:=h.be.setCell (by show w.heap.size<=w.heap.size+1+1;omega) _
theorem schash_f(n:Nat)(w:World) :
  Calls Tryz.prog 99 #[.agg (Us (ws n)).toArray] w λe w'=>e = .returned (.agg (By (Nums.bytes 32 n)).toArray)/\Below w.heap.size w w':=by
 have hbyte:∀m,m<32->((Nums.bytes 32 n)[m]!).toNat=(ws n)[m/8]! / 2^(m%8*8)%256:=λm hm=>by
  rw [bytes_get 32 n hm,ws_wd n (by omega),eN (m%8),wd_byte _ _ _ (by omega)]
  congr 3
  omega
 have hbl:(Nums.bytes 32 n).length=32:=bW _ _;have ha:=λk=>kC n (k:=k);have la:=j7 n;generalize Nums.bytes 32 n=b at *;generalize ws n=a at *
 go_enter Tryz.func99,Tryz.ntmps99
 go_wp2
 go_loopw [5] (λi wr=>∃k:Nat,k<=32/\i = .int .i64 k/\HS4 w wr a b k) (λi _=>32-(intOf i).toNat)
 case atStart =>
  refine⟨0,by omega,rfl,blk3_0 w _ _ _ _,blk3_1 w _ _ _ _,?_,(((Below.refl _ _).alloc (aF _) _).alloc (by simp) _).alloc (by simp;omega) _⟩;rw [fb_zero];exact blk3_2 w _ _ _ _
 case round =>
  obtain⟨m,hm,rfl,hS⟩:=hrel
  by_cases hlt:m<32
  ·have hN:=hS.set
   have c0:=(hS.b0.cell (m/8)).trans (Us_at (by omega));have hc:=(hS.b2.cell m).trans (By_get (by rw [fb_len];omega));have hf:=hS.b2.free m;have hb:=hbyte m hlt;have qd:(m:Int).tdiv 8=((m/8:Nat):Int):=rfl;have qm:(m:Int).tmod 8=((m%8:Nat):Int):=rfl
   have qt:IntKind.i64.wrap (((m%8:Nat):Int)*8)=((m%8*8:Nat):Int):=by rw [i64_left,wrap64_in _ (by omega)];omega
   have g1:((m/8:Nat):Int)<4:=by omega
   have g2:((m%8*8:Nat):Int)<=64:=by omega
   have g5:(0:Int)<=(m:Int):=by omega
   generalize a[m/8]! = W at *;generalize m/8=q at *;generalize hs:m%8*8=s at *
   have q4:IntKind.u8.wrap ((W:Int)/2^s)=((b[m]!).toNat:Int):=by
    have f1:((W:Int)/2^s)=((W/2^s:Nat):Int):=by simp
    rw [f1,IntKind.wrap_u8',hb]
    omega
   have HN:=c9 hN;clear hS hbyte hb hN hs ha;generalize (fb b m)[m]! = old at *;generalize (b[m]!).toNat=y at *;generalize m%8=r at *
   go_wp2
   go_roundw
   case rel=>exact⟨m+1,by omega,by go_num,HN.out⟩
   case measure=>simp [intOf];omega
  ·obtain rfl:m=32:=by omega
   obtain⟨_,b1,b2,be⟩:=hS;rw [fb_all hbl] at b2;have hz:=len_by hbl
   go_wp2_with (first
    | (refine wpList_load_row rfl 45 _ rfl (w.heap.size+1+1) rfl 45 (By b).toArray (0,0) _ b2 Tryz.underlying45 rfl (size_hash _ hz) ?_)
    | (refine wpList_store_row rfl 45 _ _ rfl (w.heap.size+1) rfl (By b).toArray rfl 45 _ b1 (size_hash _ hz) (by rw [hz];rfl) (By_one _) ?_))
   refine bodyPost_ret (results_cell_row rfl _ _ (w.heap.size+1) 45 (By b).toArray (0,0) _ rfl (b1.row _) Tryz.underlying45 rfl (size_hash _ hz)) rfl ⟨rfl,?_⟩;exact below_setRow be (by omega) _
end Go.Proofs.YtlhlkofpjhpaoaaGreatDoor
namespace Go.Proofs.YtlhlkofpjhpaoaaGreatDoor
open Go.RowKit Go.IntWalk
theorem own_wide:Own 102:=λ_ _=>by go_simp
theorem own_schash:Own 99:=λ_ _=>by go_simp
theorem own_scadd:Own 97:=λ_ _=>by go_simp
theorem own_scmul:Own 98:=λ_ _=>by go_simp
end Go.Proofs.YtlhlkofpjhpaoaaGreatDoor
namespace Nums
end Nums
namespace Nums
end Nums
namespace Go.Proofs.YtlhlkofpjhpaoaaGreatDoor
open Go.RowKit Go.IntWalk Nums
end Go.Proofs.YtlhlkofpjhpaoaaGreatDoor
namespace Nums
end Nums
namespace Go.Proofs.YtlhlkofpjhpaoaaGreatDoor
open Go.RowKit Go.IntWalk Nums
end Go.Proofs.YtlhlkofpjhpaoaaGreatDoor
namespace Nums
end Nums
namespace Go.Proofs.YtlhlkofpjhpaoaaGreatDoor
open Go.RowKit Go.IntWalk Nums
end Go.Proofs.YtlhlkofpjhpaoaaGreatDoor
namespace Nums
theorem le_take{l:List UInt8}{k:Nat}(h:k<l.length):le (l.take (k+1))=le (l.take k)+256^k*(l[k]!).toNat:=by
 rw [gA h,gR,aU,Nat.min_eq_left (by omega),getElem!_pos l k h]
 show _+_*(l[k].toNat+256*0)=_
 rw [Nat.mul_zero,eX]
theorem uV{b:List UInt8}(hb:b.length=32):decide (bytes 32 (le b%LL)=b)=decide (le b<LL):=by
 congr 1
 refine propext ⟨λh=>?_,λh=>?_⟩
 ·have h1:=congrArg le h
  rw [iM] at h1;have h2:le b%LL<LL:=cO _ (by decide);have h3:le b%LL%256^32=le b%LL:=aY (jS h2 (by decide))
  omega
 ·apply mO (by rw [bW,hb])
  rw [iM,aY h,aY (jS h (by decide))]
end Nums
