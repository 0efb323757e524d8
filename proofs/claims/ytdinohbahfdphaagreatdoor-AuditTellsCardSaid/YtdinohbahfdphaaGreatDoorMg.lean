import Derived.Test.YtdinohbahfdphaaGreatDoorMf
import Derived.Test.YtdinohbahfdphaaGreatDoorMe
import Derived.Test.YtdinohbahfdphaaGreatDoorMb
import Derived.Laws.StructEq
import Derived.Test.YtdinohbahfdphaaGreatDoorMc
import Derived.Test.YtdinohbahfdphaaGreatDoorMd
import Derived.Lib.BytesEntry
import Derived.Laws.Externs
open Go renaming World->yp
set_option linter.defProp false
open Go.Proofs.Tryz
set_option maxRecDepth 100000
set_option maxHeartbeats 4000000
open Array renaming getElem?_toList->c9
open Bool renaming and_eq_true->aN
open Go.Extern.BytealgCompare renaming compare->iN
open Go.Extern.Bytes renaming bytesOf->jU
open Go.Lib renaming compareBytes->cO
open Go.Result renaming andThen_ok->aC
open Go.Sem renaming run_bind->aG,run_pure->aI
open Go.Value renaming int->cG,bool->qR
open List renaming length_append->aA,replicate->aB,mem_singleton->aD,mem_cons->aH,getElem?_eq_getElem->aJ,mem_cons_self->aM,getElem?_eq_some_iff->aP,mem_of_getElem?->aR,append_assoc->aT,length_take->aV,size_toArray->aW,length_map->aX,mem_map->aZ,length_cons->a6,map_cons->bA,append_nil->bC,eq_nil_of_length_eq_zero->bE,take_of_length_le->bJ,mem_append->bK,length_replicate->bL,getElem?_append_right->bN,map_append->bX,take_append_drop->b6,getElem?_map->cE,pairwise_cons->cH,nil_append->cR,drop_of_length_le->cT,getElem?_append_left->cW,take_length->dA,map_map->dB,take_add_one->dO,map_set->dR,range->dV,drop_eq_getElem_cons->dZ,flatten_cons->eG,set_append_right->eX,map_congr_left->fN,nodup_cons->fV,sum_cons->iZ,getElem?_of_mem->jB,flatten_append->jT,perm_append_comm->kE,getElem?_cons_succ->kH,perm_middle->kN,length->lJ,Perm->lN,pairwise_append->lX,range_succ->pI,pairwise_map->sO,nodup_append->sP,eq_nil_or_concat->uX,concat_eq_append->uY
open List.Perm renaming swap->jF
open Nat renaming le_refl->aF,zero_le->aL,zero_add->aY,le_trans->bM,add_zero->cD,one_mul->fH,sub_self->fL,add_sub_cancel_left->fM,not_lt_zero->gH,eq_zero_or_pos->kM,mul_le_mul_left->lL,lt_succ_iff_lt_or_eq->tX,succ_pos->uT
open Option renaming map_eq_some_iff->n6
open Option.some renaming inj->bQ
open UInt8 renaming ofNat->bP,toNat_ofNat'->gK,lt_irrefl->iY,lt_iff_toNat_lt->nO
namespace Go.Proofs.Q
open Go.RowKit Go.IntWalk Nums
def grew_fit{l:zc}{us:yx}(hl:DirOk l)(hs:SmallD l)(hus:∀u∈us,u.Ok):∀g∈grewD l us,g.Fit:=λg hg=>by
 have ha:DirOk (cM l (us.map udH)):=hl.apply (us_ok hus);obtain⟨⟨e,he,hei⟩,h1,h2,h3⟩:=grew_mem hg;have hv:∀(i:Nat) (u:UV),g.more[i]?=some u->u.ver=((bO l g.id).length:Int)+(i:Int)+1/\u∈us/\u.ver<=64:=λi u hu=>by rw [h2] at hu;obtain⟨h4,_,h5⟩:=took_in g.id (aR hu);exact⟨took_ver g.id hu,h4,(signB_ver h5).2⟩
 refine⟨by rw [<-hei];exact ha.ids e he,λk hk=>?_,?_,λu hu=>?_,?_⟩
 .rw [h1] at hk;exact qC hl g.id k hk
 .rw [h1];have:=hs.keys g.id;omega
 .obtain⟨i,hi⟩:=jB hu;obtain⟨h4,h5,h6⟩:=hv i u hi;exact⟨hus u h5,by omega,h6⟩
 .rcases kM g.more.length with h0|h0
  .omega
  .obtain⟨h4,_,h6⟩:=hv (g.more.length-1) g.more[g.more.length-1] (aJ (by omega));omega
def grew_len(l:zc)(us:yx):(grewD l us).length<=l.length+us.length:=by have h1:(grewD l us).length<=(cM l (us.map udH)).length:=List.length_filterMap_le ..;have h2:=applyD_len (us.map udH) l;rw [aX] at h2;omega
noncomputable def leadE(from' to:zu)(b:zu):Nat:=if stpE b=0 then(match PW.parse (apP b) with
  | .ok W=>if W.root=from' then chkE to W none (stpG b) else 130
  | .error e=>e) else stpE b
def step_leads{l:zc}{us:yx}{ids:zy}(hl:DirOk l)(hs:SmallD l)(hus:∀u∈us,u.Ok)(hids:∀g∈grewD l us,g.id∈ids)(hsz:l.length+us.length<=1000) :
  stpG (stpB (PW.cut 256 0 (pairsD l) ids).bytes (grewD l us))=grewD l us/\stpE (stpB (PW.cut 256 0 (pairsD l) ids).bytes (grewD l us))=0/\leadE (fS 256 (pairsD l)) (fS 256 (pairsD (cM l (us.map udH)))) (stpB (PW.cut 256 0 (pairsD l) ids).bytes (grewD l us))=0:=by
 have ha:DirOk (cM l (us.map udH)):=hl.apply (us_ok hus);have hW:=partT_cut (DirOk.pairs hl).1 (λy hy=>⟨(pairs_ok hl y hy).1,(pairs_ok hl y hy).2⟩) ids
 have hb:(PW.cut 256 0 (pairsD l) ids).bytes.length<=1048576:=by have h1:=PW.cut_le 256 (d:=0) (ks:=ids) (pairs_ok hl);have h2:(pairsD l).length=l.length:=aX ..;have h3:(70+2*256)*(pairsD l).length<=(70+2*256)*1000:=lL _ (by omega);omega
 have hpb:=PW.parse_bytes hW.right
 have hpe:prtE (PW.cut 256 0 (pairsD l) ids).bytes=0:=by unfold prtE;rw [hpb]
 obtain⟨h1,h2,h3⟩:=stp_fwd hb hpe (grew_fit hl hs hus) (bM (grew_len l us) (by omega));refine⟨h2,h1,?_⟩
 unfold leadE
 rw [if_pos h1,h3,hpb,h2]
 show(if (PW.cut 256 0 (pairsD l) ids).root=_ then _ else 130)=0
 rw [if_pos hW.of.root];refine chkE_ok hl hW (λg hg=>?_) (grew_sort ha) (by rw [grew_build hl hus]);obtain⟨⟨e,he,hei⟩,h4,h5,h6⟩:=grew_mem hg;refine⟨by rw [<-hei];exact ha.ids e he,hids g hg,?_,h4.symm,h6,?_,rfl⟩
 .have h7:=qC ha g.id
  rwa [keys_took,<-h4,<-h5] at h7
 .refine upsE_ok λi u hu=>?_;rw [h5] at hu;obtain⟨_,h8,h9⟩:=took_in g.id (aR hu);exact⟨h8,h9,by rw [took_ver g.id hu,h4]⟩
theorem took_snoc(id:zu)(u:UV):∀(us:yx) (l:zc),tookD id l (us++[u])=tookD id l us++(if okD (cM l (us.map udH)) (udH u)=true/\u.id=id then [u] else [])
 | [],l=>by show(if _ then u::[] else [])=[]++_;rw [cR];rfl
 | v::us,l=>by show tookD id l (v::(us++[u]))=_;rw [tookD_cons,tookD_cons,took_snoc id u us (fR l (udH v))];split<;>rfl
def took_take{us:yx}{i:Nat}{u:UV}(h:us[i]?=some u)(l:zc)(id:zu):tookD id l (us.take (i+1))=tookD id l (us.take i)++(if okD (cM l ((us.take i).map udH)) (udH u)=true/\u.id=id then [u] else []):=by
 have:us.take (i+1)=us.take i++[u]:=by rw [dO,h];rfl
 rw [this,took_snoc]
structure GrV where
  id:zu
  h32:id.length=32
  k:HSeg
  U:zt
  u:Nat
  more:yx
abbrev yv:=List GrV
abbrev GrV.pl(g:GrV):GrD:=⟨g.id,g.k.l,g.more⟩
structure GwI(l:zc)(us:yx)(gs:yv)(f:zu->Option GrV):Prop where
  nd:(gs.map GrV.id).Nodup
  iff_:∀k g,f k=some g↔g∈gs/\g.id=k
  ok:∀g∈gs,g.k.l=bO l g.id/\g.more=tookD g.id l us/\g.more≠[]
  all:∀k,tookD k l us≠[]->∃g∈gs,g.id=k
def GwI.nil(l:zc):GwI l [] [] λ_=>none:=⟨List.nodup_nil,λk g=>⟨λh=>(by cases h),λh=>(by cases h.1)⟩,λ_ h=>(by cases h),λk h=>absurd rfl h⟩
def gw_ok{l:zc}{us:yx}{u:UV}:okD (cM l (us.map udH)) (udH u)=true↔signB u=true/\u.ver=((bO l u.id).length:Int)+((tookD u.id l us).length:Int)+1:=by rw [okD_iff,keys_took];simp [aA]
def GwI.not{l:zc}{us:yx}{gs:yv}{f:zu->Option GrV}{i:Nat}{u:UV}(h:GwI l (us.take i) gs f)(hu:us[i]?=some u)(hn:¬(signB u=true/\u.ver=((bO l u.id).length:Int)+((tookD u.id l (us.take i)).length:Int)+1)):GwI l (us.take (i+1)) gs f:=by
 have e:∀k,tookD k l (us.take (i+1))=tookD k l (us.take i):=λk=>by rw [took_take hu,if_neg λh2=>hn (gw_ok.1 h2.1),bC]
 exact⟨h.nd,h.iff_,λg hg=>by rw [e];exact h.ok g hg,λk=>by rw [e];exact h.all k⟩
def GwI.yes{l:zc}{us:yx}{gs r:yv}{f:zu->Option GrV}{i:Nat}{u:UV}{g:GrV}(h:GwI l (us.take i) gs f)(hu:us[i]?=some u)(hy:signB u=true/\u.ver=((bO l u.id).length:Int)+((tookD u.id l (us.take i)).length:Int)+1)
 (h1:g.id=u.id)(h2:g.k.l=bO l u.id)(h3:g.more=tookD u.id l (us.take i)++[u])(hn:(r.map GrV.id).Nodup)(hr:∀x,x∈r↔x∈gs/\x.id≠u.id):GwI l (us.take (i+1)) (g::r) (putF f u.id g):=by
 have e:∀k,tookD k l (us.take (i+1))=tookD k l (us.take i)++(if u.id=k then [u] else []):=λk=>by
  rw [took_take hu];congr 1;by_cases c:u.id=k
  .rw [if_pos c,if_pos ⟨gw_ok.2 hy,c⟩]
  .rw [if_neg c,if_neg λh=>c h.2]
 refine⟨?_,λk x=>?_,λx hx=>?_,λk hk2=>?_⟩
 .rw [bA];refine fV.2 ⟨λhm=>?_,hn⟩;obtain⟨x,hx,hxe⟩:=aZ.1 hm;exact((hr x).1 hx).2 (hxe.trans h1)
 .unfold putF
  rw [aH];by_cases c:k=u.id
  .rw [if_pos c]
   constructor
   .intro he;injection he with he;exact⟨.inl he.symm,by rw [<-he,h1,c]⟩
   .rintro⟨rfl|hx,hk⟩
    .rfl
    .exact absurd (hk.trans c) ((hr x).1 hx).2
  .rw [if_neg c,h.iff_]
   constructor
   .rintro⟨hx,hk⟩;exact⟨.inr ((hr x).2 ⟨hx,λe=>c (hk.symm.trans e)⟩),hk⟩
   .rintro⟨rfl|hx,hk⟩
    .exact absurd (hk.symm.trans h1) c
    .exact⟨((hr x).1 hx).1,hk⟩
 .rcases aH.1 hx with rfl|hx
  .refine⟨by rw [h1];exact h2,?_,?_⟩
   .rw [e,h1,if_pos rfl,h3]
   .rw [h3];simp
  .obtain⟨hx,hne⟩:=(hr x).1 hx;obtain⟨a2,a3,a4⟩:=h.ok x hx;refine⟨a2,?_,a4⟩;rw [e,if_neg (Ne.symm hne),bC];exact a3
 .rw [e] at hk2
  by_cases c:k=u.id
  .exact⟨g,.head _,h1.trans c.symm⟩
  .rw [if_neg (Ne.symm c),bC] at hk2;obtain⟨x,hx,hxk⟩:=h.all k hk2;exact⟨x,.tail _ ((hr x).2 ⟨hx,λe=>c (hxk.symm.trans e)⟩),hxk⟩
def GwI.none_{l:zc}{us:yx}{gs:yv}{f:zu->Option GrV}(h:GwI l us gs f){k:zu}(hn:f k=none):(∀x,x∈gs↔x∈gs/\x.id≠k)/\tookD k l us=[]:=by
 have h1:∀x∈gs,x.id≠k:=λx hx e=>by have:=(h.iff_ k x).2 ⟨hx,e⟩;rw [hn] at this;cases this
 refine⟨λx=>⟨λhx=>⟨hx,h1 x hx⟩,λhx=>hx.1⟩,?_⟩;rcases Classical.em (tookD k l us=[]) with e|e
 .exact e
 .obtain⟨x,hx,hk⟩:=h.all k e;exact absurd hk (h1 x hx)
def GwI.some_{l:zc}{us:yx}{gs:yv}{f:zu->Option GrV}(h:GwI l us gs f){k:zu}{g:GrV}(hg:f k=some g):g.id=k/\g.k.l=bO l k/\g.more=tookD k l us/\∃a b,gs=a++g::b/\((a++b).map GrV.id).Nodup/\∀x,x∈a++b↔x∈gs/\x.id≠k:=by
 obtain⟨h1,h2⟩:=(h.iff_ k g).1 hg;obtain⟨a2,a3,_⟩:=h.ok g h1;rw [h2] at a2 a3;obtain⟨a,b,hab⟩:=List.append_of_mem h1;have hnd:=h.nd;rw [hab] at hnd;have hp:((a++g::b).map GrV.id).Perm (g.id::(a++b).map GrV.id):=(kN (l₁:=a) (a:=g) (l₂:=b)).map GrV.id;obtain⟨n1,n2⟩:=fV.1 (hp.nodup_iff.1 hnd);refine⟨h2,a2,a3,a,b,hab,n2,λx=>?_⟩;rw [hab];simp only [bK,aH];constructor
 .intro hx;refine⟨hx.imp id .inr,λe=>n1 ?_⟩;rw [h2,<-e];exact aZ.2 ⟨x,bK.2 hx,rfl⟩
 .rintro⟨hx|rfl|hx,hne⟩
  .exact .inl hx
  .exact absurd h2 hne
  .exact .inr hx
theorem rise_ext{α:Type}{r:α->α->Prop}(hr:∀a b,r a b->r b a->False):∀{l m:List α},l.Pairwise r->m.Pairwise r->(∀x,x∈l↔x∈m)->l=m
 | [],[],_,_,_=>rfl
 | [],b::m,_,_,h=>absurd ((h b).2 (.head _)) (by simp)
 | a::l,[],_,_,h=>absurd ((h a).1 (.head _)) (by simp)
 | a::l,b::m,hl,hm,h=>by
  obtain⟨hl1,hl2⟩:=cH.1 hl;obtain⟨hm1,hm2⟩:=cH.1 hm;have hab:a=b:=by
   rcases aH.1 ((h a).1 (.head _)) with e|e
   .exact e
   .rcases aH.1 ((h b).2 (.head _)) with e2|e2
    .exact e2.symm
    .exact(hr _ _ (hl1 b e2) (hm1 a e)).elim
  subst hab;have hirr:∀x,r x x->False:=λx hx=>hr x x hx hx;rw [rise_ext hr hl2 hm2 λx=>⟨λhx=>?_,λhx=>?_⟩]
  .rcases aH.1 ((h x).1 (.tail _ hx)) with e|e
   .subst e;exact(hirr _ (hl1 _ hx)).elim
   .exact e
  .rcases aH.1 ((h x).2 (.tail _ hx)) with e|e
   .subst e;exact(hirr _ (hm1 _ hx)).elim
   .exact e
def GwI.grew{l:zc}{us:yx}{gs gl:yv}{f:zu->Option GrV}(h:GwI l us gs f)(hl:DirOk (cM l (us.map udH)))(hs:gl.Pairwise λa b=>dG a.id b.id=true)(hm:∀g,g∈gl↔g∈gs):gl.map GrV.pl=grewD l us:=by
 have hlt:∀a b:GrD,dG a.id b.id=true->dG b.id a.id=true->False:=λa b h1 h2=>by have:=pD h1;rw [h2] at this;cases this
 refine rise_ext (r:=λa b=>dG a.id b.id=true) hlt (sO.2 hs) (grew_sort hl) λx=>⟨λhx=>?_,λhx=>?_⟩
 .obtain⟨g,hg,rfl⟩:=aZ.1 hx;obtain⟨a2,a3,a4⟩:=h.ok g ((hm g).1 hg);rw [a3] at a4;have:=grew_has a4;rw [show g.pl=⟨g.id,bO l g.id,tookD g.id l us⟩ by unfold GrV.pl;rw [a2,a3]];exact this
 .obtain⟨_,h2,h3,h4⟩:=grew_mem hx;have h5:=h4;rw [h3] at h5;obtain⟨g,hg,hgi⟩:=h.all _ h5;obtain⟨a2,a3,a4⟩:=h.ok g hg;refine aZ.2 ⟨g,(hm g).2 hg,?_⟩;unfold GrV.pl;rw [a2,a3,hgi,<-h2,<-h3]
def grew_small{l:zc}{us:yx}(hs:SmallD l){g:GrD}(hg:g∈grewD l us):g.keys.length<=64/\g.more.length<=64:=by
 obtain⟨_,h1,h2,_⟩:=grew_mem hg;refine⟨by rw [h1];exact hs.keys g.id,?_⟩;rcases kM g.more.length with h0|h0
 .omega
 .obtain⟨u,hu⟩:∃u,g.more[g.more.length-1]?=some u:=⟨_,aJ (by omega)⟩
  have hu2:(tookD g.id l us)[g.more.length-1]?=some u:=by rw [<-h2];exact hu
  have h5:=(took_in g.id (aR hu2)).2.2;have h4:=took_ver g.id hu2;have h6:=(signB_ver h5).2;omega
def raw_len{g:GrD}(h:g.Fit)(hk:g.keys.length<=64)(hm:g.more.length<=64):g.raw.bytes.length<=12000:=by
 have h1:g.keys.flatten.length=32*g.keys.length:=by
  rw [List.length_flatten];have:∀l:zy,(∀k∈l,k.length=32)->(l.map lJ).sum=32*l.length:=λl=>by
   induction l with
   | nil=>exact λ_=>rfl
   | cons k l ih =>
    intro hl
    rw [bA,iZ,ih λx hx=>hl x (.tail _ hx),hl k (.head _),a6]
    omega
  exact this _ h.keys
 have h2:=batB_len λu hu=>(h.more u hu).ok;have h3:=h.id;unfold GbD.bytes;simp only [aA,be8_len,h1,h2,h3];omega
theorem raws_len:∀{gs:List GrD},(∀g∈gs,g.raw.bytes.length<=12000)->(gs.map λg=>g.raw.bytes).flatten.length<=12000*gs.length
 | [],_=>aF _
 | g::gs,h=>by have h1:=raws_len (gs:=gs) λx hx=>h x (.tail _ hx);have h2:=h g (.head _);rw [bA,eG,aA,a6];omega
def stpB_len(part:zu)(gs:List GrD):(stpB part gs).length=part.length+16+(gs.map λg=>g.raw.bytes).flatten.length:=by show(be8 part.length++(part++(be8 gs.length++(gs.map λg=>g.raw.bytes).flatten))).length=_;rw [aA,aA,aA,be8_len,be8_len];omega
def hB(x:UInt8):zu:=x::aB 31 0
def hB2(x y:UInt8):zu:=x::y::aB 30 0
def uv_cells(u:UV):(catP u.parts).toList=By u.id++(.int .i64 u.ver::(By u.key++By u.sig)):=by show(catP [Pt.agg 32 (By u.id).toArray,.one (.v (.int .i64 u.ver)),.agg 32 (By u.key).toArray,.agg 64 (By u.sig).toArray]).toList=_;rw [catP_cons,catP_cons,catP_cons,catP_cons];simp [Pt.cells,catP,SC.den]
theorem rd_in{g t off n:Nat}{cs:zr}{l:zu}{w:yp}(hb:Blk w g t cs)(hl:l.length=n)(hm:n<=9223372036854775807)(hc:∀(j:Nat) v,(By l)[j]?=some v->cs[off+j]?=some v):Rd 1 eB (some ⟨g,off,none⟩) n l w:=by
 refine⟨Nat.le_of_eq hl,hm,λh=>(by cases h),okF_B l,λ_=>⟨g,off,rfl,hb.lt,λi x hi j v hj=>?_⟩⟩;cases j with
 | zero =>
  have e:v = .int .u8 (x.toNat:Int):=(bQ ((show(eB x).cl[0]?=some (.int .u8 (x.toNat:Int)) from rfl).symm.trans hj)).symm;rw [hb.cell,e,fH,cD];exact hc i _ (by simp [By,hi])
 | succ j =>
  have:(eB x).cl[j+1]?=none:=rfl;rw [this] at hj
  cases hj
def uv_rd{g t:Nat}{u:UV}{w:yp}(hu:u.Ok)(h:ObjF g t u.parts w):Rd 1 eB (some ⟨g,0,none⟩) 32 u.id w/\Rd 1 eB (some ⟨g,33,none⟩) 32 u.key w/\Rd 1 eB (some ⟨g,65,none⟩) 64 u.sig w:=by
 have l1:(By u.id).length=32:=by rw [By_len,hu.id]
 have l3:(By u.key).length=32:=by rw [By_len,hu.key]
 have at_:∀j,(catP u.parts)[j]?=(By u.id++(.int .i64 u.ver::(By u.key++By u.sig)))[j]?:=λj=>by rw [<-c9,uv_cells]
 refine⟨rd_in h.1 hu.id (by decide) λj v hj=>?_,rd_in h.1 hu.key (by decide) λj v hj=>?_,rd_in h.1 hu.sig (by decide) λj v hj=>?_⟩
 .have hlt:=(aP.1 hj).1;rw [at_,aY,cW hlt];exact hj
 .have hlt:=(aP.1 hj).1;rw [at_,bN (by omega),l1,show 33+j-32=j+1 by omega,kH,cW hlt];exact hj
 .rw [at_,bN (by omega),l1,show 65+j-32=(32+j)+1 by omega,kH,bN (by omega),l3,fM];exact hj
end Go.Proofs.Q
namespace Go.Proofs.Q
open Go.RowKit Go.IntWalk
def rdhash_S(g:Nat){A:zt}{c:Nat}(s:Rds):Spec 81 [ptr g] [RdrS g A c s] (Rd 1 eB A c s.1)
  { ret:=λ_:RX=>.q (eY 32 (haO s)),own:=λx=>[RdrS g x.1 x.2 (haS s)],p:=λx=>Rd 1 eB x.1 x.2 (haS s).1 }:=by
 refine zQ [.c (.v (ptr g))] 9 func81 rfl (by rw [ntmps81];rfl) (one_ok trivial) λb=>?_;have hl:=(tkO_le 32 s).1
 have ep:tkO 32 s++(aB 32 (0:UInt8)).drop (tkO 32 s).length=haO s:=by unfold haO pad32;rw [List.drop_replicate]
 refine zA rfl (zA rfl (zM λK hK=>?_));refine s_any 3 [] (by kernel_rfl) (by decide) (λ_ _ _ _ h=>by cases h) ?_;refine a_frontO (.s 3 0 32 32) trivial 0 (by kernel_rfl) rfl rfl rfl rfl rfl (runO_all rfl underlying47 rfl rfl) ?_;refine a_front zY 1 (by kernel_rfl) rfl rfl rfl rfl rfl rfl (λ_ h=>by cases h) ?_;refine a_step 2 (by kernel_rfl) rfl λK1 hK1=>?_;refine zI [ptr g,.int .i64 ((32:Nat):Int)] own_take rfl (take_S g s 32) (λw h _=>h) λ⟨A1,c1,A2,c2⟩=>l_R [RdrS g A2 c2 (haS s)] rfl ?_;refine zJ (hK1 _ (λ_ _ _ _ h=>by cases h) ?_);refine a_tail (by kernel_rfl) ?_;refine l_copyV (z:=aB 32 0) rfl rfl rfl rfl rfl rfl rfl bL hl (rd_fact λw h _=>h.1.1) ?_;rw [ep];refine zJ (hK _ (zA rfl ?_));exact zP (zG (A2,c2) rfl (λw h _=>h.1.2) zU)
end Go.Proofs.Q
namespace Go.Proofs.Q
open Go.RowKit Go.IntWalk Nums
def uv_of{u:UV}(h:OkP (eU u).parts1):u.Ok:=by have h1:=(h (.agg 32 (By u.id).toArray) (by simp [SQ.parts1,UV.parts])).1;have h2:=(h (.agg 32 (By u.key).toArray) (by simp [SQ.parts1,UV.parts])).1;have h3:=(h (.agg 64 (By u.sig).toArray) (by simp [SQ.parts1,UV.parts])).1;rw [aW,By_len] at h1 h2 h3;exact⟨h1,h2,h3⟩
def uvs_of{A:zt}{c:Nat}{us:yx}{w:yp}(h:Rd 129 eU A c us w):∀u∈us,u.Ok:=λu hu=>uv_of (h.2.2.2.1 u hu).1
abbrev uSegs(gu gb:Nat)(u:UV):yr:=[⟨some ⟨gu,0,none⟩,32,u.id⟩,⟨some ⟨gb,0,none⟩,(bodyH u.ver u.key).length,bodyH u.ver u.key⟩,⟨some ⟨gu,65,none⟩,64,u.sig⟩]
def hbytes_S{A:zt}{c:Nat}(us:yx)(hl:us.length<=65536):Spec 67 [.slice A us.length c] [] (Rd 129 eU A c us) (madeN (batB us)):=by
 refine zQ [.c (.v (.slice A us.length c))] 32 func67 rfl (by rw [ntmps67];rfl) (one_ok trivial) λb=>?_;refine s_pure (∀u∈us,u.Ok) (λw h _=>uvs_of h) λhok=>?_;have hbl:=batB_len hok;refine zA rfl (zC rfl λK1 hK1=>?_);refine l_num 8 (us.length:Int) rfl (wrapU rfl (by omega) (by omega)) ?_;refine z6 [.slice none ([]:zu).length 0,.int .u64 (us.length:Int)] own_wnum rfl (wnum_S [] us.length (by omega) (by decide)) (λ_ _ _=>Rd.nil _ _ _) λgc=>?_;rw [cR];refine l_list zY b.B.heap.size [⟨some ⟨gc,0,none⟩,(be8 us.length).length,be8 us.length⟩] (fe:=eSeg) rfl rfl rfl rfl rfl (λ_=>rfl) rfl (by decide) (by decide) (okF_seg _) (aF _) λP=>?_;refine zB rfl (zJ (hK1 _ (zM λK2 hK2=>zA rfl (zN ?_))));let F:Nat×yr×zt×Nat->Env:=λ⟨i,ss,PA,pc⟩=>⟨[(13,.v (.int .i64 (i:Int))),(12,.v (.int .i64 (us.length:Int))),(11,.v (.slice A us.length c)),(3,.v (.slice PA ss.length pc))],[],[OwnS b.B.heap.size 39 1 eSeg PA pc ss],λw=>(∀s∈ss,s.rd w)/\Rd 129 eU A c us w,λ_=>True⟩;refine c_weak (e':=F (0,[⟨some ⟨gc,0,none⟩,(be8 us.length).length,be8 us.length⟩],P,1)) ⟨zE rfl, trivial, .refl _,λw h hM=>⟨λs hs=>by rw [aD.1 hs];exact hM.1,h.2⟩, zU⟩
  (s_loop (λx=>us.length-x.1) F (λx=>x.1<=us.length/\(x.2.1.map Seg.l).flatten=be8 us.length++((us.take x.1).map updB).flatten/\x.2.1.length=1+3*x.1) ?_ (0,[⟨some ⟨gc,0,none⟩,(be8 us.length).length,be8 us.length⟩],P,1) ⟨aL _,by simp,rfl⟩)
 rintro⟨i,ss,PA,pc⟩ ⟨hi,hss,hsn⟩;dsimp only at hi hss hsn;refine zA rfl (zM λK3 hK3=>?_);refine zW ((i:Int)<(us.length:Int)) rfl (λhlt=>?_) (λhge=>?_)
 .have hlt:i<us.length:=by omega
  obtain⟨u,hu⟩:∃u,us[i]?=some u:=⟨_,aJ hlt⟩;have huo:=hok u (aR hu);have hnx:=upds_next hu;refine zO (hK3 _ (zM λK4 hK4=>zN (zC rfl λK5 hK5=>l_elem zY rfl rfl rfl i rfl hu rfl rfl (rd_fact λ_ h _=>h.2) (zB rfl (zJ (k_give 5 rfl (E':=[(13,.v (.int .i64 (i:Int))),(12,.v (.int .i64 (us.length:Int))),(11,.v (.slice A us.length c)),(3,.v (.slice PA ss.length pc))]) ⟨rfl,rfl,rfl,rfl,trivial⟩ λgu=>hK5 _ (s_freeO 0 rfl ?_)))))));refine s_anyP [0,1,2,3,4,5,6,8,9] 11 2 (λw=>InvL [] w/\ObjF gu 69 u.parts w) (by kernel_rfl) rfl (inv_two (λ_ h=>by cases h) λ_ h _=>h.1) ?_;refine z7 (L0:=[]) 0 (by kernel_rfl) rfl (λ_ h=>by cases h) (λ_ h=>h.1) ?_;refine z7 (L0:=[]) 1 (by kernel_rfl) rfl (λ_ h=>by cases h) (λ_ h=>h.1) ?_;refine p_frontO (.v (.slice (some ⟨gu,0,none⟩) 32 32)) trivial 2 (by kernel_rfl) rfl rfl rfl rfl rfl (runO_allP (off:=0) rfl underlying47 rfl rfl) ?_;refine z7 (L0:=[]) 3 (by kernel_rfl) rfl (λ_ h=>by cases h) (λ_ h=>h.1) ?_;refine p_ldO zY 4 (by kernel_rfl) rfl rfl rfl rfl rfl rfl rfl huo.parts_ok (λ_ h=>h.2) ?_;refine z7 (L0:=[]) 5 (by kernel_rfl) rfl (λ_ h=>by cases h) (λ_ h=>h.1) ?_;refine p_ldO zY 6 (by kernel_rfl) rfl rfl rfl rfl rfl rfl rfl huo.parts_ok (λ_ h=>h.2) ?_;refine z7 (L0:=[]) 8 (by kernel_rfl) rfl (λ_ h=>by cases h) (λ_ h=>h.1) ?_;refine p_frontO (.v (.slice (some ⟨gu,65,none⟩) 64 64)) trivial 9 (by kernel_rfl) rfl rfl rfl rfl rfl (runO_allP (off:=65) rfl underlying67 rfl rfl) ?_;refine p_step 7 (by kernel_rfl) rfl λK6 hK6=>?_;refine z6 [.int .i64 u.ver,.agg (By u.key).toArray] (λ_ _=>by go_simp) rfl (hbody_S u.ver huo.key) (λ_ _ _=>trivial) λgb=>?_;refine zJ (hK6 _ (inv_two (λ_ h=>by cases h) λ_ h _=>h.2.1) ?_);refine p_step 10 (by kernel_rfl) rfl λK7 hK7=>?_;refine l_eq 19 (.v (.slice (some ⟨gu,0,none⟩) u.id.length 32)) rfl (by rw [huo.id]) ?_;refine l_eq 26 (.v (.slice (some ⟨gu,65,none⟩) u.sig.length 64)) rfl (by rw [huo.sig]) ?_;refine l_list zY b.B.heap.size (uSegs gu gb u) (fe:=eSeg) rfl rfl rfl rfl rfl (λ_=>rfl) rfl (by decide) (by decide) (okF_seg _) (aF _) λP2=>?_;refine zJ (hK7 _ (inv_two (λ_ h=>by cases h) λ_ h _=>h.2.1) ?_);refine p_tail [11,12] (by kernel_rfl) rfl ?_;refine l_free 0 rfl ?_;refine l_appY zY 0 (uSegs gu gb u) rfl rfl rfl rfl rfl rfl rfl rfl rfl (rd_fact λw h _=>h.1) (by decide) (by rw [hsn];show(_+3)*24<=_;omega) (by rw [hsn];show _+3<=_;omega) (aF _) λPA' pc'=>?_;refine zB rfl (zJ (hK4 _ (zD rfl ?_)));exact zX (i+1,ss++uSegs gu gb u,PA',pc') ⟨hlt,by show(List.map Seg.l (ss++_)).flatten=_;rw [bX,jT,hss,hnx,aT];simp [updB],by show(ss++_).length=_;rw [aA,hsn];show 1+3*i+3=1+3*(i+1);omega⟩ (by show _-(i+1)<_-i;omega) ⟨⟨congrArg some (congrArg SV.v (congrArg (cG .i64) (wrapI rfl (by omega) (by omega)))),rfl,rfl,rfl,trivial⟩,trivial,.refl _,λw h hM=>by
   have hr:=uv_rd huo h.2.2.1;refine⟨λs hs=>?_,h.2.2.2.2⟩;rcases bK.1 hs with hs|hs
   .exact h.2.2.2.1 s hs
   .rcases aH.1 hs with rfl|hs
    .exact hr.1
    .rcases aH.1 hs with rfl|hs
     .exact hM.1
     .rw [aD.1 hs];exact hr.2.2, zU⟩
 .obtain rfl:us.length=i:=by omega
  have e0:(List.map Seg.l ss).flatten=batB us:=by rw [hss,dA];rfl
  have hj:=join_S (A:=PA) (c:=pc) ss (by rw [e0];omega);rw [e0] at hj;refine s_exit (zS (zS (k_out (hK2 _ (s_free 0 rfl (zC rfl λK8 hK8=>z6 [.slice PA ss.length pc] own_join rfl hj (λw h _=>⟨h.1,h.2.1⟩) λgb=>zB rfl (zJ (hK8 _ ?_))))))));exact zP (zG gb rfl (λ_ _ _=>trivial) (λw h=>h.1))
end Go.Proofs.Q
namespace Go.Proofs.Q
open Go.RowKit Go.IntWalk
def hread_S(g:Nat){A:zt}{c:Nat}(s:Rds):Spec 119 [ptr g] [RdrS g A c s] (Rd 1 eB A c s.1)
  { ret:=λ_:RX=>.t [eU (upO s),.c (.v (.int .u64 (upV s:Int)))],own:=λx=>[RdrS g x.1 x.2 (upS s)],p:=λx=>Rd 1 eB x.1 x.2 (upS s).1 }:=by
 refine zQ [.c (.v (ptr g))] 22 func119 rfl (by rw [ntmps119];rfl) (one_ok trivial) λb=>?_;have hh1:=haO_len s;have hh2:=haO_len (nuS (haS s));have hh3:=sgO_len (haS (nuS (haS s)));have e1:upO s=⟨haO s,IntKind.i64.wrap (upV s:Int),haO (nuS (haS s)),sgO (haS (nuS (haS s)))⟩:=rfl;have e2:upS s=sigS (haS (nuS (haS s))):=rfl;refine zA rfl (zC rfl λK1 hK1=>?_);refine zI [ptr g] (λ_ _=>by go_simp) rfl (rdhash_S g s) (λw h _=>h) λ⟨A1,c1⟩=>?_;refine l_R [RdrS g A1 c1 (haS s)] rfl ?_;generalize haO s=h1 at *;refine zB rfl (zJ (hK1 _ (zC rfl λK2 hK2=>?_)));refine zI [ptr g] (λ_ _=>by go_simp) rfl (rnum_S g (haS s)) (λw h _=>h.1) λ⟨A2,c2⟩=>?_;refine l_R [RdrS g A2 c2 (nuS (haS s))] rfl (l_eq 10 (.v (.int .u64 (upV s:Int))) rfl rfl ?_);generalize upV s=uv at *;refine zB rfl (zJ (hK2 _ (zC rfl λK3 hK3=>?_)));refine zI [ptr g] (λ_ _=>by go_simp) rfl (rdhash_S g (nuS (haS s))) (λw h _=>h.1) λ⟨A3,c3⟩=>?_;refine l_R [RdrS g A3 c3 (haS (nuS (haS s)))] rfl ?_;generalize haO (nuS (haS s))=h2 at *;refine zB rfl ?_;refine zI [ptr g] (λ_ _=>by go_simp) rfl (rsig_S g (haS (nuS (haS s)))) (λw h _=>h.1) λ⟨A4,c4⟩=>?_;refine l_R [RdrS g A4 c4 (sigS (haS (nuS (haS s))))] rfl ?_;generalize sgO (haS (nuS (haS s)))=h3 at *;refine zB rfl (zJ (hK3 _ (zA rfl ?_)));exact zP (zR zY (A4,c4) rfl (by decide) rfl (by show RV.t [eU (upO s),.c (.v (.int .u64 (uv:Int)))]=_;rw [e1];rfl) rfl (λw h _=>h.1) zU)
def end_10{s:Rds}(h:endE s=10):s.2≠0:=λh0=>by unfold endE don at h;rw [if_pos h0] at h;split at h<;>cases h
abbrev batP(us:yx)(e:Nat):Post KX:={ ret:=λx=>.t [.c (.v (.slice x.1 us.length x.2)),.c (.v (.int .i64 (e:Int)))],p:=λx=>Rd 129 eU x.1 x.2 us }
def hparse_S{A:zt}{c:Nat}(l:zu)(hl:l.length<=281474976710656):Spec 85 [.slice A l.length c] [] (Rd 1 eB A c l) (batP (hpU l) (hpE l)):=by
 refine zQ [.c (.v (.slice A l.length c))] 46 func85 rfl (by rw [ntmps85];rfl) (one_ok trivial) λb=>?_;refine zA rfl (zC rfl λK1 hK1=>?_);refine z6 [.slice A l.length c] (λ_ _=>by go_simp) rfl (rdnew_S l hl) (λw h _=>h) λ⟨g,g0⟩=>?_;refine zB rfl (zJ (hK1 _ (zC rfl λK2 hK2=>l_R [RdrS g (some ⟨g0,0,none⟩) l.length (l,0)] rfl ?_)));refine zI [ptr g] (λ_ _=>by go_simp) rfl (rcount_S g (l,0)) (λw _ h=>h.1) λ⟨A1,c1⟩=>?_;refine l_R [RdrS g A1 c1 (hpS l)] rfl (zB rfl (zJ (hK2 _ ?_)));obtain⟨n,hn⟩:∃n,n=hpN l:=⟨_,rfl⟩;have hn6:n<=65536:=by rw [hn];exact moO_le _ _
 have hn':moO 65536 (l,0)=n:=hn.symm;rw [hn'];refine zA rfl (zA rfl (s_nil0 0 69 129 eU (zM λK3 hK3=>zA rfl (zN ?_))));let F:Nat×RX×KX->Env:=λ⟨i,r,x⟩=>⟨[(8,.v (.int .i64 (i:Int))),(5,.v (.int .i64 (n:Int))),(4,.v (ptr g)),(6,.v (.slice x.1 (usI (hpS l) i).length x.2)),(7,.v (.int .u64 (mxI (hpS l) i:Int)))],[],[RdrS g r.1 r.2 (stU (hpS l) i),OwnS 0 69 129 eU x.1 x.2 (usI (hpS l) i)],Rd 1 eB r.1 r.2 (stU (hpS l) i).1,λ_=>True⟩;have hfin:∀(i:Nat) (r:RX) (x:KX),i<=n->((stU (hpS l) i).2≠0\/i=n)->∀e,Weak e (F (i,r,x))->kS b K3 46 e:=by
  intro i r x hi hor e hw;refine k_weak hw (hK3 _ ?_);obtain⟨he,hkn⟩:=hpR_stop (l:=l) (k:=i) (by omega) (by rw [hn] at hor;exact hor);have hrd:=rdone_S g (A:=r.1) (c:=r.2) (stU (hpS l) i);rw [he] at hrd;refine zM λK4 hK4=>zC rfl λK5 hK5=>?_;refine zI [ptr g] (λ_ _=>by go_simp) rfl hrd (λ_ _ _=>trivial) λ_=>?_;refine zB rfl (zJ (hK5 _ (zA rfl ?_)));refine zW ((endE (hpR l):Int)≠0) rfl (λh1=>?_) (λh1=>?_)
  .have e3:hpE l=endE (hpR l):=by unfold hpE;rw [if_neg (by omega)]
   have e4:hpU l=[]:=by unfold hpU;rw [if_neg (by omega)]
   refine zA rfl ?_;exact zP (k_drop 0 rfl (k_drop 0 rfl (zR zY (none,0) rfl (by decide) rfl (by show RV.t [.c (.v (.slice none (hpU l).length 0)),.c (.v (.int .i64 (hpE l:Int)))]=_;rw [e3,e4];rfl) rfl (λw _ _=>by show Rd 129 eU none 0 (hpU l) w;rw [e4];exact Rd.nil _ _ _) zU)))
  have h1:endE (hpR l)=0:=by omega
  have hk2:=hkn h1;refine zO (hK4 _ (zM λK6 hK6=>zA rfl ?_));refine zW ((mxI (hpS l) i:Int)>64) rfl (λh2=>?_) (λh2=>?_)
  .have e3:hpE l=13:=by unfold hpE;rw [if_pos h1,<-hk2,if_pos (by omega)]
   have e4:hpU l=[]:=by unfold hpU;rw [if_neg (by omega)]
   refine zA rfl ?_;exact zP (k_drop 0 rfl (k_drop 0 rfl (zR zY (none,0) rfl (by decide) rfl (by show RV.t [.c (.v (.slice none (hpU l).length 0)),.c (.v (.int .i64 (hpE l:Int)))]=_;rw [e3,e4];rfl) rfl (λw _ _=>by show Rd 129 eU none 0 (hpU l) w;rw [e4];exact Rd.nil _ _ _) zU)))
  .have e3:hpE l=0:=by unfold hpE;rw [if_pos h1,<-hk2,if_neg (by omega)]
   have e4:hpU l=usI (hpS l) i:=by unfold hpU;rw [if_pos e3,<-hk2]
   refine zO (hK6 _ (s_free 1 rfl (zA rfl ?_)));exact zP (k_drop 0 rfl (zR zY x rfl (by decide) rfl (by show RV.t [.c (.v (.slice x.1 (hpU l).length x.2)),.c (.v (.int .i64 (hpE l:Int)))]=_;rw [e3,e4];rfl) rfl (λw h _=>by show Rd 129 eU x.1 x.2 (hpU l) w;rw [e4];exact h.1) zU))
 refine c_weak (e':=F (0,(A1,c1),(none,0))) ⟨⟨rfl,rfl,rfl,rfl,rfl,trivial⟩,trivial,(kE (l₁:=[_]) (l₂:=[_])),λ_ h _=>h.1, zU⟩ (s_loop (λx=>n-x.1) F (λx=>x.1<=n) ?_ (0,(A1,c1),(none,0)) (aL _));rintro⟨i,r,x⟩ hi;dsimp only at hi;have hul:=usI_len (hpS l) i;refine zM λK4 hK4=>zC rfl λK5 hK5=>?_;by_cases hlt:¬(i:Int)<(n:Int)
 .refine l_is 19 false rfl (decide_eq_false hlt) ?_;refine zB rfl (zJ (hK5 _ (s_no rfl (s_exit (zS (zS (k_out ?_)))))));exact hfin i r x hi (.inr (by omega)) _ ⟨zE rfl, trivial, .refl _,λ_ h _=>h,λ_ h=>h⟩
 have hlt':i<n:=by omega
 refine l_is 19 true rfl (decide_eq_true (by omega)) ?_;refine zB rfl ?_;refine zI [ptr g] (λ_ _=>by go_simp) rfl (rdone_S g (A:=r.1) (c:=r.2) (stU (hpS l) i)) (λ_ _ _=>trivial) λ_=>?_;refine l_R [RdrS g r.1 r.2 (stU (hpS l) i),OwnS 0 69 129 eU x.1 x.2 (usI (hpS l) i)] rfl (zB rfl (zJ (hK5 _ ?_)));refine zW ((endE (stU (hpS l) i):Int)≠10) rfl (λh0=>?_) (λh0=>?_)
 .refine zO (hK4 _ ?_);refine zM λK6 hK6=>zN (zC rfl λK7 hK7=>?_);refine zI [ptr g] (λ_ _=>by go_simp) rfl (hread_S g (stU (hpS l) i)) (λw h _=>h.2) λ⟨A2,c2⟩=>?_;refine l_R [RdrS g A2 c2 (stU (hpS l) (i+1)),OwnS 0 69 129 eU x.1 x.2 (usI (hpS l) i)] rfl ?_;have hoo:=upO_ok (stU (hpS l) i);have hun:=usI_next (hpS l) i;have hmx:mxI (hpS l) (i+1)=max (mxI (hpS l) i) (upV (stU (hpS l) i)):=rfl;generalize upO (stU (hpS l) i)=u at *;generalize upV (stU (hpS l) i)=uv at *;refine zB rfl (zJ (hK7 _ (zC rfl λK8 hK8=>?_)));refine l_push zY 1 u rfl rfl rfl rfl rfl rfl rfl (eU_ok hoo) (by decide) (by decide) (by rw [hul];show(_+1)*136<=_;omega) (by omega) (aL _) λB' d'=>?_;rw [<-hun];refine zB rfl (zJ (hK8 _ (s_lit (zB rfl (l_op (.v (.int .u64 ((max (mxI (hpS l) i) uv:Nat):Int))) trivial rfl rfl rfl (run_maxU rfl rfl rfl) (zB rfl (zJ (hK6 _ (zD rfl ?_)))))))));exact zX (i+1,(A2,c2),(B',d')) hlt' (by show n-(i+1)<n-i;omega) ⟨⟨congrArg some (congrArg SV.v (congrArg (cG .i64) (wrapI rfl (by omega) (by omega)))),rfl,rfl,rfl,by show lookS _ 7=some (.v (.int .u64 (mxI (hpS l) (i+1):Int)));rw [hmx];rfl,trivial⟩,trivial,.refl _,λ_ h _=>h.1, zU⟩
 .refine s_exit (zS (zS (k_out ?_)));exact hfin i r x hi (.inl (end_10 (by omega))) _ ⟨zE rfl, trivial, .refl _,λ_ h _=>h.2, zU⟩
end Go.Proofs.Q
namespace Go.Proofs.Q
open Go.RowKit Go.IntWalk Nums
def GrV.parts(g:GrV):zb:=[.agg 32 (By g.id).toArray,.one (.v (.slice g.k.A g.k.l.length g.k.c)),.one (.v (.slice g.U g.more.length g.u))]
abbrev eGr(g:GrV):SQ:=.p g.parts
def GrV.parts_ok(g:GrV):OkP g.parts:=λp hp=>by
 simp only [GrV.parts,aH,List.not_mem_nil,or_false] at hp;rcases hp with rfl|rfl|rfl
 .exact(eY_ok g.h32).1 _ (aD.2 rfl)
 .exact⟨trivial,rfl,rfl⟩
 .exact⟨trivial,rfl,rfl⟩
def eGr_ok(g:GrV):OkP (eGr g).parts1/\(eGr g).cl.length=34:=⟨g.parts_ok,by rw [SQ.cl,show(eGr g).den.cells=catP g.parts from rfl,Array.length_toList,OkP.size g.parts_ok];rfl⟩
def GrV.rd(g:GrV)(w:yp):Prop:=g.k.rd w/\Rd 129 eU g.U g.u g.more w
instance{g:GrV}:Pst g.rd:=⟨λ_ _ h hb=>⟨Pst.later (p:=g.k.rd) _ _ h.1 hb,h.2.later hb⟩⟩
abbrev nilG:GrV:=⟨aB 32 0,by decide,nilH,none,0,[]⟩
abbrev TG:MapT zu GrV:={ t:=135,kt:=47,vt:=60,kv:=eY 32,vv:=eGr }
def TG_ok:TG.Ok ok32 where
 und:=underlying135
 keyed:=hash_keyed
 key _ h:=hash_key h
 inj _ _ h:=KVT_inj h
theorem nilG_zero:∀w,(zeroValue TG.vt).run prog w = .ok (TG.V nilG) w:=λw=>by
 have hi:(prog.info? 60).bind (·.zero)=some (TG.V nilG):=by kernel_rfl
 unfold zeroValue typeInfo;cases h:prog.info? 60 with
 | none=>rw [h] at hi;cases hi
 | some i =>
  rw [h] at hi;have hi:i.zero=some (TG.V nilG):=hi
  simp [h,hi]
def eGr_all(g:GrV):(TG.vv g).Ok:=g.parts_ok
section
variable{N:Nat}{E:SE}{L:ze}{R:zd}{F M:zv}{o:Oper}{x y:Operand}
theorem runO_gr{m n:Nat}{f:zu->Option GrV}(hA:∀G S w,View G S L R F M w->MapA TG ok32 m n f w)(k:zu)(hk:k.length=32)(ho:o.op = .lookup TG.t x y true)(hx:evS E x=some (.v (.map (some m))))(hy:evS E y=some (.q (eY 32 k))) :
  ∀(G:zk) (S:zm) (a:Act) (w:yp),Fr N (denE G E) a->View G S L R F M w->(execOp a.eval o).run prog w = .ok (.value ((SV.t [eGr ((f k).getD nilG),.c (.b (f k).isSome)]).den G)) w:=by
 cases hs:f k with
 | none=>exact runO_noneA2 TG_ok hA k nilG hk hs nilG_zero ho hx hy
 | some s=>exact runO_lookA2 TG_ok hA k s hk hs ho hx hy
end
theorem cmp_less:∀{a b:zu},dG a b=true->cO b a=1
 | [],_,h=>by cases h
 | _::_,[],h=>by cases h
 | x::a,y::b,h=>by
  unfold dG at h;unfold cO;by_cases e:x=y
  .subst e;rw [if_pos rfl] at h;rw [if_neg (iY x),if_neg (iY x)];exact cmp_less h
  .rw [if_neg e] at h;have h:x.toNat<y.toNat:=of_decide_eq_true h;rw [if_neg (λh2:y<x=>by have:=nO.1 h2;omega),if_pos (nO.2 h)]
def bytesOf_By(l:zu):Lib.bytesOf (l.map λx=>(x.toNat:Int))=l:=by
 unfold Lib.bytesOf;rw [dB]
 conv=>rhs;rw [<-List.map_id l]
 refine fN λx _=>?_;show bP ((x.toNat:Int).toNat)=x;simp
def run_bytesOf{P:Program}{w:yp}{g o c:Nat}{l:zu}(h:w.rangeAt g o (By l)):(jU (.slice (some ⟨g,o,none⟩) l.length c)).run P w = .ok ⟨l.toArray⟩ w:=by have h1:=Lib.run_loadBytesX (P:=P) w (l.map λx=>(x.toNat:Int)) ⟨g,o,none⟩ .empty (λj x hj=>by rw [Addr.add_mid];rw [cE] at hj;obtain⟨y,hy,rfl⟩:=n6.1 hj;exact h j _ (by unfold By;rw [cE,hy];rfl));rw [bytesOf_By,aX] at h1;unfold jU;rw [h1];simp
def run_bcmp{P:Program}{w:yp}{g o c g' o' c':Nat}{l m:zu}(h:w.rangeAt g o (By l))(h':w.rangeAt g' o' (By m)):(iN #[.slice (some ⟨g,o,none⟩) l.length c,.slice (some ⟨g',o',none⟩) m.length c']).run P w = .ok (.int .i64 (cO l m)) w:=by
 have e:∀A B:Value,iN #[A,B]=(do
  let a <-jU A
  let b <-jU B
  pure (goInt (Extern.BytealgCompare.cmp a b))):=λ_ _=>rfl
 rw [e];simp only [aG,run_bytesOf h,run_bytesOf h',aC,aI,Lib.cmp_eq];rfl
def run_call_ext{N:Nat}{E:SE}{o:Oper}{f:FuncId}{xs:zg}{ats:zf}{svs:yu}{v:Value}{w:yp}{G:zk}{a:Act}(ha:Fr N (denE G E) a)(ho:o.op = .call { callee:=.value (.func f),args:=xs,argTypes:=ats })(hx:evSs E xs.toList=some svs)(hv:(callFunc f (svs.map (SV.den G)).toArray).run prog w = .ok (.value v) w) :
  (execOp a.eval o).run prog w = .ok (.value v) w:=by
 have h2:=map_eval (args:=(svs.map (SV.den G)).toArray) (ha.evals _ _ (by rw [evSs_ok hx]));obtain⟨dst,op,ty,pos,af,gd⟩:=o;simp only at ho;subst ho
 unfold execOp
 simp only [resolve,Act.eval,h2,Deferred.ofValue,aG,aI,aC,invoke]
 simpa using hv
abbrev HP:=Nat×PairT
section
variable{b:Base}{ops:zp}{Q:zx}{N:Nat}{E:SE}{L:ze}{R:zd}{F M:zv}{G:zk}{S:zm}{w0:yp}{T':zo}{Fa:Told}{i k:Nat}{o:Oper}{rest:List (Nat×Oper)}
def h_callV{F':zv}{f:FuncId}{y:Operand}{xs:zg}{ats:zf}{svs:yu}{caps:zq}{r:RV}[Pst F'](hst:StW b G S L R F M w0)(args:zq)(hf:farP i Fa=true)(hg:o.guard=none)(hd:o.dst=some k)(hk:Nat.blt k N=true)(how:Own f)(ho:o.op = .call { callee:=.value y,args:=xs,argTypes:=ats })(hy:evS E y=some (.v (.func (.func f) #[] caps.toArray)))(hx:evSs E xs.toList=some svs)
 (ha:svs.map (SV.den G)++caps=args)(hr:r.sv.Ok)(hs:Spec f args [] F' (one r))(hF:∀G S w,View G S L R F M w->F' w)
 (hn:hS prog ops Q N T' G w0 rest ((k,r.sv)::E) Fa):hS prog ops Q N T' G w0 ((i,o)::rest) E Fa:=by
 refine h_f hst r.sv hr hf (λC0 Q' hC hQ=>λa ha'=>?_) hn;rw [RV.sv_den] at hQ;refine b_call1 (f:=f) (args:=args.toArray) (v:=r.den) (by simp [Region.wanted,hg]) (λw hw=>(hs w (λ_=>False) (λ_=>False) (λ_ h=>h) (λ_ h=>h.elim) (Stb.of_pst (hF _ _ _ (hC w hw).1) λ_ _ h=>h.elim id id)).mono λ_ _ ⟨_,_,h1,_,h2,_⟩=>⟨h1,h2.up λ_ _ h=>h⟩) (λw=>?_) (by rw [hd];exact hQ _ (ha'.put hk _));have:=callV_run (w:=w) how ho hy hx ha';rw [ha] at this;exact this
end
def len8T:zu:=[0]++([1]++(aB 2 2++(aB 4 3++(aB 8 4++(aB 16 5++(aB 32 6++(aB 64 7++aB 128 8)))))))
def len8_pos:∀i,i<256->1<=i->1<=(len8T[i]!).toNat:=by decide +kernel
def run_idxS{N:Nat}{E:SE}{o:Oper}{y:Operand}{s:ByteArray}{i:Nat}(ho:o.op = .index 9 (.const (.string s)) y)(hs:s=⟨len8T.toArray⟩)(hi:i<256)(hy:evS E y=some (.v (.int .u8 (i:Int)))) :
  ∀(G:zk) (a:Act) (w:yp),Fr N (denE G E) a->(execOp a.eval o).run prog w = .ok (.value ((SV.v (.int .u8 ((len8T[i]!).toNat:Int))).den G)) w:=λG a w ha=>by
 have h1:a.eval y = .int .u8 (i:Int):=ha.eval (evS_ok hy);have h2:=run_index_string (P:=prog) w 9 s .u8 (i:Int) underlying9;subst hs
 have hl:len8T.length=256:=by decide +kernel
 have h3:0<=(i:Int)/\(i:Int)<(ByteArray.mk len8T.toArray).size:=⟨by omega,by show(i:Int)<(len8T.toArray.size:Int);rw [aW,hl];omega⟩;rw [dif_pos h3] at h2
 have h4:((ByteArray.mk len8T.toArray)[(i:Int).toNat]'(by omega))=len8T[i]!:=by rw [getElem!_pos len8T i (by omega)];rfl
 rw [h4] at h2;have h0:a.eval (.const (.string ⟨len8T.toArray⟩)) = .string ⟨len8T.toArray⟩:=rfl
 unfold execOp
 simp only [ho,h0,h1,aG,h2,aC,aI]
 rfl
abbrev LenX(n:Nat):={ r:Nat // (1<=n->1<=r)/\r<=255 }
def len64_S{n:Nat}(hn:n<256):Spec 202 [.int .u64 (n:Int)] [] (λ_=>True) { ret:=λr:LenX n=>.v (.int .i64 ((r.1:Nat):Int)),own:=λ_=>[] }:=by refine zQ [.c (.v (.int .u64 (n:Int)))] 25 func202 rfl (by rw [ntmps202];rfl) (one_ok trivial) λb=>?_;refine zA rfl (zM λK1 hK1=>zA rfl ?_);refine zW ((n:Int)>=4294967296) rfl (λh=>absurd h (by omega)) (λ_=>?_);refine zO (hK1 _ (zM λK2 hK2=>zA rfl ?_));refine zW ((n:Int)>=65536) rfl (λh=>absurd h (by omega)) (λ_=>?_);refine zO (hK2 _ (zM λK3 hK3=>zA rfl ?_));refine zW ((n:Int)>=256) rfl (λh=>absurd h (by omega)) (λ_=>?_);refine zO (hK3 _ (zC rfl λK4 hK4=>?_));refine l_num 21 (n:Int) rfl (by show(n:Int)%256=n;omega) ?_;refine l_op (.v (.int .u8 ((len8T[n]!).toNat:Int))) trivial rfl rfl rfl (run_idxS rfl (by kernel_rfl) hn rfl) ?_;have hp:=len8_pos n hn;have hb:(len8T[n]!).toNat<=255:=Nat.le_of_lt_succ (UInt8.toNat_lt _);generalize (len8T[n]!).toNat=r at *;refine zB rfl ?_;refine l_num 2 (r:Int) rfl (by rw [wrapI (m:=(r:Int)) (r:=(r:Int)) rfl (by omega) (by omega)];exact wrapI (by omega) (by omega) (by omega)) ?_;exact zJ (hK4 _ (zP (zG ⟨r,hp,hb⟩ rfl (λ_ _ _=>trivial) zU)))
def len_S{n:Nat}(hn:n<256):Spec 146 [.int .u64 (n:Int)] [] (λ_=>True) { ret:=λr:LenX n=>.v (.int .i64 ((r.1:Nat):Int)),own:=λ_=>[] }:=by refine zQ [.c (.v (.int .u64 (n:Int)))] 8 func146 rfl (by rw [ntmps146];rfl) (one_ok trivial) λb=>?_;refine zA rfl (zM λK1 hK1=>s_no rfl (zO (hK1 _ (zC rfl λK2 hK2=>?_))));refine z6 [.int .u64 (n:Int)] (λ_ _=>by go_simp) rfl (len64_S hn) (λ_ _ _=>trivial) λr=>?_;refine zB rfl (zJ (hK2 _ ?_));exact zP (zG r rfl (λ_ _ _=>trivial) zU)
theorem cmp_more:∀{a b:zu},dG a b=true->cO a b = -1
 | [],[],h=>by cases h
 | [],_::_,_=>rfl
 | _::_,[],h=>by cases h
 | x::a,y::b,h=>by
  unfold dG at h;unfold cO;by_cases e:x=y
  .subst e;rw [if_pos rfl] at h;rw [if_neg (iY x),if_neg (iY x)];exact cmp_more h
  .rw [if_neg e] at h;rw [if_pos (nO.2 (of_decide_eq_true h))]
theorem cmp_refl:∀a:zu,cO a a=0
 | []=>rfl
 | x::a=>by unfold cO;rw [if_neg (iY x),if_neg (iY x)];exact cmp_refl a
def rd_bytes{A:zt}{c:Nat}{l:zu}{w:yp}(h:Rd 1 eB A c l w)(h0:0<l.length):∃g o,A=some ⟨g,o,none⟩/\w.rangeAt g o (By l):=by obtain⟨g,o,e,_,hr⟩:=h.2.2.2.2 h0;refine⟨g,o,e,λj v hv=>?_⟩;have hlt:=(aP.1 hv).1;rw [By_len] at hlt;have hx:l[j]?=some l[j]:=aJ hlt;have hr:=hr j l[j] hx 0 (.int .u8 (l[j].toNat:Int)) rfl;rw [fH,cD] at hr;rw [hr];rw [<-hv];simp [By,hx]
def bCmp_S{A B:zt}{c d:Nat}{l m:zu}(hl:0<l.length)(hm:0<m.length):Spec 41 [.slice A l.length c,.slice B m.length d] [] (λw=>Rd 1 eB A c l w/\Rd 1 eB B d m w) (one (.v (.int .i64 (cO l m)))):=by
 refine zQ [.c (.v (.slice A l.length c)),.c (.v (.slice B m.length d))] 8 func41 rfl (by rw [ntmps41];rfl) (two_ok trivial trivial) λb=>?_;refine zA rfl (zC rfl λK hK=>?_);refine l_opV (.v (.int .i64 (cO l m))) trivial rfl rfl rfl (λG S a w ha hw=>run_call_ext ha rfl rfl ?_) ?_
 .obtain⟨g1,o1,rfl,h1⟩:=rd_bytes hw.fact.1 hl;obtain⟨g2,o2,rfl,h2⟩:=rd_bytes hw.fact.2 hm;have h:=run_bcmp (P:=prog) (c:=c) (c':=d) h1 h2;have h2:=run_callFunc_extern func87 (by kernel_rfl) (by kernel_rfl) (by kernel_rfl) (e:=iN) (by kernel_rfl) #[.slice (some ⟨g1,o1,none⟩) l.length c,.slice (some ⟨g2,o2,none⟩) m.length d] w;rw [h] at h2;exact h2
 refine zB rfl (zJ (hK _ ?_));exact zP (zG () rfl (λ_ _ _=>trivial) zU)
def gr_idB{g t:Nat}{x:GrV}{w:yp}(h:ObjF g t x.parts w):Rd 1 eB (some ⟨g,0,none⟩) 32 x.id w:=rd_in h.1 x.h32 (by decide) λj v hj=>by
 have e:(catP x.parts).toList=By x.id++[.slice x.k.A x.k.l.length x.k.c,.slice x.U x.more.length x.u]:=by simp [catP,GrV.parts,Pt.cells,SC.den]
 rw [<-c9,e,aY,cW (aP.1 hj).1];exact hj
def growth1_S(x y:GrV):Spec 63 [(eGr x).den,(eGr y).den] [] (λ_=>True) (one (.v (.int .i64 (cO x.id y.id)))):=by refine zQ [eGr x,eGr y] 10 func63 rfl (by rw [ntmps63];rfl) (two_ok x.parts_ok y.parts_ok) λb=>?_;refine zC rfl λK0 hK0=>zB rfl (l_give 3 (E':=[(2,.a 2 0)]) rfl ⟨rfl,trivial⟩ λg3=>l_objOut 0 rfl (l_give 2 (E':=[(3,.v (.pointer (some ⟨g3,0,none⟩)))]) rfl ⟨rfl,trivial⟩ λg2=>l_objOut 0 rfl (zJ (hK0 _ ?_))));have hb:=bCmp_S (A:=some ⟨g2,0,none⟩) (B:=some ⟨g3,0,none⟩) (c:=32) (d:=32) (l:=x.id) (m:=y.id) (by rw [x.h32];decide) (by rw [y.h32];decide);rw [x.h32,y.h32] at hb;refine s_regH 5 (by decide) (by kernel_rfl) (by kernel_rfl) λK hK G S w0 hst=>?_;refine zV hst rfl (h_op hst (.v (.slice (some ⟨g2,0,none⟩) 32 32)) trivial rfl rfl rfl rfl (runO_allQ rfl underlying47 rfl rfl) (zV hst rfl (h_op hst (.v (.slice (some ⟨g3,0,none⟩) 32 32)) trivial rfl rfl rfl rfl (runO_allQ rfl underlying47 rfl rfl) ?_)));refine h_callS (F':=λw=>Rd 1 eB (some ⟨g2,0,none⟩) 32 x.id w/\Rd 1 eB (some ⟨g3,0,none⟩) 32 y.id w) (r:=.v (.int .i64 (cO x.id y.id))) hst [.slice (some ⟨g2,0,none⟩) 32 32,.slice (some ⟨g3,0,none⟩) 32 32] rfl rfl rfl rfl (λ_ _=>by go_simp) rfl rfl (λ_=>rfl) trivial hb (λ_ _ _ hv=>⟨gr_idB hv.fact.1,gr_idB hv.fact.2.1⟩) ?_;refine h_end hst (zB rfl (zJ (hK _ ?_)));exact zP (zG () rfl (λ_ _ _=>trivial) zU)
abbrev GrS(A:zt)(c:Nat)(l:yv):Res:=OwnS 0 60 34 eGr A c l
abbrev cmpG:Value:=.func (.func 63) #[] #[]
abbrev ltG(a b:GrV):Prop:=dG a.id b.id=true
structure InX where
  p:yv
  x:GrV
  r:yv
  q:yv
def InX.l(s:InX):yv:=s.p++s.x::(s.r++s.q)
structure InX.Ok(vs:yv)(i:Nat)(s:InX):Prop where
  perm:s.l.Perm vs
  i:s.p.length+s.r.length=i
  pr:(s.p++s.r).Pairwise ltG
  xr:∀y∈s.r,ltG s.x y
def InX.swap(p:yv)(y x:GrV)(r q:yv):((InX.l ⟨p++[y],x,r,q⟩).set (p.length+1) y).set p.length x=InX.l ⟨p,x,y::r,q⟩/\((InX.l ⟨p++[y],x,r,q⟩).set p.length x).set (p.length+1) y=InX.l ⟨p,x,y::r,q⟩:=by constructor<;>simp [InX.l]
def InX.at_(s:InX):s.l[s.p.length]?=some s.x:=by simp [InX.l]
def InX.at1(p:yv)(y x:GrV)(r q:yv):(InX.l ⟨p++[y],x,r,q⟩)[p.length]?=some y:=by simp [InX.l]
def InX.step{vs:yv}{i:Nat}{p:yv}{y x:GrV}{r q:yv}(h:InX.Ok vs i ⟨p++[y],x,r,q⟩)(hxy:ltG x y):InX.Ok vs i ⟨p,x,y::r,q⟩:=by
 refine⟨?_,?_,?_,λz hz=>?_⟩
 .refine List.Perm.trans ?_ h.perm;show(p++x::(y::r++q)).Perm ((p++[y])++x::(r++q));rw [aT];exact List.Perm.append_left p (jF y x (r++q))
 .have:=h.i;simp only [aA,a6,List.length_nil] at this ⊢;omega
 .have:=h.pr;simpa [aT] using this
 .rcases aH.1 hz with rfl|hz
  .exact hxy
  .exact h.xr z hz
def InX.stay{vs:yv}{i:Nat}{s:InX}(h:s.Ok vs i)(hx:∀y,s.p.getLast?=some y->ltG y s.x):(s.l.take (i+1)).Pairwise ltG:=by
 obtain⟨p,x,r,q⟩:=s;have hi:=h.i;have e:(InX.l ⟨p,x,r,q⟩).take (i+1)=p++x::r:=by
  have h1:(p++x::r).length=i+1:=by simp only [aA,a6];show p.length+(r.length+1)=_;have:p.length+r.length=i:=hi;omega
  show(p++x::(r++q)).take (i+1)=_;rw [show p++x::(r++q)=(p++x::r)++q by simp,<-h1,List.take_left]
 rw [e];have hpr:(p++r).Pairwise ltG:=h.pr;obtain⟨h1,h2,h3⟩:=lX.1 hpr;refine lX.2 ⟨h1,cH.2 ⟨h.xr,h2⟩,λa ha b hb=>?_⟩;rcases aH.1 hb with rfl|hb
 .rcases uX p with rfl|⟨p',y,rfl⟩
  .cases ha
  .have hy:=hx y (by simp)
   rw [uY] at ha h1;rcases bK.1 ha with ha|ha
   .exact gT ((lX.1 h1).2.2 a ha y (.head _)) hy
   .rw [aD.1 ha];exact hy
 .exact h3 a ha b hb
section
variable{α:Type}{fe:α->SQ}{l:List α}{P:Program}{b:Base}{ops:zp}{Q:zx}{N:Nat}{E:SE}{L:ze}{R:zd}{F M:zv}{o:Oper}{rest:zo}{t e:TypeId}{x z:Operand}{lo c sz g:Nat}
def l_stEl(i j:Nat)(u u':α)(hi:R[i]?=some (OwnS lo e sz fe (some ⟨g,0,none⟩) c l))(hg:o.guard=none)(hd:o.dst=none)(ho:o.op = .store t x z)(hx:evS E x=some (.v (.pointer (some ⟨g,sz*j+0,none⟩))))(hz:evS E z=some (.q (fe u')))(hj:l[j]?=some u)(ht:(P.info? t).map (·.size)=some sz)(hu:(fe u).cl.length=sz)(hu':OkP (fe u').parts1/\(fe u').cl.length=sz)
 (hc:lS P b ops Q N rest ⟨E,L,R.set i (OwnS lo e sz fe (some ⟨g,0,none⟩) c (l.set j u')),F,M⟩):lS P b ops Q N (o::rest) ⟨E,L,R,F,M⟩ :=
 l_stFd i j 0 sz u u' hi hg hd ho hx hz hj ht hu'.2 (SQ.cl_one hu'.1) (by rw [cT (by omega)];simp) (by omega) hu' hc
end
def InX.start{vs l:yv}{i:Nat}{x:GrV}(hp:l.Perm vs)(hs:(l.take i).Pairwise ltG)(hx:l[i]?=some x):InX.l ⟨l.take i,x,[],l.drop (i+1)⟩=l/\InX.Ok vs i ⟨l.take i,x,[],l.drop (i+1)⟩:=by
 have hlt:=(aP.1 hx).1;have e:InX.l ⟨l.take i,x,[],l.drop (i+1)⟩=l:=by
  show l.take i++x::([]++l.drop (i+1))=l;rw [cR];have h1:l.drop i=x::l.drop (i+1):=by rw [dZ hlt,(aP.1 hx).2]
  rw [<-h1,b6]
 refine⟨e,by rw [e];exact hp,?_,by rw [bC];exact hs,λy hy=>(by cases hy)⟩;show(l.take i).length+0=i;rw [aV];omega
def insG_S{A:zt}{c:Nat}(vs:yv)(hap:(vs.map GrV.id).Nodup)(h12:vs.length<=12):Spec 193 [.slice A vs.length c,.int .i64 0,.int .i64 (vs.length:Int),cmpG] [GrS A c vs] (λ_=>True) { ret:=λ_=>.t [],own:=λx:{ l:yv // l.Perm vs/\l.Pairwise ltG }=>[GrS A c x.1] }:=by
 refine zQ [.c (.v (.slice A vs.length c)),.c (.v (.int .i64 0)),.c (.v (.int .i64 (vs.length:Int))),.c (.v cmpG)] 53 func193 rfl (by rw [ntmps193];rfl) (more_ok trivial (more_ok trivial (two_ok trivial trivial))) λb=>?_;refine zA rfl (zN ?_);let F:Nat×yv->Env:=λs=>⟨[(8,.v (.int .i64 (s.1:Int))),(0,.v (.slice A vs.length c)),(1,.v (.int .i64 0)),(2,.v (.int .i64 (vs.length:Int))),(3,.v cmpG)],[],[GrS A c s.2],λ_=>True,λ_=>True⟩;refine c_weak (e':=F (1,vs)) ⟨zE rfl, trivial, .refl _,λ_ h _=>trivial,λ_ h=>h⟩ (s_loop (λs=>vs.length-s.1) F (λs=>1<=s.1/\s.2.Perm vs/\(s.2.take s.1).Pairwise ltG) ?_ (1,vs) ⟨aF _,.refl _,by cases vs<;>simp⟩);rintro⟨i,l⟩ ⟨hi,hp,hso⟩;dsimp only at hi hp hso;have hll:=hp.length_eq;refine zM λK1 hK1=>zA rfl ?_;refine zW ((i:Int)<(vs.length:Int)) rfl (λhlt=>?_) (λhge=>?_)
 .have hlt:i<vs.length:=by omega
  obtain⟨x,hx⟩:∃x,l[i]?=some x:=⟨_,aJ (by omega)⟩;obtain⟨hl0,hok0⟩:=InX.start hp hso hx;refine zO (hK1 _ (zM λK2 hK2=>zN (zA rfl (zN ?_))));let F2:InX->Env:=λs=>⟨[(9,.v (.int .i64 (s.p.length:Int))),(8,.v (.int .i64 (i:Int))),(0,.v (.slice A vs.length c)),(1,.v (.int .i64 0)),(2,.v (.int .i64 (vs.length:Int))),(3,.v cmpG)],[],[GrS A c s.l],λ_=>True,λ_=>True⟩;have hti:(l.take i).length=i:=by rw [aV];omega
  refine c_weak (e':=F2 ⟨l.take i,x,[],l.drop (i+1)⟩) ⟨⟨by show lookS _ 9=some (.v (.int .i64 (((l.take i).length:Nat):Int)));rw [hti];rfl,rfl,rfl,rfl,rfl,rfl,trivial⟩,trivial,by show lN _ [GrS A c (InX.l ⟨l.take i,x,[],l.drop (i+1)⟩)];rw [hl0],λ_ h _=>trivial,λ_ h=>h⟩ (s_loop (λs=>s.p.length) F2 (λs=>s.Ok vs i) ?_ ⟨l.take i,x,[],l.drop (i+1)⟩ hok0);rintro⟨p,x,r,q⟩ hok;have hsl:(InX.l ⟨p,x,r,q⟩).length=vs.length:=hok.perm.length_eq;have hpi:p.length+r.length=i:=hok.i;have hstay:(∀y,p.getLast?=some y->ltG y x)->∀e,Weak e (F2 ⟨p,x,r,q⟩)->kS b K2 53 e:=by intro hst e hw;refine k_weak hw (hK2 _ (zD rfl ?_));exact zX (i+1,InX.l ⟨p,x,r,q⟩) ⟨by show 1<=i+1;omega,hok.perm,InX.stay hok hst⟩ (by show vs.length-(i+1)<vs.length-i;omega) ⟨⟨congrArg some (congrArg SV.v (congrArg (cG .i64) (wrapI rfl (by omega) (by omega)))),rfl,rfl,rfl,rfl,trivial⟩,trivial,.refl _,λ_ h _=>h,λ_ h=>h⟩
  refine zM λK3 hK3=>?_;rcases uX p with rfl|⟨p,y,hpe⟩
  .refine s_regH 17 (by decide) (by kernel_rfl) (by kernel_rfl) λK4 hK4 G S w0 hst=>?_;refine zV hst rfl ?_;refine h_is 21 false rfl (by simp) ?_;refine zV hst rfl (h_end hst (zJ (hK4 _ (s_no rfl (s_exit (zS (zS (k_out ?_))))))));exact hstay (λy hy=>by cases hy) _ ⟨zE rfl, trivial, .refl _,λ_ h _=>h,λ_ h=>h⟩
  rw [uY] at hpe;subst hpe;have hpl:(p++[y]).length=p.length+1:=by simp
  rw [hpl] at hpi;have hne:x.id≠y.id:=by
   have h1:=(hok.perm.map GrV.id).nodup_iff.2 hap;intro e;have h2:(InX.l ⟨p++[y],x,r,q⟩).map GrV.id=p.map GrV.id++y.id::x.id::((r++q).map GrV.id):=by simp [InX.l]
   rw [h2] at h1;have h3:=(sP.1 h1).2.1;exact(fV.1 h3).1 (by rw [e];exact .head _)
  have hw1:IntKind.i64.wrap (((p++[y]).length:Int)-1)=(p.length:Int):=wrapI (by rw [hpl];omega) (by omega) (by omega);obtain⟨v,t,hv,ht,hty,htn⟩:∃(v:Int) (t:Bool),cO x.id y.id=v/\decide (v<0)=t/\(t=true->ltG x y)/\(t=false->ltG y x):=by
   cases hxy:dG x.id y.id with
   | true=>exact⟨-1,true,cmp_more hxy,rfl,λ_=>hxy,λh=>by cases h⟩
   | false =>
    have hyx:dG y.id x.id=true:=gU (by rw [x.h32,y.h32]) hxy hne;exact⟨1,false,cmp_less hyx,rfl,λh=>(by cases h),λ_=>hyx⟩
  have hlen:=vs.length;refine s_regH 17 (by decide) (by kernel_rfl) (by kernel_rfl) λK4 hK4 G S w0 hst=>?_;refine zV hst rfl ?_;refine h_is 21 true rfl (by rw [hpl];exact decide_eq_true (by omega)) ?_;refine zV hst rfl (g_elem (b:=b) zY hst rfl rfl rfl (p++[y]).length rfl (InX.at_ ⟨p++[y],x,r,q⟩) hsl.symm rfl (rd_own 0 rfl) (h_auto (Fa:=[]) zY hst rfl (g_elem (b:=b) zY hst rfl rfl rfl p.length hw1 (InX.at1 p y x r q) hsl.symm rfl (rd_own 0 rfl) (h_auto (Fa:=[]) zY hst rfl ?_))));refine h_callV (Fa:=[]) (F':=λ_=>True) (caps:=[]) (r:=.v (.int .i64 (cO x.id y.id))) hst [(eGr x).den,(eGr y).den] rfl rfl rfl rfl (λ_ _=>by go_simp) rfl rfl rfl rfl trivial (growth1_S x y) (λ_ _ _ _=>trivial) ?_;refine h_num 32 v rfl hv (zV hst rfl (h_is 34 t rfl ht (h_end hst (zJ (hK4 _ ?_)))));cases t with
  | false =>
   refine s_no rfl (s_exit (zS (zS (k_out ?_))));exact hstay (λz hz=>by rw [List.getLast?_concat] at hz;rw [<-bQ hz];exact htn rfl) _ ⟨zE rfl, trivial, .refl _,λ_ h _=>h,λ_ h=>h⟩
  | true =>
  have hxy:=hty rfl;refine s_yes rfl (zO (hK3 _ ?_));refine s_where 0 rfl (by rw [hsl];omega) λg hA=>?_;subst hA;refine zM λK5 hK5=>zN ?_;have hfin:∀e,Weak e ⟨[(9,.v (.int .i64 ((p++[y]).length:Int))),(8,.v (.int .i64 (i:Int))),(0,.v (.slice (some ⟨g,0,none⟩) vs.length c)),(1,.v (.int .i64 0)),(2,.v (.int .i64 (vs.length:Int))),(3,.v cmpG)],[],[GrS (some ⟨g,0,none⟩) c (InX.l ⟨p,x,y::r,q⟩)],λ_=>True,λ_=>True⟩->kS b K5 53 e:=by intro e hw;refine k_weak hw (hK5 _ (zD rfl ?_));exact zX ⟨p,x,y::r,q⟩ (InX.step hok hxy) (by show p.length<(p++[y]).length;omega) ⟨⟨congrArg (λz=>some (SV.v (.int .i64 z))) hw1,rfl,rfl,rfl,rfl,rfl,trivial⟩,trivial,.refl _,λ_ h _=>h,λ_ h=>h⟩
  have hsw:=(InX.swap p y x r q).1;have hxj:(InX.l ⟨p++[y],x,r,q⟩)[p.length+1]?=some x:=by rw [<-hpl];exact InX.at_ ⟨p++[y],x,r,q⟩
  have hyj:((InX.l ⟨p++[y],x,r,q⟩).set (p.length+1) y)[p.length]?=some y:=by rw [List.getElem?_set_ne (by omega)];exact InX.at1 p y x r q
  refine s_anyP [0,1,2,3,4,5,6,7,8,10,11,12] 16 2 (InvL []) (by kernel_rfl) rfl (λ_ _ _ _ h=>by cases h) ?_;refine z9 0 (by kernel_rfl) rfl (λ_ h=>by cases h) ?_;refine z9 1 (by kernel_rfl) rfl (λ_ h=>by cases h) ?_;refine z9 2 (by kernel_rfl) rfl (λ_ h=>by cases h) ?_;refine z9 3 (by kernel_rfl) rfl (λ_ h=>by cases h) ?_;refine z9 4 (by kernel_rfl) rfl (λ_ h=>by cases h) ?_;refine z9 5 (by kernel_rfl) rfl (λ_ h=>by cases h) ?_;refine z9 6 (by kernel_rfl) rfl (λ_ h=>by cases h) ?_;refine z9 7 (by kernel_rfl) rfl (λ_ h=>by cases h) ?_;refine p_frontO (.v (.pointer (some ⟨g,0+34*p.length,none⟩))) trivial 8 (by kernel_rfl) rfl rfl rfl rfl rfl (runO_ixS p.length rfl underlying54 rfl rfl (congrArg (λz=>some (SV.v (.int .i64 z))) hw1) (by omega)) ?_;refine z9 10 (by kernel_rfl) rfl (λ_ h=>by cases h) ?_;refine z9 11 (by kernel_rfl) rfl (λ_ h=>by cases h) ?_;refine p_frontO (.v (.pointer (some ⟨g,0+34*(p.length+1),none⟩))) trivial 12 (by kernel_rfl) rfl rfl rfl rfl rfl (runO_ixS (p.length+1) rfl underlying54 rfl rfl (congrArg (λz=>some (SV.v (.int .i64 z))) (by rw [hpl])) (by omega)) ?_;refine p_step2 9 13 (by kernel_rfl) rfl rfl (λKa hKa=>?_) (λKa hKa=>?_)
  .refine l_opV (.q (eGr y)) y.parts_ok rfl rfl rfl (run_ldEl (fe:=eGr) (a:=0) (off:=0) (j:=p.length) zY rfl rfl (InX.at1 p y x r q) rfl y.parts_ok (rd_own 0 rfl)) ?_;refine zJ (hKa _ (λ_ _ _ _ h=>by cases h) ?_);refine p_step 13 (by kernel_rfl) rfl λKb hKb=>?_;refine l_opV (.q (eGr x)) x.parts_ok rfl rfl rfl (run_ldEl (fe:=eGr) (a:=0) (off:=0) (j:=p.length+1) zY rfl rfl hxj rfl x.parts_ok (rd_own 0 rfl)) ?_;refine zJ (hKb _ (λ_ _ _ _ h=>by cases h) ?_);refine p_step 14 (by kernel_rfl) rfl λKc hKc=>?_;refine l_op (.v (.pointer (some ⟨g,0+34*(p.length+1),none⟩))) trivial rfl rfl rfl (runO_ixS (p.length+1) rfl underlying54 rfl rfl (congrArg (λz=>some (SV.v (.int .i64 z))) (by rw [hpl])) (by omega)) ?_;refine zJ (hKc _ (λ_ _ _ _ h=>by cases h) ?_);refine p_step 15 (by kernel_rfl) rfl λKd hKd=>?_;refine l_stEl 0 (p.length+1) x y rfl rfl rfl rfl (congrArg (λz:Nat=>some (SV.v (.pointer (some ⟨g,z,none⟩)))) (show 0+34*(p.length+1)=34*(p.length+1)+0 by omega)) rfl hxj (by kernel_rfl) (eGr_ok x).2 (eGr_ok y) ?_;refine zJ (hKd _ (λ_ _ _ _ h=>by cases h) ?_);refine p_tail [16,17] (by kernel_rfl) rfl ?_;refine l_op (.v (.pointer (some ⟨g,0+34*p.length,none⟩))) trivial rfl rfl rfl (runO_ixS p.length rfl underlying54 rfl rfl (congrArg (λz=>some (SV.v (.int .i64 z))) hw1) (by omega)) ?_;refine l_stEl 0 p.length y x rfl rfl rfl rfl (congrArg (λz:Nat=>some (SV.v (.pointer (some ⟨g,z,none⟩)))) (show 0+34*p.length=34*p.length+0 by omega)) rfl hyj (by kernel_rfl) (eGr_ok y).2 (eGr_ok x) ?_;refine zJ (hfin _ ⟨⟨rfl,rfl,rfl,rfl,rfl,rfl,trivial⟩,trivial,?_,λ_ h _=>h, zU⟩);show lN [GrS (some ⟨g,0,none⟩) c _] _;rw [hsw]
  .refine l_opV (.q (eGr x)) x.parts_ok rfl rfl rfl (run_ldEl (fe:=eGr) (a:=0) (off:=0) (j:=p.length+1) zY rfl rfl hxj rfl x.parts_ok (rd_own 0 rfl)) ?_;refine zJ (hKa _ (λ_ _ _ _ h=>by cases h) ?_);refine p_step 9 (by kernel_rfl) rfl λKb hKb=>?_;refine l_opV (.q (eGr y)) y.parts_ok rfl rfl rfl (run_ldEl (fe:=eGr) (a:=0) (off:=0) (j:=p.length) zY rfl rfl (InX.at1 p y x r q) rfl y.parts_ok (rd_own 0 rfl)) ?_;refine zJ (hKb _ (λ_ _ _ _ h=>by cases h) ?_);refine p_step 14 (by kernel_rfl) rfl λKc hKc=>?_;refine l_op (.v (.pointer (some ⟨g,0+34*(p.length+1),none⟩))) trivial rfl rfl rfl (runO_ixS (p.length+1) rfl underlying54 rfl rfl (congrArg (λz=>some (SV.v (.int .i64 z))) (by rw [hpl])) (by omega)) ?_;refine zJ (hKc _ (λ_ _ _ _ h=>by cases h) ?_);refine p_step 15 (by kernel_rfl) rfl λKd hKd=>?_;refine l_stEl 0 (p.length+1) x y rfl rfl rfl rfl (congrArg (λz:Nat=>some (SV.v (.pointer (some ⟨g,z,none⟩)))) (show 0+34*(p.length+1)=34*(p.length+1)+0 by omega)) rfl hxj (by kernel_rfl) (eGr_ok x).2 (eGr_ok y) ?_;refine zJ (hKd _ (λ_ _ _ _ h=>by cases h) ?_);refine p_tail [16,17] (by kernel_rfl) rfl ?_;refine l_op (.v (.pointer (some ⟨g,0+34*p.length,none⟩))) trivial rfl rfl rfl (runO_ixS p.length rfl underlying54 rfl rfl (congrArg (λz=>some (SV.v (.int .i64 z))) hw1) (by omega)) ?_;refine l_stEl 0 p.length y x rfl rfl rfl rfl (congrArg (λz:Nat=>some (SV.v (.pointer (some ⟨g,z,none⟩)))) (show 0+34*p.length=34*p.length+0 by omega)) rfl hyj (by kernel_rfl) (eGr_ok y).2 (eGr_ok x) ?_;refine zJ (hfin _ ⟨⟨rfl,rfl,rfl,rfl,rfl,rfl,trivial⟩,trivial,?_,λ_ h _=>h, zU⟩);show lN [GrS (some ⟨g,0,none⟩) c _] _;rw [hsw]
 .refine s_exit (zS (zS (k_out ?_)))
  refine zG (⟨l,hp,?_⟩:{ l:yv // l.Perm vs/\l.Pairwise ltG }) rfl (λ_ _ _=>trivial) zU
  rwa [bJ (by omega)] at hso
abbrev srtP(A:zt)(c:Nat)(vs:yv):Post { l:yv // l.Perm vs/\l.Pairwise ltG }:={ ret:=λ_=>.t [],own:=λx=>[GrS A c x.1] }
def pdqG_S{A:zt}{c:Nat}(vs:yv)(hap:(vs.map GrV.id).Nodup)(h12:vs.length<=12)(r:Nat):Spec 145 [.slice A vs.length c,.int .i64 0,.int .i64 (vs.length:Int),.int .i64 (r:Int),cmpG] [GrS A c vs] (λ_=>True) (srtP A c vs):=by refine zQ [.c (.v (.slice A vs.length c)),.c (.v (.int .i64 0)),.c (.v (.int .i64 (vs.length:Int))),.c (.v (.int .i64 (r:Int))),.c (.v cmpG)] 148 func145 rfl (by rw [ntmps145];rfl) (more_ok trivial (more_ok trivial (more_ok trivial (two_ok trivial trivial)))) λb=>?_;refine zA rfl (zA rfl (zN ?_));let F:Unit->Env:=λ_=>⟨[(11,.v (.bool true)),(10,.v (.bool true)),(0,.v (.slice A vs.length c)),(1,.v (.int .i64 0)),(2,.v (.int .i64 (vs.length:Int))),(3,.v (.int .i64 (r:Int))),(4,.v cmpG)],[],[GrS A c vs],λ_=>True,λ_=>True⟩;refine c_weak (e':=F ()) ⟨zE rfl, trivial, .refl _,λ_ h _=>trivial,λ_ h=>h⟩ (s_loop (λ_=>0) F (λ_=>True) ?_ () trivial);intro _ _;refine zN (zA rfl ?_);refine c_weak (e':=⟨[(12,.v (.int .i64 (vs.length:Int))),(0,.v (.slice A vs.length c)),(1,.v (.int .i64 0)),(2,.v (.int .i64 (vs.length:Int))),(4,.v cmpG)],[],[GrS A c vs],λ_=>True,λ_=>True⟩) ⟨⟨congrArg some (congrArg SV.v (congrArg (cG .i64) (wrapI (m:=((vs.length:Nat):Int)-0) (by omega) (by omega) (by omega)))),rfl,rfl,rfl,rfl,trivial⟩,trivial,.refl _,λ_ h _=>h, zU⟩ ?_;refine zM λK1 hK1=>zA rfl ?_;refine zW ((vs.length:Int)<=12) rfl (λ_=>?_) (λh=>absurd h (by omega));refine zC rfl λK2 hK2=>?_;refine zI (own:=[GrS A c vs]) (R':=[]) [.slice A vs.length c,.int .i64 0,.int .i64 (vs.length:Int),cmpG] (λ_ _=>by go_simp) rfl (insG_S vs hap h12) (λ_ _ _=>trivial) λx=>?_;exact zJ (hK2 _ (zP (zG x rfl (λ_ _ _=>trivial) zU)))
def sortG_S{A:zt}{c:Nat}(vs:yv)(hap:(vs.map GrV.id).Nodup)(h12:vs.length<=12):Spec 105 [.slice A vs.length c,cmpG] [GrS A c vs] (λ_=>True) (srtP A c vs):=by refine zQ [.c (.v (.slice A vs.length c)),.c (.v cmpG)] 14 func105 rfl (by rw [ntmps105];rfl) (two_ok trivial trivial) λb=>?_;refine zA rfl (s_lit (zB rfl ?_));refine l_num 10 (vs.length:Int) rfl (by show((vs.length:Nat):Int)%18446744073709551616=_;omega) ?_;refine z6 [.int .u64 (vs.length:Int)] (λ_ _=>by go_simp) rfl (len_S (by omega)) (λ_ _ _=>trivial) λr=>?_;refine zB rfl ?_;refine zI (own:=[GrS A c vs]) (R':=[]) [.slice A vs.length c,.int .i64 0,.int .i64 (vs.length:Int),.int .i64 ((r.1:Nat):Int),cmpG] (λ_ _=>by go_simp) rfl (pdqG_S vs hap h12 r.1) (λ_ _ _=>trivial) λx=>?_;refine zJ ?_;exact zG x rfl (λ_ _ _=>trivial) zU
section
variable{ro:zh}{n:Nat}{b:Base}{ops:zp}{Q:zx}{N:Nat}{e e':Env}{E:SE}{L:ze}{R1 R':zd}{F M:zv}{l:zo}
def t_star(h:tS ro n b ops Q N l ⟨E,L,StarR R1::R',F,M⟩):tS ro n b ops Q N l ⟨E,L,R1++R',F,M⟩:=λa w ⟨G,S,h1,h2,h3⟩=>h a w ⟨G,S,h1,h2,{ h3 with res:=starR.2 h3.res }⟩
def t_weak(hw:Weak e e')(h:tS ro n b ops Q N l e'):tS ro n b ops Q N l e:=λa w hs=>h a w (hs.weak hw)
end
def dall_S(d:DirV):Spec 56 [(eDv d).den] [] (λ_=>True) { ret:=λg:Nat=>.v (.func (.func 97) #[] #[.pointer (some ⟨g,0,none⟩)]),own:=λ_=>[],p:=λg=>ObjF g 33 d.parts }:=by refine zQ [.p d.parts] 4 func56 rfl (by rw [ntmps56];rfl) (one_ok d.parts_ok) λb=>?_;refine zC rfl λK hK=>l_give 1 (E':=[]) rfl trivial λg=>l_objOut 0 rfl (zJ (hK _ (zC rfl λK2 hK2=>l_op (.v (.func (.func 97) #[] #[.pointer (some ⟨g,0,none⟩)])) trivial rfl rfl rfl (run_makeF rfl rfl (λ_=>rfl)) (zB rfl (zJ (hK2 _ ?_))))));exact zP (zG g rfl (λ_ h _=>h.1) zU)
theorem pairs_at{l:zc}{j:Nat}{p:PairT}(h:(pairsD l)[j]?=some p):∃e,l[j]?=some e/\p.1=e.1:=by
 unfold pairsD at h;rw [cE] at h;cases he:l[j]? with
 | none=>rw [he] at h;cases h
 | some e =>
  rw [he] at h
  injection h with h
  exact⟨e,rfl,by rw [<-h];rfl⟩
def keysD_at{l:zc}(h:DirOk l){j:Nat}{e:EntD}(he:l[j]?=some e):bO l e.1=e.2:=mX (h.sort.imp λhab e=>by rw [e,cY] at hab;cases hab) (aR he)
def dall1_S(l gb:Nat)(Fy:zv)(JR:Nat->Res)(JX:Res){d:DirV}(hd:d.Ok)(hy:∀(j:Nat) (e:EntD) (y:PX),d.l[j]?=some e->YSpec l [(eY 32 e.1).den,.slice y.1 e.2.length y.2] Fy (StarR ([KyS y.1 y.2 e.2]++[JR j])) (JR (j+1)) JX) :
  Spec 97 [.func (.yield l) #[] #[],.pointer (some ⟨gb,0,none⟩)] [JR 0] (λw=>(ObjF gb 33 d.parts w/\d.F w)/\Fy w) (epost (JR d.l.length) JX):=by
 refine spec_D [.c (.v (.func (.yield l) #[] #[])),.c (.v (.pointer (some ⟨gb,0,none⟩)))] 16 func97 rfl (by rw [ntmps97];rfl) (two_ok trivial trivial) λb=>?_;have hall:d.t.all=pairsD d.l:=hd.tree.all_eq (DirOk.pairs hd.dir).1 (DirOk.pairs hd.dir).2 sharesD0 (aF _);have hplen:(pairsD d.l).length=d.l.length:=aX ..;refine d_auto zY rfl (d_regA zY rfl λK hK=>zB rfl (zZ rfl (obj_fact λ_ h _=>h.1.1) ?_));refine z6 [(eTr d.t 0).den] (λ_ _=>by go_simp) rfl (tAll_S d.t 0) (λ_ _ _=>trivial) λgt=>?_;refine d_end (hK _ (d_block ?_))
 let E0:SE:=[(6,.v (.func (.func 127) #[] #[.pointer (some ⟨gt,0,none⟩)])),(2,.a 2 0),(1,.v (.pointer (some ⟨gb,0,none⟩)))]
 let Lf:zh->ze:=λ_=>[⟨2,none,180,[.one (.v (.func (.yield l) #[] #[]))]⟩]
 let Rf:zh->zd:=λs=>match s with
  | some j=>[JR j]
  | none=>[JX]
 refine d_weak (e':=⟨E0,Lf (some 0),Rf (some 0),λw=>(ObjF gt 31 (trPs d.t 0) w/\TF d.t w)/\(ObjF gb 33 d.parts w/\d.F w)/\Fy w,λ_=>True⟩) ⟨zE rfl, zL rfl rfl, .refl _,λ_ h _=>⟨⟨h.1,h.2.1.2.2.2⟩,h.2⟩, zU⟩ ?_;refine d_range (pairsD d.l) (λp=>eY 32 p.1) (λp=>eY 32 p.2) Lf Rf (λj s=>s=some j) (λc s=>c=none/\s=none) (some 0) (λw=>ObjF gt 31 (trPs d.t 0) w/\TF d.t w) (lb:=[.pointer (some ⟨gt,0,none⟩)]) rfl (λ_ _=>by go_simp) (λ_=>rfl) (λx hx=>⟨(eY_ok (pairs_ok hd.dir x hx).1).1,(eY_ok (pairs_ok hd.dir x hx).2).1⟩) rfl rfl (λ_ h _=>h.1) (λy Fz JR2 JX2 hz=>?_) rfl ?_ ?_ ?_
 .have:=tAll1_S y gt Fz JR2 JX2 d.t (by rw [hall];exact hz);rw [hall] at this;exact this
 .rintro G y D m ready busy b1 j s p rfl hp K6 hK6
  obtain⟨e,he,hpe⟩:=pairs_at hp;have hid:=hd.dir.ids e (aR he);have hke:=dkeys_S hd hid;rw [keysD_at hd.dir he] at hke;refine r_lit rfl (zB rfl (zJ (k_give 3 rfl (E':=[(2,.a 2 0),(1,.v (.pointer (some ⟨gb,0,none⟩)))]) ⟨rfl,rfl,trivial⟩ λg3=>k_objOut 0 rfl (hK6 _ _ _ _ _ (r_block (r_seq λK7 hK7=>?_))))));refine r_anyP [0,1,2,3] 5 2 (λw=>InvL [⟨2,some (G 2),180,[.one (.v (.func (.yield l) #[] #[]))]⟩] w/\ObjF gb 33 d.parts w/\ObjF g3 47 [.agg 32 (By p.1).toArray] w) (by kernel_rfl) rfl rfl (inv_two (λx hx=>⟨hx,by rw [aD.1 hx];rfl⟩) λ_ h _=>⟨h.2.1.2.1.1,h.1⟩) ?_;have hp32:=(pairs_ok hd.dir p (aR hp)).1;have hok3:OkP [.agg 32 (By p.1).toArray]:=(eY_ok hp32).1;refine p_frontA (L0:=[⟨2,some (G 2),180,[.one (.v (.func (.yield l) #[] #[]))]⟩]) (.v (.func (.yield l) #[] #[])) trivial 0 (by kernel_rfl) rfl rfl rfl rfl rfl (λ_ h=>h) (λ_ h=>h.1) (runO_ldL _ rfl rfl rfl rfl underlying180 rfl) ?_;refine p_ldO zY 1 (by kernel_rfl) rfl rfl rfl rfl rfl rfl rfl hok3 (λ_ h=>h.2.2) ?_;refine p_ldO zY 2 (by kernel_rfl) rfl rfl rfl rfl rfl rfl rfl d.parts_ok (λ_ h=>h.2.1) ?_;refine p_ldO zY 3 (by kernel_rfl) rfl rfl rfl rfl rfl rfl rfl hok3 (λ_ h=>h.2.2) ?_;refine p_step 4 (by kernel_rfl) rfl λK8 hK8=>?_;refine l_call0 [(eDv d).den,(eY 32 e.1).den] rfl rfl rfl own_dkeys rfl rfl (λ_ _=>by rw [<-hpe];rfl) hke (λ_ h _=>h.2.1.2.1.2) λx=>?_;refine zJ (hK8 _ (inv_two (λx hx=>⟨hx,by rw [aD.1 hx];rfl⟩) λ_ h _=>⟨h.2.2.1.2.1.1,h.2.1⟩) ?_);refine p_tailR [5,6] (by kernel_rfl) rfl ?_;refine t_weak (e':=⟨[(9,.v (.func (.yield l) #[] #[])),(10,.q (eY 32 p.1)),(13,.v (.slice x.1 e.2.length x.2)),(2,.a 2 0)],[⟨2,some (G 2),180,[.one (.v (.func (.yield l) #[] #[]))]⟩],[KyS x.1 x.2 e.2,JR j]++[LoopR y busy,DefR D],Fy,λ_=>True⟩) ⟨zE rfl, ⟨rfl,rfl,trivial⟩,?_,λ_ h _=>h.2.2.1.2.2, zU⟩ (t_star ?_)
  .exact(List.Perm.cons _ (kN (l₁:=[LoopR y busy,DefR D]) (a:=JR j) (l₂:=[])))
  refine t_yield (R':=[LoopR y busy,DefR D]) [(eY 32 e.1).den,.slice x.1 e.2.length x.2] rfl rfl rfl rfl rfl rfl (λ_=>by rw [<-hpe];rfl) (hy j e x he) (λ_ h _=>h) λt=>?_;refine t_list rfl ?_;cases t with
  | true =>
   refine zB rfl (zJ (hK7 _ (r_no rfl ?_)));exact r_skip (k_rnd (Ix:=λc s=>c=none/\s=none) (some (j+1)) rfl ⟨trivial,⟨rfl,rfl,trivial⟩,(kN (l₁:=[LoopR y busy,DefR D]) (a:=JR (j+1)) (l₂:=[])).symm,λ_ _ _=>trivial, zU⟩)
  | false =>
   refine zB rfl (zJ (hK7 _ (r_yes rfl ?_)));exact r_ret (k_jump (I:=λs=>s=some (j+1)) (Ix:=λc s=>c=none/\s=none) none none ⟨rfl,rfl⟩ ⟨trivial,⟨rfl,rfl,trivial⟩,(kN (l₁:=[LoopR y busy,DefR D]) (a:=JX) (l₂:=[])).symm,λ_ _ _=>trivial, zU⟩)
 .rintro s D rfl;rw [hplen];exact k_retM [D] (R:=[JR d.l.length]) (zG true rfl (λ_ _ _=>trivial) zU)
 .rintro c s D ⟨rfl,rfl⟩;exact d_ret (k_retM [D] (R:=[JX]) (zG false rfl (λ_ _ _=>trivial) zU))
abbrev EnX:=zu×HSeg
def eEn(e:EnX):SQ:=.p [.agg 32 (By e.1).toArray,.one (.v (.slice e.2.A e.2.l.length e.2.c))]
def eEn_ok{e:EnX}(h:e.1.length=32):OkP (eEn e).parts1/\(eEn e).cl.length=33:=⟨λp hp=>by
 rcases aH.1 hp with rfl|hp
 .exact(eY_ok h).1 _ aM
 .rw [aD.1 hp];exact⟨trivial,rfl,rfl⟩,by
 show(catP [.agg 32 (By e.1).toArray,.one (.v (.slice e.2.A e.2.l.length e.2.c))]).toList.length=33;rw [catP_cons];simp [Pt.cells,catP,By_len,h]⟩
structure DocV where
  ep:Int
  A:zt
  c:Nat
  es:List EnX
def nextI(i n:Nat)(h:n<=9223372036854775807)(hi:i<n):some (SV.v (.int .i64 (IntKind.i64.wrap ((i:Int)+1))))=some (SV.v (.int .i64 ((i+1:Nat):Int))):=by rw [wrapI (m:=(i:Int)+1) (r:=((i+1:Nat):Int)) (by omega) (by omega) (by omega)]
structure AcV where
  who:Int
  ver:Int
  key:Int
  wr:Bool
  cut:Bool
def AcV.parts(a:AcV):zb:=[.one (.v (.int .i64 a.who)),.one (.v (.int .i64 a.ver)),.one (.v (.int .i64 a.key)),.one (.b a.wr),.one (.b a.cut)]
abbrev eAc(a:AcV):SQ:=.p a.parts
structure BaV where
  A:zt
  c:Nat
  B:zt
  d:Nat
  l:yx
def eUs(p:BaV):SQ:=.c (.v (.slice p.A p.l.length p.c))
def eGs(p:BaV):SQ:=.c (.v (.slice p.B p.l.length p.d))
def eUs_ok(p:BaV):OkP (eUs p).parts1/\(eUs p).cl.length=1:=⟨λx hx=>by rw [aD.1 hx];exact⟨trivial,rfl,rfl⟩,rfl⟩
def eGs_ok(p:BaV):OkP (eGs p).parts1/\(eGs p).cl.length=1:=⟨λx hx=>by rw [aD.1 hx];exact⟨trivial,rfl,rfl⟩,rfl⟩
def BaV.rd(p:BaV)(w:yp):Prop:=Rd 129 eU p.A p.c p.l w/\Rd 1 eT p.B p.d (p.l.map signB) w
instance baPst{p:BaV}:Pst p.rd:=⟨λ_ _ h hb=>⟨h.1.later hb,h.2.later hb⟩⟩
def GoodU(u:UV):Prop:=u.Ok/\∃w:Nat,w<4/\u.id=iC (hB2 (bP w) 77)
abbrev allB(ps:List BaV):yx:=(ps.map (·.l)).flatten
def allB_next(ps:List BaV)(p:BaV):allB (ps++[p])=allB ps++p.l:=by simp [allB]
abbrev TC:MapT Int Int:={ t:=76,kt:=3,vt:=3,kv:=eI,vv:=eI }
abbrev okI(n:Int):Prop:=(Lit.int .i64 n).wf=true
def TC_ok:TC.Ok okI:=mapI_ok underlying76 underlying3 rfl
theorem zeroI:∀w,(zeroValue TC.vt).run prog w = .ok (TC.V 0) w:=λw=>by
 have hi:(prog.info? 3).bind (·.zero)=some (.int .i64 0):=by kernel_rfl
 unfold zeroValue typeInfo;cases h:prog.info? 3 with
 | none=>rw [h] at hi;cases hi
 | some i =>
  rw [h] at hi;have hi:i.zero=some (.int .i64 0):=hi
  simp [h,hi]
  rfl
theorem runO_count{N:Nat}{E:SE}{L:ze}{R:zd}{F M:zv}{o:Oper}{x y:Operand}{m n:Nat}{f:Int->Option Int}(hA:∀G S w,View G S L R F M w->MapA TC okI m n f w)(k:Int)(hk:okI k)(ho:o.op = .lookup TC.t x y false)(hx:evS E x=some (.v (.map (some m))))(hy:evS E y=some (.q (eI k))) :
  ∀(G:zk) (S:zm) (a:Act) (w:yp),Fr N (denE G E) a->View G S L R F M w->(execOp a.eval o).run prog w = .ok (.value ((SV.q (eI ((f k).getD 0))).den G)) w:=by
 cases hs:f k with
 | none=>exact runO_noneA TC_ok hA k 0 hk hs zeroI ho hx hy
 | some s=>exact runO_lookA TC_ok hA k s hk hs ho hx hy
def xor_b2(a:UInt8):∃y:UInt8,bits .xor .u8 (a.toNat:Int) 2=(y.toNat:Int):=by
 have key:∀m:Nat,m<256->0<=bits .xor .u8 (m:Int) 2/\bits .xor .u8 (m:Int) 2<256:=by decide +kernel
 exact⟨bP (bits .xor .u8 (a.toNat:Int) 2).toNat,by have:=key a.toNat a.toNat_lt;rw [gK];omega⟩
def uv_atJ{u:UV}(hu:u.Ok){j:Nat}{s:UInt8}(hs:u.sig[j]?=some s):(catP u.parts)[65+j]?=some (.int .u8 (s.toNat:Int)):=by rw [<-c9,uv_cells,bN (by rw [By_len,hu.id];omega),By_len,hu.id,show 65+j-32=32+j+1 by omega,kH,bN (by rw [By_len,hu.key];omega),By_len,hu.key,fM];show(u.sig.map λx=>cG .u8 (x.toNat:Int))[j]?=_;rw [cE,hs];rfl
def uv_setJ{u:UV}(hu:u.Ok)(j:Nat)(y:UInt8):(catP ({ u with sig:=u.sig.set j y }:UV).parts).toList=(catP u.parts).toList.set (65+j) (.int .u8 (y.toNat:Int)):=by rw [uv_cells,uv_cells,eX _ _ (by rw [By_len,hu.id];omega),By_len,hu.id,show 65+j-32=32+j+1 by omega,List.set_cons_succ,eX _ _ (by rw [By_len,hu.key];omega),By_len,hu.key,fM];show _++_::(_++(u.sig.set j y).map _)=_++_::(_++(u.sig.map _).set j _);rw [dR]
structure BtS where
  i:Nat
  ps:List BaV
  X:KX
  Y:KX
  l:yx
  U:KX
  V:KX
  n:Nat
  f:Int->Option Int
structure BtI(k:Nat)(s:BtS):Prop where
  i:s.i<=k
  i12:s.i<=12
  tot:(allB s.ps).length+s.l.length<=s.i
  num:s.ps.length<=s.i
  good:∀u∈allB s.ps,GoodU u
  goodl:∀u∈s.l,GoodU u
structure BtX where
  ps:List BaV
  X:KX
  Y:KX
structure BtX.Ok(x:BtX):Prop where
  tot:(allB x.ps).length<=12
  num:x.ps.length<=13
  good:∀u∈allB x.ps,GoodU u
  pos:0<x.ps.length
def BtX.F(x:BtX)(w:yp):Prop:=Rd 1 eUs x.X.1 x.X.2 x.ps w/\Rd 1 eGs x.Y.1 x.Y.2 x.ps w/\∀p∈x.ps,p.rd w
def batches12_S{A:zt}{c:Nat}(acts:List AcV):Spec 8 [.slice A acts.length c] [] (λw=>Ta w/\Rd 5 eAc A c acts w) { ret:=λx:{ x:BtX // x.Ok }=>.t [.c (.v (.slice x.1.X.1 x.1.ps.length x.1.X.2)),.c (.v (.slice x.1.Y.1 x.1.ps.length x.1.Y.2))],p:=λx=>x.1.F }:=by
 refine zQ [.c (.v (.slice A acts.length c))] 99 func8 rfl (by rw [ntmps8];rfl) (one_ok trivial) λb=>?_;refine s_pure (acts.length<=9223372036854775807) (λw h _=>bM h.2.1 h.2.2.1) λhmax=>?_;refine zA rfl (zA rfl (zA rfl (zA rfl (zA rfl (zC rfl λK0 hK0=>l_mkG TC okI rfl rfl rfl rfl λm=>zB rfl (zJ (hK0 _ (zM λK hK=>zA rfl (zN (s_nil0 0 43 1 eGs (s_nil0 0 41 1 eUs (s_nil0 0 4 1 eT (s_nil0 0 69 129 eU ?_)))))))))))));let Es:BtS->SE:=λs=>[(18,.v (.int .i64 (s.i:Int))),(17,.v (.int .i64 (acts.length:Int))),(16,.v (.slice A acts.length c)),(4,.v (.slice s.X.1 s.ps.length s.X.2)),(5,.v (.slice s.Y.1 s.ps.length s.Y.2)),(6,.v (.slice s.U.1 s.l.length s.U.2)),(7,.v (.slice s.V.1 s.l.length s.V.2)),(8,.v (.map (some m)))];let Rs:BtS->zd:=λs=>[OwnS 0 69 129 eU s.U.1 s.U.2 s.l,OwnS 0 4 1 eT s.V.1 s.V.2 (s.l.map signB),OwnS 0 41 1 eUs s.X.1 s.X.2 s.ps,OwnS 0 43 1 eGs s.Y.1 s.Y.2 s.ps,MapG TC okI m s.n s.f];let Ff:BtS->zv:=λs w=>(Ta w/\Rd 5 eAc A c acts w)/\∀p∈s.ps,p.rd w;let Fs:BtS->Env:=λs=>⟨Es s,[],Rs s,Ff s,λ_=>True⟩;refine c_weak (e':=Fs ⟨0,[],(none,0),(none,0),[],(none,0),(none,0),0,λ_=>none⟩) ⟨zE rfl, trivial, .refl _,λ_ h _=>⟨h,(λ_ h=>(by cases h))⟩, zU⟩ (s_loop (λs=>acts.length-s.i) Fs (BtI acts.length) ?_ ⟨0,[],(none,0),(none,0),[],(none,0),(none,0),0,λ_=>none⟩ ⟨aL _,aL _,aF _,aF _,(λ_ h=>(by cases h)),(λ_ h=>(by cases h))⟩);rintro s ⟨hi,hi12,htot,hnum,hgood,hgoodl⟩;have hend:∀e',Weak e' (Fs s)->kS b K 99 e':=by
  intro e' hw;refine k_weak hw (hK _ (zC rfl λK1 hK1=>?_));refine l_push zY 2 (⟨s.U.1,s.U.2,s.V.1,s.V.2,s.l⟩:BaV) rfl rfl rfl rfl rfl rfl rfl (eUs_ok _) (by decide) (by decide) (by show(s.ps.length+1)*24<=_;omega) (by omega) (aL _) λX1 x1=>?_;refine zB rfl ?_;refine l_push zY 3 (⟨s.U.1,s.U.2,s.V.1,s.V.2,s.l⟩:BaV) rfl rfl rfl rfl rfl rfl rfl (eGs_ok _) (by decide) (by decide) (by show(s.ps.length+1)*24<=_;omega) (by omega) (aL _) λY1 y1=>?_;refine zB rfl (l_free 0 rfl (l_free 0 rfl (l_free 0 rfl (l_free 0 rfl (zJ (hK1 _ (zP (k_drop 0 rfl ?_))))))));refine zG ⟨⟨s.ps++[(⟨s.U.1,s.U.2,s.V.1,s.V.2,s.l⟩:BaV)],(X1,x1),(Y1,y1)⟩,?_⟩ rfl (λw h _=>⟨h.2.1,h.1,λp hp=>?_⟩) zU
  .refine⟨?_,?_,λu hu=>?_,by show 0<(s.ps++[_]).length;rw [aA];exact uT _⟩
   .show(allB (s.ps++[_])).length<=12;rw [allB_next,aA];exact bM htot hi12
   .show(s.ps++[_]).length<=13;rw [aA];show s.ps.length+1<=13;omega
   .have hu:u∈allB (s.ps++[_]):=hu
    rw [allB_next] at hu;rcases bK.1 hu with hu|hu
    .exact hgood u hu
    .exact hgoodl u hu
  .have hp:p∈s.ps++[_]:=hp
   rcases bK.1 hp with hp|hp
   .exact h.2.2.2.2.2 p hp
   .rw [aD.1 hp];exact⟨h.2.2.2.1,h.2.2.1⟩
 refine zA rfl (zM λK5 hK5=>?_);refine zW ((s.i:Int)<(acts.length:Int)) rfl (λhlt=>?_) (λhge=>?_)
 .have hlt:s.i<acts.length:=by omega
  obtain⟨a,ha⟩:∃a,acts[s.i]?=some a:=⟨_,aJ hlt⟩;refine zO (hK5 _ (zM λK6 hK6=>zN (zC rfl λK7 hK7=>l_elem zY rfl rfl rfl s.i rfl ha rfl rfl (rd_fact λ_ h _=>h.1.2) (zB rfl (zJ (hK7 _ (zM λK8 hK8=>zA rfl ?_)))))));refine zW ((s.i:Int)>=12) rfl (λh12=>?_) (λh12=>?_)
  .exact s_exit (zS (k_passB rfl (zS (zS (k_out (hend _ ⟨zE rfl, trivial, .refl _,λ_ h _=>h,λ_ h=>h⟩))))))
  refine zO (hK8 _ ?_);obtain⟨w4,hw4,_,hww⟩:=wrapU_mod a.who 4 (by decide) (by decide);have hwk:okI (w4:Int):=by show(Lit.int .i64 (w4:Int)).wf=true;simp [Lit.wf,IntKind.min,IntKind.max,IntKind.signed,IntKind.bits];omega
  refine zC rfl λK9 hK9=>?_;refine l_num 11 (w4:Int) rfl (by rw [show(IntKind.u64.wrap a.who).tmod 4=(IntKind.u64.wrap a.who).tmod ((4:Nat):Int) from rfl,hww]) ?_;refine zJ (hK9 _ ?_);have hF:∀t:BtS,t.i=s.i->(allB t.ps).length+t.l.length<=s.i+1->t.ps.length<=s.i+1->(∀u∈allB t.ps,GoodU u)->(∀u∈t.l,GoodU u)->∀e',Weak e' (Fs t)->kS b K6 99 e':=by intro t ht h1 h2 h3 h4 e' hw;refine k_weak hw (hK6 _ (zD rfl ?_));exact zX ({ t with i:=s.i+1 }:BtS) ⟨hlt,(by show s.i+1<=12;omega),h1,h2,h3,h4⟩ (by show acts.length-(s.i+1)<acts.length-s.i;omega) ⟨⟨by rw [ht];exact congrArg (λz=>some (SV.v (.int .i64 z))) (wrapI (m:=(s.i:Int)+1) (r:=((s.i+1:Nat):Int)) (by omega) (by omega) (by omega)),rfl,rfl,rfl,rfl,rfl,rfl,rfl,trivial⟩,trivial,.refl _,λ_ h _=>h,λ_ h=>h⟩
  refine zA rfl (zM λK10 hK10=>?_);have hV:∀v:Int,∀e',Weak e' ⟨(12,.v (.int .i64 v))::(11,.v (.int .i64 (w4:Int)))::(10,.a 10 0)::(9,.v (.int .i64 (s.i:Int)))::Es s,[⟨10,none,80,a.parts⟩],Rs s,Ff s,λ_=>True⟩->kS b K10 99 e':=by
   intro v e' hw;refine k_weak hw (hK10 _ ?_);obtain⟨kb,hkb⟩:∃kb:UInt8,IntKind.u8.wrap a.key=(kb.toNat:Int):=byte_z (by show 0<=a.key%256/\a.key%256<256;omega);obtain⟨ib,hib⟩:∃ib:UInt8,IntKind.u8.wrap (s.i:Int)=(ib.toNat:Int):=byte_z (by show 0<=(s.i:Int)%256/\(s.i:Int)%256<256;omega);have hwb:IntKind.u8.wrap (w4:Int)=((bP w4).toNat:Int):=by rw [gK];show(w4:Int)%256=_;omega
   have hm:=hmake_S (seed:=hB2 (bP w4) 77) (key:=hB2 kb ib) v rfl rfl;have hgu:GoodU (mkH (hB2 (bP w4) 77) v (hB2 kb ib)):=⟨mkH_ok _ _ rfl,w4,hw4,rfl⟩;generalize mkH (hB2 (bP w4) 77) v (hB2 kb ib)=u at *;refine zC rfl λK11 hK11=>l_num 39 ((bP w4).toNat:Int) rfl hwb (l_buildY [(0,.v (.int .u8 ((bP w4).toNat:Int))),(1,.v (.int .u8 77))] 32 (hB2 (bP w4) 77) rfl rfl rfl rfl rfl rfl rfl (zB rfl (l_num 44 (kb.toNat:Int) rfl hkb (l_num 46 (ib.toNat:Int) rfl hib (l_buildY [(0,.v (.int .u8 (kb.toNat:Int))),(1,.v (.int .u8 (ib.toNat:Int)))] 32 (hB2 kb ib) rfl rfl rfl rfl rfl rfl rfl ?_)))));refine z6 [.agg (By (hB2 (bP w4) 77)).toArray,.int .i64 v,.agg (By (hB2 kb ib)).toArray] (λ_ _=>by go_simp) rfl hm (λ_ h _=>h.1.1) λ_=>?_;refine zB rfl (zJ (hK11 _ (zM λK12 hK12=>?_)));have hW:∀u:UV,GoodU u->∀e',Weak e' ⟨(13,.a 13 0)::(12,.v (.int .i64 v))::(11,.v (.int .i64 (w4:Int)))::(10,.a 10 0)::Es s,[⟨13,none,69,u.parts⟩,⟨10,none,80,a.parts⟩],Rs s,Ff s,λ_=>True⟩->kS b K12 99 e':=by
    intro u hgu e' hw;refine k_weak hw (hK12 _ (zC rfl λK13 hK13=>?_));refine z6 [(eU u).den] (λ_ _=>by go_simp) rfl (hsigned_S hgu.1) (λ_ h _=>h.1.1) λ_=>?_;refine zB rfl (zJ (hK13 _ (zM λK14 hK14=>?_)));have hX:∀n f,∀e',Weak e' ⟨(14,.b (signB u))::(13,.a 13 0)::(10,.a 10 0)::Es s,[⟨13,none,69,u.parts⟩,⟨10,none,80,a.parts⟩],Rs { s with n:=n,f:=f },Ff s,λ_=>True⟩->kS b K14 99 e':=by
     intro n f e' hw;refine k_weak hw (hK14 _ ?_);have e1:s.l.map signB++[signB u]=(s.l++[u]).map signB:=by rw [bX];rfl
     refine zC rfl λK15 hK15=>?_;refine l_push zY 0 u (fe:=eU) rfl rfl rfl rfl rfl rfl rfl (eU_ok hgu.1) (by decide) (by decide) (by show(s.l.length+1)*136<=_;omega) (by show s.l.length<_;omega) (aL _) λU1 u1=>?_;refine zB rfl ?_;refine l_push zY 1 (signB u) (fe:=eT) rfl rfl rfl rfl rfl rfl (aX ..).symm (eT_ok _) (by decide) (by decide) (by rw [aX];show(s.l.length+1)*1<=_;omega) (by rw [aX];show s.l.length<_;omega) (aL _) λV1 v1=>?_;rw [e1,aX];refine zB rfl (zJ (hK15 _ (zA rfl ?_)));have hgl:∀u2∈s.l++[u],GoodU u2:=λu2 h2=>by
      rcases bK.1 h2 with h2|h2
      .exact hgoodl u2 h2
      .rw [aD.1 h2];exact hgu
     have hll:(s.l++[u]).length=s.l.length+1:=aA;refine s_if a.cut rfl (λ_=>?_) (λ_=>?_)
     .refine zC rfl λK16 hK16=>?_
      refine l_push zY 2 (⟨U1,u1,V1,v1,s.l++[u]⟩:BaV) rfl rfl rfl rfl rfl rfl rfl (eUs_ok _) (by decide) (by decide) (by show(s.ps.length+1)*24<=_;omega) (by show s.ps.length<_;omega) (aL _) λX1 x1=>?_;refine zB rfl ?_;refine l_push zY 3 (⟨U1,u1,V1,v1,s.l++[u]⟩:BaV) rfl rfl rfl rfl rfl rfl rfl (eGs_ok _) (by decide) (by decide) (by show(s.ps.length+1)*24<=_;omega) (by show s.ps.length<_;omega) (aL _) λY1 y1=>?_;refine zB rfl (l_free 0 rfl (l_free 0 rfl (zJ (hK16 _ (s_nil0 0 4 1 eT (s_nil0 0 69 129 eU (zD rfl ?_)))))));refine hF ⟨s.i,s.ps++[⟨U1,u1,V1,v1,s.l++[u]⟩],(X1,x1),(Y1,y1),[],(none,0),(none,0),n,f⟩ rfl ?_ ?_ ?_ (λ_ h=>by cases h) _ ⟨zE rfl, trivial, .refl _,λw h _=>⟨h.2.2.1,λp hp=>?_⟩,λ_ h=>h⟩
      .show(allB (s.ps++[_])).length+0<=_;rw [allB_next,aA,hll];omega
      .show(s.ps++[_]).length<=_;rw [aA];show s.ps.length+1<=_;omega
      .intro u2 h2
       have h2:u2∈allB (s.ps++[_]):=h2;rw [allB_next] at h2;rcases bK.1 h2 with h2|h2
       .exact hgood u2 h2
       .exact hgl u2 h2
      .have hp:p∈s.ps++[_]:=hp
       rcases bK.1 hp with hp|hp
       .exact h.2.2.2 p hp
       .rw [aD.1 hp];exact⟨h.2.1,h.1⟩
     .exact zO (hF ⟨s.i,s.ps,s.X,s.Y,s.l++[u],(U1,u1),(V1,v1),n,f⟩ rfl (by show(allB s.ps).length+(s.l++[u]).length<=_;rw [hll];omega) (by show s.ps.length<=_;omega) hgood hgl _ ⟨zE rfl, trivial, .refl _,λ_ h _=>h,λ_ h=>h⟩)
    cases hsb:signB u with
    | false =>
     refine zC rfl λK15 hK15=>l_is 60 false rfl rfl (zB rfl ?_);refine l_as 14 (.b (signB u)) rfl (λ_=>by rw [hsb];rfl) trivial ?_;refine zJ (hK15 _ (s_no rfl ?_));exact zO (hX s.n s.f _ ⟨zE rfl, zL rfl rfl, .refl _,λ_ h _=>h.2, zU⟩)
    | true =>
     refine zC rfl λK15 hK15=>l_is 60 true rfl rfl (zB rfl (l_opV (.q (eI ((s.f (w4:Int)).getD 0))) trivial rfl rfl rfl (runO_count (map_own 4 rfl) (w4:Int) hwk rfl rfl rfl) (zB rfl ?_)));refine l_as 14 (.b (signB u)) rfl (λ_=>by rw [hsb];rfl) trivial ?_;refine zJ (hK15 _ ?_);refine zW (v=IntKind.i64.wrap ((s.f (w4:Int)).getD 0+1)) rfl (λ_=>?_) (λ_=>?_)
     .refine s_lit ?_;refine zB rfl (l_opV (.q (eI ((s.f (w4:Int)).getD 0))) trivial rfl rfl rfl (runO_count (map_own 4 rfl) (w4:Int) hwk rfl rfl rfl) (zB rfl (l_updG TC_ok 4 rfl (w4:Int) (IntKind.i64.wrap ((s.f (w4:Int)).getD 0+1)) hwk rfl rfl rfl rfl rfl rfl ?_)));exact zJ (hX (if (s.f (w4:Int)).isSome then s.n else s.n+1) (putF s.f (w4:Int) (IntKind.i64.wrap ((s.f (w4:Int)).getD 0+1))) _ ⟨zE rfl, zL rfl rfl, .refl _,λ_ h _=>h.2, zU⟩)
     .exact zO (hX s.n s.f _ ⟨zE rfl, zL rfl rfl, .refl _,λ_ h _=>h.2, zU⟩)
   refine zA rfl ?_;refine s_if a.wr rfl (λ_=>?_) (λ_=>?_)
   .obtain⟨sb,hsb⟩:∃sb,u.sig[1]?=some sb:=⟨_,aJ (by rw [hgu.1.sig];decide)⟩;obtain⟨y,hy⟩:=xor_b2 sb;have hok2:({ u with sig:=u.sig.set 1 y }:UV).Ok:=⟨hgu.1.id,hgu.1.key,by show(u.sig.set 1 y).length=64;rw [List.length_set];exact hgu.1.sig⟩;refine s_lit (zB rfl ?_);refine l_op (.a 13 (65+1*1)) trivial rfl rfl rfl (runO_ixA 1 rfl underlying67 rfl rfl rfl (by decide)) ?_;refine l_opV (.v (.int .u8 (sb.toNat:Int))) trivial rfl rfl rfl (runO_ldA _ rfl rfl rfl (uv_atJ hgu.1 hsb) underlying5 rfl) (l_op (.v (.int .u8 (bits .xor .u8 (sb.toNat:Int) 2))) trivial rfl rfl rfl (run_xor rfl rfl rfl) (l_num 54 (y.toNat:Int) rfl hy (zB rfl ?_)));refine l_op (.a 13 (65+1*1)) trivial rfl rfl rfl (runO_ixA 1 rfl underlying67 rfl rfl rfl (by decide)) ?_;refine l_stA ({ u with sig:=u.sig.set 1 y }:UV).parts rfl rfl rfl rfl rfl rfl rfl rfl rfl (by rw [OkP.size hgu.1.parts_ok];show _<129;decide) hok2.parts_ok (uv_setJ hgu.1 1 y) ?_;exact zJ (hW { u with sig:=u.sig.set 1 y } ⟨hok2,hgu.2⟩ _ ⟨zE rfl, zL rfl rfl, .refl _,λ_ h _=>h.2, zU⟩)
   .exact zO (hW u hgu _ ⟨zE rfl, zL rfl rfl, .refl _,λ_ h _=>h.2, zU⟩)
  refine zA rfl ?_;refine zW (a.ver=0) rfl (λ_=>?_) (λ_=>?_)
  .refine s_lit ?_;refine zB rfl (l_opV (.q (eI ((s.f (w4:Int)).getD 0))) trivial rfl rfl rfl (runO_count (map_own 4 rfl) (w4:Int) hwk rfl rfl rfl) (zB rfl ?_));exact zJ (hV _ _ ⟨zE rfl, zL rfl rfl, .refl _,λ_ h _=>h,λ_ h=>h⟩)
  .exact zO (hV _ _ ⟨zE rfl, zL rfl rfl, .refl _,λ_ h _=>h,λ_ h=>h⟩)
 .exact s_exit (zS (zS (k_out (hend _ ⟨zE rfl, trivial, .refl _,λ_ h _=>h,λ_ h=>h⟩))))
def allB_take{ps:List BaV}{j:Nat}{p:BaV}(h:ps[j]?=some p):allB (ps.take (j+1))=allB (ps.take j)++p.l:=by rw [dO,h];exact allB_next _ _
def allB_le(ps:List BaV)(j:Nat):(allB (ps.take j)).length<=(allB ps).length:=by
 have h:allB ps=allB (ps.take j)++allB (ps.drop j):=by unfold allB;rw [<-jT,<-bX,b6]
 rw [h,aA];omega
def BtX.Ok.batch{x:BtX}(h:x.Ok){j:Nat}{p:BaV}(hp:x.ps[j]?=some p):(∀u∈p.l,GoodU u)/\(allB (x.ps.take j)).length+p.l.length<=12:=by have h1:=allB_le x.ps (j+1);rw [allB_take hp,aA] at h1;refine⟨λu hu=>h.good u ?_,bM h1 h.tot⟩;exact List.mem_flatten.2 ⟨p.l,aZ.2 ⟨p,aR hp,rfl⟩,hu⟩
instance btPst{x:BtX}:Pst x.F:=⟨λ_ _ h hb=>⟨h.1.later hb,h.2.1.later hb,λp hp=>Pst.later (p:=p.rd) _ _ (h.2.2 p hp) hb⟩⟩
def told_rdG{α:Type}{k:Nat}{fe:α->SQ}{z:PX}{l:List α}{w:yp}(h:∃y:PX,(RV.v (.slice z.1 l.length z.2)).den=(RV.v (.slice y.1 l.length y.2)).den/\Rd k fe y.1 y.2 l w):Rd k fe z.1 z.2 l w:=by obtain⟨y,h1,h2⟩:=h;have h1:Value.slice z.1 l.length z.2 = .slice y.1 l.length y.2:=h1;injection h1 with e1 _ e2;rw [e1,e2];exact h2
section
variable{a:Act}{G:zk}{P:Program}{ro:zh}{n:Nat}{Q:zx}{ops:zp}{K:zw}{l':zo}{b:Base}{N:Nat}{e:Env}{E:SE}{L:ze}{R R':zd}{F M:zv}{l:zo}{id:Nat}
theorem list_app[NoOut Q](hK:∀a w,K a w->wpListIn (FW ro) n P ops Q l' a w):∀{p:zo} {a:Act} {w:yp},noDef p=true->wpList P ops (Exit.then K Q) p a w->wpListIn (FW ro) n P ops Q (p++l') a w
 | [],a,w,_,h=>hK a w h
 | o::p,a,w,hd,h=>by
  have hd':noDef p=true:=by unfold noDef at hd ⊢;rw [List.all_cons,aN] at hd;exact hd.2
  unfold wpList at h;show wpListIn (FW ro) n P ops Q (o::(p++l')) a w;unfold wpListIn;split
  .rename_i hw;rw [if_pos hw] at h;have h:o.wp P a w (λa' w'=>wpList P ops (Exit.then K Q) p a' w') Q\/(o.asks P a w/\LetsOut Q):=h;exact op_in (noDef_mem hd aM) (h.imp (Oper.wp_mono λa' w' h'=>list_app hK hd' h') id)
  .rename_i hw;rw [if_neg hw] at h;exact⟨λ_ _=>trivial,list_app hK hd' h⟩
def r_cut[NoOut Q](m:Nat)(l':zo)(hl:l.drop m=l')(hd:noDef (l.take m)=true)(h:∀K:zw,(∀e',tS ro n b l.toArray Q N l' e'->kS b K N e')->lS prog b l.toArray (Exit.then K Q) N (l.take m) e):rS ro n b (.region id l.toArray false) Q N e:=λa w hs=>by
 refine wpIn_region_lit ?_;have h1:=h (λa w=>wpListIn (FW ro) n prog l.toArray Q l' a w) (λ_ h' a w hs'=>h' a w hs') a w hs;have h2:=list_app (ro:=ro) (n:=n) (l':=l') (λ_ _ h=>h) hd h1
 rwa [<-hl,b6] at h2
def k_anyR{σ:Type}{p:σ->Prop}{r:σ->Res}(s:σ)(hs:p s)(h:kS b K N ⟨E,L,AnyR p r::R,F,M⟩):kS b K N ⟨E,L,r s::R,F,M⟩:=λa w ⟨G,S,h1,h2,h3⟩=>by obtain⟨S1,S2,a1,a2,a3⟩:=h3.res;exact h a w ⟨G,S,h1,h2,{ h3 with res:=⟨S1,S2,⟨s,hs,a1⟩,a2,a3⟩ }⟩
end
abbrev KvG:=zu×GrV
def NxV(f:zu->Option GrV)(t:List KvG)(y:GrV)(t':List KvG):Prop:=∃q,f q=some y/\(∀d∈t,d.1≠q)/\t'=t++[(q,y)]
structure DnV(f:zu->Option GrV)(t:List KvG):Prop where
  in_:∀d∈t,f d.1=some d.2
  nd:(t.map (·.1)).Nodup
  all:∀k v,f k=some v->(k,v)∈t
def values_S(m:Nat):Spec 62 [.map (some m)] [] (λ_=>True) { ret:=λg:Nat=>.v (.func (.func 106) #[] #[.pointer (some ⟨g,0,none⟩)]),own:=λ_=>[],p:=λg=>ObjF g TG.t [.one (.v (.map (some m)))] }:=by refine zQ [.c (.v (.map (some m)))] 4 func62 rfl (by rw [ntmps62];rfl) (one_ok trivial) λb=>?_;refine zC rfl λK hK=>l_give 1 (E':=[]) rfl trivial λg=>l_objOut 0 rfl (zB rfl (zJ (hK _ (zC rfl λK2 hK2=>l_op (.v (.func (.func 106) #[] #[.pointer (some ⟨g,0,none⟩)])) trivial rfl rfl rfl (run_makeF rfl rfl (λ_=>rfl)) (zB rfl (zJ (hK2 _ ?_)))))));exact zP (zG g rfl (λ_ h _=>h.1) zU)
theorem values1_S(l gb:Nat)(Fy:zv)(JR:List KvG->Res)(JX:Res){m clock k:Nat}{es:Array MapEntry}{f:zu->Option GrV}(hH:MapH TG ok32 es clock k f)(hy:∀t y t',NxV f t y t'->YSpec l [(eGr y).den] Fy (StarR ([]++[JR t])) (JR t') JX) :
  Spec 106 [.func (.yield l) #[] #[],.pointer (some ⟨gb,0,none⟩)] [JR []] (λw=>(ObjF gb TG.t [.one (.v (.map (some m)))] w/\MapE m es clock w)/\Fy w) (epost (AnyR (DnV f) JR) JX):=by
 refine zQ [.c (.v (.func (.yield l) #[] #[])),.c (.v (.pointer (some ⟨gb,0,none⟩)))] 15 func106 rfl (by rw [ntmps106];rfl) (two_ok trivial trivial) λb=>?_;refine zC rfl λK hK=>zZ rfl (obj_fact λ_ h _=>h.1.1) (l_rangeM rfl rfl rfl rfl underlying135 rfl (es:=es) (clock:=clock) (λ_ _ _ h=>h.fact.1.2) λr=>zJ (hK _ (zN ?_)))
 let Fs:Array Nat×List KvG->Env:=λx=>⟨[(6,.v (.pointer (some ⟨r,0,none⟩))),(0,.v (.func (.yield l) #[] #[]))],[],[ItR (some m) r clock x.1,JR x.2],λw=>MapE m es clock w/\Fy w,λ_=>True⟩
 refine c_weak (e':=Fs (#[],[])) ⟨zE rfl, trivial, .refl _,λ_ h _=>⟨h.1.2,h.2⟩, zU⟩ (s_loop (λx=>(leftOf es x.1).size) Fs (λx=>DidM TG ok32 es f x.1 x.2) ?_ (#[],[]) DidM.nil)
 rintro⟨seen,done⟩ hD
 dsimp only at hD
 refine zC rfl λK2 hK2=>?_;refine l_nextM hH hD (λ_ h=>eY_all h) eGr_all 0 rfl rfl rfl rfl rfl rfl (λ_ _ _ h=>h.fact.1) (λh0=>?_) λq v seen' hq hv hne hlt hl hD'=>?_
 .refine zB rfl ?_;refine zJ (hK2 _ (zM λK3 hK3=>s_no rfl (s_exit (zS (zS (k_out (k_drop 0 rfl (k_anyR (p:=DnV f) done ⟨λd hd=>(hD.in_ d hd).2,hD.nodup,λk v h=>hD.all TG_ok hH h0 h⟩ ?_))))))));exact zG true rfl (λ_ _ _=>trivial) zU
 refine zB rfl (zJ (hK2 _ (zM λK3 hK3=>s_yes rfl (zO (hK3 _ (zN (zC rfl λK4 hK4=>l_opV (.t [eY 32 q,eGr v]) (two_ok (eY_all hq) (eGr_all v)) rfl rfl rfl (runO_entry hH 0 rfl hl (λ_ _ _ h=>h.fact.1) rfl rfl) (zB rfl (zJ (hK4 _ (zM λK5 hK5=>s_of_r (r_cut 2 _ rfl rfl λK6 hK6=>zB rfl (zJ (hK6 _ ?_))))))))))))));have hyv:=hy done v (done++[(q,v)]) ⟨q,hv,hne,rfl⟩;refine t_weak (e':=⟨[(11,.v (.func (.yield l) #[] #[])),(12,.q (eGr v)),(6,.v (.pointer (some ⟨r,0,none⟩))),(0,.v (.func (.yield l) #[] #[]))],[],[JR done,ItR (some m) r clock seen'],λw=>MapE m es clock w/\Fy w,λ_=>True⟩) ⟨⟨rfl,rfl,rfl,rfl,trivial⟩,trivial,jF _ _ _,λ_ h _=>h, zU⟩ (t_star (R1:=[JR done]) (t_yield (R':=[ItR (some m) r clock seen']) [(eGr v).den] rfl rfl rfl rfl rfl rfl (λ_=>rfl) hyv (λ_ h _=>h.2) λt=>t_list rfl ?_))
 cases t with
 | true =>
  refine zB rfl (zJ (hK5 _ (s_no rfl ?_)));exact zO (zX (seen',done++[(q,v)]) hD' hlt ⟨⟨rfl,rfl,trivial⟩,trivial,jF _ _ _,λ_ h _=>h,λ_ h=>h⟩)
 | false =>
  refine zB rfl (zJ (hK5 _ (s_yes rfl ?_)));exact zP (k_drop 1 rfl (zG false rfl (λ_ _ _=>trivial) zU))
abbrev seqG(gb:Nat):Value:=.func (.func 106) #[] #[.pointer (some ⟨gb,0,none⟩)]
abbrev SeqF(gb m clock:Nat)(es:Array MapEntry)(w:yp):Prop:=ObjF gb TG.t [.one (.v (.map (some m)))] w/\MapE m es clock w
abbrev colP(f:zu->Option GrV):Post ({ t:List KvG // DnV f t }×PX):={ ret:=λx=>.v (.slice x.2.1 (x.1.1.map (·.2)).length x.2.2),own:=λx=>[GrS x.2.1 x.2.2 (x.1.1.map (·.2))] }
structure GaS where
  vs:yv
  A:zt
  c:Nat
def fr_bind1{N:Nat}{G:zk}{E:SE}{a:Act}{k:Tmp}{q:SQ}(hk:Nat.blt k N=true)(h:Fr N (denE G E) a):Fr N (denE G ([(k,.q q)]++E)) { tmps:=(#[k].zip [q.den].toArray).foldl (λtm (t,v)=>tm.setIfInBounds t v) a.tmps,defers:=[] }:=by
 have e:({ tmps:=a.tmps,defers:=[] }:Act)=a:=by have:=h.defers;cases a;simp only at this;rw [this]
 have hf0:Fr N (denE G E) { tmps:=a.tmps,defers:=[] }:=by rw [e];exact h
 have h:=hf0.put hk q.den;have e1:(#[k].zip [q.den].toArray).foldl (λtm (t,v)=>tm.setIfInBounds t v) a.tmps=a.tmps.setIfInBounds k q.den:=by simp
 show Fr N _ { tmps:=_,defers:=[] };rw [e1];exact h
abbrev FewV(f:zu->Option GrV):Prop:=∀t:List KvG,(t.map (·.1)).Nodup->(∀d∈t,f d.1=some d.2)->t.length<=1000
structure GaI(f:zu->Option GrV)(t:List KvG)(s:GaS):Prop where
  e:s.vs=t.map (·.2)
  in_:∀d∈t,f d.1=some d.2
  nd:(t.map (·.1)).Nodup
def GaI.next{f:zu->Option GrV}{t t':List KvG}{s:GaS}{y:GrV}(h:GaI f t s)(hn:NxV f t y t')(A:zt)(c:Nat):GaI f t' ⟨s.vs++[y],A,c⟩:=by
 obtain⟨q,hq,hne,rfl⟩:=hn;obtain⟨e,h1,h2⟩:=h;refine⟨by rw [e];simp,λd hd=>?_,?_⟩
 .rcases bK.1 hd with hd|hd
  .exact h1 d hd
  .rw [aD.1 hd];exact hq
 .rw [bX];refine sP.2 ⟨h2,by simp,λa ha b hb e=>?_⟩;obtain⟨d,hd,rfl⟩:=aZ.1 ha;exact hne d hd (e.trans (by simpa using hb))
def appSeq_S(gb:Nat){m clock k:Nat}{es:Array MapEntry}{f:zu->Option GrV}(hH:MapH TG ok32 es clock k f)(hfew:FewV f):Spec 144 [.slice none 0 0,seqG gb] [] (SeqF gb m clock es) (colP f):=by
 refine spec_D [.c (.v (.slice none 0 0)),.c (.v (seqG gb))] 13 func144 rfl (by rw [ntmps144];rfl) (two_ok trivial trivial) λb=>?_;refine d_auto zY rfl (d_seqD λK hK=>d_regA zY rfl λK1 hK1=>l_nil0 0 60 34 eGr (d_end (hK1 _ (d_block ?_))));let E0:SE:=[(6,.v (seqG gb)),(2,.a 2 0)];let Lf:GaS->ze:=λs=>[⟨2,none,54,[.one (.v (.slice s.A s.vs.length s.c))]⟩];let Rf:GaS->zd:=λs=>[GrS s.A s.c s.vs];refine d_weak (e':=⟨E0,Lf ⟨[],none,0⟩,Rf ⟨[],none,0⟩,SeqF gb m clock es,λ_=>True⟩) ⟨zE rfl, zL rfl rfl, .refl _,λ_ h _=>h, zU⟩ ?_;refine d_rangeG (β:=GrV) #[7] (λy=>[(eGr y).den]) (λy=>[(7,.q (eGr y))]) (λ_=>[]) (NxV f) (DnV f) [] Lf Rf (GaI f) (λ_ _=>False) ⟨[],none,0⟩ (SeqF gb m clock es) (lb:=[.pointer (some ⟨gb,0,none⟩)]) rfl (λ_ _=>by go_simp) (λ_=>rfl) (λ_ y _ _ hE=>hE.cons (v:=.q (eGr y)) y.parts_ok) (λ_=>rfl) (λy G a ha=>fr_bind1 rfl ha) (λ_ h _=>h) (λy Fy JR JX hy=>values1_S y gb Fy JR JX hH hy) ⟨rfl,λ_ h=>(by cases h),List.nodup_nil⟩ ?_ ?_ (λ_ _ _ h=>h.elim)
 .rintro G l D n ready busy b1 t ⟨vs,A,c⟩ y t' _ hI hn K6 hK6
  have hl:vs.length<=1000:=by rw [show vs=t.map (·.2) from hI.e,aX];exact hfew t hI.nd hI.in_
  refine r_autoE rfl zY rfl (hK6 _ _ _ _ _ (r_block (r_lit rfl (zB rfl ?_))));refine l_push zY 2 y (fe:=eGr) rfl rfl rfl rfl rfl rfl rfl (eGr_ok y) (by decide) (by decide) (by show(vs.length+1)*80<=_;omega) (by show vs.length<_;omega) (aL _) λA' c'=>?_;refine zB rfl (zJ ?_);exact k_rnd (Ix:=λ_ _=>False) ⟨vs++[y],A',c'⟩ (hI.next hn A' c') ⟨trivial,⟨rfl,rfl,trivial⟩,.refl _,λ_ _ _=>trivial, zU⟩
 .rintro t ⟨vs,A,c⟩ D hdn hI;obtain rfl:vs=t.map (·.2):=hI.e;refine hK _ _ (d_regA zY rfl λK2 hK2=>d_end (hK2 _ ?_));exact d_ret (k_retM [D] (R:=_) (zG (⟨t,hdn⟩,A,c) rfl (λ_ h _=>trivial) zU))
def collect_S(gb:Nat){m clock k:Nat}{es:Array MapEntry}{f:zu->Option GrV}(hH:MapH TG ok32 es clock k f)(hfew:FewV f):Spec 104 [seqG gb] [] (SeqF gb m clock es) (colP f):=by refine zQ [.c (.v (seqG gb))] 5 func104 rfl (by rw [ntmps104];rfl) (one_ok trivial) λb=>?_;refine zA rfl (zC rfl λK hK=>?_);refine zI (own:=[]) (R':=[]) [.slice none 0 0,seqG gb] (λ_ _=>by go_simp) rfl (appSeq_S gb hH hfew) (λ_ h _=>h) λx=>?_;refine zB rfl (zJ (hK _ ?_));exact zP (zG x rfl (λ_ _ _=>trivial) zU)
abbrev AllG(f:zu->Option GrV)(gl:yv):Prop:=(∀g,g∈gl↔∃k,f k=some g)/\gl.Pairwise ltG
def DnV.mem{f:zu->Option GrV}{t:List KvG}(h:DnV f t)(g:GrV):g∈t.map (·.2)↔∃k,f k=some g:=by
 rw [aZ];constructor
 .rintro⟨d,hd,rfl⟩;exact⟨d.1,h.in_ d hd⟩
 .rintro⟨k,hk⟩;exact⟨(k,g),h.all k g hk,rfl⟩
def sortedF_S(gb:Nat){m clock k:Nat}{es:Array MapEntry}{f:zu->Option GrV}(hH:MapH TG ok32 es clock k f)(hid:∀q g,f q=some g->g.id=q)(hfew:∀t:List KvG,(t.map (·.1)).Nodup->(∀d∈t,f d.1=some d.2)->t.length<=12):Spec 61 [seqG gb,cmpG] [] (SeqF gb m clock es) { ret:=λx:{ gl:yv // AllG f gl }×PX=>.v (.slice x.2.1 x.1.1.length x.2.2),own:=λx=>[GrS x.2.1 x.2.2 x.1.1] }:=by
 refine zQ [.c (.v (seqG gb)),.c (.v cmpG)] 12 func61 rfl (by rw [ntmps61];rfl) (two_ok trivial trivial) λb=>?_;refine zA rfl (zC rfl λK hK=>?_);refine zI (own:=[]) (R':=[]) [seqG gb] (λ_ _=>by go_simp) rfl (collect_S gb hH λt h1 h2=>bM (hfew t h1 h2) (by decide)) (λ_ h _=>h) λ⟨⟨t,ht⟩,A,c⟩=>?_;refine zB rfl (zJ (hK _ ?_));have hap:((t.map (·.2)).map GrV.id).Nodup:=by rw [dB];have e:t.map (GrV.id ∘ λd=>d.2)=t.map (·.1):=fN λd hd=>hid _ _ (ht.in_ d hd);rw [e];exact ht.nd
 have h12:(t.map (·.2)).length<=12:=by rw [aX];exact hfew t ht.nd ht.in_
 refine zC rfl λK2 hK2=>l_R [GrS A c (t.map (·.2))] rfl ?_;have h9:=sortG_S (A:=A) (c:=c) (t.map (·.2)) hap h12;obtain⟨vs,hvs⟩:∃vs,t.map (·.2)=vs:=⟨_,rfl⟩;rw [hvs] at h9;refine l_eq 8 (.v (.slice A vs.length c)) rfl (by rw [<-hvs];rfl) ?_;refine l_R [GrS A c vs] (by rw [<-hvs]) ?_;refine zI (own:=[GrS A c vs]) (R':=[]) [.slice A vs.length c,cmpG] (λ_ _=>by go_simp) rfl h9 (λ_ _ _=>trivial) λ⟨gl,hgl⟩=>?_;obtain⟨hp,hs⟩:=hgl;refine zJ (hK2 _ (zA rfl ?_));refine zP (k_weak (e':=⟨[(4,.v (.slice A gl.length c))],[],[GrS A c gl],λ_=>True,λ_=>True⟩) ⟨⟨by show some (SV.v (.slice A (t.map (·.2)).length c))=some (SV.v (.slice A gl.length c));rw [hvs,hp.length_eq],trivial⟩,trivial,.refl _,λ_ _ _=>trivial, zU⟩ ?_);exact zG (⟨gl,λg=>(hp.mem_iff).trans (by rw [<-hvs];exact ht.mem g),hs⟩,A,c) rfl (λ_ _ _=>trivial) zU
theorem nodup_le:∀{l m:zy},l.Nodup->(∀x∈l,x∈m)->l.length<=m.length
 | [],_,_,_=>aL _
 | x::l,m,hd,h=>by obtain⟨h1,h2⟩:=fV.1 hd;have hx:=h x (.head _);have h3:=nodup_le (l:=l) (m:=m.erase x) h2 λy hy=>(List.mem_erase_of_ne (λe=>h1 (by rw [<-e];exact hy))).2 (h y (.tail _ hy));rw [List.length_erase_of_mem hx] at h3;have:=List.length_pos_of_mem hx;rw [a6];omega
theorem took_len(id:zu):∀(us:yx) (l:zc),(tookD id l us).length<=us.length
 | [],_=>aF _
 | u::us,l=>by
  have:=took_len id us (fR l (udH u));rw [tookD_cons];split
  .rw [a6,a6];omega
  .rw [a6];omega
def GwI.few{l:zc}{us:yx}{gs:yv}{f:zu->Option GrV}(h:GwI l us gs f):∀t:List KvG,(t.map (·.1)).Nodup->(∀d∈t,f d.1=some d.2)->t.length<=(grewD l us).length:=λt h1 h2=>by
 have:=nodup_le (m:=(grewD l us).map GrD.id) h1 λk hk=>by obtain⟨d,hd,rfl⟩:=aZ.1 hk;obtain⟨g1,g2⟩:=(h.iff_ _ _).1 (h2 d hd);obtain⟨_,a3,a4⟩:=h.ok _ g1;rw [a3,g2] at a4;exact aZ.2 ⟨_,grew_has a4,rfl⟩
 rwa [aX,aX] at this
abbrev UsR(g:GrV):Res:=OwnS 0 69 129 eU g.U g.u g.more
section
variable{b:Base}{N:Nat}{E:SE}{L:ze}{R:zd}{M:zv}{K:zw}
theorem k_freeG:∀(gs:yv) {F:zv},kS b K N ⟨E,L,R,λw=>(∀g∈gs,Rd 129 eU g.U g.u g.more w)/\F w,M⟩->kS b K N ⟨E,L,gs.map UsR++R,F,M⟩
 | [],F,h=>λa w ⟨G,S,h1,h2,h3⟩=>h a w ⟨G,S,h1,h2,h3.imp (λ_ h _=>⟨λ_ h=>(by cases h),h⟩) λ_ h=>h⟩
 | p::ps,F,h=>λa w ⟨G,S,h1,h2,h3⟩=>by
  obtain⟨S',h4⟩:=h3.free (i:=0) rfl;refine k_freeG ps (F:=λw=>Rd 129 eU p.U p.u p.more w/\F w) (λa w ⟨G,S,h1,h2,h3⟩=>h a w ⟨G,S,h1,h2,?_⟩) a w ⟨G,S',h1,h2,h4⟩;refine h3.imp (λw h _=>⟨λq hq=>?_,h.2.2⟩) λ_ h=>h;rcases aH.1 hq with rfl|hq
  .exact h.2.1
  .exact h.1 q hq
end
structure GhS where
  i:Nat
  gs:yv
  f:zu->Option GrV
abbrev grwP(l:zc)(us:yx):Post ({ gl:yv // gl.map GrV.pl=grewD l us }×PX):={ ret:=λx=>.v (.slice x.2.1 x.1.1.length x.2.2),p:=λx w=>Rd 34 eGr x.2.1 x.2.2 x.1.1 w/\∀g∈x.1.1,g.rd w }
def growth_S{d:DirV}(hd:d.Ok){A:zt}{c:Nat}{us:yx}(hus:∀u∈us,u.Ok)(hsz:us.length<=1000)(h12:(grewD d.l us).length<=12) :
  Spec 26 [(eDv d).den,.slice A us.length c] [] (λw=>Ta w/\d.F w/\Rd 129 eU A c us w) (grwP d.l us):=by
 refine zQ [.p d.parts,.c (.v (.slice A us.length c))] 62 func26 rfl (by rw [ntmps26];rfl) (two_ok d.parts_ok trivial) λb=>?_;refine zA rfl (zC rfl λK1 hK1=>l_mkG TG ok32 rfl rfl rfl rfl λm=>zB rfl (zJ (hK1 _ (zM λK hK=>zA rfl (zN ?_)))))
 let Es:Nat->SE:=λi=>[(13,.v (.int .i64 (i:Int))),(12,.v (.int .i64 (us.length:Int))),(11,.v (.slice A us.length c)),(5,.v (.map (some m))),(2,.a 2 0)]
 let Ls:ze:=[⟨2,none,33,d.parts⟩]
 let Ff:yv->zv:=λgs w=>(Ta w/\d.F w/\Rd 129 eU A c us w)/\∀g∈gs,g.k.rd w
 let Fs:GhS->Env:=λx=>⟨Es x.i,Ls,MapG TG ok32 m x.gs.length x.f::x.gs.map UsR,Ff x.gs,λ_=>True⟩
 refine c_weak (e':=Fs ⟨0,[],λ_=>none⟩) ⟨zE rfl, zL rfl rfl, .refl _,λ_ h _=>⟨h,λ_ h=>by cases h⟩, zU⟩ (s_loop (λx=>us.length-x.i) Fs (λx=>x.i<=us.length/\GwI d.l (us.take x.i) x.gs x.f) ?_ ⟨0,[],λ_=>none⟩ ⟨aL _,GwI.nil _⟩)
 rintro⟨i,gs,f⟩ ⟨hi,hg⟩
 dsimp only at hi hg
 refine zA rfl (zM λK5 hK5=>?_);refine zW ((i:Int)<(us.length:Int)) rfl (λhlt=>?_) (λhge=>?_)
 .have hlt:i<us.length:=by omega
  obtain⟨u,hu⟩:∃u,us[i]?=some u:=⟨_,aJ hlt⟩;have huo:=hus u (aR hu);have h64:=hd.small.keys u.id;have htl:=took_len u.id (us.take i) d.l;rw [aV] at htl;refine zO (hK5 _ (zM λK10 hK10=>?_));have hgo:∀gs' f',GwI d.l (us.take (i+1)) gs' f'->∀e,Weak e ⟨Es i,Ls,MapG TG ok32 m gs'.length f'::gs'.map UsR,Ff gs',λ_=>True⟩->kS b K10 62 e:=by intro gs' f' hg' e hw;refine k_weak hw (hK10 _ (zD rfl ?_));exact zX ⟨i+1,gs',f'⟩ ⟨hlt,hg'⟩ (by show us.length-(i+1)<us.length-i;omega) ⟨⟨nextI i us.length (by omega) hlt,rfl,rfl,rfl,rfl,trivial⟩,⟨rfl,rfl,trivial⟩,.refl _,λ_ h _=>h,λ_ h=>h⟩
  refine zN (zC rfl λK11 hK11=>l_elem zY rfl rfl rfl i rfl hu rfl rfl (rd_fact λ_ h _=>h.1.2.2) (zB rfl (zJ (hK11 _ (zC rfl λK12 hK12=>l_opV (.t [eGr ((f u.id).getD nilG),.c (.b (f u.id).isSome)]) (two_ok (GrV.parts_ok _) trivial) rfl rfl rfl (runO_gr (map_own 0 rfl) u.id huo.id rfl rfl rfl) (zB rfl (zJ (hK12 _ (zM λK13 hK13=>?_)))))))));have hrest:∀(g:GrV) (r:yv),g.id=u.id->g.k.l=bO d.l u.id->g.more=tookD u.id d.l (us.take i)->(∀x,x∈r↔x∈gs/\x.id≠u.id)->(r.map GrV.id).Nodup->((f u.id=none/\r=gs)\/(f u.id=some g/\gs.Perm (g::r)))->∀e,Weak e ⟨(8,.a 8 0)::(7,.a 7 0)::Es i,⟨8,none,60,g.parts⟩::⟨7,none,69,u.parts⟩::Ls,MapG TG ok32 m gs.length f::UsR g::r.map UsR,λw=>g.k.rd w/\Ff gs w,λ_=>True⟩->kS b K13 62 e:=by
   intro g r hgi hgk hgm hr hrn hcase e hw;have hnot:¬(signB u=true/\u.ver=((bO d.l u.id).length:Int)+((tookD u.id d.l (us.take i)).length:Int)+1)->∀e,Weak e ⟨Es i,Ls,MapG TG ok32 m gs.length f::UsR g::r.map UsR,Ff gs,λ_=>True⟩->kS b K10 62 e:=by
    intro hn e hw;refine k_weak hw ?_;rcases hcase with⟨_,rfl⟩|⟨_,hp⟩
    .exact k_drop 1 rfl (hgo r f (hg.not hu hn) _ ⟨zE rfl, zL rfl rfl, .refl _,λ_ h _=>h, zU⟩)
    .exact hgo gs f (hg.not hu hn) _ ⟨zE rfl, ⟨rfl,rfl,trivial⟩,((hp.map UsR).symm.cons _),λ_ h _=>h, zU⟩
   rw [<-hgk,<-hgm] at hnot;refine k_weak hw (hK13 _ ?_);have hwr:IntKind.i64.wrap (IntKind.i64.wrap ((g.k.l.length:Int)+(g.more.length:Int))+1)=(g.k.l.length:Int)+(g.more.length:Int)+1:=by rw [hgk,hgm,wrapI (r:=((bO d.l u.id).length:Int)+((tookD u.id d.l (us.take i)).length:Int)) rfl (by omega) (by omega)];exact wrapI rfl (by omega) (by omega)
   refine zC rfl λK14 hK14=>?_;by_cases hv:u.ver=(g.k.l.length:Int)+(g.more.length:Int)+1
   .refine l_is 44 true rfl (by rw [hwr];exact decide_eq_true hv) ?_
    refine zB rfl ?_;refine z6 [(eU u).den] (λ_ _=>by go_simp) rfl (hsigned_S huo) (λ_ h _=>h.2.1.1) λ_=>?_;refine zB rfl (zJ (hK14 _ ?_));refine s_if (signB u) rfl (λhsg=>?_) (λhsg=>?_)
    .have hml:g.more.length<=1000:=by rw [hgm];omega
     refine zC rfl λK15 hK15=>?_;refine l_push zY 1 u (fe:=eU) rfl rfl rfl rfl rfl rfl rfl (eU_ok huo) (by decide) (by decide) (by show(g.more.length+1)*136<=_;omega) (by show g.more.length<_;omega) (aL _) λU' u'=>?_;refine zB rfl (zJ (hK15 _ (s_lit (zB rfl (l_updG TG_ok 0 rfl u.id ⟨g.id,g.h32,g.k,U',u',g.more++[u]⟩ huo.id rfl rfl rfl rfl rfl rfl ?_)))));have hn:(if (f u.id).isSome then gs.length else gs.length+1)=((⟨g.id,g.h32,g.k,U',u',g.more++[u]⟩:GrV)::r).length:=by
      rcases hcase with⟨h1,rfl⟩|⟨h1,hp⟩
      .rw [h1];rfl
      .rw [h1,hp.length_eq];rfl
     rw [hn];refine zJ (hgo (⟨g.id,g.h32,g.k,U',u',g.more++[u]⟩::r) _ (hg.yes hu ⟨hsg,by rw [<-hgk,<-hgm];exact hv⟩ hgi hgk (by rw [<-hgm]) hrn hr) _ ⟨zE rfl, zL rfl rfl, .refl _,λw h _=>⟨h.2.2.1,λx hx=>?_⟩, zU⟩);rcases aH.1 hx with rfl|hx
     .exact h.2.1
     .exact h.2.2.2 x ((hr x).1 hx).1
    .exact zO (hnot (λh=>by rw [h.1] at hsg;cases hsg) _ ⟨zE rfl, zL rfl rfl, .refl _,λ_ h _=>h.2.2, zU⟩)
   .refine l_is 44 false rfl (by rw [hwr];exact decide_eq_false hv) ?_;refine zB rfl (zJ (hK14 _ (s_no rfl ?_)));exact zO (hnot (λh=>hv h.2) _ ⟨zE rfl, zL rfl rfl, .refl _,λ_ h _=>h.2, zU⟩)
  cases hf:f u.id with
  | some g =>
   obtain⟨g1,g2,g3,a,c0,hab,hn2,hm2⟩:=hg.some_ hf;refine zA rfl ?_;refine s_if false rfl (λh=>by cases h) (λ_=>?_);refine zO (hrest g (a++c0) g1 g2 g3 hm2 hn2 (.inr ⟨hf,by rw [hab];exact kN⟩) _ ⟨zE rfl, ⟨rfl,rfl,rfl,rfl,rfl,rfl,trivial⟩,?_,λw h _=>⟨h.2 g (by rw [hab];simp),h⟩, zU⟩)
   show lN (MapG TG ok32 m gs.length f::gs.map UsR) (MapG TG ok32 m gs.length f::(g::(a++c0)).map UsR)
   rw [hab];exact(List.perm_middle.map UsR).cons _
  | none =>
   obtain⟨hm2,ht0⟩:=hg.none_ hf;have hkx:=dkeys_S hd huo.id;refine zA rfl ?_;refine s_if true rfl (λ_=>?_) (λh=>by cases h);refine s_nil0 0 69 129 eU ?_;refine s_locs λG=>?_;refine s_anyP [0,1,2,3,4] 6 2 (InvL (withG G (⟨8,none,60,nilG.parts⟩::⟨7,none,69,u.parts⟩::Ls))) (by kernel_rfl) rfl (inv_of withG_is) ?_;refine z9 0 (by kernel_rfl) rfl (λ_ h=>h) ?_;refine z9 1 (by kernel_rfl) rfl (λ_ h=>h) ?_;refine z9 2 (by kernel_rfl) rfl (λ_ h=>h) ?_;refine z9 3 (by kernel_rfl) rfl (λ_ h=>h) ?_;refine z9 4 (by kernel_rfl) rfl (λ_ h=>h) ?_;refine p_step 5 (by kernel_rfl) rfl λKa hKa=>?_;refine z6 [(eDv d).den,(eY 32 u.id).den] own_dkeys rfl hkx (λ_ h _=>h.1.2.1) λx=>l_free 0 rfl (zJ (hKa _ (inv_of withG_is) ?_));refine p_tail [6,7] (by kernel_rfl) rfl ?_;refine zB rfl ?_;refine zJ (k_noloc (hrest ⟨u.id,huo.id,⟨x.1,x.2,bO d.l u.id⟩,none,0,[]⟩ gs rfl rfl ht0.symm hm2 hg.nd (.inl ⟨hf,rfl⟩) _ ⟨zE rfl, ⟨rfl,rfl,rfl,rfl,rfl,rfl,trivial⟩,jF _ _ _,λw h _=>⟨h.1,h.2.2⟩, zU⟩))
 refine s_exit (zS (zS (k_out (k_openG 0 rfl λes clock hH=>k_freeB 0 rfl ?_))))
 obtain rfl:us.length=i:=by omega
 rw [dA] at hg;refine k_weak (e':=⟨[(5,.v (.map (some m)))],[],gs.map UsR++[],λw=>MapE m es clock w/\Ff gs w,λ_=>True⟩) ⟨⟨rfl,trivial⟩,trivial,by rw [bC];exact .refl _,λ_ h _=>h, zU⟩ (k_freeG gs (hK _ ?_));refine zC rfl λK2 hK2=>?_;refine z6 [.map (some m)] (λ_ _=>by go_simp) rfl (values_S m) (λ_ _ _=>trivial) λgb=>?_;refine zI (own:=[]) (R':=[]) [seqG gb,cmpG] (λ_ _=>by go_simp) rfl (sortedF_S gb hH (λq g hq=>((hg.iff_ q g).1 hq).2) λt h1 h2=>bM (hg.few t h1 h2) h12) (λw h _=>⟨h.1,h.2.2.1⟩) λ⟨⟨gl,hgl⟩,B,e⟩=>?_;refine zB rfl (zJ (hK2 _ (s_free 0 rfl ?_)));have hmem:∀g,g∈gl↔g∈gs:=λg=>(hgl.1 g).trans ⟨λ⟨k,hk⟩=>((hg.iff_ k g).1 hk).1,λh=>⟨g.id,(hg.iff_ g.id g).2 ⟨h,rfl⟩⟩⟩;refine zP (zG (⟨gl,hg.grew (hd.dir.apply (us_ok hus)) hgl.2 hmem⟩,B,e) rfl (λw h _=>⟨h.1,λg hg=>⟨?_,?_⟩⟩) zU)
 .exact h.2.2.2.2.2.2 g ((hmem g).1 hg)
 .exact h.2.2.2.1 g ((hmem g).1 hg)
def tk_11{k:Nat}{s:Rds}(h:s.2≠11):(tkS k s).2≠11:=by
 obtain⟨l,f⟩:=s;have h:f≠11:=h;show(tk l f k).2.2≠11;unfold tk;by_cases h0:f=0
 .rw [if_pos h0];split<;>simp
 .rw [if_neg h0];exact h
def mo_11{m:Nat}{s:Rds}(h:s.2≠11):(moS m s).2≠11:=by
 unfold moS;split
 .show(12:Nat)≠11;decide
 .exact tk_11 h
def by_11{s:Rds}(h:s.2≠11):(byS s).2≠11:=tk_11 (mo_11 h)
theorem it_11{f:Rds->Rds}(hf:∀s:Rds,s.2≠11->(f s).2≠11){s:Rds}(h:s.2≠11):∀n,(itS f s n).2≠11
 | 0=>h
 | n+1=>hf _ (it_11 hf h n)
def gb_11{s:Rds}(h:s.2≠11):(gbS s).2≠11:=it_11 (λ_ h=>tk_11 h) (mo_11 (tk_11 h)) _
def gr_11{s:Rds}(h:s.2≠11):(grS s).2≠11:=by_11 (gb_11 h)
def end_on{s:Rds}(h:s.2≠11):(endE s=0\/endE s=11)↔s.2=0:=by
 unfold endE don;constructor
 .intro h2
  by_cases h0:s.2=0
  .exact h0
  .rw [if_neg h0] at h2;exact h2.resolve_right h
 .intro h0
  rw [if_pos h0];split
  .exact .inl rfl
  .exact .inr rfl
def goesOn_S(g:Nat){A:zt}{c:Nat}{s:Rds}(h11:s.2≠11):Spec 80 [ptr g] [RdrS g A c s] (λ_=>True) { ret:=λ_:Unit=>.q (.c (.b (decide (s.2=0)))),own:=λ_=>[RdrS g A c s] }:=by
 refine zQ [.c (.v (ptr g))] 12 func80 rfl (by rw [ntmps80];rfl) (one_ok trivial) λb=>?_;have hon:=end_on h11;have hrd:=rdone_S g (A:=A) (c:=c) s;obtain⟨e,he⟩:∃e,endE s=e:=⟨_,rfl⟩;rw [he] at hon hrd;refine zA rfl (zC rfl λK1 hK1=>?_);refine zI [ptr g] (λ_ _=>by go_simp) rfl hrd (λ_ _ _=>trivial) λ_=>?_;refine zB rfl (zJ (hK1 _ (zC rfl λK2 hK2=>?_)));by_cases h0:e=0
 .refine l_is 8 true rfl (decide_eq_true (by omega)) ?_;refine zB rfl (zJ (hK2 _ ?_));exact zP (k_retD zY () rfl (by decide) rfl (by show qR (decide (s.2=0)) = .bool true;rw [decide_eq_true (hon.1 (.inl h0))]) trivial rfl (λ_ _ _=>trivial) zU)
 .refine l_is 8 false rfl (decide_eq_false (by omega)) ?_
  refine zB rfl (zJ (hK2 _ ?_));refine zP (k_retD zY () rfl (by decide) rfl ?_ trivial rfl (λ_ _ _=>trivial) zU);have e1:decide (s.2=0)=decide ((e:Int)=11):=by rw [decide_eq_decide,<-hon];omega
  show qR (decide (s.2=0))=qR (decide ((e:Int)=11));rw [e1]
def akeys_S(g:Nat){A:zt}{c:Nat}(s:Rds)(h11:s.2≠11):Spec 82 [ptr g] [RdrS g A c s] (Rd 1 eB A c s.1)
  { ret:=λx:{ k:Nat // (itS haS (moS 65536 s) (moO 65536 s)).2=0->k=moO 65536 s }×RX×PX=>.v (.slice x.2.2.1 (ksI (moS 65536 s) x.1.1).length x.2.2.2),own:=λx=>[RdrS g x.2.1.1 x.2.1.2 (itS haS (moS 65536 s) (moO 65536 s))],p:=λx w=>Rd 32 (eY 32) x.2.2.1 x.2.2.2 (ksI (moS 65536 s) x.1.1) w/\Rd 1 eB x.2.1.1 x.2.1.2 (itS haS (moS 65536 s) (moO 65536 s)).1 w }:=by
 refine zQ [.c (.v (ptr g))] 21 func82 rfl (by rw [ntmps82];rfl) (one_ok trivial) λb=>?_;have hn6:moO 65536 s<=65536:=moO_le _ _;have h12:(moS 65536 s).2≠11:=mo_11 h11;have hrc:=rcount_S g (A:=A) (c:=c) s;obtain⟨n,hn⟩:∃n,moO 65536 s=n:=⟨_,rfl⟩;obtain⟨z,hz⟩:∃z,moS 65536 s=z:=⟨_,rfl⟩;rw [hn,hz] at hrc;rw [hn] at hn6;rw [hz] at h12;rw [hn,hz];refine zA rfl (zA rfl (zM λK hK=>zC rfl λK1 hK1=>?_));refine zI [ptr g] (λ_ _=>by go_simp) rfl hrc (λw h _=>h) λ⟨A1,c1⟩=>?_;refine l_R [RdrS g A1 c1 z] rfl (zB rfl (l_nil0 0 47 32 (eY 32) (zJ (hK1 _ (zN ?_)))))
 let F:Nat×RX×PX->Env:=λ⟨i,r,x⟩=>⟨[(4,.v (.int .i64 (n:Int))),(0,.v (ptr g)),(3,.v (.slice x.1 (ksI z i).length x.2))],[],[RdrS g r.1 r.2 (itS haS z i),KyS x.1 x.2 (ksI z i)],Rd 1 eB r.1 r.2 (itS haS z i).1,λ_=>True⟩
 have hfin:∀(i:Nat) (r:RX) (x:PX),i<=n->((itS haS z i).2≠0\/i=n)->∀e,Weak e (F (i,r,x))->kS b K 21 e:=by intro i r x hi hor e hw;refine k_weak hw (hK _ ?_);have hst:=itS_stop ha_stick hi hor;refine s_free 1 rfl (zA rfl ?_);have hk:(itS haS z n).2=0->i=n:=λh0=>hor.resolve_left λh=>h (by rw [<-hst];exact h0);refine zP (zR zY (⟨i,hk⟩,r,x) rfl (by decide) rfl rfl ?_ (λw h _=>⟨h.1,by show Rd 1 eB r.1 r.2 (itS haS z n).1 w;rw [hst];exact h.2⟩) zU);show [RdrS g r.1 r.2 (itS haS z n)]=[RdrS g r.1 r.2 (itS haS z i)];rw [hst]
 refine c_weak (e':=F (0,(A1,c1),(none,0))) ⟨⟨rfl,rfl,rfl,trivial⟩,trivial,jF _ _ _,λ_ h _=>h.1, zU⟩ (s_loop (λx=>n-x.1) F (λx=>x.1<=n) ?_ (0,(A1,c1),(none,0)) (aL _))
 rintro⟨i,r,x⟩ hi
 dsimp only at hi
 have hkl:=ksI_len z i;refine zM λK5 hK5=>zC rfl λK6 hK6=>?_
 by_cases hlt:¬i<n
 .refine l_is 11 false rfl (decide_eq_false (by omega)) ?_;refine zB rfl (zJ (hK6 _ (s_no rfl (s_exit (zS (zS (k_out ?_)))))));exact hfin i r x hi (.inr (by omega)) _ ⟨zE rfl, trivial, .refl _,λ_ h _=>h,λ_ h=>h⟩
 have hlt':i<n:=by omega
 refine l_is 11 true rfl (decide_eq_true (by omega)) ?_;refine zB rfl ?_;refine zI [ptr g] (λ_ _=>by go_simp) rfl (goesOn_S g (A:=r.1) (c:=r.2) (it_11 (f:=haS) (λ_ h=>tk_11 h) h12 i)) (λ_ _ _=>trivial) λ_=>?_;refine l_R [RdrS g r.1 r.2 (itS haS z i),KyS x.1 x.2 (ksI z i)] rfl (zB rfl (zJ (hK6 _ ?_)));refine zW ((itS haS z i).2=0) rfl (λh0=>?_) (λh0=>?_)
 .refine zO (hK5 _ ?_);have hh:=haO_len (itS haS z i);have hnx:=ksI_next z i;have hrh:=rdhash_S g (A:=r.1) (c:=r.2) (itS haS z i);obtain⟨h1,hh1⟩:∃h1,haO (itS haS z i)=h1:=⟨_,rfl⟩;rw [hh1] at hh hnx hrh;refine zN (s_lit (zB rfl ?_));refine zI [ptr g] (λ_ _=>by go_simp) rfl hrh (λw h _=>h.2) λ⟨A2,c2⟩=>?_;refine l_R [RdrS g A2 c2 (itS haS z (i+1)),KyS x.1 x.2 (ksI z i)] rfl ?_;refine l_push zY 1 h1 (fe:=eY 32) rfl rfl rfl rfl rfl rfl rfl (eY_ok hh) (by decide) (by decide) (by rw [hkl];show(i+1)*32<=_;omega) (by omega) (aL _) λA3 c3=>?_;refine zB rfl (zJ ?_);exact zX (i+1,(A2,c2),(A3,c3)) hlt' (by show n-(i+1)<n-i;omega) ⟨⟨rfl,rfl,by show lookS _ 3=some (.v (.slice A3 (ksI z (i+1)).length c3));rw [hnx];rfl,trivial⟩,trivial,by show lN _ [_,KyS A3 c3 (ksI z (i+1))];rw [hnx];exact .refl _,λ_ h _=>h.1, zU⟩
 .refine s_exit (zS (zS (k_out ?_)));exact hfin i r x hi (.inl h0) _ ⟨zE rfl, trivial, .refl _,λ_ h _=>h.2, zU⟩
theorem read_err:∀(n:Nat) (way:zj) (b:zu) (e:Nat),PW.read n way b = .error e->e≠0
 | n,way,[],e,h=>by rw [read_nil] at h;injection h with h;omega
 | n,way,x::b,e,h=>by
  rw [read_cons] at h;by_cases h0:x=0
  .rw [if_pos h0] at h;cases h
  rw [if_neg h0] at h;by_cases h1:x=1
  .rw [if_pos h1] at h
   unfold readLeaf at h;split at h
   .injection h with h;omega
   .split at h
    .cases h
    .injection h with h;omega
  rw [if_neg h1] at h;by_cases h2:x=2
  .rw [if_pos h2] at h
   cases n with
   | zero=>injection h with h;omega
   | succ n =>
    unfold readIn at h
    dsimp only at h
    cases hr:PW.read n (way++[0]) b with
    | error e1 =>
     rw [hr] at h
     injection h with h
     subst h;exact read_err n _ _ _ hr
    | ok u =>
     obtain⟨y,b1⟩:=u;rw [hr] at h
     dsimp only at h
     cases hr2:PW.read n (way++[1]) b1 with
     | error e1 =>
      rw [hr2] at h
      injection h with h
      subst h;exact read_err n _ _ _ hr2
     | ok u =>
      obtain⟨z,b2⟩:=u;rw [hr2] at h
      dsimp only at h
      split at h
      .injection h with h;omega
      .cases h
  rw [if_neg h2] at h;by_cases h3:x=3
  .rw [if_pos h3] at h
   unfold readHid at h;split at h
   .injection h with h;omega
   .cases h
  .rw [if_neg h3] at h;injection h with h;omega
theorem parse_err{b:zu}{e:Nat}(h:PW.parse b = .error e):e≠0:=by
 unfold PW.parse at h;cases hr:PW.read 256 [] b with
 | error e1 =>
  rw [hr] at h
  injection h with h
  subst h;exact read_err _ _ _ _ hr
 | ok u =>
  obtain⟨w,r⟩:=u;rw [hr] at h
  cases r with
  | nil=>cases h
  | cons=>injection h with h;omega
def stpW(b:zu):PW:=if stpE b=0 then(match PW.parse (apP b) with
  | .ok w=>w
  | .error _=>.empty) else .empty
theorem stpW_ok{b:zu}(h:stpE b=0):PW.parse (apP b) = .ok (stpW b):=by
 have h1:=(stpE_ok h).2.1;unfold prtE at h1;unfold stpW;rw [if_pos h];cases hp:PW.parse (apP b) with
 | ok w=>rfl
 | error e =>
  rw [hp] at h1;have h1:e=0:=h1;subst h1;exact absurd rfl (parse_err hp)
theorem firstE_at:∀{l:zj} {i e:Nat},(∀j,j<i->l[j]?=some 0)->l[i]?=some e->e≠0->firstE l=e
 | [],_,_,_,h,_=>by simp at h
 | x::l,0,e,_,h,he=>by
  have h:x=e:=by simpa using h
  subst h;unfold firstE;rw [if_neg he]
 | x::l,i+1,e,h0,h,he=>by
  have hx:x=0:=by simpa using h0 0 (uT _)
  subst hx;unfold firstE;rw [if_pos rfl];exact firstE_at (l:=l) (i:=i) (λj hj=>by simpa using h0 (j+1) (Nat.succ_lt_succ hj)) (by simpa using h) he
theorem firstE_all:∀{l:zj},(∀e∈l,e=0)->firstE l=0
 | [],_=>rfl
 | x::l,h=>by have hx:x=0:=h x (.head _);subst hx;unfold firstE;rw [if_pos rfl];exact firstE_all λe he=>h e (.tail _ he)
def gb_yes{z:Rds}{i:Nat}(h:(itS grS z (i+1)).2=0):(gbS (itS grS z i)).2=0:=by unfold itS grS at h;exact(by_yes h).1
structure PaI(z:Rds)(i:Nat)(vs:yv)(ss:yr):Prop where
  ids:vs.map GrV.id=(dV i).map λj=>(grO (itS grS z j)).id
  keys:(itS grS z i).2=0->(vs.map λv=>v.k.l)=(dV i).map λj=>(grO (itS grS z j)).keys
  segs:ss.map Seg.l=(dV i).map λj=>(grO (itS grS z j)).more
  more:∀v∈vs,v.more=[]
def PaI.zero(z:Rds):PaI z 0 [] []:=⟨rfl,λ_=>rfl,rfl,λ_ h=>by cases h⟩
def PaI.next{z:Rds}{i:Nat}{vs:yv}{ss:yr}(h:PaI z i vs ss){v:GrV}{s:Seg}(h1:v.id=haO (itS grS z i))(h2:(gbS (itS grS z i)).2=0->v.k.l=ksI (gkS (itS grS z i)) (gkN (itS grS z i)))(h3:v.more=[])(h4:s.l=byO (gbS (itS grS z i))):PaI z (i+1) (vs++[v]) (ss++[s]):=by
 refine⟨?_,λh0=>?_,?_,λx hx=>?_⟩
 .rw [pI,bX,bX,h.ids];show _++[v.id]=_++[haO _];rw [h1]
 .have hi:(itS grS z i).2=0:=itS_ok (f:=grS) (s:=z) (n:=i+1) (i:=i) gr_stick h0 (Nat.le_succ i);rw [pI,bX,bX,h.keys hi];show _++[v.k.l]=_++[ksI _ _];rw [h2 (gb_yes h0)]
 .rw [pI,bX,bX,h.segs];show _++[s.l]=_++[byO _];rw [h4]
 .rcases bK.1 hx with hx|hx
  .exact h.more x hx
  .rw [aD.1 hx];exact h3
def PaI.len{z:Rds}{i:Nat}{vs:yv}{ss:yr}(h:PaI z i vs ss):vs.length=i/\ss.length=i:=by have h1:=congrArg lJ h.ids;have h2:=congrArg lJ h.segs;rw [aX,aX,List.length_range] at h1 h2;exact⟨h1,h2⟩
def fullG(g:GbD):GrD:=⟨g.id,g.keys,hpU g.more⟩
def bareG(g:GbD):GrD:=⟨g.id,g.keys,[]⟩
structure PbI(L:List GbD)(ss:yr)(i:Nat)(vs:yv):Prop where
  pl:vs.map GrV.pl=(L.take i).map fullG++(L.drop i).map bareG
  ok:∀j,j<i->(L.map λg=>hpE g.more)[j]?=some 0
def PaI.bare{b:zu}{vs:yv}{ss:yr}(h:PaI (apM b) (apN b) vs ss)(h0:(apR b).2=0):PbI (apL b) ss 0 vs/\ss.map Seg.l=(apL b).map GbD.more:=by
 refine⟨⟨?_,λj hj=>absurd hj (gH j)⟩,?_⟩
 .show vs.map GrV.pl=[]++(apL b).map bareG
  rw [cR];have h1:=h.ids;have h2:=h.keys h0;have h3:=h.more;unfold apL;rw [dB];generalize dV (apN b)=ns at h1 h2 ⊢;clear h h0;induction vs generalizing ns with
  | nil =>
   cases ns with
   | nil=>rfl
   | cons n ns=>cases h1
  | cons v vs ih =>
   cases ns with
   | nil=>cases h1
   | cons n ns =>
    rw [bA,bA] at h1 h2
    injection h1 with a1 a2
    injection h2 with b1 b2
    rw [bA,bA,ih (λx hx=>h3 x (.tail _ hx)) ns a2 b2]
    congr 1
    unfold GrV.pl
    rw [h3 v (.head _),b1,a1]
    rfl
 .unfold apL;rw [h.segs,dB];rfl
def PbI.step{L:List GbD}{ss:yr}{i:Nat}{vs:yv}(h:PbI L ss i vs){g:GbD}(hg:L[i]?=some g)(h0:hpE g.more=0){v':GrV}(hv:v'.pl=fullG g):PbI L ss (i+1) (vs.set i v'):=by
 have hlt:=(aP.1 hg).1;have hge:=(aP.1 hg).2;refine⟨?_,λj hj=>?_⟩
 .rw [dR,h.pl,hv]
  have h1:L.drop i=g::L.drop (i+1):=by rw [dZ hlt,hge]
  have h2:L.take (i+1)=L.take i++[g]:=by rw [dO,hg];rfl
  have h3:((L.take i).map fullG).length=i:=by rw [aX,aV];omega
  rw [h1,h2,bX,bA,eX _ _ (by omega),h3,fL,aT];rfl
 .rcases tX.1 hj with hj|rfl
  .exact h.ok j hj
  .rw [cE,hg];show some (hpE g.more)=_;rw [h0]
theorem PbI.at_{L:List GbD}{ss:yr}{i:Nat}{vs:yv}(h:PbI L ss i vs){g:GbD}(hg:L[i]?=some g):∃v,vs[i]?=some v/\v.pl=bareG g:=by
 have hlt:=(aP.1 hg).1;have h3:((L.take i).map fullG).length=i:=by rw [aX,aV];omega
 have h1:=congrArg (λl=>l[i]?) h.pl;simp only [cE] at h1;rw [bN (by omega),h3,fL,cE,List.getElem?_drop,cD,hg] at h1;cases hv:vs[i]? with
 | none=>rw [hv] at h1;cases h1
 | some v =>
  rw [hv] at h1;exact⟨v,rfl,bQ h1⟩
abbrev SgS(A:zt)(c:Nat)(l:yr):Res:=OwnS 0 39 1 eSeg A c l
abbrev StX(b:zu):={ vs:yv // vs.map GrV.pl=stpG b }×PX
abbrev stpP(b:zu):Post (StX b):={ ret:=λx=>.t [prQ (stpW b),.c (.v (.slice x.2.1 x.1.1.length x.2.2)),.c (.v (.int .i64 (stpE b:Int)))],p:=λx w=>Rd 34 eGr x.2.1 x.2.2 x.1.1 w/\∀g∈x.1.1,g.rd w }
def gr_cl(g:GrV):(eGr g).cl=By g.id++[.slice g.k.A g.k.l.length g.k.c,.slice g.U g.more.length g.u]:=by show(eGr g).den.cells.toList=_;show(catP g.parts).toList=_;simp [catP,GrV.parts,Pt.cells,SC.den]
def gr_setU(g:GrV)(U:zt)(u:Nat)(us:yx):(eGr ⟨g.id,g.h32,g.k,U,u,us⟩).cl=(eGr g).cl.take 33++(SQ.c (.v (.slice U us.length u))).cl++(eGr g).cl.drop 34:=by
 have h1:(By g.id).length=32:=by rw [By_len,g.h32]
 rw [gr_cl,gr_cl,List.take_append,List.drop_append,h1,bJ (by omega),cT (by omega)];simp [SQ.cl,SQ.den,SC.den,Value.cells]
def apL_len(l:zu):(apL l).length=apN l:=by unfold apL;rw [aX,List.length_range]
structure PrS where
  i:Nat
  r:RX
  vs:yv
  X:PX
  ss:yr
  Y:PX
structure PqS where
  i:Nat
  vs:yv
def aparse_S{A:zt}{c:Nat}(l:zu)(hl:l.length<=281474976710656):Spec 39 [.slice A l.length c] [] (λw=>Ta w/\Rd 1 eB A c l w) (stpP l):=by
 refine zQ [.c (.v (.slice A l.length c))] 83 func39 rfl (by rw [ntmps39];rfl) (one_ok trivial) λb=>?_;refine zA rfl (zC rfl λK1 hK1=>?_);refine z6 [.slice A l.length c] (λ_ _=>by go_simp) rfl (rdnew_S l hl) (λw h _=>h.2) λ⟨g,g0⟩=>?_;refine zB rfl (zJ (hK1 _ (zC rfl λK2 hK2=>l_R [RdrS g (some ⟨g0,0,none⟩) l.length (l,0)] rfl ?_)));have hbl:(byO (l,0)).length<=1048576:=bM (tkO_le _ _).1 (moO_le _ _);have hb0:byO (l,0)=apP l:=rfl;have hrb:=rbytes_S g (A:=some ⟨g0,0,none⟩) (c:=l.length) (l,0);rw [hb0] at hrb hbl;obtain⟨top,htop⟩:∃top,apP l=top:=⟨_,rfl⟩;rw [htop] at hrb;refine zI [ptr g] (λ_ _=>by go_simp) rfl hrb (λw _ h=>h.1) λ⟨gt,A1,c1⟩=>?_;refine l_R [RdrS g A1 c1 (byS (l,0))] rfl (zB rfl (zJ (hK2 _ (zA rfl (zA rfl ?_)))));obtain⟨n,hn⟩:∃n,apN l=n:=⟨_,rfl⟩;obtain⟨z,hz⟩:∃z,apM l=z:=⟨_,rfl⟩;have hn6:n<=65536:=by rw [<-hn];exact moO_le _ _
 have hz11:z.2≠11:=by rw [<-hz];exact mo_11 (by_11 (show(0:Nat)≠11 by decide))
 have hrc:=rcount_S g (A:=A1) (c:=c1) (byS (l,0));have hn':moO 65536 (byS (l,0))=n:=hn;have hz':moS 65536 (byS (l,0))=z:=hz;rw [hn',hz'] at hrc;refine zM λK hK=>zC rfl λK3 hK3=>?_;refine zI [ptr g] (λ_ _=>by go_simp) rfl hrc (λw h _=>h.1) λ⟨A2,c2⟩=>?_;refine l_R [RdrS g A2 c2 z] rfl (zB rfl (l_nil0 0 39 1 eSeg (l_nil0 0 60 34 eGr (zJ (hK3 _ (zN ?_))))));let Es:PrS->SE:=λs=>[(5,.v (ptr g)),(6,.v (.slice (some ⟨gt,0,none⟩) top.length top.length)),(9,.v (.int .i64 (n:Int))),(7,.v (.slice s.X.1 s.vs.length s.X.2)),(8,.v (.slice s.Y.1 s.ss.length s.Y.2)),(2,.a 2 0)];let Ls:ze:=[⟨2,none,87,[.one (.v PW.empty.top)]⟩];let Ff:PrS->zv:=λs w=>(Ta w/\Rd 1 eB (some ⟨gt,0,none⟩) top.length top w)/\(∀v∈s.vs,v.rd w)/\(∀q∈s.ss,q.rd w)/\Rd 1 eB s.r.1 s.r.2 (itS grS z s.i).1 w;let Fs:PrS->Env:=λs=>⟨Es s,Ls,[RdrS g s.r.1 s.r.2 (itS grS z s.i),GrS s.X.1 s.X.2 s.vs,SgS s.Y.1 s.Y.2 s.ss],Ff s,λ_=>True⟩;have hfin:∀s:PrS,s.i<=n->PaI z s.i s.vs s.ss->((itS grS z s.i).2≠0\/s.i=n)->∀e,Weak e (Fs s)->kS b K 83 e:=by
  rintro⟨i,r,vs,X,ss,Y⟩ hi hP hor e hw;dsimp only at hi hP hor;obtain⟨hvl,hsl⟩:=hP.len;have hst:=itS_stop gr_stick hi hor;have hR:apR l=itS grS z i:=by unfold apR;rw [hn,hz];exact hst
  refine k_weak hw (hK _ ?_);obtain⟨e0,he0⟩:∃e0,endE (apR l)=e0:=⟨_,rfl⟩;have hrd:=rdone_S g (A:=r.1) (c:=r.2) (itS grS z i);rw [<-hR,he0] at hrd;refine zM λK5 hK5=>zC rfl λK4 hK4=>?_;refine l_R [RdrS g r.1 r.2 (apR l),GrS X.1 X.2 vs,SgS Y.1 Y.2 ss] (by rw [hR]) ?_;refine zI [ptr g] (λ_ _=>by go_simp) rfl hrd (λ_ _ _=>trivial) λ_=>?_;refine l_R [RdrS g r.1 r.2 (apR l),GrS X.1 X.2 vs,SgS Y.1 Y.2 ss] rfl (zB rfl (zJ (hK4 _ (zA rfl ?_))));refine zW ((e0:Int)≠0) rfl (λh1=>?_) (λh1=>?_)
  .have h1:e0≠0:=by omega
   have e3:stpE l=e0:=by unfold stpE;rw [he0,if_neg h1]
   have e4:stpG l=[]:=by unfold stpG;rw [if_neg (by omega)]
   have e5:stpW l = .empty:=by unfold stpW;rw [if_neg (by omega)]
   refine zA rfl (zP (k_drop 0 rfl (k_drop 0 rfl (k_drop 0 rfl ?_))));exact zR zY (⟨[],by rw [e4];rfl⟩,none,0) rfl (by decide) rfl (by show RV.t [prQ (stpW l),.c (.v (.slice none 0 0)),.c (.v (.int .i64 (stpE l:Int)))]=_;rw [e3,e5];rfl) rfl (λw _ _=>⟨Rd.nil _ _ _,λ_ h=>by cases h⟩) zU
  have h1:e0=0:=by omega
  have h0:endE (apR l)=0:=by rw [he0,h1]
  have hR2:(apR l).2=0:=(end_ok h0).1;obtain rfl:i=n:=hor.resolve_left λh=>h (by rw [<-hR];exact hR2);obtain⟨hPb,hss⟩:=PaI.bare (b:=l) (by rw [hz,hn];exact hP) hR2;have hLn:(apL l).length=i:=by rw [apL_len,hn]
  refine zO (hK5 _ ?_);have hwp:=wParse_S (A:=some ⟨gt,0,none⟩) (c:=top.length) top;have hbadP:∀ee,PW.parse top = .error ee->stpE l=ee/\stpG l=[]/\stpW l = .empty/\ee≠0:=by
   intro ee hee;have hne:=parse_err hee;have e3:stpE l=ee:=by
    have:prtE (apP l)=ee:=by unfold prtE;rw [htop,hee]
    unfold stpE;rw [if_pos h0,this,if_neg hne]
   exact⟨e3,by unfold stpG;rw [if_neg (by omega)],by unfold stpW;rw [if_neg (by omega)],hne⟩
  cases hpp:PW.parse top with
  | error ee =>
   obtain⟨e3,e4,e5,hne⟩:=hbadP ee hpp;rw [hpp] at hwp;refine zC rfl λK6 hK6=>?_;refine z6 [.slice (some ⟨gt,0,none⟩) top.length top.length] (λ_ _=>by go_simp) rfl hwp (λw h _=>⟨h.2.1.2,h.2.1.1.sh⟩) λ_=>?_;refine zB rfl (zJ (hK6 _ (zM λK7 hK7=>zA rfl ?_)));refine zW ((ee:Int)≠0) rfl (λ_=>?_) (λh=>absurd h (by omega));refine zA rfl (zP (k_drop 0 rfl (k_drop 0 rfl (k_drop 0 rfl ?_))));exact zR zY (⟨[],by rw [e4];rfl⟩,none,0) rfl (by decide) rfl (by show RV.t [prQ (stpW l),.c (.v (.slice none 0 0)),.c (.v (.int .i64 (stpE l:Int)))]=_;rw [e3,e5];rfl) rfl (λw _ _=>⟨Rd.nil _ _ _,λ_ h=>by cases h⟩) zU
  | ok W =>
   have hpr:prtE (apP l)=0:=by unfold prtE;rw [htop,hpp]
   rw [hpp] at hwp;refine zC rfl λK6 hK6=>?_;refine z6 [.slice (some ⟨gt,0,none⟩) top.length top.length] (λ_ _=>by go_simp) rfl hwp (λw h _=>⟨h.2.1.2,h.2.1.1.sh⟩) λ_=>?_;refine zB rfl (zJ (hK6 _ (zM λK7 hK7=>zA rfl ?_)));refine zW ((0:Int)≠0) rfl (λh=>absurd rfl h) (λ_=>?_);refine zO (hK7 _ (s_free 2 rfl (zM λK8 hK8=>zA rfl (zN ?_))))
   let Gs:PqS->Env:=λs=>⟨[(62,.v (.int .i64 (s.i:Int))),(61,.v (.int .i64 (ss.length:Int))),(60,.v (.slice Y.1 ss.length Y.2)),(7,.v (.slice X.1 vs.length X.2)),(12,.a 12 0),(2,.a 2 0)],[⟨12,none,87,[.one (.v W.top)]⟩,⟨2,none,87,[.one (.v PW.empty.top)]⟩],[RdrS g r.1 r.2 (apR l),GrS X.1 X.2 s.vs],λw=>(Rd 1 eSeg Y.1 Y.2 ss w/\∀q∈ss,q.rd w)/\∀v∈s.vs,v.rd w,λ_=>True⟩
   refine c_weak (e':=Gs ⟨0,vs⟩) ⟨zE rfl, zL rfl rfl, .refl _,λ_ h _=>⟨⟨h.1,h.2.2.2.2.2.1⟩,h.2.2.2.2.1⟩, zU⟩ (s_loop (λs=>ss.length-s.i) Gs (λs=>s.i<=ss.length/\PbI (apL l) ss s.i s.vs) ?_ ⟨0,vs⟩ ⟨aL _,hPb⟩)
   rintro⟨j,ws⟩ ⟨hj,hB⟩
   dsimp only at hj hB
   have hwl:ws.length=vs.length:=by have:=congrArg lJ hB.pl;simp only [aX,aA,aV,List.length_drop] at this;omega
   refine zA rfl (zM λK9 hK9=>?_);refine zW ((j:Int)<(ss.length:Int)) rfl (λhlt=>?_) (λhge=>?_)
   .have hlt:j<ss.length:=by omega
    obtain⟨sg,hsg⟩:∃sg,ss[j]?=some sg:=⟨_,aJ hlt⟩;obtain⟨gd,hgd⟩:∃gd,(apL l)[j]?=some gd:=⟨_,aJ (by omega)⟩;have hsl2:sg.l=gd.more:=by have h2:=congrArg (λl=>l[j]?) hss;simp only [cE,hsg,hgd,Option.map_some] at h2;exact bQ h2
    have hgl:sg.l.length<=281474976710656:=by rw [hsl2];unfold apL at hgd;rw [cE] at hgd;obtain⟨q,_,rfl⟩:=n6.1 hgd;have:(byO (gbS (itS grS (apM l) q))).length<=1048576:=bM (tkO_le _ _).1 (moO_le _ _);show(byO (gbS (itS grS (apM l) q))).length<=_;omega
    obtain⟨v,hv,hvp⟩:=hB.at_ hgd;have hwf:=(aP.1 hv).1;have hhp:=hparse_S (A:=sg.A) (c:=sg.c) sg.l hgl;obtain⟨us,hus⟩:∃us,hpU sg.l=us:=⟨_,rfl⟩;obtain⟨ee,hee⟩:∃ee,hpE sg.l=ee:=⟨_,rfl⟩;rw [hus,hee] at hhp;have hmap:((apL l).map λg=>hpE g.more)[j]?=some ee:=by rw [cE,hgd,<-hee,hsl2];rfl
    refine zO (hK9 _ (zM λK10 hK10=>zN (zC rfl λK11 hK11=>l_elem zY rfl rfl rfl j rfl hsg rfl rfl (rd_fact λ_ h _=>h.1.1) (zB rfl (zJ (hK11 _ ?_))))));refine s_where 1 rfl (show 0<ws.length by omega) λgx hX=>?_;refine zC rfl λK12 hK12=>?_;refine z6 [.slice sg.A sg.l.length sg.c] (λ_ _=>by go_simp) rfl hhp (λw h _=>h.1.2 sg (aR hsg)) λx=>?_;refine zB rfl ?_;refine l_op (.v (.pointer (some ⟨gx,0+34*j,none⟩))) trivial rfl rfl rfl (runO_ixS j rfl underlying54 rfl (by rw [<-hX];rfl) rfl (by omega)) ?_;refine zB rfl ?_;refine l_R [RdrS g r.1 r.2 (apR l),GrS (some ⟨gx,0,none⟩) X.2 ws] (by rw [<-hX];rfl) ?_;refine l_stFd (q:=.c (.v (.slice x.1 us.length x.2))) 1 j 33 1 v ⟨v.id,v.h32,v.k,x.1,x.2,us⟩ rfl rfl rfl rfl (congrArg (λz:Nat=>some (SV.v (.pointer (some ⟨gx,z,none⟩)))) (show 0+34*j+33=34*j+33 by omega)) rfl hv (by kernel_rfl) rfl (λy hy=>by rw [aD.1 hy];rfl) (gr_setU v x.1 x.2 us) (by decide) (eGr_ok _) ?_;refine zB rfl (zJ (hK12 _ (zA rfl ?_)));refine zW ((ee:Int)≠0) rfl (λh2=>?_) (λh2=>?_)
    .have h2:ee≠0:=by omega
     have e3:stpE l=ee:=by unfold stpE;rw [if_pos h0,if_pos hpr];exact firstE_at hB.ok hmap h2
     have e4:stpG l=[]:=by unfold stpG;rw [if_neg (by omega)]
     have e5:stpW l = .empty:=by unfold stpW;rw [if_neg (by omega)]
     refine zA rfl (zP (k_drop 0 rfl (k_drop 0 rfl ?_)));exact zR zY (⟨[],by rw [e4];rfl⟩,none,0) rfl (by decide) rfl (by show RV.t [prQ (stpW l),.c (.v (.slice none 0 0)),.c (.v (.int .i64 (stpE l:Int)))]=_;rw [e3,e5];rfl) rfl (λw _ _=>⟨Rd.nil _ _ _,λ_ h=>by cases h⟩) zU
    have h2:ee=0:=by omega
    refine zO (hK10 _ (zD rfl ?_));refine zX ⟨j+1,ws.set j ⟨v.id,v.h32,v.k,x.1,x.2,us⟩⟩ ⟨hlt,hB.step hgd (by rw [<-hsl2,hee,h2]) ?_⟩ (by show ss.length-(j+1)<ss.length-j;omega) ⟨⟨nextI j ss.length (by omega) hlt,rfl,rfl,rfl,rfl,rfl,trivial⟩,⟨rfl,rfl,rfl,rfl,trivial⟩,by show lN [_,GrS (some ⟨gx,0,none⟩) X.2 _] [_,GrS X.1 X.2 _];rw [hX],λw h _=>⟨h.2.1,λq hq=>?_⟩, zU⟩
    .have a1:v.id=gd.id:=congrArg GrD.id hvp;have a2:v.k.l=gd.keys:=congrArg GrD.keys hvp;show(⟨v.id,v.k.l,us⟩:GrD)=⟨gd.id,gd.keys,hpU gd.more⟩;rw [a1,a2,<-hus,hsl2]
    .rcases List.mem_or_eq_of_mem_set hq with hq|rfl
     .exact h.2.2 q hq
     .exact⟨(h.2.2 v (aR hv)).1,h.1⟩
   obtain rfl:ss.length=j:=by omega
   have hall:∀e∈(apL l).map λg=>hpE g.more,e=0:=λe he=>by obtain⟨j,hj⟩:=jB he;have hlt:=(aP.1 hj).1;rw [aX] at hlt;have:=hB.ok j (by omega);rw [hj] at this;exact bQ this
   have e3:stpE l=0:=by unfold stpE;rw [if_pos h0,if_pos hpr];exact firstE_all hall
   have e4:stpG l=ws.map GrV.pl:=by unfold stpG;rw [if_pos e3,hB.pl,bJ (by omega),cT (by omega),List.map_nil,bC];rfl
   have e5:stpW l=W:=by unfold stpW;rw [if_pos e3,htop,hpp]
   refine s_exit (zS (zS (k_out (k_drop 0 rfl (hK8 _ (s_free 0 rfl (zA rfl ?_)))))));refine zP (k_weak (e':=⟨[(3,.v (.slice X.1 ws.length X.2)),(4,.v (.int .i64 0)),(2,.a 2 0)],[⟨2,none,87,[.one (.v W.top)]⟩],[],λw=>Rd 34 eGr X.1 X.2 ws w/\∀v∈ws,v.rd w,λ_=>True⟩) ⟨⟨by rw [hwl];rfl,rfl,rfl,trivial⟩,⟨rfl,rfl,trivial⟩,.refl _,λ_ h _=>⟨h.1,h.2.2⟩, zU⟩ ?_);exact zR zY (⟨ws,e4.symm⟩,X) rfl (by decide) rfl (by show RV.t [prQ (stpW l),.c (.v (.slice X.1 ws.length X.2)),.c (.v (.int .i64 (stpE l:Int)))]=_;rw [e3,e5];rfl) rfl (λw h _=>h) zU
 refine c_weak (e':=Fs ⟨0,(A2,c2),[],(none,0),[],(none,0)⟩) ⟨zE rfl, ⟨rfl,rfl,trivial⟩,?_,λ_ h hM=>⟨⟨h.2.2.2.1,hM.2.1⟩,λ_ h=>(by cases h),λ_ h=>(by cases h),h.1⟩, zU⟩ (s_loop (λs=>n-s.i) Fs (λs=>s.i<=n/\PaI z s.i s.vs s.ss) ?_ ⟨0,(A2,c2),[],(none,0),[],(none,0)⟩ ⟨aL _,PaI.zero z⟩)
 .exact kE (l₁:=[_,_]) (l₂:=[_])
 rintro⟨i,r,vs,X,ss,Y⟩ ⟨hi,hP⟩;dsimp only at hi hP;obtain⟨hvl,hsl⟩:=hP.len;have h11:=it_11 (f:=grS) (λ_ h=>gr_11 h) hz11 i;refine zM λK5 hK5=>zC rfl λK6 hK6=>?_;by_cases hlt:¬i<n
 .refine l_is 26 false rfl (decide_eq_false (show ¬(vs.length:Int)<(n:Int) by omega)) ?_;refine zB rfl (zJ (hK6 _ (s_no rfl (s_exit (zS (zS (k_out ?_)))))));exact hfin ⟨i,r,vs,X,ss,Y⟩ hi hP (.inr (by show i=n;omega)) _ ⟨zE rfl, zL rfl rfl, .refl _,λ_ h _=>h,λ_ h=>h⟩
 have hlt':i<n:=by omega
 refine l_is 26 true rfl (decide_eq_true (show(vs.length:Int)<(n:Int) by omega)) ?_;refine zB rfl ?_;obtain⟨s,hs⟩:∃s,itS grS z i=s:=⟨_,rfl⟩;have hsn:itS grS z (i+1)=byS (gbS s):=by rw [<-hs];rfl
 rw [hs] at h11;refine l_R [RdrS g r.1 r.2 s,GrS X.1 X.2 vs,SgS Y.1 Y.2 ss] (by rw [<-hs]) ?_;refine zI [ptr g] (λ_ _=>by go_simp) rfl (goesOn_S g (A:=r.1) (c:=r.2) h11) (λ_ _ _=>trivial) λ_=>?_;refine l_R [RdrS g r.1 r.2 s,GrS X.1 X.2 vs,SgS Y.1 Y.2 ss] rfl (zB rfl (zJ (hK6 _ ?_)));refine zW (s.2=0) rfl (λh0=>?_) (λh0=>?_)
 .refine zO (hK5 _ ?_)
  have hh:=haO_len s;have hrh:=rdhash_S g (A:=r.1) (c:=r.2) s;obtain⟨h1,hh1⟩:∃h1,haO s=h1:=⟨_,rfl⟩;rw [hh1] at hh hrh;refine zN (zC rfl λK7 hK7=>?_);refine zI [ptr g] (λ_ _=>by go_simp) rfl hrh (λw h _=>by rw [<-hs];exact h.2.2.2.2) λ⟨A3,c3⟩=>?_;refine l_R [RdrS g A3 c3 (haS s),GrS X.1 X.2 vs,SgS Y.1 Y.2 ss] rfl (zB rfl (zJ (hK7 _ (zC rfl λK8 hK8=>?_))));refine zI [ptr g] (λ_ _=>by go_simp) rfl (akeys_S g (A:=A3) (c:=c3) (haS s) (tk_11 h11)) (λw h _=>h.1) λ⟨⟨k,hk⟩,⟨A4,c4⟩,A5,c5⟩=>?_;refine l_R [RdrS g A4 c4 (gbS s),GrS X.1 X.2 vs,SgS Y.1 Y.2 ss] rfl (zB rfl (zJ (hK8 _ ?_)));have hk:(gbS s).2=0->k=gkN s:=hk;refine zC rfl λK9 hK9=>?_;refine l_push zY 1 (⟨h1,hh,⟨A5,c5,ksI (gkS s) k⟩,none,0,[]⟩:GrV) (fe:=eGr) rfl rfl rfl rfl rfl rfl rfl (eGr_ok _) (by decide) (by decide) (by rw [hvl];show(i+1)*80<=_;omega) (by omega) (aL _) λB1 b1=>?_;refine zB rfl (zJ (hK9 _ (s_lit (zB rfl ?_))));have hrb2:=rbytes_S g (A:=A4) (c:=c4) (gbS s);rw [<-hsn] at hrb2;obtain⟨bs,hbs⟩:∃bs,byO (gbS s)=bs:=⟨_,rfl⟩;rw [hbs] at hrb2;refine zI [ptr g] (λ_ _=>by go_simp) rfl hrb2 (λw h _=>h.1.2) λ⟨gs,A6,c6⟩=>?_;refine l_R [RdrS g A6 c6 (itS grS z (i+1)),GrS B1 b1 (vs++[⟨h1,hh,⟨A5,c5,ksI (gkS s) k⟩,none,0,[]⟩]),SgS Y.1 Y.2 ss] rfl ?_;refine l_push zY 2 (⟨some ⟨gs,0,none⟩,bs.length,bs⟩:Seg) (fe:=eSeg) rfl rfl rfl rfl rfl rfl rfl (eSeg_ok _) (by decide) (by decide) (by rw [hsl];show(i+1)*24<=_;omega) (by omega) (aL _) λB2 b2=>?_;refine zB rfl (zJ ?_);refine zX ⟨i+1,(A6,c6),vs++[⟨h1,hh,⟨A5,c5,ksI (gkS s) k⟩,none,0,[]⟩],(B1,b1),ss++[⟨some ⟨gs,0,none⟩,bs.length,bs⟩],(B2,b2)⟩ ⟨hlt',hP.next (by rw [hs];exact hh1.symm) (by rw [hs];exact λh=>congrArg (ksI (gkS s)) (hk h)) rfl (by rw [hs];exact hbs.symm)⟩ (by show n-(i+1)<n-i;omega) ⟨zE rfl, zL rfl rfl, .refl _,λw h hM=>?_, zU⟩;refine⟨h.2.2.2.2.1,λv hv=>?_,λq hq=>?_,h.1⟩
  .rcases bK.1 hv with hv|hv
   .exact h.2.2.2.2.2.1 v hv
   .rw [aD.1 hv];exact⟨h.2.1.1,Rd.nil _ _ _⟩
  .rcases bK.1 hq with hq|hq
   .exact h.2.2.2.2.2.2.1 q hq
   .rw [aD.1 hq];exact hM.1
 .refine s_exit (zS (zS (k_out ?_)));exact hfin ⟨i,r,vs,X,ss,Y⟩ hi hP (.inl (by show(itS grS z i).2≠0;rw [hs];exact h0)) _ ⟨zE rfl, ⟨rfl,rfl,trivial⟩,by show lN _ [RdrS g r.1 r.2 (itS grS z i),_,_];rw [hs],λ_ h _=>h.2, zU⟩
def aGrown_S{A:zt}{c:Nat}(l:zu)(hl:l.length<=281474976710656):Spec 16 [.slice A l.length c] [] (λw=>Ta w/\Rd 1 eB A c l w) { ret:=λx:StX l=>.t [.c (.v (.slice x.2.1 x.1.1.length x.2.2)),.c (.v (.int .i64 (stpE l:Int)))],p:=λx w=>Rd 34 eGr x.2.1 x.2.2 x.1.1 w/\∀g∈x.1.1,g.rd w }:=by refine zQ [.c (.v (.slice A l.length c))] 15 func16 rfl (by rw [ntmps16];rfl) (one_ok trivial) λb=>?_;refine zA rfl (zC rfl λK1 hK1=>?_);have hp:=aparse_S (A:=A) (c:=c) l hl;obtain⟨W,hW⟩:∃W,stpW l=W:=⟨_,rfl⟩;obtain⟨e,he⟩:∃e,stpE l=e:=⟨_,rfl⟩;unfold stpP at hp;rw [hW,he] at hp;refine z6 [.slice A l.length c] (λ_ _=>by go_simp) rfl hp (λ_ h _=>h) λx=>?_;refine zB rfl (zJ (hK1 _ (zA rfl (zP (k_weak (e':=⟨[(2,.v (.slice x.2.1 x.1.1.length x.2.2)),(3,.v (.int .i64 (e:Int)))],[],[],λw=>Rd 34 eGr x.2.1 x.2.2 x.1.1 w/\∀g∈x.1.1,g.rd w,λ_=>True⟩) ⟨zE rfl, trivial, .refl _,λ_ h _=>h.1, zU⟩ ?_)))));exact zR zY x rfl (by decide) rfl (by show RV.t [.c (.v (.slice x.2.1 x.1.1.length x.2.2)),.c (.v (.int .i64 (stpE l:Int)))]=_;rw [he];rfl) rfl (λ_ h _=>h) zU
noncomputable def grwE(W:PW)(g:GrD):Nat :=
  if (PW.tell g.id (PW.find g.id 0 W)).2.2=true then 100
  else if (PW.tell g.id (PW.find g.id 0 W)).2.1≠decide (g.keys≠[])\/((PW.tell g.id (PW.find g.id 0 W)).2.1=true/\(PW.tell g.id (PW.find g.id 0 W)).1≠valH g.keys) then 130
  else upsE g.id g.keys g.more
theorem upsE_at{id:zu}:∀{us:yx} {ks:zy} {i e:Nat} {u:UV},us[i]?=some u->(∀(j:Nat) (v:UV),j<i->us[j]?=some v->v.id=id/\signB v=true/\v.ver=(ks.length:Int)+(j:Int)+1) ->
  (if u.id≠id\/signB u=false then 110 else if u.ver≠(ks.length:Int)+(i:Int)+1 then 111 else 0)=e->e≠0->upsE id ks us=e
 | [],_,_,_,_,h,_,_,_=>by simp at h
 | v::us,ks,0,e,u,h,_,he,h0=>by
  obtain rfl:v=u:=by simpa using h
  unfold upsE;by_cases c:v.id≠id\/signB v=false
  .rw [if_pos c] at he ⊢;exact he
  .rw [if_neg c] at he ⊢
   by_cases c2:v.ver≠(ks.length:Int)+1
   .rw [if_pos c2];rw [if_pos (by simpa using c2)] at he;exact he
   .rw [if_neg (by simpa using c2)] at he;exact absurd he.symm h0
 | v::us,ks,i+1,e,u,h,hp,he,h0=>by
  obtain⟨g1,g2,g3⟩:=hp 0 v (uT _) rfl;unfold upsE;rw [if_neg (by rw [g2];simp [g1]),if_neg (by rw [g3];simp)];have hl:((ks++[v.key]).length:Int)=(ks.length:Int)+1:=by simp
  refine upsE_at (us:=us) (i:=i) (u:=u) (by simpa using h) (λj x hj hx=>?_) ?_ h0
  .obtain⟨x1,x2,x3⟩:=hp (j+1) x (Nat.succ_lt_succ hj) (by simpa using hx);refine⟨x1,x2,?_⟩;rw [x3,hl];omega
  .rw [hl];rw [show(ks.length:Int)+1+(i:Int)+1=(ks.length:Int)+((i+1:Nat):Int)+1 by omega];exact he
abbrev histK(ks:zy)(us:yx):zy:=ks++us.map (·.key)
def histK_take{ks:zy}{us:yx}{i:Nat}{u:UV}(h:us[i]?=some u):histK ks (us.take (i+1))=histK ks (us.take i)++[u.key]:=by unfold histK;rw [dO,h,bX,<-aT];rfl
noncomputable def growR(W:PW)(g:GrD):RV:=.t [prQ (if grwE W g=0 then PW.put g.pair 0 W else .empty),.c (.v (.int .i64 (grwE W g:Int)))]
def growR_no{W:PW}{g:GrD}{e:Nat}(h:grwE W g=e)(h0:e≠0):growR W g = .t [prQ .empty,.c (.v (.int .i64 (e:Int)))]:=by unfold growR;rw [h,if_neg h0]
structure GwS where
  i:Nat
  k:HSeg
theorem agrow_S{W:PW}(hr:W.Right [])(g:GrV)(hus:∀u∈g.more,u.Ok)(hl:g.k.l.length+g.more.length<=1000):Spec 42 [(prQ W).den,(eGr g).den] [] (λw=>Ta w/\g.rd w) (one (growR W g.pl)):=by
 refine zQ [prQ W,eGr g] 75 func42 rfl (by rw [ntmps42];rfl) (two_ok (prQ_ok W) g.parts_ok) λb=>?_;refine zA rfl ?_;have hget:=wGet_S g.h32 W hr;obtain⟨tl,htl⟩:∃tl,PW.tell g.id (PW.find g.id 0 W)=tl:=⟨_,rfl⟩;have ht32:tl.1.length=32:=by rw [<-htl];exact PW.tell_len hr.good
 have hval:=hvalue_S (A:=g.k.A) (c:=g.k.c) g.k.l;have hv32:(valH g.k.l).length=32:=dig_len _;have hE:grwE W g.pl=if tl.2.2=true then 100 else if tl.2.1≠decide (g.k.l≠[])\/(tl.2.1=true/\tl.1≠valH g.k.l) then 130 else upsE g.id g.k.l g.more:=by unfold grwE;dsimp only;rw [htl]
 rw [htl] at hget;obtain⟨tv,tt,tu⟩:=tl;dsimp only at ht32 hE;cases tu with
 | true =>
  refine zC rfl λK4 hK4=>?_;refine z6 [(prQ W).den,(eY 32 g.id).den] (λ_ _=>by go_simp) rfl hget (λ_ _ _=>trivial) λ_=>?_;refine zB rfl (zJ (hK4 _ (zM λK5 hK5=>zA rfl ?_)));refine zW ((100:Int)≠0) rfl (λ_=>?_) (λh=>absurd (by decide) h);refine zA rfl ?_;exact zP (zR zY () rfl (by decide) rfl (growR_no (e:=100) (by rw [hE];rfl) (by decide)) rfl (λ_ _ _=>trivial) zU)
 | false =>
  obtain⟨va,hva⟩:∃va,valH g.k.l=va:=⟨_,rfl⟩;rw [hva] at hval hv32 hE;refine zC rfl λK4 hK4=>?_;refine z6 [(prQ W).den,(eY 32 g.id).den] (λ_ _=>by go_simp) rfl hget (λ_ _ _=>trivial) λ_=>?_;refine zB rfl (zJ (hK4 _ (zM λK5 hK5=>zA rfl ?_)));refine zW ((0:Int)≠0) rfl (λh=>absurd rfl h) λ_=>?_;refine zO (hK5 _ (zM λK6 hK6=>?_))
  have hpos:decide ((g.k.l.length:Int)>0)=decide (g.k.l≠[]):=by
   rw [decide_eq_decide];cases g.k.l with
   | nil=>simp
   | cons=>simp
  have hbad:((tt≠decide (g.k.l≠[]))\/(tt=true/\tv≠va))->grwE W g.pl=130:=λh=>by rw [hE,if_neg (by decide),if_pos h]
  have hgood:(tt=decide (g.k.l≠[]))->(tt=true->tv=va)->∀e,Weak e ⟨[(2,.a 2 0),(3,.a 3 0),(4,.a 4 0)],[⟨4,none,87,[.one (.v PW.empty.top)]⟩,⟨3,none,60,g.parts⟩,⟨2,none,87,[.one (.v W.top)]⟩],[],λw=>Ta w/\g.rd w,λ_=>True⟩->kS b K6 75 e:=by
   intro hg1 hg2 e hw;refine k_weak hw (hK6 _ ?_);have hE2:grwE W g.pl=upsE g.id g.k.l g.more:=by
    rw [hE,if_neg (by decide),if_neg];rintro(h|h)
    .exact h hg1
    .exact h.2 (hg2 h.1)
   refine zA rfl (zM λK8 hK8=>zA rfl (zN ?_));let Ls:ze:=[⟨4,none,87,[.one (.v PW.empty.top)]⟩,⟨3,none,60,g.parts⟩,⟨2,none,87,[.one (.v W.top)]⟩];let Fs:GwS->Env:=λs=>⟨[(46,.v (.int .i64 (s.i:Int))),(45,.v (.int .i64 (g.more.length:Int))),(44,.v (.slice g.U g.more.length g.u)),(9,.v (.slice s.k.A s.k.l.length s.k.c)),(2,.a 2 0),(3,.a 3 0),(4,.a 4 0)],Ls,[],λw=>(Ta w/\g.rd w)/\s.k.rd w,λ_=>True⟩;refine c_weak (e':=Fs ⟨0,g.k⟩) ⟨zE rfl, zL rfl rfl, .refl _,λ_ h _=>⟨h,h.2.1⟩, zU⟩ (s_loop (λs=>g.more.length-s.i) Fs (λs=>s.i<=g.more.length/\s.k.l=histK g.k.l (g.more.take s.i)/\∀(j:Nat) (v:UV),j<s.i->g.more[j]?=some v->v.id=g.id/\signB v=true/\v.ver=(g.k.l.length:Int)+(j:Int)+1) ?_ ⟨0,g.k⟩ ⟨aL _,by simp [histK],λ_ _ h=>absurd h (gH _)⟩);rintro⟨i,k⟩ ⟨hi,hkl,hall⟩;dsimp only at hi hkl hall;have hklen:k.l.length=g.k.l.length+i:=by rw [hkl];simp only [histK,aA,aX,aV];omega
   refine zA rfl (zM λK9 hK9=>?_);refine zW ((i:Int)<(g.more.length:Int)) rfl (λhlt=>?_) (λhge=>?_)
   .have hlt:i<g.more.length:=by omega
    obtain⟨u,hu⟩:∃u,g.more[i]?=some u:=⟨_,aJ hlt⟩;have huo:=hus u (aR hu);refine zO (hK9 _ (zM λK10 hK10=>zN (zC rfl λK11 hK11=>l_elem zY rfl rfl rfl i rfl hu rfl rfl (rd_fact λ_ h _=>h.1.2.2) (zB rfl (zJ (hK11 _ (zM λK12 hK12=>zC rfl λK13 hK13=>?_)))))));refine l_op (.b (!decide (u.id=g.id))) trivial rfl rfl rfl (run_neqY rfl rfl rfl underlying47 (by kernel_rfl) huo.id g.h32) ?_;refine zJ (hK13 _ ?_);refine s_if (!decide (u.id=g.id)) rfl (λhid=>?_) (λhid=>?_)
    .have hid:u.id≠g.id:=by simpa using hid
     have h110:upsE g.id g.k.l g.more=110:=upsE_at hu hall (by rw [if_pos (.inl hid)]) (by decide);refine zA rfl ?_;exact zP (zR zY () rfl (by decide) rfl (growR_no (hE2.trans h110) (by decide)) rfl (λ_ _ _=>trivial) zU)
    have hid:u.id=g.id:=by simpa using hid
    refine zO (hK12 _ ?_);obtain⟨ee,hee⟩:∃ee,nxE k.l u=ee:=⟨_,rfl⟩;obtain⟨kk,hkk⟩:∃kk,nxK k.l u=kk:=⟨_,rfl⟩;have hnx:=hnext_Q (A:=k.A) (c:=k.c) hee hkk huo (by omega);have hvr:((k.l.length:Int)+1)=(g.k.l.length:Int)+(i:Int)+1:=by omega
    refine zC rfl λK14 hK14=>?_;refine z6 [.slice k.A k.l.length k.c,(eU u).den] (λ_ _=>by go_simp) rfl hnx (λ_ h _=>⟨h.1.1,h.2⟩) λ⟨X,c2⟩=>?_;refine zB rfl (zJ (hK14 _ (zA rfl ?_)));refine zW ((ee:Int)≠0) rfl (λh0=>?_) (λh0=>?_)
    .have h0:ee≠0:=by omega
     have he:upsE g.id g.k.l g.more=ee:=upsE_at hu hall (by
      rw [<-hee];unfold nxE;rw [hvr];by_cases hs:signB u=true
      .rw [if_neg (by simp [hid,hs]),if_pos hs]
       by_cases hv:u.ver=(g.k.l.length:Int)+(i:Int)+1
       .rw [if_neg (by simp [hv]),if_pos hv]
       .rw [if_pos hv,if_neg hv]
      .rw [if_pos (.inr (by simpa using hs)),if_neg hs]) h0
     refine zA rfl ?_;exact zP (zR zY () rfl (by decide) rfl (growR_no (hE2.trans he) h0) rfl (λ_ _ _=>trivial) zU)
    have h0:nxE k.l u=0:=by omega
    have hnz:=nxE_zeroD.1 h0;have hk2:kk=k.l++[u.key]:=by rw [<-hkk];unfold nxK;rw [if_pos h0]
    refine zO (hK10 _ (zD rfl ?_));refine zX ⟨i+1,⟨X,c2,kk⟩⟩ ⟨hlt,?_,λj v hj hv=>?_⟩ (by show g.more.length-(i+1)<g.more.length-i;omega) ⟨⟨nextI i g.more.length (by omega) hlt,rfl,rfl,rfl,rfl,rfl,rfl,trivial⟩,zL rfl rfl, .refl _,λ_ h _=>⟨h.2.1,h.1⟩, zU⟩
    .show kk=_;rw [hk2,hkl,histK_take hu]
    .rcases tX.1 hj with hj|rfl
     .exact hall j v hj hv
     .rw [hu] at hv;injection hv with hv;subst hv;exact⟨hid,hnz.1,by rw [hnz.2];omega⟩
   obtain rfl:g.more.length=i:=by omega
   rw [dA] at hkl;have hz:upsE g.id g.k.l g.more=0:=upsE_ok λj v hj=>hall j v (aP.1 hj).1 hj;refine s_exit (zS (zS (k_out (hK8 _ ?_))));have hv2:=hvalue_S (A:=k.A) (c:=k.c) k.l;have hv3:(valH k.l).length=32:=dig_len _;have hput:=wPut_S (p:=(g.id,valH k.l)) ⟨g.h32,hv3⟩ W hr;have hunk:PW.unk g.id 0 W=false:=by unfold PW.unk;rw [htl]
   rw [hunk] at hput;have hfinE:growR W g.pl = .t [prQ (PW.put (g.id,valH k.l) 0 W),.c (.v (.int .i64 0))]:=by unfold growR;rw [hE2,hz,if_pos rfl,hkl];rfl
   obtain⟨W2,hW2⟩:∃W2,PW.put (g.id,valH k.l) 0 W=W2:=⟨_,rfl⟩;rw [hW2] at hput hfinE;obtain⟨v2,hv2e⟩:∃v2,valH k.l=v2:=⟨_,rfl⟩;rw [hv2e] at hput hv2 hv3;refine s_regH 8 (by decide) (by kernel_rfl) (by kernel_rfl) λK7 hK7 G S w0 hst=>?_;refine zV hst rfl ?_;refine h_callS (F':=λw=>Ta w/\Rd 32 (eY 32) k.A k.c k.l w) (r:=.q (eY 32 v2)) hst [.slice k.A k.l.length k.c] rfl rfl rfl rfl (λ_ _=>by go_simp) rfl rfl (λ_=>rfl) (eY_ok hv3).1 hv2 (λ_ _ _ h=>⟨h.fact.1.1,h.fact.2⟩) ?_;refine zV hst rfl ?_;refine h_callS (F':=Tsh) (r:=.t [prQ W2,.c (.v (.int .i64 0))]) hst [(prQ W).den,(eY 32 g.id).den,(eY 32 v2).den] rfl rfl rfl rfl (λ_ _=>by go_simp) rfl rfl (λ_=>rfl) (two_ok (prQ_ok W2) trivial) hput (λ_ _ _ h=>h.fact.1.1.sh) ?_;refine zV hst rfl (h_end hst (zB rfl (zJ (hK7 _ ?_))));exact zP (zR zY () rfl (by decide) rfl hfinE rfl (λ_ _ _=>trivial) zU)
  refine s_regH 16 (by decide) (by kernel_rfl) (by kernel_rfl) λK7 hK7 G S w0 hst=>?_;refine zV hst rfl (h_op hst (.b (!(tt==decide ((g.k.l.length:Int)>0)))) trivial rfl rfl rfl rfl (run_neqBoolW rfl rfl rfl (λ_=>rfl) (λ_=>rfl)) ?_)
  by_cases h1:tt=decide (g.k.l≠[])
  .refine h_is 29 false rfl (by rw [hpos,<-h1];simp) ?_
   refine zV hst rfl ?_;cases tt with
   | false =>
    refine zV hst rfl (h_end hst (zJ (hK7 _ (s_no rfl ?_))));exact zO (hgood h1 (λh=>by cases h) _ ⟨zE rfl, zL rfl rfl, .refl _,λ_ h _=>h.2, zU⟩)
   | true =>
    refine h_callS (F':=λw=>Ta w/\Rd 32 (eY 32) g.k.A g.k.c g.k.l w) (r:=.q (eY 32 va)) hst [.slice g.k.A g.k.l.length g.k.c] rfl rfl rfl rfl (λ_ _=>by go_simp) rfl rfl (λ_=>rfl) (eY_ok hv32).1 hval (λ_ _ _ h=>⟨h.fact.2.1,h.fact.2.2.1⟩) ?_;refine zV hst rfl ?_;refine h_op hst (.b (!decide (tv=va))) trivial rfl rfl rfl rfl (run_neqY rfl rfl rfl underlying47 (by kernel_rfl) ht32 hv32) ?_
    by_cases h2:tv=va
    .refine h_is 37 false rfl (by simp [h2]) ?_;refine zV hst rfl (h_end hst (zJ (hK7 _ (s_no rfl ?_))));exact zO (hgood h1 (λ_=>h2) _ ⟨zE rfl, zL rfl rfl, .refl _,λ_ h _=>h.2, zU⟩)
    .refine h_is 37 true rfl (by simp [h2]) ?_;refine zV hst rfl (h_end hst (zJ (hK7 _ (s_yes rfl (zA rfl ?_)))));exact zP (zR zY () rfl (by decide) rfl (growR_no (hbad (.inr ⟨rfl,h2⟩)) (by decide)) rfl (λ_ _ _=>trivial) zU)
  .refine h_is 29 true rfl (by rw [hpos];revert h1;cases tt<;>cases decide (g.k.l≠[])<;>simp) ?_;refine zV hst rfl (g_skips (b:=b) rfl (h_auto (Fa:=[]) zY hst rfl (h_end hst (zJ (hK7 _ (s_yes rfl (zA rfl ?_)))))));exact zP (zR zY () rfl (by decide) rfl (growR_no (hbad (.inl h1)) (by decide)) rfl (λ_ _ _=>trivial) zU)
def hpU_upd{b:zu}:∀u∈hpU b,u.Ok:=λu hu=>by
 unfold hpU at hu;split at hu
 .unfold usI at hu;obtain⟨i,_,rfl⟩:=aZ.1 hu;exact upO_ok _
 .cases hu
def stpG_ok{b:zu}{g:GrD}(hg:g∈stpG b):∀u∈g.more,u.Ok:=λu hu=>by
 unfold stpG at hg;split at hg
 .obtain⟨q,_,rfl⟩:=aZ.1 hg;exact hpU_upd u hu
 .cases hg
theorem flat32:∀{l:zy},(∀k∈l,k.length=32)->l.flatten.length=32*l.length
 | [],_=>rfl
 | k::l,h=>by rw [eG,aA,h k (.head _),flat32 λx hx=>h x (.tail _ hx),a6];omega
theorem raws_has:∀{gs:List GrD} {g:GrD},g∈gs->g.raw.bytes.length<=(gs.map λg=>g.raw.bytes).flatten.length
 | x::gs,g,h=>by
  rw [bA,eG,aA];rcases aH.1 h with rfl|h
  .omega
  .have:=raws_has h;omega
def stpG_keys{b:zu}{g:GrD}(hg:g∈stpG b):∀k∈g.keys,k.length=32:=by
 unfold stpG at hg;split at hg
 .obtain⟨q,hq,rfl⟩:=aZ.1 hg;unfold apL at hq;obtain⟨j,_,rfl⟩:=aZ.1 hq;exact ksI_32 _ _
 .cases hg
def stpG_small{b:zu}(h:stpE b=0){g:GrD}(hg:g∈stpG b):32*g.keys.length+136*g.more.length<=b.length:=by
 have h1:=congrArg lJ (stp_back h);have h2:=flat32 (stpG_keys hg);have h3:=batB_len (stpG_ok hg);have h4:=raws_has hg;have h5:g.raw.bytes.length=g.id.length+8+g.keys.flatten.length+8+(batB g.more).length:=by unfold GbD.bytes;simp only [aA,be8_len];omega
 obtain⟨gs,hgs⟩:∃gs,stpG b=gs:=⟨_,rfl⟩;rw [hgs] at h1 h4;rw [stpB_len] at h1;omega
def parse_right{p:zu}{w:PW}(h:PW.parse p = .ok w):w.Right []:=(PW.parse_ok h).1
def stpW_right{b:zu}{W:PW}(hW:stpW b=W)(h:stpE b=0):W.Right []:=by have h1:=stpW_ok h;rw [hW] at h1;exact parse_right h1
def leadE_bad{f t b:zu}{e:Nat}(h:stpE b=e)(h0:e≠0):leadE f t b=e:=by unfold leadE;rw [h,if_neg h0]
def leadE_W{f t b:zu}(h:stpE b=0):leadE f t b=if (stpW b).root=f then chkE t (stpW b) none (stpG b) else 130:=by unfold leadE;rw [if_pos h,stpW_ok h]
def gr_idR{g o c j:Nat}{vs:yv}{v:GrV}{w:yp}(h:Rd 34 eGr (some ⟨g,o,none⟩) c vs w)(hj:vs[j]?=some v):Rd 1 eB (some ⟨g,o+34*j,none⟩) 32 v.id w:=by
 obtain⟨g',o',e,hlt,hr⟩:=h.2.2.2.2 (Nat.lt_of_le_of_lt (aL _) (aP.1 hj).1);injection e with e;injection e with e1 e2;subst e1 e2;have h1:=hr j v hj;refine⟨by rw [v.h32];exact aF _,by decide,λh=>(by cases h),okF_B _,λ_=>⟨g,_,rfl,hlt,λi x hi q y hq=>?_⟩⟩;have hq0:q=0:=by have:=(aP.1 hq).1;have e:(eB x).cl.length=1:=(eB_ok x).2;omega
 subst hq0;have hi32:i<32:=by rw [<-v.h32];exact(aP.1 hi).1
 have e2:y = .int .u8 (x.toNat:Int):=(bQ ((show(eB x).cl[0]?=some (.int .u8 (x.toNat:Int)) from rfl).symm.trans hq)).symm;have h2:=h1 i (.int .u8 (x.toNat:Int)) (by rw [gr_cl,cW (by rw [By_len,v.h32];exact hi32)];simp [By,hi]);rw [e2,fH,cD];exact h2
structure CkS where
  i:Nat
  W:PW
def wasG(gs:List GrD)(i:Nat):Option zu:=if i=0 then none else(gs[i-1]?).map GrD.id
def wasG_next{gs:List GrD}{i:Nat}{g:GrD}(h:gs[i]?=some g):wasG gs (i+1)=some g.id:=by unfold wasG;rw [if_neg (Nat.succ_ne_zero i),Nat.add_sub_cancel,h];rfl
def acheck_S{f t:zu}(hf:f.length=32)(ht:t.length=32){A:zt}{c:Nat}(l:zu)(hl:l.length<=30000):Spec 12 [(eY 32 f).den,(eY 32 t).den,.slice A l.length c] [] (λw=>Ta w/\Rd 1 eB A c l w) (one (.v (.int .i64 (leadE f t l:Int)))):=by
 refine zQ [eY 32 f,eY 32 t,.c (.v (.slice A l.length c))] 66 func12 rfl (by rw [ntmps12];rfl) (more_ok (eY_ok hf).1 (two_ok (eY_ok ht).1 trivial)) λb=>?_;refine zA rfl ?_;have hp:=aparse_S (A:=A) (c:=c) l (by omega);have hbad:=λe=>leadE_bad (f:=f) (t:=t) (b:=l) (e:=e);have hlW:=leadE_W (f:=f) (t:=t) (b:=l);have hgok:=λg=>stpG_ok (b:=l) (g:=g);have hgsm:=λh g=>stpG_small (b:=l) h (g:=g);unfold stpP at hp;obtain⟨R,hR⟩:∃R,leadE f t l=R:=⟨_,rfl⟩;obtain⟨W,hW⟩:∃W,stpW l=W:=⟨_,rfl⟩;have hWr:=stpW_right hW;obtain⟨e,he⟩:∃e,stpE l=e:=⟨_,rfl⟩;obtain⟨gs,hgs⟩:∃gs,stpG l=gs:=⟨_,rfl⟩;rw [hR];rw [hR] at hlW hbad;rw [hW] at hp hlW;rw [he] at hp hlW hWr hbad hgsm;rw [hgs] at hlW hgok hgsm;refine zC rfl λK1 hK1=>?_;refine z6 [.slice A l.length c] (λ_ _=>by go_simp) rfl hp (λ_ h _=>h) λ⟨⟨vs,hvs⟩,X⟩=>?_;rw [hgs] at hvs;refine zB rfl (zJ (hK1 _ (zM λK2 hK2=>zA rfl ?_)));refine zW ((e:Int)≠0) rfl (λh0=>?_) (λh0=>?_)
 .refine zA rfl ?_;exact zP (zR zY () rfl (by decide) rfl (by rw [hbad e rfl (by omega)];rfl) rfl (λ_ _ _=>trivial) zU)
 obtain rfl:e=0:=by omega
 have hWr:=hWr rfl;have hlW:=hlW rfl;have hgsm:=hgsm rfl;refine zO (hK2 _ (zM λK3 hK3=>?_));refine s_regH 4 (by decide) (by kernel_rfl) (by kernel_rfl) λK4 hK4 G S w0 hst=>?_;refine zV hst rfl ?_;refine h_callS (F':=λ_=>True) (r:=.q (eY 32 W.root)) hst [(prQ W).den] rfl rfl rfl rfl (λ_ _=>by go_simp) rfl rfl (λ_=>rfl) (eY_ok (PW.root_len hWr)).1 (wRoot_S hWr.good) (λ_ _ _ _=>trivial) ?_;refine zV hst rfl ?_;refine h_op hst (.b (!decide (W.root=f))) trivial rfl rfl rfl rfl (run_neqY rfl rfl rfl underlying47 (by kernel_rfl) (PW.root_len hWr) hf) ?_;refine h_end hst (zJ (hK4 _ ?_));refine s_if (!decide (W.root=f)) rfl (λhrt=>?_) (λhrt=>?_)
 .have hrt:W.root≠f:=by simpa using hrt
  rw [if_neg hrt] at hlW;refine zA rfl ?_;exact zP (zR zY () rfl (by decide) rfl (by rw [hlW];rfl) rfl (λ_ _ _=>trivial) zU)
 have hrt:W.root=f:=by simpa using hrt
 rw [if_pos hrt] at hlW;refine zO (hK3 _ (zM λK5 hK5=>zA rfl (zN ?_)));let Ls:PW->ze:=λW=>[⟨7,none,87,[.one (.v W.top)]⟩,⟨4,none,47,[.agg 32 (By t).toArray]⟩];let Fs:CkS->Env:=λs=>⟨[(27,.v (.int .i64 (s.i:Int))),(26,.v (.int .i64 (vs.length:Int))),(25,.v (.slice X.1 vs.length X.2)),(8,.v (.slice X.1 vs.length X.2)),(7,.a 7 0),(4,.a 4 0)],Ls s.W,[],λw=>Ta w/\Rd 34 eGr X.1 X.2 vs w/\∀g∈vs,g.rd w,λ_=>True⟩;refine c_weak (e':=Fs ⟨0,W⟩) ⟨zE rfl, zL rfl rfl, .refl _,λ_ h _=>⟨h.2.1,h.1⟩, zU⟩ (s_loop (λs=>vs.length-s.i) Fs (λs=>s.i<=vs.length/\s.W.Right []/\R=chkE t s.W (wasG gs s.i) (gs.drop s.i)) ?_ ⟨0,W⟩ ⟨aL _,hWr,hlW⟩);clear hlW hrt hWr hbad;rintro⟨i,W⟩ ⟨hi,hWr,hch⟩;dsimp only at hi hWr hch;refine zA rfl (zM λK6 hK6=>?_);refine zW ((i:Int)<(vs.length:Int)) rfl (λhlt=>?_) (λhge=>?_)
 .have hlt:i<vs.length:=by omega
  obtain⟨v,hv⟩:∃v,vs[i]?=some v:=⟨_,aJ hlt⟩;have hgv:gs[i]?=some v.pl:=by rw [<-hvs,cE,hv];rfl
  have hvm:v.pl∈gs:=aR hgv;have hdr:gs.drop i=v.pl::gs.drop (i+1):=by have h1:=(aP.1 hgv).1;rw [dZ h1,(aP.1 hgv).2]
  rw [hdr] at hch;obtain⟨ee,hee⟩:∃ee,grwE W v.pl=ee:=⟨_,rfl⟩;have hch:R=if (if riseB (wasG gs i) v.id=false\/v.more=[] then 81 else ee)=0 then chkE t (PW.put v.pl.pair 0 W) (some v.id) (gs.drop (i+1)) else(if riseB (wasG gs i) v.id=false\/v.more=[] then 81 else ee):=by rw [hch,<-hee];rfl
  have hsm:=hgsm v.pl hvm;have hsm:32*v.k.l.length+136*v.more.length<=l.length:=hsm;have hgr:=agrow_S hWr v (λu hu=>hgok v.pl hvm u hu) (by omega);refine zO (hK6 _ (zM λK10 hK10=>zN ?_));refine s_pure (vs.length<=9223372036854775807/\∃g o,X.1=some ⟨g,o,none⟩) (λw h _=>⟨bM h.2.1.1 h.2.1.2.1,by obtain⟨g,o,e,_⟩:=h.2.1.2.2.2.2 (by omega);exact⟨g,o,e⟩⟩) λ⟨hvl,gx,ox,hX⟩=>?_;refine zC rfl λK11 hK11=>l_elem zY rfl rfl rfl i rfl hv rfl rfl (rd_fact λ_ h _=>h.2.1) (zB rfl (zJ (k_give 11 rfl (E':=[(10,.v (.int .i64 (i:Int))),(27,.v (.int .i64 (i:Int))),(26,.v (.int .i64 (vs.length:Int))),(25,.v (.slice X.1 vs.length X.2)),(8,.v (.slice X.1 vs.length X.2)),(7,.a 7 0),(4,.a 4 0)]) ⟨rfl,rfl,rfl,rfl,rfl,rfl,rfl,trivial⟩ λg11=>k_objOut 0 rfl (hK11 _ ?_))));let Es:SE:=[(11,.v (.pointer (some ⟨g11,0,none⟩))),(10,.v (.int .i64 (i:Int))),(27,.v (.int .i64 (i:Int))),(26,.v (.int .i64 (vs.length:Int))),(25,.v (.slice X.1 vs.length X.2)),(8,.v (.slice X.1 vs.length X.2)),(7,.a 7 0),(4,.a 4 0)];let Ff:zv:=λw=>ObjF g11 60 v.parts w/\Ta w/\Rd 34 eGr X.1 X.2 vs w/\∀g∈vs,g.rd w;refine zM λK12 hK12=>?_;have hbad:riseB (wasG gs i) v.id=false\/v.more=[]->R=81:=λh=>by rw [hch,if_pos h,if_neg (by decide)]
  have hgood:¬(riseB (wasG gs i) v.id=false\/v.more=[])->∀e,Weak e ⟨Es,Ls W,[],Ff,λ_=>True⟩->kS b K12 66 e:=by
   intro hn e hw;rw [if_neg hn] at hch;refine k_weak hw (hK12 _ ?_);obtain⟨P2,hP2⟩:∃P2,(if ee=0 then PW.put v.pl.pair 0 W else .empty)=P2:=⟨_,rfl⟩;have hgR:growR W v.pl = .t [prQ P2,.c (.v (.int .i64 (ee:Int)))]:=by unfold growR;rw [hee,hP2]
   rw [hgR] at hgr;refine zC rfl λK13 hK13=>zZ rfl (obj_fact λ_ h _=>h.1) (zB rfl ?_);refine z6 [(prQ W).den,(eGr v).den] (λ_ _=>by go_simp) rfl hgr (λ_ h _=>⟨h.2.1,h.2.2.2 v (aR hv)⟩) λ_=>?_;refine zB rfl (zJ (hK13 _ (zA rfl ?_)));refine zW ((ee:Int)≠0) rfl (λh0=>?_) (λh0=>?_)
   .rw [if_neg (by omega)] at hch;refine zA rfl ?_;exact zP (zR zY () rfl (by decide) rfl (by rw [hch];rfl) rfl (λ_ _ _=>trivial) zU)
   have h0:ee=0:=by omega
   rw [if_pos h0] at hch hP2;subst hP2;refine zO (hK10 _ (zD rfl ?_));exact zX ⟨i+1,PW.put v.pl.pair 0 W⟩ ⟨hlt,(PW.Right.put (p:=v.pl.pair) ⟨v.h32,valH_len _⟩ (n:=256) (way:=[]) rfl hWr (Leads.nil _)).1,by rw [hch,wasG_next hgv]⟩ (by show vs.length-(i+1)<vs.length-i;omega) ⟨⟨nextI i vs.length hvl hlt,rfl,rfl,rfl,rfl,rfl,trivial⟩,zL rfl rfl, .refl _,λ_ h _=>h.2.2, zU⟩
  cases i with
  | zero =>
   have hrise:riseB (wasG gs 0) v.id=true:=rfl;refine s_regH 20 (by decide) (by kernel_rfl) (by kernel_rfl) λK7 hK7 G S w0 hst=>?_;refine zV hst rfl ?_;refine h_is 34 false rfl (by simp) ?_;refine zV hst rfl (h_opV hst (.q (.c (.v (.slice v.U v.more.length v.u)))) trivial rfl rfl rfl rfl (λG S a w ha hw=>(load_obj (q:=.c (.v (.slice v.U v.more.length v.u))) zY rfl rfl rfl ha hw.fact.1).2) (zV hst rfl (h_end hst (zJ (hK7 _ ?_)))));refine zW ((v.more.length:Int)=0) rfl (λhm=>?_) (λhm=>?_)
   .have hm:v.more=[]:=bE (by omega);refine zA rfl ?_;exact zP (zR zY () rfl (by decide) rfl (by rw [hbad (.inr hm)];rfl) rfl (λ_ _ _=>trivial) zU)
   .exact zO (hgood (by rintro(h|h);exact absurd (hrise.symm.trans h) (by decide);exact hm (by rw [h];rfl)) _ ⟨zE rfl, zL rfl rfl, .refl _,λ_ h _=>h, zU⟩)
  | succ j =>
   obtain⟨pv,hpv⟩:∃pv,vs[j]?=some pv:=⟨_,aJ (by omega)⟩
   have hgp:gs[j]?=some pv.pl:=by rw [<-hvs,cE,hpv];rfl
   have hwas:wasG gs (j+1)=some pv.id:=wasG_next hgp;have hw1:IntKind.i64.wrap (((j+1:Nat):Int)-1)=(j:Int):=wrapI (by omega) (by omega) (by omega);have hbc:=bCmp_S (A:=some ⟨gx,ox+34*j,none⟩) (B:=some ⟨g11,0,none⟩) (c:=32) (d:=32) (l:=pv.id) (m:=v.id) (by rw [pv.h32];decide) (by rw [v.h32];decide);rw [pv.h32,v.h32] at hbc
   obtain⟨cv,q,hcv,hq,hqt,hqf⟩:∃(cv:Int) (q:Bool),cO pv.id v.id=cv/\decide (cv>=0)=q/\(q=true->riseB (wasG gs (j+1)) v.id=false)/\(q=false->riseB (wasG gs (j+1)) v.id=true):=by
    rw [hwas];cases hl:dG pv.id v.id with
    | true=>exact⟨-1,false,cmp_more hl,by decide,λh=>(by cases h),λ_=>hl⟩
    | false =>
     by_cases he:pv.id=v.id
     .exact⟨0,true,by rw [he];exact cmp_refl _,by decide,λ_=>hl,λh=>by cases h⟩
     .have h2:dG v.id pv.id=true:=gU (by rw [pv.h32,v.h32]) hl he;exact⟨1,true,cmp_less h2,by decide,λ_=>hl,λh=>by cases h⟩
   refine s_regH 20 (by decide) (by kernel_rfl) (by kernel_rfl) λK7 hK7 G S w0 hst=>?_;refine zV hst rfl ?_;refine h_is 34 true rfl (by simp) ?_;refine zV hst rfl ?_;refine h_op hst (.v (.pointer (some ⟨gx,ox+34*j,none⟩))) trivial rfl rfl rfl rfl (runO_ixS j rfl underlying54 rfl (by rw [<-hX];rfl) (congrArg (λz=>some (SV.v (.int .i64 z))) hw1) (by omega)) ?_;refine zV hst rfl (h_op hst (.v (.slice (some ⟨gx,ox+34*j,none⟩) 32 32)) trivial rfl rfl rfl rfl (runO_allQ rfl underlying47 rfl rfl) (zV hst rfl (h_op hst (.v (.slice (some ⟨g11,0,none⟩) 32 32)) trivial rfl rfl rfl rfl (runO_allQ rfl underlying47 rfl rfl) (zV hst rfl ?_))));refine h_callS (F':=λw=>Rd 1 eB (some ⟨gx,ox+34*j,none⟩) 32 pv.id w/\Rd 1 eB (some ⟨g11,0,none⟩) 32 v.id w) (r:=.v (.int .i64 (cO pv.id v.id))) hst [.slice (some ⟨gx,ox+34*j,none⟩) 32 32,.slice (some ⟨g11,0,none⟩) 32 32] rfl rfl rfl rfl (λ_ _=>by go_simp) rfl rfl (λ_=>rfl) trivial hbc (λ_ _ _ hv=>⟨gr_idR (by rw [<-hX];exact hv.fact.2.2.1) hpv,gr_idB hv.fact.1⟩) ?_;refine h_num 43 cv rfl hcv (zV hst rfl (h_is 46 q rfl hq ?_))
   cases q with
   | true =>
    refine zV hst rfl (h_end hst (zJ (hK7 _ (s_yes rfl (zA rfl ?_)))));exact zP (zR zY () rfl (by decide) rfl (by rw [hbad (.inl (hqt rfl))];rfl) rfl (λ_ _ _=>trivial) zU)
   | false =>
    have hrise:=hqf rfl;refine zV hst rfl (h_opV hst (.q (.c (.v (.slice v.U v.more.length v.u)))) trivial rfl rfl rfl rfl (λG S a w ha hw=>(load_obj (q:=.c (.v (.slice v.U v.more.length v.u))) zY rfl rfl rfl ha hw.fact.1).2) (zV hst rfl (h_end hst (zJ (hK7 _ ?_)))));refine zW ((v.more.length:Int)=0) rfl (λhm=>?_) (λhm=>?_)
    .have hm:v.more=[]:=bE (by omega);refine zA rfl ?_;exact zP (zR zY () rfl (by decide) rfl (by rw [hbad (.inr hm)];rfl) rfl (λ_ _ _=>trivial) zU)
    .exact zO (hgood (by rintro(h|h);exact absurd (hrise.symm.trans h) (by decide);exact hm (by rw [h];rfl)) _ ⟨zE rfl, zL rfl rfl, .refl _,λ_ h _=>h, zU⟩)
 obtain rfl:vs.length=i:=by omega
 have hgl:gs.length=vs.length:=by rw [<-hvs,aX]
 rw [cT (by omega)] at hch;have hch:R=if W.root=t then 0 else 130:=hch;refine s_exit (zS (zS (k_out (hK5 _ (zM λK7 hK7=>?_)))));refine s_regH 4 (by decide) (by kernel_rfl) (by kernel_rfl) λK4 hK4 G S w0 hst=>?_;refine zV hst rfl ?_;refine h_callS (F':=λ_=>True) (r:=.q (eY 32 W.root)) hst [(prQ W).den] rfl rfl rfl rfl (λ_ _=>by go_simp) rfl rfl (λ_=>rfl) (eY_ok (PW.root_len hWr)).1 (wRoot_S hWr.good) (λ_ _ _ _=>trivial) ?_;refine zV hst rfl ?_;refine h_op hst (.b (!decide (W.root=t))) trivial rfl rfl rfl rfl (run_neqY rfl rfl rfl underlying47 (by kernel_rfl) (PW.root_len hWr) ht) ?_;refine h_end hst (zJ (hK4 _ ?_));refine s_if (!decide (W.root=t)) rfl (λhrt=>?_) (λhrt=>?_)
 .have hrt:W.root≠t:=by simpa using hrt
  rw [if_neg hrt] at hch;refine zA rfl ?_;exact zP (zR zY () rfl (by decide) rfl (by rw [hch];rfl) rfl (λ_ _ _=>trivial) zU)
 have hrt:W.root=t:=by simpa using hrt
 rw [if_pos hrt] at hch;refine zO (hK7 _ (zA rfl ?_));exact zP (zR zY () rfl (by decide) rfl (by rw [hch];rfl) rfl (λ_ _ _=>trivial) zU)
def y_idB{g t:Nat}{k:zu}{w:yp}(hk:k.length=32)(h:ObjF g t [.agg 32 (By k).toArray] w):Rd 1 eB (some ⟨g,0,none⟩) 32 k w:=rd_in h.1 hk (by decide) λj v hj=>by rw [aY];simpa [catP,Pt.cells] using hj
structure LyS where
  i:Nat
  ss:yr
  A:zt
  c:Nat
structure LyI(T:zu)(m:Nat)(s:LyS):Prop where
  t:(s.ss.map Seg.l).flatten=T
  n:s.ss.length<=m
def LyI.more{T:zu}{m:Nat}{s:LyS}(h:LyI T m s)(i:Nat)(l:yr)(A:zt)(c:Nat){T':zu}{m':Nat}(hT:T++(l.map Seg.l).flatten=T')(hm:m+l.length<=m'):LyI T' m' ⟨i,s.ss++l,A,c⟩:=⟨by
 show((s.ss++l).map Seg.l).flatten=T';rw [bX,jT,h.t,hT],by
 have:=h.n;show(s.ss++l).length<=m';rw [aA];omega⟩
def layT(P:zu)(gs:List GrD)(i:Nat):zu:=be8 P.length++(P++(be8 gs.length++((gs.take i).map λg=>g.raw.bytes).flatten))
def layT_next{P:zu}{gs:List GrD}{i:Nat}{g:GrD}(h:gs[i]?=some g):layT P gs (i+1)=layT P gs i++g.raw.bytes:=by unfold layT;rw [dO,h];simp [aT]
def layT_all(P:zu)(gs:List GrD):layT P gs gs.length=stpB P gs:=by unfold layT;rw [dA];rfl
def alay_S{W:PW}(hW:W.Good)(hWl:W.bytes.length<=1000000){A:zt}{c:Nat}(vs:yv)(hvl:vs.length<=1000)(hvs:∀v∈vs,v.k.l.length<=64/\v.more.length<=64)(hT:(stpB W.bytes (vs.map GrV.pl)).length<=281474976710656):Spec 27 [(prQ W).den,.slice A vs.length c] [] (λw=>Rd 34 eGr A c vs w/\∀v∈vs,v.rd w) (madeN (stpB W.bytes (vs.map GrV.pl))):=by
 refine zQ [prQ W,.c (.v (.slice A vs.length c))] 56 func27 rfl (by rw [ntmps27];rfl) (two_ok (prQ_ok W) trivial) λb=>?_;have hwb:=wBytes_S hW hWl;obtain⟨P,hP⟩:∃P,W.bytes=P:=⟨_,rfl⟩;rw [hP] at hwb hWl hT;rw [hP];obtain⟨gs,hgs⟩:∃gs,vs.map GrV.pl=gs:=⟨_,rfl⟩;have hgl:gs.length=vs.length:=by rw [<-hgs,aX]
 rw [hgs] at hT;rw [hgs];refine zA rfl (zC rfl λK1 hK1=>?_);refine z6 [(prQ W).den] (λ_ _=>by go_simp) rfl hwb (λ_ _ _=>trivial) λx=>?_;refine l_free 0 rfl ?_;refine z6 [.slice none ([]:zu).length 0,.slice x.1 P.length x.2] (λ_ _=>by go_simp) rfl (wbytes_S [] P (by show 0+8+P.length<=_;omega)) (λw h _=>⟨Rd.nil _ _ _,h.1⟩) λgp=>?_;rw [cR];refine zB rfl ?_;refine l_num 15 (vs.length:Int) rfl (wrapU rfl (by omega) (by omega)) ?_;refine z6 [.slice none ([]:zu).length 0,.int .u64 (vs.length:Int)] own_wnum rfl (wnum_S [] vs.length (by omega) (by decide)) (λ_ _ _=>Rd.nil _ _ _) λgn=>?_;rw [cR];refine l_list zY b.B.heap.size [⟨some ⟨gp,0,none⟩,(be8 P.length++P).length,be8 P.length++P⟩,⟨some ⟨gn,0,none⟩,(be8 vs.length).length,be8 vs.length⟩] (fe:=eSeg) rfl rfl rfl rfl rfl (λ_=>rfl) rfl (by decide) (by decide) (okF_seg _) (aF _) λP0=>?_;refine zB rfl (zJ (hK1 _ (zM λK2 hK2=>zA rfl (zN ?_))));let Es:LyS->SE:=λs=>[(20,.v (.int .i64 (s.i:Int))),(19,.v (.int .i64 (vs.length:Int))),(18,.v (.slice A vs.length c)),(5,.v (.slice s.A s.ss.length s.c))];let Rs:LyS->zd:=λs=>[OwnS b.B.heap.size 39 1 eSeg s.A s.c s.ss];let Ff:LyS->zv:=λs w=>(∀q∈s.ss,q.rd w)/\Rd 34 eGr A c vs w/\∀v∈vs,v.rd w;let Fs:LyS->Env:=λs=>⟨Es s,[],Rs s,Ff s,λ_=>True⟩;let s0:LyS:=⟨0,[⟨some ⟨gp,0,none⟩,(be8 P.length++P).length,be8 P.length++P⟩,⟨some ⟨gn,0,none⟩,(be8 vs.length).length,be8 vs.length⟩],P0,2⟩;have h0:LyI (layT P gs 0) 2 s0:=⟨by simp [s0,layT,hgl],aF _⟩;refine c_weak (e':=Fs s0) ⟨zE rfl, trivial, .refl _,λw h hM=>⟨λq hq=>?_,h.2.2.2.2⟩, zU⟩ (s_loop (λs=>vs.length-s.i) Fs (λs=>s.i<=vs.length/\LyI (layT P gs s.i) (2+70*s.i) s) ?_ s0 ⟨aL _,h0⟩)
 .rcases aH.1 hq with rfl|hq
  .exact hM.2.1
  .rw [aD.1 hq];exact hM.1
 rintro s ⟨hi,hL⟩;obtain⟨i,ss,B,d⟩:=s;dsimp only at hi hL;have hsn:ss.length<=2+70*i:=hL.n;refine zA rfl (zM λK3 hK3=>?_);refine zW ((i:Int)<(vs.length:Int)) rfl (λhlt=>?_) (λhge=>?_)
 .have hlt:i<vs.length:=by omega
  obtain⟨v,hv⟩:∃v,vs[i]?=some v:=⟨_,aJ hlt⟩;have hvm:=aR hv;have hgv:gs[i]?=some v.pl:=by rw [<-hgs,cE,hv];rfl
  obtain⟨hk64,hm64⟩:=hvs v hvm;have hnx:=layT_next (P:=P) hgv;obtain⟨T0,hT0⟩:∃T0,layT P gs i=T0:=⟨_,rfl⟩;rw [hT0] at hL hnx;refine zO (hK3 _ (zM λK4 hK4=>zN (zC rfl λK5 hK5=>l_elem zY rfl rfl rfl i rfl hv rfl rfl (rd_fact λ_ h _=>h.2.1) (zB rfl (zJ (k_give 7 rfl (E':=Es ⟨i,ss,B,d⟩) ⟨rfl,rfl,rfl,rfl,trivial⟩ λg7=>k_objOut 0 rfl (hK5 _ (zM λK6 hK6=>?_))))))));refine s_anyP [0,1,2,3,4,5,6] 9 2 (λw=>InvL [] w/\ObjF g7 60 v.parts w) (by kernel_rfl) rfl (inv_two (λ_ h=>by cases h) λ_ h _=>h.1) ?_;refine z7 (L0:=[]) 0 (by kernel_rfl) rfl (λ_ h=>by cases h) (λ_ h=>h.1) ?_;refine z7 (L0:=[]) 1 (by kernel_rfl) rfl (λ_ h=>by cases h) (λ_ h=>h.1) ?_;refine p_frontO (.v (.slice (some ⟨g7,0,none⟩) 32 32)) trivial 2 (by kernel_rfl) rfl rfl rfl rfl rfl (runO_allP (off:=0) rfl underlying47 rfl rfl) ?_;refine z7 (L0:=[]) 3 (by kernel_rfl) rfl (λ_ h=>by cases h) (λ_ h=>h.1) ?_;refine p_ldO zY 4 (by kernel_rfl) rfl rfl rfl rfl rfl rfl rfl v.parts_ok (λ_ h=>h.2) ?_;refine z7 (L0:=[]) 5 (by kernel_rfl) rfl (λ_ h=>by cases h) (λ_ h=>h.1) ?_;refine z7 (L0:=[]) 6 (by kernel_rfl) rfl (λ_ h=>by cases h) (λ_ h=>h.1) ?_;refine p_step 7 (by kernel_rfl) rfl λKa hKa=>?_;refine l_num 30 (v.k.l.length:Int) rfl (wrapU rfl (by omega) (by omega)) ?_;refine z6 [.slice none ([]:zu).length 0,.int .u64 (v.k.l.length:Int)] own_wnum rfl (wnum_S [] v.k.l.length (by omega) (by decide)) (λ_ _ _=>Rd.nil _ _ _) λgk=>?_;rw [cR];refine zJ (hKa _ (inv_two (λ_ h=>by cases h) λ_ h _=>h.2.1) ?_);refine p_step 8 (by kernel_rfl) rfl λKb hKb=>?_;refine l_eq 26 (.v (.slice (some ⟨g7,0,none⟩) v.id.length 32)) rfl (by rw [v.h32]) ?_;refine l_list zY b.B.heap.size [⟨some ⟨g7,0,none⟩,32,v.id⟩,⟨some ⟨gk,0,none⟩,(be8 v.k.l.length).length,be8 v.k.l.length⟩] (fe:=eSeg) rfl rfl rfl rfl rfl (λ_=>rfl) rfl (by decide) (by decide) (okF_seg _) (aF _) λP2=>?_;refine zJ (hKb _ (inv_two (λ_ h=>by cases h) λ_ h _=>h.2.1) ?_);refine p_tail [9,10] (by kernel_rfl) rfl ?_;refine l_free 0 rfl ?_;refine l_appY zY 0 [⟨some ⟨g7,0,none⟩,32,v.id⟩,⟨some ⟨gk,0,none⟩,(be8 v.k.l.length).length,be8 v.k.l.length⟩] rfl rfl rfl rfl rfl rfl rfl rfl rfl (rd_fact λw h _=>h.1) (by decide) (by show(ss.length+2)*24<=_;omega) (by show ss.length+2<=_;omega) (aF _) λB1 d1=>?_;refine zB rfl (zJ ?_);have hL1:=hL.more i [⟨some ⟨g7,0,none⟩,32,v.id⟩,⟨some ⟨gk,0,none⟩,(be8 v.k.l.length).length,be8 v.k.l.length⟩] B1 d1 (T':=T0++(v.id++be8 v.k.l.length)) (m':=4+70*i) (by simp) (by show 2+70*i+2<=_;omega);obtain⟨ss1,hss1⟩:∃ss1,ss++[⟨some ⟨g7,0,none⟩,32,v.id⟩,⟨some ⟨gk,0,none⟩,(be8 v.k.l.length).length,be8 v.k.l.length⟩]=ss1:=⟨_,rfl⟩;refine k_weak (e':=⟨(7,.v (.pointer (some ⟨g7,0,none⟩)))::Es ⟨i,ss1,B1,d1⟩,[],Rs ⟨i,ss1,B1,d1⟩,λw=>ObjF g7 60 v.parts w/\Ff ⟨i,ss1,B1,d1⟩ w,λ_=>True⟩) ⟨⟨rfl,rfl,rfl,rfl,by rw [<-hss1];rfl,trivial⟩,trivial,by rw [<-hss1];exact .refl _,λw h hM=>?_, zU⟩ (hK6 _ ?_)
  .refine⟨h.2.2.1,λq hq=>?_,h.2.2.2.2⟩
   have hq:q∈ss1:=hq;rw [<-hss1] at hq;rcases bK.1 hq with hq|hq
   .exact h.2.2.2.1 q hq
   .rcases aH.1 hq with rfl|hq
    .exact gr_idB h.2.2.1
    .rw [aD.1 hq];exact hM.1
  rw [hss1] at hL1;obtain⟨T1,hT1⟩:∃T1,T0++(v.id++be8 v.k.l.length)=T1:=⟨_,rfl⟩;rw [hT1] at hL1;refine zM λK7 hK7=>zC rfl λK8 hK8=>zZ rfl (obj_fact λ_ h _=>h.1) (zB rfl (zJ (hK8 _ (zN ?_))));refine s_pure (v.k.l.length<=9223372036854775807/\(∀k∈v.k.l,k.length=32)/\∀u∈v.more,u.Ok) (λw h _=>⟨by omega,seg_32 (h.2.2.2 v hvm).1,uvs_of (h.2.2.2 v hvm).2⟩) λ⟨hkl,hk32,huok⟩=>?_;let Gs:LyS->Env:=λs=>⟨(37,.v (.int .i64 (s.i:Int)))::(36,.v (.int .i64 (v.k.l.length:Int)))::(35,.v (.slice v.k.A v.k.l.length v.k.c))::(7,.v (.pointer (some ⟨g7,0,none⟩)))::Es ⟨i,s.ss,s.A,s.c⟩,[],Rs s,λw=>ObjF g7 60 v.parts w/\Ff ⟨i,s.ss,s.A,s.c⟩ w,λ_=>True⟩;refine c_weak (e':=Gs ⟨0,ss1,B1,d1⟩) ⟨zE rfl, trivial, .refl _,λ_ h _=>h, zU⟩ (s_loop (λs=>v.k.l.length-s.i) Gs (λs=>s.i<=v.k.l.length/\LyI (T1++(v.k.l.take s.i).flatten) (4+70*i+s.i) s) ?_ ⟨0,ss1,B1,d1⟩ ⟨aL _,⟨by rw [List.take_zero,List.flatten_nil,bC];exact hL1.t,hL1.n⟩⟩);rintro s ⟨hj,hM⟩;obtain⟨j,ss2,B2,d2⟩:=s;dsimp only at hj hM;have hsn2:ss2.length<=4+70*i+j:=hM.n;refine zA rfl (zM λK9 hK9=>?_);refine zW ((j:Int)<(v.k.l.length:Int)) rfl (λhltj=>?_) (λhgej=>?_)
  .have hltj:j<v.k.l.length:=by omega
   obtain⟨k,hk⟩:∃k,v.k.l[j]?=some k:=⟨_,aJ hltj⟩;have hkl32:=hk32 k (aR hk);have htk:v.k.l.take (j+1)=v.k.l.take j++[k]:=by rw [dO,hk];rfl
   refine zO (hK9 _ (zM λK10 hK10=>zN (zC rfl λK11 hK11=>l_elem zY rfl rfl rfl j rfl hk rfl rfl (rd_fact λ_ h _=>(h.2.2.2 v hvm).1) (zB rfl (zJ (k_give 9 rfl (E':=(37,.v (.int .i64 (j:Int)))::(36,.v (.int .i64 (v.k.l.length:Int)))::(35,.v (.slice v.k.A v.k.l.length v.k.c))::(7,.v (.pointer (some ⟨g7,0,none⟩)))::Es ⟨i,ss2,B2,d2⟩) ⟨rfl,rfl,rfl,rfl,rfl,rfl,rfl,rfl,trivial⟩ λg9=>k_objOut 0 rfl (hK11 _ (s_lit (zB rfl (l_op (.v (.slice (some ⟨g9,0,none⟩) 32 32)) trivial rfl rfl rfl (runO_allQ rfl underlying47 rfl rfl) ?_))))))))));refine l_eq 42 (.v (.slice (some ⟨g9,0,none⟩) k.length 32)) rfl (by rw [hkl32]) ?_;refine l_push zY 0 (⟨some ⟨g9,0,none⟩,32,k⟩:Seg) (fe:=eSeg) rfl rfl rfl rfl rfl rfl rfl (eSeg_ok _) (by decide) (by decide) (by show(ss2.length+1)*24<=_;omega) (by show ss2.length<_;omega) (aF _) λB3 d3=>?_;refine zB rfl (zJ (hK10 _ (zD rfl ?_)));refine zX ⟨j+1,ss2++[⟨some ⟨g9,0,none⟩,32,k⟩],B3,d3⟩ ⟨hltj,hM.more (j+1) _ B3 d3 (by rw [htk];simp) (by show 4+70*i+j+1<=4+70*i+(j+1);omega)⟩ (by show v.k.l.length-(j+1)<v.k.l.length-j;omega) ⟨⟨nextI j v.k.l.length hkl hltj,rfl,rfl,rfl,rfl,rfl,rfl,rfl,trivial⟩,trivial,.refl _,λw h _=>⟨h.2.1,λq hq=>?_,h.2.2.2⟩, zU⟩;rcases bK.1 hq with hq|hq
   .exact h.2.2.1 q hq
   .rw [aD.1 hq];exact y_idB hkl32 h.1
  obtain rfl:j=v.k.l.length:=by omega
  rw [dA] at hM;refine s_exit (zS (zS (k_out (hK7 _ (s_lit (zB rfl (zZ rfl (obj_fact λ_ h _=>h.1) ?_)))))));refine z6 [.slice v.U v.more.length v.u] (λ_ _=>by go_simp) rfl (hbytes_S v.more (by omega)) (λ_ h _=>(h.2.2.2 v hvm).2) λgb=>?_;have hbl:(batB v.more).length<=281474976000000:=by have h1:=batB_len huok;omega
  obtain⟨bt,hbt⟩:∃bt,batB v.more=bt:=⟨_,rfl⟩;rw [hbt] at hbl;refine l_eq 49 (.v (.slice (some ⟨gb,0,none⟩) bt.length bt.length)) rfl (by rw [<-hbt];rfl) ?_;refine z6 [.slice none ([]:zu).length 0,.slice (some ⟨gb,0,none⟩) bt.length bt.length] (λ_ _=>by go_simp) rfl (wbytes_S [] bt (by show 0+8+bt.length<=_;omega)) (λw h hM=>⟨Rd.nil _ _ _,by rw [<-hbt];exact hM.1⟩) λgc=>?_;rw [cR];refine l_push zY 0 (⟨some ⟨gc,0,none⟩,(be8 bt.length++bt).length,be8 bt.length++bt⟩:Seg) (fe:=eSeg) rfl rfl rfl rfl rfl rfl rfl (eSeg_ok _) (by decide) (by decide) (by show(ss2.length+1)*24<=_;omega) (by show ss2.length<_;omega) (aF _) λB3 d3=>?_;refine zB rfl (zJ (hK4 _ (zD rfl ?_)));refine zX ⟨i+1,ss2++[⟨some ⟨gc,0,none⟩,(be8 bt.length++bt).length,be8 bt.length++bt⟩],B3,d3⟩ ⟨hlt,hM.more (i+1) _ B3 d3 (by rw [hnx,<-hT1,<-hbt];simp [GbD.bytes]) (by show 4+70*i+v.k.l.length+1<=2+70*(i+1);omega)⟩ (by show vs.length-(i+1)<vs.length-i;omega) ⟨⟨nextI i vs.length (by omega) hlt,rfl,rfl,rfl,trivial⟩,trivial,.refl _,λw h hM=>⟨λq hq=>?_,h.2.2.2.2⟩, zU⟩;rcases bK.1 hq with hq|hq
  .exact h.2.2.2.1 q hq
  .rw [aD.1 hq];exact hM.1
 obtain rfl:i=vs.length:=by omega
 have e0:(ss.map Seg.l).flatten=stpB P gs:=by rw [<-layT_all,hgl];exact hL.t
 have hj:=join_S (A:=B) (c:=d) ss (by rw [e0];exact hT);rw [e0] at hj;refine s_exit (zS (zS (k_out (hK2 _ (s_free 0 rfl (zC rfl λK8 hK8=>z6 [.slice B ss.length d] own_join rfl hj (λw h _=>⟨h.1,h.2.1⟩) λgb=>zB rfl (zJ (hK8 _ ?_))))))));exact zP (zG gb rfl (λ_ _ _=>trivial) (λw h=>h.1))
noncomputable def selfB(l:zc)(us:yx):zu:=stpB (PW.cut 256 0 (pairsD l) ((grewD l us).map GrD.id)).bytes (grewD l us)
def self_leads{l:zc}{us:yx}(hl:DirOk l)(hs:SmallD l)(hus:∀u∈us,u.Ok)(hsz:l.length+us.length<=1000) :
  stpG (selfB l us)=grewD l us/\stpE (selfB l us)=0/\leadE (fS 256 (pairsD l)) (fS 256 (pairsD (cM l (us.map udH)))) (selfB l us)=0:=by
 have h:=step_leads (ids:=(grewD l us).map GrD.id) hl hs hus (λg hg=>aZ.2 ⟨g,hg,rfl⟩) hsz
 unfold selfB
 exact h
structure StS where
  i:Nat
  ids:zy
def ids_set{gl:yv}{i:Nat}{v:GrV}(hv:gl[i]?=some v):(((gl.take i).map GrV.id)++aB (gl.length-i) (aB 32 0)).set i v.id=((gl.take (i+1)).map GrV.id)++aB (gl.length-(i+1)) (aB 32 0):=by
 have hlt:=(aP.1 hv).1;have h1:gl.length-i=(gl.length-(i+1))+1:=by omega
 have h3:((gl.take i).map GrV.id).length=i:=by rw [aX,aV];omega
 rw [h1,List.replicate_succ,eX _ _ (by omega),h3,fL,dO,hv,bX,aT];rfl
def astep_S{d:DirV}(hd:d.Ok){A:zt}{c:Nat}{us:yx}(hus:∀u∈us,u.Ok)(hsz:d.l.length+us.length<=1000)(h12:(grewD d.l us).length<=12) :
  Spec 9 [(eDv d).den,.slice A us.length c] [] (λw=>Ta w/\d.F w/\Rd 129 eU A c us w) (madeN (selfB d.l us)):=by
 have hgr:=growth_S hd (A:=A) (c:=c) hus (by omega) h12;have hsm:=λg=>grew_small hd.small (us:=us) (g:=g);have hft:=grew_fit hd.dir hd.small hus;have hcl:=PW.cut_le 256 (d:=0) (ks:=(grewD d.l us).map GrD.id) (pairs_ok hd.dir);have hpl:(pairsD d.l).length=d.l.length:=aX ..;have hW:=partT_cut (DirOk.pairs hd.dir).1 (λy hy=>⟨(pairs_ok hd.dir y hy).1,(pairs_ok hd.dir y hy).2⟩) ((grewD d.l us).map GrD.id);have hWg:=hW.right.good
 have hWl:(PW.cut 256 0 (pairsD d.l) ((grewD d.l us).map GrD.id)).bytes.length<=600000:=by have h3:(70+2*256)*(pairsD d.l).length<=(70+2*256)*1000:=lL _ (by omega);omega
 have hT:(selfB d.l us).length<=281474976710656:=by unfold selfB;rw [stpB_len];have h1:=raws_len (gs:=grewD d.l us) λg hg=>raw_len (hft g hg) (hsm g hg).1 (hsm g hg).2;omega
 have hcut:=λB e=>wCut_S (A:=B) (c:=e) (pairsD d.l) d.t ((grewD d.l us).map GrD.id) hd.tree (DirOk.pairs hd.dir).1 (DirOk.pairs hd.dir).2 (by rw [aX];omega) (λx hx=>by obtain⟨g,hg,rfl⟩:=aZ.1 hx;exact(hft g hg).id)
 unfold selfB at hT
 unfold selfB
 obtain⟨gs,hgs⟩:∃gs,grewD d.l us=gs:=⟨_,rfl⟩;obtain⟨W,hWe⟩:∃W,PW.cut 256 0 (pairsD d.l) (gs.map GrD.id)=W:=⟨_,rfl⟩
 unfold grwP at hgr
 rw [hgs] at hgr hT h12 hsm hcut hWg hWl;rw [hWe] at hT hcut hWg hWl;rw [hgs,hWe];refine zQ [.p d.parts,.c (.v (.slice A us.length c))] 34 func9 rfl (by rw [ntmps9];rfl) (two_ok d.parts_ok trivial) λb=>?_;refine zA rfl (zC rfl λK1 hK1=>?_);refine z6 [(eDv d).den,.slice A us.length c] (λ_ _=>by go_simp) rfl hgr (λ_ h _=>h) λ⟨⟨gl,hgl⟩,X⟩=>?_;refine zB rfl (zJ (hK1 _ ?_))
 have hgll:gl.length=gs.length:=by rw [<-hgl,aX]
 refine zC rfl λK2 hK2=>?_;refine l_makeS zY b.B.heap.size gl.length (aB 32 0) (fe:=eY 32) rfl rfl rfl rfl rfl rfl rfl rfl (eY_ok bL) (by show 32*gl.length<=_;omega) (by omega) (aF _) λB=>?_;refine zB rfl (zJ (hK2 _ (zM λK3 hK3=>zA rfl (zN ?_))))
 let Ls:ze:=[⟨2,none,33,d.parts⟩]
 let Es:Nat->SE:=λi=>[(17,.v (.int .i64 (i:Int))),(16,.v (.int .i64 (gl.length:Int))),(15,.v (.slice X.1 gl.length X.2)),(6,.v (.slice B gl.length gl.length)),(5,.v (.slice X.1 gl.length X.2)),(2,.a 2 0)]
 let Fs:StS->Env:=λs=>⟨Es s.i,Ls,[OwnS b.B.heap.size 47 32 (eY 32) B gl.length s.ids],λw=>(Rd 34 eGr X.1 X.2 gl w/\∀g∈gl,g.rd w)/\Ta w/\d.F w,λ_=>True⟩
 refine c_weak (e':=Fs ⟨0,aB gl.length (aB 32 0)⟩) ⟨zE rfl, zL rfl rfl, .refl _,λ_ h _=>⟨h.1,h.2.1,h.2.2.1⟩, zU⟩ (s_loop (λs=>gl.length-s.i) Fs (λs=>s.i<=gl.length/\s.ids=((gl.take s.i).map GrV.id)++aB (gl.length-s.i) (aB 32 0)) ?_ ⟨0,aB gl.length (aB 32 0)⟩ ⟨aL _,by simp⟩)
 rintro⟨i,ids⟩ ⟨hi,hids⟩
 dsimp only at hi hids
 refine zA rfl (zM λK6 hK6=>?_);refine zW ((i:Int)<(gl.length:Int)) rfl (λhlt=>?_) (λhge=>?_)
 .have hlt:i<gl.length:=by omega
  obtain⟨v,hv⟩:∃v,gl[i]?=some v:=⟨_,aJ hlt⟩;have hil:gl.length=ids.length:=by rw [hids,aA,aX,aV,bL];omega
  refine zO (hK6 _ (zM λK10 hK10=>zN (zC rfl λK11 hK11=>l_elem zY rfl rfl rfl i rfl hv rfl rfl (rd_fact λ_ h _=>h.1.1) (zB rfl (zJ (hK11 _ (s_lit (zB rfl ?_))))))));refine l_place zY 0 v.id i (fe:=eY 32) rfl rfl rfl rfl rfl rfl hil rfl (show i<ids.length by omega) (eY_ok v.h32) ?_;refine zJ (hK10 _ (zD rfl ?_));exact zX ⟨i+1,ids.set i v.id⟩ ⟨hlt,by rw [hids];exact ids_set hv⟩ (by show gl.length-(i+1)<gl.length-i;omega) ⟨⟨nextI i gl.length (by omega) hlt,rfl,rfl,rfl,rfl,rfl,trivial⟩,⟨rfl,rfl,trivial⟩,.refl _,λ_ h _=>h,λ_ h=>h⟩
 obtain rfl:gl.length=i:=by omega
 have hids2:ids=gs.map GrD.id:=by rw [hids,dA,fL,<-hgl,dB];simp
 have hidl:ids.length=gl.length:=by rw [hids2,aX,hgll]
 refine s_exit (zS (zS (k_out (hK3 _ (s_free 0 rfl ?_)))));have hcut2:=hcut B gl.length
 have hlay:=alay_S hWg (by omega) (A:=X.1) (c:=X.2) gl (by omega) (λv hv=>by have:=hsm v.pl (by rw [<-hgl];exact aZ.2 ⟨v,hv,rfl⟩);exact this) (by rw [hgl];exact hT)
 rw [hgl] at hlay;rw [<-hids2] at hcut2
 have hWe2:PW.cut 256 0 (pairsD d.l) ids=W:=by rw [hids2];exact hWe
 rw [hidl] at hcut2;refine zC rfl λK8 hK8=>?_;refine z6 [(eDv d).den] (λ_ _=>by go_simp) rfl (dtree_S d) (λ_ _ _=>trivial) λ_=>?_;refine zB rfl ?_;refine z6 [(eTr d.t 0).den,.slice B gl.length gl.length] (λ_ _=>by go_simp) rfl hcut2 (λ_ h _=>⟨h.2.2.2.2.2.2,h.2.1⟩) λ_=>?_;refine zB rfl ?_;refine z6 [(prQ W).den,.slice X.1 gl.length X.2] (λ_ _=>by go_simp) rfl hlay (λ_ h _=>h.2.2.2.1) λgb=>?_;refine zB rfl (zJ (hK8 _ ?_));exact zP (zG gb rfl (λ_ _ _=>trivial) (λw h=>h.1))
theorem chkE_130{to to':zu}(hne:to'≠to):∀{gs:List GrD} {W:PW} {was:Option zu},chkE to W was gs=0->chkE to' W was gs=130
 | [],W,was,h=>by
  have h:(if W.root=to then 0 else 130)=0:=h;show(if W.root=to' then 0 else 130)=130;split at h
  .rename_i hw;rw [if_neg λe=>hne (e.symm.trans hw)]
  .cases h
 | g::gs,W,was,h=>by
  have h:(if oneE W was g=0 then chkE to (PW.put g.pair 0 W) (some g.id) gs else oneE W was g)=0:=h;show(if oneE W was g=0 then chkE to' (PW.put g.pair 0 W) (some g.id) gs else oneE W was g)=130;split at h
  .rename_i h0;rw [if_pos h0];exact chkE_130 hne h
  .rename_i h0;exact absurd h h0
def leadE_130{f to to' b:zu}(h:leadE f to b=0)(hne:to'≠to):leadE f to' b=130:=by
 unfold leadE at h ⊢;by_cases h0:stpE b=0
 .rw [if_pos h0] at h ⊢
  cases hp:PW.parse (apP b) with
  | error e =>
   rw [hp] at h;exact absurd h (parse_err hp)
  | ok W =>
   rw [hp] at h;have h:(if W.root=f then chkE to W none (stpG b) else 130)=0:=h
   show(if W.root=f then chkE to' W none (stpG b) else 130)=130
   by_cases hr:W.root=f
   .rw [if_pos hr] at h ⊢;exact chkE_130 hne h
   .rw [if_neg hr]
 .rw [if_neg h0] at h;exact absurd h h0
theorem one_sum{c:Prop}[Decidable c]{id:zu}:∀{ks:zy},ks.Nodup->(ks.map λk=>if c/\id=k then 1 else 0).sum<=1
 | [],_=>aL _
 | k::ks,h=>by
  obtain⟨h1,h2⟩:=fV.1 h;rw [bA,iZ];by_cases hk:c/\id=k
  .rw [if_pos hk]
   have hz:∀l:zy,(∀x∈l,id≠x)->(l.map λk=>if c/\id=k then 1 else 0).sum=0:=λl=>by
    induction l with
    | nil=>exact λ_=>rfl
    | cons x l ih =>
     intro hl
     rw [bA,iZ,if_neg λhh=>hl x (.head _) hh.2,ih λy hy=>hl y (.tail _ hy)]
   rw [hz ks λx hx e=>h1 (by rw [<-hk.2,e];exact hx)];exact aF _
  .rw [if_neg hk,aY];exact one_sum h2
theorem sum_add{α:Type}(f g:α->Nat):∀l:List α,(l.map λx=>f x+g x).sum=(l.map f).sum+(l.map g).sum
 | []=>rfl
 | x::l=>by simp only [bA,iZ,sum_add f g l];omega
theorem more_sum{ks:zy}(hn:ks.Nodup):∀(us:yx) (l:zc),(ks.map λk=>(tookD k l us).length).sum<=us.length
 | [],l=>by
  have:(ks.map λk=>(tookD k l []).length)=ks.map λ_=>0:=rfl;rw [this];clear this hn;induction ks with
  | nil=>exact aF _
  | cons k ks ih=>rwa [bA,iZ,aY]
 | u::us,l=>by
  have h1:=more_sum hn us (fR l (udH u));have h2:=one_sum (c:=okD l (udH u)=true) (id:=u.id) hn;have e:(ks.map λk=>(tookD k l (u::us)).length)=ks.map λk=>(if okD l (udH u)=true/\u.id=k then 1 else 0)+(tookD k (fR l (udH u)) us).length:=fN λk _=>by
   rw [tookD_cons];split
   .rw [a6];omega
   .omega
  rw [e,sum_add,a6];omega
theorem raws_sum{K:Nat}:∀{gs:List GrD},(∀g∈gs,g.Fit)->(∀g∈gs,g.keys.length<=K)->(gs.map λg=>g.raw.bytes).flatten.length<=(56+32*K)*gs.length+136*(gs.map λg=>g.more.length).sum
 | [],_,_=>aL _
 | g::gs,h,hk=>by
  have h1:=raws_sum (K:=K) (gs:=gs) (λx hx=>h x (.tail _ hx)) λx hx=>hk x (.tail _ hx);have h2:=h g (.head _);have h3:=hk g (.head _);have h4:=flat32 h2.keys;have h5:=batB_len λu hu=>(h2.more u hu).ok;have h6:=h2.id;have h7:g.raw.bytes.length=g.id.length+8+g.keys.flatten.length+8+(batB g.more).length:=by unfold GbD.bytes;simp only [aA,be8_len];omega
  have h8:(56+32*K)*(gs.length+1)=(56+32*K)*gs.length+(56+32*K):=Nat.mul_succ _ _;rw [bA,eG,aA,bA,iZ,a6,h8,h7];omega
def grew_ids{l:zc}{us:yx}(ha:DirOk (cM l (us.map udH))):((grewD l us).map GrD.id).Nodup:=by have h:=grew_sort ha;rw [List.nodup_iff_pairwise_ne,sO];exact h.imp λhab=>(oJ hab).symm
def grew_sum{l:zc}{us:yx}(ha:DirOk (cM l (us.map udH))):((grewD l us).map λg=>g.more.length).sum<=us.length/\(grewD l us).length<=us.length:=by
 have h1:=more_sum (grew_ids ha) us l;rw [dB] at h1;have e:(grewD l us).map ((λk=>(tookD k l us).length) ∘ GrD.id)=(grewD l us).map λg=>g.more.length:=fN λg hg=>by obtain⟨_,_,h2,_⟩:=grew_mem hg;show(tookD g.id l us).length=_;rw [h2]
 rw [e] at h1;refine⟨h1,bM ?_ h1⟩;have hp:∀gs:List GrD,(∀g∈gs,g.more≠[])->gs.length<=(gs.map λg=>g.more.length).sum:=λgs=>by
  induction gs with
  | nil=>exact λ_=>aF _
  | cons g gs ih =>
   intro h
   have h2:=ih λx hx=>h x (.tail _ hx);have h3:=List.length_pos_iff.2 (h g (.head _));rw [a6,bA,iZ]
   omega
 exact hp _ λg hg=>(grew_mem hg).2.2.2
def self_len{l:zc}{us:yx}{K:Nat}(hl:DirOk l)(hs:SmallD l)(hus:∀u∈us,u.Ok)(hK:∀k,(bO l k).length<=K):(selfB l us).length<=582*l.length+17+(56+32*K)*(grewD l us).length+136*us.length:=by
 have ha:DirOk (cM l (us.map udH)):=hl.apply (us_ok hus);have h1:=raws_sum (K:=K) (grew_fit hl hs hus) λg hg=>by rw [(grew_mem hg).2.1];exact hK g.id
 have h2:=(grew_sum ha).1;have h3:=PW.cut_le 256 (d:=0) (ks:=(grewD l us).map GrD.id) (pairs_ok hl);have h4:(pairsD l).length=l.length:=aX ..;unfold selfB;rw [stpB_len];have h5:136*((grewD l us).map λg=>g.more.length).sum<=136*us.length:=lL _ h2;omega
def keysD_le{l:zc}{m:Nat}(h:∀k,(bO l k).length<=m)(us:yx):∀k,(bO (cM l (us.map udH)) k).length<=m+us.length:=λk=>by have h1:=took_len k us l;have h2:=h k;rw [keys_took,aA,aX];omega
end Go.Proofs.Q
namespace Nums
def tZ:Tri:=⟨0,1,1⟩
def uA:Tri:=⟨bx,bY,1⟩
def vC:gW tZ Ed.zero:=by unfold gW tZ;rw [lU,g8];exact Ed.Rep.zero dU
def vD:gW uA base:=by
 unfold gW uA;rw [g8];have e:∀u:F,u=u*1:=λu=>by grind only
 exact⟨λh=>mV dU h.symm,e _,e _⟩
def wR(n:Nat)(hn:n<2^256):gW (mT 256 n tZ uA) (Ed.mul dd n base):=by
 have h:=l5 256 n tZ uA Ed.zero base hn Ed.lD gY vC vD
 rwa [Ed.zero_add good] at h
def tB(t:Tri)(zi:Nat):zu:=forced (t.y*zi%p) λy=>forced (t.x*zi%p%2) λo=>bytes 32 (y+57896044618658097711785492504343953926634992332820282019728792003956564819968*o)
def xE{t:Tri}{A:Ed.Pt p}(h:gW t A){zi:Nat}(hz:t.z*zi%p=1):fU A=tB t zi:=by
 have h1:fof t.z*fof zi=1:=by rw [<-fA,<-g8];exact j8 (by rw [hz];decide)
 have hf:gV (fof t.z)=fof zi:=rN dU h1;have ha:=h.aff dU;rw [hf,<-fA,<-fA] at ha;unfold tB;simp only [gZ];rw [fU,oN,<-ha.1,<-ha.2,lE,lE]
end Nums
namespace Go.Proofs.Q
open Nums
def powK:Nat->Nat->Nat->zk
  | 0,_,_,a=>a
  | f+1,b,e,a=>forced (b*b%p) λb2=>forced (if e%2=1 then a*b%p else a) λa2=>powK f b2 (e/2) a2
def keyZ(n:Nat)(t:Tri)(zi:Nat):Option zu:=if decide (n<2^256)&&decide (t.z*zi%p=1) then some (tB t zi) else none
def keyT(n:Nat)(t:Tri):Option zu:=forced (powK 255 t.z (p-2) 1) (keyZ n t)
def keyK(seed:zu):Option zu:=forced (le (m9 ((lG eK 1 seed).take 32))) λn=>keyT n (mT 256 n tZ uA)
def keyZ_ok{n zi:Nat}{t:Tri}{k:zu}(ht:mT 256 n tZ uA=t)(h:keyZ n t zi=some k):fU (Ed.mul dd n base)=k:=by
 unfold keyZ at h;split at h
 .rename_i hc;rw [aN] at hc;injection h with h;rw [<-h];exact xE (ht▸wR n (of_decide_eq_true hc.1)) (of_decide_eq_true hc.2)
 .cases h
def ab_is{seed:zu}(hs:seed.length=32):le (lA seed)=le (m9 ((lG eK 1 seed).take 32)):=by rw [lA,sgD,nH 1 seed (by decide) (by decide) (by rw [aA,hs];decide +kernel)]
def key_is{seed k:zu}(hs:seed.length=32)(h:keyK seed=some k):iC seed=k:=by rw [keyK,gZ] at h;rw [iC,ab_is hs];generalize le (m9 ((lG eK 1 seed).take 32))=n at *;rw [keyT,gZ] at h;exact keyZ_ok rfl h
theorem key_all{seed:zu}(hs:seed.length=32)(h:(keyK seed).isSome=true):iC seed=(keyK seed).getD []:=by
 cases hk:keyK seed with
 | none=>rw [hk] at h;cases h
 | some k=>exact key_is hs hk
end Go.Proofs.Q
namespace Go.Proofs.Q
open Go.RowKit Go.IntWalk Nums
def val13:valH [hB 2]=lG dK 1 ([[2],be8 1,lG dK 2 ([[3],zH,hB 2]:zy).flatten]:zy).flatten:=by have h1:dH [hB 2]=lG dK 2 ([[3],zH,hB 2]:zy).flatten:=nH (s:=dK) 2 _ (by decide) (by decide) (by decide +kernel);unfold valH;rw [h1];exact nH (s:=dK) 1 _ (by decide) (by decide) (by decide +kernel)
def root13:fS 256 (pairsD [(iC (hB 1),[hB 2])])≠hB 1:=by show jX (iC (hB 1),valH [hB 2])≠hB 1;rw [key_all (seed:=hB 1) rfl (by decide +kernel),val13,jX,nH (s:=dK) 2 _ (by decide) (by decide) (by decide +kernel)];decide +kernel
def first13_S:Spec 7 [] [] Ta (one (.v (.bool true))):=by
 have hm:=hmake_S (seed:=hB 1) (key:=hB 2) 1 rfl rfl;have hsb:signB (mkH (hB 1) 1 (hB 2))=true:=signB_made _ _ _;have hok:(mkH (hB 1) 1 (hB 2)).Ok:=mkH_ok _ _ rfl;have hid:(mkH (hB 1) 1 (hB 2)).id=iC (hB 1):=rfl;have hver:(mkH (hB 1) 1 (hB 2)).ver=1:=rfl;have hkey:(mkH (hB 1) 1 (hB 2)).key=hB 2:=rfl;have hrf:=root13;rw [<-hid] at hrf;generalize mkH (hB 1) 1 (hB 2)=u at *;have hap:cM [] ([u].map udH)=[(u.id,[hB 2])]:=by show fR [] (udH u)=_;rw [step_ok (l:=[]) ⟨hsb,by rw [hver];rfl⟩,hkey];rfl
 have huo:∀y∈[u],y.Ok:=λy hy=>by rw [aD.1 hy];exact hok
 have ha:DirOk (cM [] ([u].map udH)):=DirOk.nil.apply (us_ok huo);have hgl:=(grew_sum ha).2;have hsl:=self_len (K:=0) DirOk.nil zDirV_ok.small huo (λk=>aF _);have hld:=(self_leads (l:=[]) DirOk.nil zDirV_ok.small huo (by show 0+1<=1000;decide)).2.2;have hld:leadE eC (fS 256 (pairsD (cM [] ([u].map udH)))) (selfB [] [u])=0:=hld;rw [hap] at hld;have hld2:=leadE_130 hld hrf.symm;have hsl:(selfB [] [u]).length<=30000:=by have h1:(grewD [] [u]).length<=1:=hgl;have h2:(56+32*0)*(grewD [] [u]).length<=56*1:=lL _ h1;have h3:([]:zc).length=0:=rfl;have h4:[u].length=1:=rfl;omega
 have hst:∀A c,Spec 9 [(eDv zDirV).den,.slice A [u].length c] [] (λw=>Ta w/\zDirV.F w/\Rd 129 eU A c [u] w) (madeN (selfB [] [u])):=λA c=>astep_S zDirV_ok (us:=[u]) huo (by show 0+1<=1000;decide) (bM hgl (by show 1<=12;decide));generalize selfB [] [u]=sb at *;refine zQ [] 28 func7 rfl (by rw [ntmps7];rfl) (λ_ h=>by cases h) λb=>?_;refine zA rfl (zC rfl λK1 hK1=>l_buildY [(0,.v (.int .u8 1))] 32 (hB 1) rfl rfl rfl rfl rfl rfl rfl (zB rfl (l_buildY [(0,.v (.int .u8 2))] 32 (hB 2) rfl rfl rfl rfl rfl rfl rfl ?_)));refine z6 [.agg (By (hB 1)).toArray,.int .i64 1,.agg (By (hB 2)).toArray] (λ_ _=>by go_simp) rfl hm (λ_ h _=>h) λ_=>?_;refine zB rfl (zJ (hK1 _ (zC rfl λK2 hK2=>?_)));refine l_list zY 0 [u] (fe:=eU) rfl rfl rfl rfl rfl (λ_=>rfl) rfl (by decide) (by decide) (λy hy=>by rw [aD.1 hy];exact eU_ok hok) (aL _) λB=>?_;refine l_free 0 rfl ?_;refine z6 [(eDv zDirV).den,.slice B [u].length 1] (λ_ _=>by go_simp) rfl (dapply_S zDirV_ok (us:=[u]) huo (by show 0+1<=1000;decide)) (λw h _=>⟨h.2.2,zDirV_F w,h.1⟩) λd=>?_;refine zB rfl ?_;refine l_pure (d.Ok/\d.l=cM [] ([u].map udH)) (λ_ h _=>⟨h.1.2.1,h.1.2.2.2⟩) λ⟨hd,hl⟩=>?_;rw [hap] at hl;refine zJ (hK2 _ (zC rfl λK3 hK3=>?_));refine l_list zY 0 [u] (fe:=eU) rfl rfl rfl rfl rfl (λ_=>rfl) rfl (by decide) (by decide) (λy hy=>by rw [aD.1 hy];exact eU_ok hok) (aL _) λB2=>?_;refine l_free 0 rfl ?_;refine z6 [(eDv zDirV).den,.slice B2 [u].length 1] (λ_ _=>by go_simp) rfl (hst B2 1) (λw h _=>⟨h.2.2.2.2,zDirV_F w,h.1⟩) λgs=>?_;refine zB rfl (zJ (hK3 _ ?_));have hdr:=droot_S hd;rw [hl] at hdr;have hr32:(fS 256 (pairsD [(u.id,[hB 2])])).length=32:=by rw [<-hl,<-hd.tree.root];exact d.t.root_len
 generalize fS 256 (pairsD [(u.id,[hB 2])])=rt at *;have hc1:=acheck_S (f:=eC) (t:=rt) rfl hr32 (A:=some ⟨gs,0,none⟩) (c:=sb.length) sb hsl;have hc2:=acheck_S (f:=eC) (t:=hB 1) rfl rfl (A:=some ⟨gs,0,none⟩) (c:=sb.length) sb hsl;rw [hld] at hc1;rw [hld2] at hc2;refine zC rfl λK4 hK4=>?_;refine z6 [(eDv d).den] (λ_ _=>by go_simp) rfl hdr (λ_ h _=>h.2.2.1.1) λ_=>?_;refine zB rfl ?_;refine z6 [(eY 32 eC).den,(eY 32 rt).den,.slice (some ⟨gs,0,none⟩) sb.length sb.length] (λ_ _=>by go_simp) rfl hc1 (λw h hM=>⟨h.2.2.2.2.2.2,hM.2.1⟩) λ_=>?_;refine zB rfl (l_is 21 true rfl rfl (zB rfl (l_buildY [(0,.v (.int .u8 1))] 32 (hB 1) rfl rfl rfl rfl rfl rfl rfl (zB rfl ?_))));refine z6 [(eY 32 eC).den,(eY 32 (hB 1)).den,.slice (some ⟨gs,0,none⟩) sb.length sb.length] (λ_ _=>by go_simp) rfl hc2 (λw h hM=>⟨h.2.2.2.2.2.2.2,hM.2.2.1⟩) λ_=>?_;refine zB rfl (zJ (hK4 _ ?_));exact zP (k_retD zY () rfl (by decide) rfl rfl trivial rfl (λ_ _ _=>trivial) zU)
abbrev SgK(e:EnX):Res:=KyS e.2.A e.2.c e.2.l
section
variable{ds:List Deferred}{b:Base}{Q:zx}{N:Nat}{E:SE}{L:ze}{R:zd}{M:zv}{c:Code}
theorem d_freeE:∀(ps:List EnX) {F:zv},dS ds b c Q N ⟨E,L,R,λw=>(∀p∈ps,p.2.rd w)/\F w,M⟩->dS ds b c Q N ⟨E,L,ps.map SgK++R,F,M⟩
 | [],F,h=>λa w ⟨G,S,h1,h2,h3⟩=>h a w ⟨G,S,h1,h2,h3.imp (λ_ h _=>⟨λ_ h=>(by cases h),h⟩) λ_ h=>h⟩
 | p::ps,F,h=>λa w ⟨G,S,h1,h2,h3⟩=>by
  obtain⟨S',h4⟩:=h3.free (i:=0) rfl;refine d_freeE ps (F:=λw=>p.2.rd w/\F w) (λa w ⟨G,S,h1,h2,h3⟩=>h a w ⟨G,S,h1,h2,?_⟩) a w ⟨G,S',h1,h2,h4⟩;refine h3.imp (λw h _=>⟨λq hq=>?_,h.2.2⟩) λ_ h=>h;rcases aH.1 hq with rfl|hq
  .exact h.2.1
  .exact h.1 q hq
end
structure LiS where
  es:List EnX
  A:zt
  c:Nat
abbrev lstP(l:zc):Post ({ es:List EnX // es.map entD=l }×PX):={ ret:=λx=>.v (.slice x.2.1 x.1.1.length x.2.2),p:=λx w=>Rd 33 eEn x.2.1 x.2.2 x.1.1 w/\∀p∈x.1.1,p.2.rd w }
def listed_S{d:DirV}(hd:d.Ok)(hl:d.l.length<=1000):Spec 23 [(eDv d).den] [] d.F (lstP d.l):=by
 refine spec_D [.p d.parts] 17 func23 rfl (by rw [ntmps23];rfl) (one_ok d.parts_ok) λb=>?_;refine d_auto zY rfl (d_auto zY rfl (d_seqD λK hK=>d_regA zY rfl λK1 hK1=>?_));refine z6 [(eDv d).den] (λ_ _=>by go_simp) rfl (dall_S d) (λ_ _ _=>trivial) λgb=>?_;refine l_nil0 0 73 33 eEn (d_end (hK1 _ (d_block ?_)));let E0:SE:=[(7,.v (.func (.func 97) #[] #[.pointer (some ⟨gb,0,none⟩)])),(3,.a 3 0)];let Lf:LiS->ze:=λs=>[⟨3,none,34,[.one (.v (.slice s.A s.es.length s.c))]⟩];let Rf:LiS->zd:=λs=>OwnS 0 73 33 eEn s.A s.c s.es::s.es.map SgK;refine d_weak (e':=⟨E0,Lf ⟨[],none,0⟩,Rf ⟨[],none,0⟩,λw=>ObjF gb 33 d.parts w/\d.F w,λ_=>True⟩) ⟨zE rfl, zL rfl rfl, .refl _,λ_ h _=>h, zU⟩ ?_;refine d_rangeO (β:=PX) d.l (λe=>eY 32 e.1) (λe y=>.c (.v (.slice y.1 e.2.length y.2))) (λe y=>[KyS y.1 y.2 e.2]) Lf Rf (λj s=>s.es.map entD=d.l.take j) (λ_ _=>False) ⟨[],none,0⟩ (λw=>ObjF gb 33 d.parts w/\d.F w) (lb:=[.pointer (some ⟨gb,0,none⟩)]) rfl (λ_ _=>by go_simp) (λ_=>rfl) (λe he _=>⟨(eY_ok (hd.dir.ids e he)).1,trivial⟩) rfl rfl (λ_ h _=>h) (λy Fy JR JX hy=>dall1_S y gb Fy JR JX hd hy) rfl ?_ ?_ (λ_ _ _ h=>h.elim)
 .rintro G y D m ready busy b1 j ⟨es,A,c⟩ e z _ hI he K6 hK6
  dsimp only at hI;have he32:=hd.dir.ids e (aR he);have hil:es.length<=1000:=by have:=congrArg lJ hI;rw [aX,aV] at this;omega
  refine r_auto rfl zY rfl (r_autoE rfl zY rfl (hK6 _ _ _ _ _ (r_block (r_lit rfl (zB rfl ?_)))));refine l_push zY 3 ((e.1,⟨z.1,z.2,e.2⟩):EnX) (fe:=eEn) rfl rfl rfl rfl rfl rfl rfl (eEn_ok he32) (by decide) (by decide) (by show(es.length+1)*56<=_;omega) (by show es.length<_;omega) (aL _) λA' c'=>?_;refine zB rfl (zJ ?_);refine k_rnd (Ix:=λ_ _=>False) ⟨es++[(e.1,⟨z.1,z.2,e.2⟩)],A',c'⟩ ?_ ⟨trivial,⟨rfl,rfl,trivial⟩,?_,λ_ _ _=>trivial, zU⟩
  .show(es++[_]).map entD=_;rw [bX,hI,dO,he];rfl
  .refine .cons _ (.cons _ ((jF _ _ _).trans (.cons _ ?_)));show lN (SgK ((e.1,⟨z.1,z.2,e.2⟩):EnX)::es.map SgK) ((es++[((e.1,⟨z.1,z.2,e.2⟩):EnX)]).map SgK);rw [bX];exact kE (l₁:=[_])
 .rintro⟨es,A,c⟩ D hI;dsimp only at hI;rw [dA] at hI;refine hK _ _ (d_weak (e':=⟨E0,Lf ⟨es,A,c⟩,es.map SgK++[DefR D,OwnS 0 73 33 eEn A c es],λ_=>True,λ_=>True⟩) ⟨⟨rfl,rfl,trivial⟩,⟨rfl,rfl,trivial⟩,kE (l₁:=[_,_]),λ_ _ _=>trivial, zU⟩ (d_freeE es (d_regA zY rfl λK2 hK2=>l_free 1 rfl (d_end (hK2 _ ?_)))));let x:{ es:List EnX // es.map entD=d.l }×PX:=(⟨es,hI⟩,A,c);exact d_ret (k_retM [D] (R:=[]) (zG x rfl (λ_ h _=>And.intro h.1 h.2.1) zU))
end Go.Proofs.Q
