import Derived.Test.YtdinohbahfdphaaGreatDoorMg
import Derived.Test.YtdinohbahfdphaaGreatDoorRows
import Derived.Test.YtdinohbahfdphaaGreatDoorMa
import Derived.ProofKit
import Derived.OpenShut
import Derived.SizedLaws
import Derived.Test.YtdinohbahfdphaaGreatDoorMb
import Derived.Deep.Slices
import Derived.LaidMore
import Derived.SevenTiedAt
import Derived.Stop.Joined
import Derived.Test.YtdinohbahfdphaaGreatDoorMd
import Derived.Test.YtdinohbahfdphaaGreatDoorCards
import Derived.Test.YtdinohbahfdphaaGreatDoorTie
open Go.Proofs.YtdinohbahfdphaaGreatDoor
set_option linter.defProp false
open Go.Proofs.Tryz
set_option maxRecDepth 100000
set_option maxHeartbeats 4000000
open Go.DataW renaming trod->jH,trod_int->oC
open Go.World renaming block_lt_of_cell?->mP
open List renaming length_append->aA,getElem?_eq_getElem->aJ,getElem?_eq_some_iff->aP,mem_of_getElem?->aR,length_map->aX,mem_map->aZ,getElem?_map->cE,take_length->dA,length->lJ
open Nat renaming zero_le->aL,le_trans->bM
open Option.some renaming injEq->a8,inj->bQ
namespace Go.Proofs.Q
open Go.RowKit Go.IntWalk Nums
abbrev TM:MapT zu Int:={ t:=66,kt:=47,vt:=3,kv:=eY 32,vv:=eI }
def TM_ok:TM.Ok ok32 where
 und:=underlying66
 keyed:=hash_keyed
 key _ h:=hash_key h
 inj _ _ h:=KVT_inj h
theorem runO_mark{N:Nat}{E:SE}{L:ze}{R:zd}{F M:zv}{o:Oper}{x y:Operand}{m n:Nat}{f:zu->Option Int}(hA:∀G S w,View G S L R F M w->MapA TM ok32 m n f w)(k:zu)(hk:k.length=32)(ho:o.op = .lookup TM.t x y false)(hx:evS E x=some (.v (.map (some m))))(hy:evS E y=some (.q (eY 32 k))) :
  ∀(G:zk) (S:zm) (a:Act) (w:World),Fr N (denE G E) a->View G S L R F M w->(execOp a.eval o).run prog w = .ok (.value ((SV.q (eI ((f k).getD 0))).den G)) w:=by
 cases hs:f k with
 | none=>exact runO_noneA TM_ok hA k 0 hk hs zeroI ho hx hy
 | some s=>exact runO_lookA TM_ok hA k s hk hs ho hx hy
structure TlS where
  j:Nat
  d:DirV
structure TlI(n:Nat)(x:BtX)(s:TlS):Prop where
  j:s.j<=x.ps.length
  ok:s.d.Ok
  len:s.d.l.length<=n+(allB (x.ps.take s.j)).length
  keys:∀k,(bO s.d.l k).length<=n+(allB (x.ps.take s.j)).length
def TlI.next{n:Nat}{x:BtX}{s:TlS}(h:TlI n x s){p:BaV}(hp:x.ps[s.j]?=some p){d2:DirV}(hd2:d2.Ok)(hl:d2.l=cM s.d.l (p.l.map udH)):TlI n x ⟨s.j+1,d2⟩:=by
 have hal:=applyD_len (p.l.map udH) s.d.l;rw [aX,<-hl] at hal;have h1:=h.len;refine⟨(aP.1 hp).1,hd2,?_,λk=>?_⟩
 .show d2.l.length<=_;rw [allB_take hp,aA];omega
 .have h2:=keysD_le h.keys p.l k;show(bO d2.l k).length<=_;rw [allB_take hp,aA,hl];omega
structure MkS where
  j:Nat
  n:Nat
  f:zu->Option Int
structure KkS where
  i:Nat
  ks:zy
  U:KX
def mark_put{f:zu->Option Int}{ids:zy}(h:∀k,f k=if k∈ids then some 1 else none)(id:zu):∀k,putF f id (1:Int) k=if k∈ids++[id] then some 1 else none:=λk=>by
 unfold putF;by_cases e:k=id
 .rw [if_pos e,if_pos (by simp [e])]
 .rw [if_neg e,h k]
  by_cases e2:k∈ids
  .rw [if_pos e2,if_pos (List.mem_append_left _ e2)]
  .rw [if_neg e2,if_neg (by simp [e,e2])]
def tells13_S{A A2:zt}{c c2:Nat}(acts acts2:List AcV):Spec 5 [.slice A acts.length c,.slice A2 acts2.length c2] [] (λw=>Ta w/\Rd 5 eAc A c acts w/\Rd 5 eAc A2 c2 acts2 w) (one (.v (.bool true))):=by
 refine zQ [.c (.v (.slice A acts.length c)),.c (.v (.slice A2 acts2.length c2))] 150 func5 rfl (by rw [ntmps5];rfl) (two_ok trivial trivial) λb=>?_;refine zA rfl (zM λK0 hK0=>zC rfl λK1 hK1=>?_);refine z6 [] (λ_ _=>by go_simp) rfl first13_S (λ_ h _=>h.1) λ_=>?_;refine zB rfl (zJ (hK1 _ (s_no rfl (zO (hK0 _ (zC rfl λK2 hK2=>?_))))));refine z6 [.slice A acts.length c] (λ_ _=>by go_simp) rfl (batches12_S acts) (λ_ h _=>⟨h.2.1,h.2.2.1⟩) λ⟨x,hx⟩=>?_;refine zB rfl (zJ (hK2 _ (zC rfl λK3 hK3=>?_)));refine z6 [.slice A2 acts2.length c2] (λ_ _=>by go_simp) rfl (batches12_S acts2) (λ_ h _=>⟨h.2.2.1,h.2.2.2.2⟩) λ⟨x2,hx2⟩=>?_;refine zB rfl (zJ (hK3 _ ?_));have h13:=hx.num;have h132:=hx2.num;refine zA rfl (zM λK4 hK4=>zA rfl (zN ?_));let Ls:DirV->ze:=λd=>[⟨9,none,33,d.parts⟩];let Ff:DirV->zv:=λd w=>Ta w/\x.F w/\x2.F w/\d.F w;let Fs:TlS->Env:=λs=>⟨[(40,.v (.int .i64 (s.j:Int))),(39,.v (.int .i64 (x.ps.length:Int))),(38,.v (.slice x.X.1 x.ps.length x.X.2)),(7,.v (.slice x2.X.1 x2.ps.length x2.X.2)),(9,.a 9 0)],Ls s.d,[],Ff s.d,λ_=>True⟩;refine c_weak (e':=Fs ⟨0,zDirV⟩) ⟨zE rfl, zL rfl rfl, .refl _,λw h _=>⟨h.2.2.2.1,h.2.1,h.1,zDirV_F w⟩, zU⟩ (s_loop (λs=>x.ps.length-s.j) Fs (TlI 0 x) ?_ ⟨0,zDirV⟩ ⟨aL _,zDirV_ok,aL _,λ_=>aL _⟩);rintro⟨j,d⟩ hI;obtain⟨hj,hd,hlen,hkeys⟩:=id hI;dsimp only at hj hd hlen hkeys;have htot:=hx.tot;have hle12:=allB_le x.ps j;refine zA rfl (zM λK5 hK5=>?_);refine zW ((j:Int)<(x.ps.length:Int)) rfl (λhlt=>?_) (λhge=>?_)
 .have hlt:j<x.ps.length:=by omega
  obtain⟨p,hp⟩:∃p,x.ps[j]?=some p:=⟨_,aJ hlt⟩;obtain⟨hgood,h12⟩:=hx.batch hp;have hpm:=aR hp;have hpu:∀u∈p.l,u.Ok:=λu hu=>(hgood u hu).1;refine zO (hK5 _ (zM λK6 hK6=>zN (zC rfl λK7 hK7=>l_elem (fe:=eUs) zY rfl rfl rfl j rfl hp rfl rfl (rd_fact λ_ h _=>h.2.1.1) (zB rfl (zJ (hK7 _ (s_lit (zB rfl ?_))))))));refine z6 [(eDv d).den,.slice p.A p.l.length p.c] (λ_ _=>by go_simp) rfl (dapply_S hd hpu (by omega)) (λw h _=>⟨h.1,h.2.2.2,(h.2.1.2.2 p hpm).1⟩) λd2=>?_;refine l_pure (d2.Ok/\d2.l=cM d.l (p.l.map udH)) (λ_ h _=>⟨h.1.2.1,h.1.2.2.2⟩) λ⟨hd2,hd2l⟩=>?_;refine zB rfl (zJ (hK6 _ (zD rfl ?_)));exact zX ⟨j+1,d2⟩ (hI.next hp hd2 hd2l) (by show x.ps.length-(j+1)<x.ps.length-j;omega) ⟨⟨nextI j x.ps.length (by omega) hlt,rfl,rfl,rfl,rfl,trivial⟩,⟨rfl,rfl,trivial⟩,.refl _,λ_ h _=>⟨h.2.1,h.2.2.1,h.2.2.2.1,h.1.1⟩, zU⟩
 refine s_exit (zS (zS (k_out (hK4 _ ?_))));have hn12:(allB (x.ps.take j)).length<=12:=by omega
 have hd12:d.l.length<=12:=by omega
 have hk12:∀k,(bO d.l k).length<=12:=λk=>bM (hkeys k) (by omega);clear hlen hkeys hle12 hge hI hj hn12;refine zM λK6 hK6=>zA rfl (zN ?_);let F2:DirV->zv:=λd w=>Ta w/\x2.F w/\d.F w;let Es:Nat->SE:=λj=>[(50,.v (.int .i64 (j:Int))),(49,.v (.int .i64 (x2.ps.length:Int))),(48,.v (.slice x2.X.1 x2.ps.length x2.X.2)),(9,.a 9 0)];let Gs:TlS->Env:=λs=>⟨Es s.j,Ls s.d,[],F2 s.d,λ_=>True⟩;refine c_weak (e':=Gs ⟨0,d⟩) ⟨zE rfl, zL rfl rfl, .refl _,λ_ h _=>⟨h.1,h.2.2⟩, zU⟩ (s_loop (λs=>x2.ps.length-s.j) Gs (TlI 12 x2) ?_ ⟨0,d⟩ ⟨aL _,hd,hd12,hk12⟩);clear hd hd12 hk12;rintro⟨j,d⟩ hI;obtain⟨hj,hd,hlen,hkeys⟩:=id hI;dsimp only at hj hd hlen hkeys;have htot2:=hx2.tot;have hle12:=allB_le x2.ps j;refine zA rfl (zM λK7 hK7=>?_);refine zW ((j:Int)<(x2.ps.length:Int)) rfl (λhlt=>?_) (λhge=>?_)
 .have hlt:j<x2.ps.length:=by omega
  obtain⟨p,hp⟩:∃p,x2.ps[j]?=some p:=⟨_,aJ hlt⟩;obtain⟨hgood,h12⟩:=hx2.batch hp;have hpm:=aR hp;have hpu:∀u∈p.l,u.Ok:=λu hu=>(hgood u hu).1;have hdl:d.l.length<=24:=by omega
  have hpl:p.l.length<=12:=by omega
  have hkl:∀k,(bO d.l k).length<=24:=λk=>bM (hkeys k) (by omega);have ha:DirOk (cM d.l (p.l.map udH)):=hd.dir.apply (us_ok hpu);have hgl:=(grew_sum ha).2;have hsl:(selfB d.l p.l).length<=30000:=by have h1:=self_len hd.dir hd.small hpu hkl;have h2:(56+32*24)*(grewD d.l p.l).length<=(56+32*24)*12:=Nat.mul_le_mul_left _ (by omega);omega
  obtain⟨hG,hE0,hld⟩:=self_leads hd.dir hd.small hpu (by omega);have hst:=astep_S hd (A:=p.A) (c:=p.c) hpu (by omega) (by omega);have hgrn:=λA c=>aGrown_S (A:=A) (c:=c) (selfB d.l p.l) (by omega);have hgk:∀g∈stpG (selfB d.l p.l),g.keys=bO d.l g.id/\g.keys++g.more.map (·.key)=bO (cM d.l (p.l.map udH)) g.id/\g.more≠[]:=λg hg=>by rw [hG] at hg;obtain⟨_,h1,h2,h3⟩:=grew_mem hg;refine⟨h1,?_,h3⟩;rw [keys_took,<-h1,<-h2]
  have hgn:∀k,k∉(stpG (selfB d.l p.l)).map GrD.id->bO (cM d.l (p.l.map udH)) k=bO d.l k:=λk hk=>by
   have h0:tookD k d.l p.l=[]:=by
    rcases Classical.em (tookD k d.l p.l=[]) with e|e
    .exact e
    .rw [hG] at hk;exact absurd (aZ.2 ⟨_,grew_has e,rfl⟩) hk
   rw [keys_took,h0];simp
  have hmk:∀g∈stpG (selfB d.l p.l),∀u∈g.more,u.Ok:=λg hg=>stpG_ok hg;obtain⟨sb,hsbe⟩:∃sb,selfB d.l p.l=sb:=⟨_,rfl⟩;rw [hsbe] at hsl hE0 hld hst hgrn hgk hgn hmk;rw [hE0] at hgrn;obtain⟨nl,hnl⟩:∃nl,cM d.l (p.l.map udH)=nl:=⟨_,rfl⟩;rw [hnl] at hld hgk hgn;refine zO (hK7 _ (zM λK8 hK8=>zN (zC rfl λK9 hK9=>l_elem (fe:=eUs) zY rfl rfl rfl j rfl hp rfl rfl (rd_fact λ_ h _=>h.2.1.1) (zB rfl (zJ (hK9 _ (zC rfl λK10 hK10=>?_)))))));refine z6 [(eDv d).den,.slice p.A p.l.length p.c] (λ_ _=>by go_simp) rfl (dapply_S hd hpu (by omega)) (λw h _=>⟨h.1,h.2.2,(h.2.1.2.2 p hpm).1⟩) λd2=>?_;refine l_pure (d2.Ok/\d2.l=cM d.l (p.l.map udH)) (λ_ h _=>⟨h.1.2.1,h.1.2.2.2⟩) λ⟨hd2,hd2l⟩=>?_;have hI2:=hI.next hp hd2 hd2l;rw [hnl] at hd2l;refine zB rfl (zJ (hK10 _ (zC rfl λK11 hK11=>?_)));refine z6 [(eDv d).den,.slice p.A p.l.length p.c] (λ_ _=>by go_simp) rfl hst (λw h _=>⟨h.2.1,h.2.2.2,(h.2.2.1.2.2 p hpm).1⟩) λgb=>?_;refine zB rfl (zJ (hK11 _ ?_));have hdr:=droot_S hd;have hdr2:=droot_S hd2;have hr1:(fS 256 (pairsD d.l)).length=32:=by rw [<-hd.tree.root];exact d.t.root_len
  have hr2:(fS 256 (pairsD d2.l)).length=32:=by rw [<-hd2.tree.root];exact d2.t.root_len
  rw [hd2l] at hdr2 hr2;obtain⟨r1,hr1e⟩:∃r1,fS 256 (pairsD d.l)=r1:=⟨_,rfl⟩;obtain⟨r2,hr2e⟩:∃r2,fS 256 (pairsD nl)=r2:=⟨_,rfl⟩;rw [hr1e] at hdr hr1 hld;rw [hr2e] at hdr2 hr2 hld;have hck:=acheck_S (f:=r1) (t:=r2) hr1 hr2 (A:=some ⟨gb,0,none⟩) (c:=sb.length) sb hsl;rw [hld] at hck;let E1:SE:=(15,.v (.slice (some ⟨gb,0,none⟩) sb.length sb.length))::(14,.a 14 0)::Es j;let L1:ze:=⟨14,none,33,d2.parts⟩::Ls d;let F3:zv:=λw=>d2.F w/\F2 d w;refine c_weak (e':=⟨E1,L1,[],λw=>Rd 1 eB (some ⟨gb,0,none⟩) sb.length sb w/\F3 w,λ_=>True⟩) ⟨zE rfl, zL rfl rfl, .refl _,λw h hM=>⟨hM.1,h.2.1.1,h.2.2⟩, zU⟩ ?_;refine zM λK12 hK12=>?_;refine s_regH 7 (by decide) (by kernel_rfl) (by kernel_rfl) λK13 hK13 G S w0 hst=>?_;refine zV hst rfl ?_;refine h_callS (F':=d.F) (r:=.q (eY 32 r1)) hst [(eDv d).den] rfl rfl rfl rfl (λ_ _=>by go_simp) rfl rfl (λ_=>rfl) (eY_ok hr1).1 hdr (λ_ _ _ h=>h.fact.2.2.2.2) ?_;refine zV hst rfl ?_;refine h_callS (F':=d2.F) (r:=.q (eY 32 r2)) hst [(eDv d2).den] rfl rfl rfl rfl (λ_ _=>by go_simp) rfl rfl (λ_=>rfl) (eY_ok hr2).1 hdr2 (λ_ _ _ h=>h.fact.2.1) ?_;refine zV hst rfl ?_;refine h_callS (F':=λw=>Ta w/\Rd 1 eB (some ⟨gb,0,none⟩) sb.length sb w) (r:=.v (.int .i64 ((0:Nat):Int))) hst [(eY 32 r1).den,(eY 32 r2).den,.slice (some ⟨gb,0,none⟩) sb.length sb.length] rfl rfl rfl rfl (λ_ _=>by go_simp) rfl rfl (λ_=>rfl) trivial hck (λ_ _ _ h=>⟨h.fact.2.2.1,h.fact.1⟩) ?_;refine zV hst rfl (h_end hst (zJ (hK13 _ ?_)));refine zW (((0:Nat):Int)≠0) rfl (λh=>absurd rfl h) (λ_=>?_);refine zO (hK12 _ (zC rfl λK14 hK14=>?_));refine z6 [.slice (some ⟨gb,0,none⟩) sb.length sb.length] (λ_ _=>by go_simp) rfl (hgrn _ _) (λw h hM=>⟨h.2.2.1,h.1⟩) λ⟨⟨vs,hvs⟩,X⟩=>?_;refine zB rfl (zJ (hK14 _ (zM λK15 hK15=>zA rfl ?_)));refine zW (((0:Nat):Int)≠0) rfl (λh=>absurd rfl h) (λ_=>?_);refine zO (hK15 _ ?_);have hvl:vs.length=(grewD d.l p.l).length:=by rw [<-hG,hsbe,<-hvs,aX]
  rw [<-hvs] at hgk hgn hmk;have hids:(vs.map GrV.pl).map GrD.id=vs.map GrV.id:=by rw [List.map_map];rfl
  rw [hids] at hgn;refine zC rfl λK16 hK16=>l_mkG TM ok32 rfl rfl rfl rfl λm=>zB rfl (zJ (hK16 _ (zM λK17 hK17=>zA rfl (zN ?_))));let F4:zv:=λw=>(Rd 34 eGr X.1 X.2 vs w/\∀g∈vs,g.rd w)/\F3 w;let E2:SE:=(18,.v (.map (some m)))::(14,.a 14 0)::Es j;let Hs:MkS->Env:=λs=>⟨(77,.v (.int .i64 (s.j:Int)))::(76,.v (.int .i64 (vs.length:Int)))::(75,.v (.slice X.1 vs.length X.2))::E2,L1,[MapG TM ok32 m s.n s.f],F4,λ_=>True⟩;refine c_weak (e':=Hs ⟨0,0,λ_=>none⟩) ⟨zE rfl, zL rfl rfl, .refl _,λw h _=>⟨h.1,h.2.2⟩, zU⟩ (s_loop (λs=>vs.length-s.j) Hs (λs=>s.j<=vs.length/\∀k,s.f k=if k∈(vs.take s.j).map GrV.id then some 1 else none) ?_ ⟨0,0,λ_=>none⟩ ⟨aL _,λk=>by simp⟩);rintro⟨q,nm,f⟩ ⟨hq,hf⟩;dsimp only at hq hf;refine zA rfl (zM λK18 hK18=>?_);refine zW ((q:Int)<(vs.length:Int)) rfl (λhltq=>?_) (λhgeq=>?_)
  .have hltq:q<vs.length:=by omega
   obtain⟨v,hv⟩:∃v,vs[q]?=some v:=⟨_,aJ hltq⟩;have hvm:=aR hv;obtain⟨hv1,hv2,hv3⟩:=hgk v.pl (aZ.2 ⟨v,hvm,rfl⟩);have hvu:=hmk v.pl (aZ.2 ⟨v,hvm,rfl⟩);have hv1:v.k.l=bO d.l v.id:=hv1;have hv2:histK v.k.l v.more=bO d2.l v.id:=by rw [hd2l];exact hv2
   have hv3:v.more≠[]:=hv3;have hvu:∀u∈v.more,u.Ok:=hvu;refine zO (hK18 _ (zM λK19 hK19=>zN (zC rfl λK20 hK20=>l_elem zY rfl rfl rfl q rfl hv rfl rfl (rd_fact λ_ h _=>h.1.1) (zB rfl (zJ (hK20 _ (zC rfl λK21 hK21=>l_updG TM_ok 0 rfl v.id 1 v.h32 rfl rfl rfl rfl rfl rfl (zJ (hK21 _ (zC rfl λK22 hK22=>?_))))))))));refine l_list0 0 (eY 32) (e:=47) (sz:=32) rfl rfl rfl rfl (aL _) (λw=>by go_simp) λB0=>?_;refine zB rfl ?_;have hk64:v.k.l.length<=24:=by rw [hv1];exact hkl v.id
   refine l_appY zY 0 v.k.l rfl rfl rfl rfl rfl rfl rfl rfl rfl (rd_fact λw h _=>(h.1.2 v hvm).1) (by decide) (by show(0+_)*32<=_;omega) (by show 0+_<=_;omega) (aL _) λB1 b1=>?_;refine zB rfl (zJ (hK22 _ (zM λK23 hK23=>zA rfl (zN ?_))));let n2:Nat:=if (f v.id).isSome then nm else nm+1;let L2:ze:=⟨20,none,60,v.parts⟩::L1;let E3:SE:=(20,.a 20 0)::(77,.v (.int .i64 (q:Int)))::(76,.v (.int .i64 (vs.length:Int)))::(75,.v (.slice X.1 vs.length X.2))::E2;let Ks:KkS->Env:=λs=>⟨(91,.v (.int .i64 (s.i:Int)))::(90,.v (.int .i64 (v.more.length:Int)))::(89,.v (.slice v.U v.more.length v.u))::(21,.v (.slice s.U.1 s.ks.length s.U.2))::E3,L2,[KyS s.U.1 s.U.2 s.ks,MapG TM ok32 m n2 (putF f v.id 1)],F4,λ_=>True⟩;have hml:v.more.length<=1000:=by have h1:=congrArg lJ hv2;simp only [histK,aA,aX] at h1;have h2:=hd2.small.keys v.id;omega
   refine c_weak (e':=Ks ⟨0,v.k.l,(B1,b1)⟩) ⟨zE rfl, zL rfl rfl, .refl _,λ_ h _=>h, zU⟩ (s_loop (λs=>v.more.length-s.i) Ks (λs=>s.i<=v.more.length/\s.ks=histK v.k.l (v.more.take s.i)) ?_ ⟨0,v.k.l,(B1,b1)⟩ ⟨aL _,by simp [histK]⟩);rintro⟨r,ks,U⟩ ⟨hr,hks⟩;dsimp only at hr hks;have hksl:ks.length=v.k.l.length+r:=by rw [hks];simp only [histK,aA,aX,List.length_take];omega
   refine zA rfl (zM λK24 hK24=>?_);refine zW ((r:Int)<(v.more.length:Int)) rfl (λhltr=>?_) (λhger=>?_)
   .have hltr:r<v.more.length:=by omega
    obtain⟨u,hu⟩:∃u,v.more[r]?=some u:=⟨_,aJ hltr⟩;have huo:=hvu u (aR hu);refine zO (hK24 _ (zM λK25 hK25=>zN (zC rfl λK26 hK26=>l_elem zY rfl rfl rfl r rfl hu rfl rfl (rd_fact λ_ h _=>(h.1.2 v hvm).2) (zB rfl (zJ (hK26 _ (s_lit (zB rfl ?_))))))));refine l_push zY 0 u.key (fe:=eY 32) rfl rfl rfl rfl rfl rfl rfl (eY_ok huo.key) (by decide) (by decide) (by show(ks.length+1)*32<=_;omega) (by show ks.length<_;omega) (aL _) λU' u'=>?_;refine zB rfl (zJ (hK25 _ (zD rfl ?_)));exact zX ⟨r+1,ks++[u.key],(U',u')⟩ ⟨hltr,by rw [hks,histK_take hu]⟩ (by show v.more.length-(r+1)<v.more.length-r;omega) ⟨⟨nextI r v.more.length (by omega) hltr,rfl,rfl,rfl,rfl,rfl,rfl,rfl,rfl,rfl,rfl,rfl,rfl,rfl,trivial⟩,zL rfl rfl, .refl _,λ_ h _=>h,λ_ h=>h⟩
   obtain rfl:v.more.length=r:=by omega
   rw [dA,hv2] at hks;refine s_exit (zS (zS (k_out (hK23 _ (s_free 0 rfl ?_)))));have hke:=(dkeys_S hd v.h32).tell;rw [<-hv1] at hke;have hke2:=(dkeys_S hd2 v.h32).tell;rw [<-hks] at hke2;refine s_regH 23 (by decide) (by kernel_rfl) (by kernel_rfl) λK27 hK27 G S w0 hst=>?_;refine zV hst rfl (h_callE (F':=d.F) hst [(eDv d).den,(eY 32 v.id).den] rfl rfl rfl rfl own_dkeys rfl rfl (λ_=>rfl) hke (λw hv _=>hv.fact.2.2.2.2.2) λz _=>zV hst rfl ?_);refine h_callE (F':=λw=>Rd 32 (eY 32) v.k.A v.k.c v.k.l w/\Rd 32 (eY 32) z.1 z.2 v.k.l w) (post:=one (.v (.bool true))) hst [.slice v.k.A v.k.l.length v.k.c,.slice z.1 v.k.l.length z.2] rfl rfl rfl rfl (λ_ _=>by go_simp) rfl rfl (λ_=>rfl) (rsame11_S v.k.l) (λw hv hu=>⟨(hv.fact.2.1.2 v hvm).1,told_rdG (hu 5 _ rfl (by kernel_rfl))⟩) λ_ _=>?_;refine zV hst rfl (h_callE (F':=d2.F) hst [(eDv d2).den,(eY 32 v.id).den] rfl rfl rfl rfl own_dkeys rfl rfl (λ_=>rfl) hke2 (λw hv _=>hv.fact.2.2.1) λz2 _=>zV hst rfl ?_);refine h_callE (F':=λw=>Rd 32 (eY 32) U.1 U.2 ks w/\Rd 32 (eY 32) z2.1 z2.2 ks w) (post:=one (.v (.bool true))) hst [.slice U.1 ks.length U.2,.slice z2.1 ks.length z2.2] rfl rfl rfl rfl (λ_ _=>by go_simp) rfl rfl (λ_=>rfl) (rsame11_S ks) (λw hv hu=>⟨hv.fact.1,told_rdG (hu 13 _ rfl (by kernel_rfl))⟩) λ_ _=>?_;refine zV hst rfl ?_;refine h_is 123 false rfl (decide_eq_false (by have:=List.length_pos_iff.2 hv3;omega)) ?_;refine h_end hst (zJ (hK27 _ (s_no rfl (zO (hK19 _ (zD rfl ?_))))));refine zX ⟨q+1,n2,putF f v.id 1⟩ ⟨hltq,λk=>?_⟩ (by show vs.length-(q+1)<vs.length-q;omega) ⟨⟨nextI q vs.length (by omega) hltq,rfl,rfl,rfl,rfl,rfl,rfl,rfl,rfl,trivial⟩,zL rfl rfl, .refl _,λ_ h _=>h.2, zU⟩;rw [List.take_add_one,hv,List.map_append];exact mark_put hf v.id k
  obtain rfl:vs.length=q:=by omega
  rw [dA] at hf;have hdl2:d2.l.length<=1000:=by have:=hI2.len;have h3:=allB_le x2.ps (j+1);show d2.l.length<=1000;dsimp only at this;omega
  refine s_exit (zS (zS (k_out (hK17 _ (zM λK28 hK28=>zC rfl λK29 hK29=>?_)))));refine z6 [(eDv d2).den] (λ_ _=>by go_simp) rfl (listed_S hd2 hdl2) (λ_ h _=>h.2.1) λ⟨⟨es,hes⟩,Y⟩=>?_;refine zB rfl (zJ (hK29 _ (zN ?_)));have hesl:es.length=d2.l.length:=by rw [<-hes,aX]
  let F5:zv:=λw=>(Rd 33 eEn Y.1 Y.2 es w/\∀p∈es,p.2.rd w)/\F3 w;let Os:Nat->Env:=λr=>⟨(128,.v (.int .i64 (r:Int)))::(127,.v (.int .i64 (es.length:Int)))::(126,.v (.slice Y.1 es.length Y.2))::E2,L1,[MapG TM ok32 m nm f],F5,λ_=>True⟩;refine c_weak (e':=Os 0) ⟨zE rfl, zL rfl rfl, .refl _,λw h _=>⟨h.1,h.2.2⟩, zU⟩ (s_loop (λr=>es.length-r) Os (λr=>r<=es.length) ?_ 0 (aL _));intro r hr;refine zA rfl (zM λK30 hK30=>?_);refine zW ((r:Int)<(es.length:Int)) rfl (λhltr=>?_) (λhger=>?_)
  .have hltr:r<es.length:=by omega
   obtain⟨e,he⟩:∃e,es[r]?=some e:=⟨_,aJ hltr⟩;have hem:=aR he;have hel:d2.l[r]?=some (e.1,e.2.l):=by rw [<-hes,cE,he];rfl
   have he32:e.1.length=32:=hd2.dir.ids _ (aR hel);have hek:bO d2.l e.1=e.2.l:=keysD_at hd2.dir hel;have hke:=(dkeys_S hd he32).tell;refine zO (hK30 _ (zM λK31 hK31=>zN (zC rfl λK32 hK32=>l_elem zY rfl rfl rfl r rfl he rfl rfl (rd_fact λ_ h _=>h.1.1) (zB rfl (zJ (hK32 _ ?_))))));have hgo:∀e',Weak e' ⟨(128,.v (.int .i64 (r:Int)))::(127,.v (.int .i64 (es.length:Int)))::(126,.v (.slice Y.1 es.length Y.2))::E2,L1,[MapG TM ok32 m nm f],F5,λ_=>True⟩->kS b K31 150 e':=by intro e' hw;refine k_weak hw (hK31 _ (zD rfl ?_));exact zX (r+1) hltr (by show es.length-(r+1)<es.length-r;omega) ⟨⟨nextI r es.length (by omega) hltr,rfl,rfl,rfl,rfl,rfl,rfl,rfl,rfl,trivial⟩,zL rfl rfl, .refl _,λ_ h _=>h,λ_ h=>h⟩
   refine s_regH 15 (by decide) (by kernel_rfl) (by kernel_rfl) λK33 hK33 G S w0 hst=>?_;refine zV hst rfl (h_opV hst (.q (eI ((f e.1).getD 0))) trivial rfl rfl rfl rfl (runO_mark (map_own 0 rfl) e.1 he32 rfl rfl rfl) (zV hst rfl ?_));by_cases hin:e.1∈vs.map GrV.id
   .refine h_is 137 false rfl (by rw [hf,if_pos hin];rfl) ?_;refine zV hst rfl (h_end hst (zJ (hK33 _ (s_no rfl ?_))));exact zO (hgo _ ⟨zE rfl, zL rfl rfl, .refl _,λ_ h _=>h, zU⟩)
   .have hks:bO d.l e.1=e.2.l:=by rw [<-hgn e.1 hin,<-hd2l,hek]
    rw [hks] at hke;refine h_is 137 true rfl (by rw [hf,if_neg hin];rfl) ?_;refine zV hst rfl (h_callE (F':=d.F) hst [(eDv d).den,(eY 32 e.1).den] rfl rfl rfl rfl own_dkeys rfl rfl (λ_=>rfl) hke (λw hv _=>hv.fact.2.2.2.2) λz _=>zV hst rfl ?_);refine h_callE (F':=λw=>Rd 32 (eY 32) e.2.A e.2.c e.2.l w/\Rd 32 (eY 32) z.1 z.2 e.2.l w) (post:=one (.v (.bool true))) hst [.slice e.2.A e.2.l.length e.2.c,.slice z.1 e.2.l.length z.2] rfl rfl rfl rfl (λ_ _=>by go_simp) rfl rfl (λ_=>rfl) (rsame11_S e.2.l) (λw hv hu=>⟨hv.fact.1.2 e hem,told_rdG (hu 11 _ rfl (by kernel_rfl))⟩) λ_ _=>?_;refine zV hst rfl (h_end hst (zJ (hK33 _ (s_no rfl ?_))));exact zO (hgo _ ⟨zE rfl, zL rfl rfl, .refl _,λ_ h _=>h, zU⟩)
  obtain rfl:es.length=r:=by omega
  refine s_exit (zS (zS (k_out (k_drop 0 rfl (hK28 _ (zD rfl (hK8 _ (zD rfl ?_))))))));exact zX ⟨j+1,d2⟩ hI2 (by show x2.ps.length-(j+1)<x2.ps.length-j;omega) ⟨⟨nextI j x2.ps.length (by omega) hlt,rfl,rfl,rfl,trivial⟩,⟨rfl,rfl,trivial⟩,.refl _,λ_ h _=>⟨h.2.2.1,h.2.2.2.1,h.2.1⟩, zU⟩
 obtain rfl:x2.ps.length=j:=by omega
 refine s_exit (zS (zS (k_out (hK6 _ (zA rfl ?_)))));exact zP (zG () rfl (λ_ _ _=>trivial) zU)
end Go.Proofs.Q
namespace Go.Proofs.Q
open Go.ChangeShapes Go.WideShapes Go.ChangeAt Go.RowKit
def own:ownKnob prog.godebug=none:=by kernel_rfl
def laidOut:laidOutB prog=true:=by kernel_rfl
section
variable{H:Type}{enc:TypeId×Value->H}{W W':World}
theorem trodAll_below:∀{ts:List TypeId} {vs:zq} {ds:List (DataW H)} {p:List MemPlace},(∀t∈ts,prog.readableRec t=true/\t<prog.types.size) ->
  DataW.TrodAll enc prog W 0 (λ_=>true) true ts vs ds p->Below W.heap.size W W'->(∀x∈p,x.block<W.heap.size)->DataW.TrodAll enc prog W' 0 (λb=>decide (b<W.heap.size)) true ts vs ds p
 | [],_,_,_,_,h,_,_=>by obtain⟨rfl,rfl,rfl⟩:=trodAll_nil h;exact trodAll_mk0
 | t::ts,_,_,_,hts,h,hb,hlt=>by obtain⟨v,vs',d,ds',p,q,rfl,rfl,rfl,h0,h1⟩:=trodAll_cons h;obtain⟨hr,hz⟩:=hts t (by simp);exact trodAll_cons_mk (Below.trod laidOut hr hz h0 hb (λx hx=>hlt x (by simp [hx]))) (trodAll_below (λu hu=>hts u (by simp [hu])) h1 hb (λx hx=>hlt x (by simp [hx])))
def law_post{f:Func}{s:ChangeSpec}{args:zr}{ds gs:List (DataW H)}{before:List MemPlace}(hf:f.resultTypes = #[4])(hvars:s.vars=[])
 (hts:∀t∈f.params.toList,prog.readableRec t=true/\t<prog.types.size)
 (hW:DataW.Whole enc prog f.params.toList s.vars false W args.toList ds gs before)(hs:s.fn H (ds++gs)={ results:=[.lit (.bool true)],args:=ds })(hb:Below W.heap.size W W') :
  s.post enc prog f false true false false W args (.bool true) W':=by
 have hW':=hW;obtain⟨p,q,hA,hV,rfl,_,_⟩:=hW;rw [hvars] at hV;obtain⟨rfl,rfl⟩:=trodVars_none hV;have hlt:∀x∈p,x.block<W.heap.size:=λx hx=>hW'.lt x (by simp [hx]);refine⟨ds,[],p++[],[],p,[],hW',?_,?_,?_,hb.frame _,λh=>by cases h⟩
 .rw [hs,hf];exact trodAll_mk1 (shut_bool underlying4 true)
 .rw [hs];exact trodAll_below hts hA hb hlt
 .rw [hs,hvars];rfl
end
def one_of{l:zq}{i:Nat}{v:Value}(h:(l.drop (i*1)).take 1=[v]):l[i]?=some v:=by
 rw [Nat.mul_one] at h;have h1:((l.drop i).take 1)[0]?=some v:=by rw [h];rfl
 rw [List.getElem?_take,if_pos (by omega),List.getElem?_drop] at h1;simpa using h1
end Go.Proofs.Q
namespace Go.Proofs.Q
open Go.RowKit Go.IntWalk
open Go.ChangeShapes Go.WideShapes Go.ChangeAt
theorem pick_list{α:Type}(P:Nat->α->Prop):∀n,(∀i,i<n->∃l,P i l)->∃ks:List α,ks.length=n/\∀i l,ks[i]?=some l->P i l
 | 0,_=>⟨[],rfl,λi l h=>by simp at h⟩
 | n+1,h=>by
  obtain⟨ks,hl,hk⟩:=pick_list P n λi hi=>h i (by omega);obtain⟨l,hp⟩:=h n (by omega);refine⟨ks++[l],by simp [hl],λi x hx=>?_⟩;by_cases hi:i<ks.length
  .rw [List.getElem?_append_left hi] at hx;exact hk i x hx
  .rw [List.getElem?_append_right (by omega)] at hx
   have h0:i-ks.length=0:=by
    by_cases e:i-ks.length=0
    .exact e
    .rw [List.getElem?_eq_none (by simp;omega)] at hx;cases hx
   rw [h0] at hx;obtain rfl:l=x:=by simpa using hx
   obtain rfl:i=n:=by omega
   exact hp
def open_rd{α H:Type}{enc:TypeId×Value->H}{W:World}{held:Bool}{fuel:Nat}{t e:TypeId}{k:Nat}{fe:α->SQ}{cs:zq}{x:DataW H×List MemPlace}(ht:prog.underlying t=some (.slice e))(hk:prog.cellsOf e=k)(hk0:0<k)
 (hel:∀n cs x,jH enc prog W 0 (λ_=>true) held n e cs=some x->∃a:α,cs=(fe a).cl/\OkP (fe a).parts1/\(fe a).cl.length=k)
 (h:jH enc prog W 0 (λ_=>true) held fuel t cs=some x) :
  ∃(A:zt) (l:List α) (c:Nat),cs=[.slice A l.length c]/\Rd k fe A c l W:=by
 rcases DataW.trod_slice ht h with⟨rfl,_⟩|⟨a,len,cap,elems,rest,n,rfl,rfl,rfl,_,hl,hm,hlen,hel2,_⟩
 .exact⟨none,[],0,rfl,Rd.nil _ _ _⟩
 .rw [hk] at hel2
  obtain⟨ks,hk1,hk2⟩:=pick_list (λi (y:α)=>(OkP (fe y).parts1/\(fe y).cl.length=k)/\W.cells? 0 (a.add (i*k)) k=some (fe y).cl) len λi hi=>by
   have h0:=hel2 i hi;rw [aJ (by omega)] at h0;cases hc:W.cells? 0 (a.add (i*k)) k with
   | none=>rw [hc] at h0;cases h0
   | some cs =>
    rw [hc] at h0;obtain⟨y,rfl,h1⟩:=hel _ _ _ h0;exact⟨y,h1,rfl⟩
  subst hk1;refine⟨some a,ks,cap,rfl,hl,(by unfold maxLen at hm;omega),λe=>(by cases e),λy hy=>?_,λhpos=>?_⟩
  .obtain⟨i,hi,rfl⟩:=List.getElem_of_mem hy;exact(hk2 i _ (aJ hi)).1
  have hcell:∀i y,ks[i]?=some y->∀j v,(fe y).cl[j]?=some v->W.cell? (a.add (i*k+j))=some v:=λi y hi j v hj=>by
   obtain⟨⟨_,hkl⟩,hc⟩:=hk2 i y hi;obtain⟨_,_,h3⟩:=World.cells?_some hc;have hjk:j<k:=by have:=(aP.1 hj).1;omega
   have:=h3 j hjk;rw [Addr.add_add,hj] at this;exact this
  have h00:=hk2 0 _ (aJ hpos);have hb:=World.cells?_block h00.2 hk0;rw [Nat.zero_mul] at hb;obtain⟨b,o,sp⟩:=a;have hsp0:sp=none:=by
   obtain⟨v,hv⟩:∃v,(fe ks[0]).cl[0]?=some v:=⟨_,aJ (by rw [h00.1.2];exact hk0)⟩;have:=hcell 0 _ (aJ hpos) 0 v hv;rw [Nat.zero_mul,show(⟨b,o,sp⟩:Addr).add (0+0)=⟨b,o,sp⟩ from rfl,World.cell?] at this;cases sp with
   | none=>rfl
   | some s =>
    exfalso
    dsimp only at this
    split at this
    .simp at this
    .cases this
  subst hsp0;refine⟨b,o,rfl,hb,λi y hi j v hj=>?_⟩;have:=hcell i y hi j v hj;rw [Addr.add_mid] at this
  rwa [Nat.add_assoc,Nat.mul_comm k i]
end Go.Proofs.Q
namespace Go.Proofs.Q
open Go.RowKit Go.IntWalk
open Go.ChangeShapes Go.WideShapes Go.ChangeAt
end Go.Proofs.Q
namespace Go.Proofs.Q
open Go.ChangeShapes Go.WideShapes Go.ChangeAt Go.RowKit
def cells64:prog.cellsOf 96 = 1:=by kernel_rfl
def table_cells{W:World}{nm:String}{g g0 t0 tid n fuel:Nat}{l:zj}{datum:DataW Unit}{cs:zq}{p:List MemPlace}(hg:prog.globalNamed nm=some g)(ht:(prog.globals[g]?).map (·.type)=some tid)(hu:prog.underlying tid=some (.array n 96))
 (hd:datum = .agg (l.map λ(x:Nat)=>.lit (.int .u64 (x:Int))))(hg0:prog.globalNamed nm=some g0)(ht0:(prog.globals[g0]?).map (·.type)=some t0)(hv0:W.var? prog nm=some cs.toArray)(hd0:jH (λ_=>()) prog W 0 (λ_=>true) false fuel t0 cs=some (datum,p)) :
  ∀i,i<n->W.cell? ⟨g,i,none⟩=some (.int .u64 (l[i]! : Nat)):=by
 obtain rfl:=bQ (hg.symm.trans hg0);obtain rfl:=bQ (ht.symm.trans ht0);obtain⟨xs,m1,rfl,hx1,hlen,hn5,hel⟩:=DataW.trod_array hu hd0;have hx2:=congrArg Prod.fst hx1;rw [hd] at hx2
 injection hx2 with hx2
 intro i hi
 have h0:=hel i hi;rw [cells64] at h0;obtain⟨x,hxi⟩:∃x,xs[i]?=some x:=⟨xs[i]'(by omega),aJ (by omega)⟩;rw [hxi] at h0;obtain⟨n',e1,e2,_⟩:=oC underlying96 h0
 have hll:l.length=n:=by have:=congrArg lJ hx2;simp only [aX] at this;omega
 have h3:(l.map λ(x:Nat)=>(DataW.lit (.int .u64 (x:Int)):DataW Unit))[i]?=(xs.map (·.1))[i]?:=by rw [hx2]
 rw [cE,cE,hxi,aJ (by omega)] at h3;simp only [Option.map_some,a8] at h3;rw [e2] at h3
 have hn:n'=((l[i]! : Nat):Int):=by rw [getElem!_pos l i (by omega)];injection h3 with h3;injection h3 with _ h3;exact h3.symm
 subst hn;have hcell:=World.var?_cell hg hv0 i;rw [hcell];have:=one_of e1
 simpa using this
end Go.Proofs.Q
namespace Go.Proofs.Q
open Go.ChangeShapes Go.WideShapes Go.ChangeAt Go.RowKit Nums
def laid3:List (String×DataW Unit):=[("witan/field.twice",Rows.laid_witan_field_twice),("witan/sha.starts",Rows.laid_witan_sha_starts),("witan/sha.steps",Rows.laid_witan_sha_steps)]
def door_met(os:Os)(args:zr):laidMetH prog laid3 ((World.doorLaid prog 400 os).forCall (λ_ _=>0) ⟨#[],args,[]⟩).memory :=
 laidMetH_of_parts3 (fuel:=8) (laidMet_of_run' 8 (by kernel_rfl) (by kernel_rfl)) (by kernel_rfl) (by kernel_rfl)
def of_laid{W:World}(h:laidMetH prog laid3 W):Ta W:=by rw [MakeChecks.laidMetH_plain _ _ _ (by kernel_rfl)] at h;obtain⟨ps,⟨g0,t0,cs0,f0,p0,q0,hg0,ht0,hv0,hd0,⟨g1,t1,cs1,f1,p1,q1,hg1,ht1,hv1,hd1,⟨g2,t2,cs2,f2,p2,q2,hg2,ht2,hv2,hd2,_,_⟩,_⟩,_⟩,_,_⟩:=h;have c0:=table_cells (l:=twl) (n:=5) (g:=3) (tid:=245) (by kernel_rfl) (by kernel_rfl) underlying245 (by kernel_rfl) hg0 ht0 hv0 hd0;have c1:=table_cells (l:=sqs) (n:=8) (g:=1) (tid:=284) (by kernel_rfl) (by kernel_rfl) underlying284 (by kernel_rfl) hg1 ht1 hv1 hd1;have c2:=table_cells (l:=cbs) (n:=80) (g:=2) (tid:=317) (by kernel_rfl) (by kernel_rfl) underlying317 (by kernel_rfl) hg2 ht2 hv2 hd2;exact⟨⟨c0,mP W ⟨3,0,none⟩ (c0 0 (by omega))⟩,⟨⟨c2,mP W ⟨2,0,none⟩ (c2 0 (by omega))⟩,c1,mP W ⟨1,0,none⟩ (c1 0 (by omega))⟩⟩
end Go.Proofs.Q
namespace Go.Proofs.Q
open Go.RowKit Go.IntWalk
open Go.ChangeShapes Go.WideShapes Go.ChangeAt
def eAc_cl(a:AcV):(eAc a).cl=[.int .i64 a.who,.int .i64 a.ver,.int .i64 a.key,.bool a.wr,.bool a.cut]:=by simp [SQ.cl,AcV.parts,SQ.den,Value.cells,catP,Pt.cells,SC.den]
def eAc_ok(a:AcV):OkP (eAc a).parts1/\(eAc a).cl.length=5:=⟨λq hq=>by have hq:q∈a.parts:=hq;simp only [AcV.parts,List.mem_cons,List.not_mem_nil,or_false] at hq;rcases hq with rfl|rfl|rfl|rfl|rfl<;>exact⟨trivial,rfl,rfl⟩,by rw [eAc_cl];rfl⟩
theorem five_of{α:Type}{l:List α}(h:l.length=5):∃a b c d e,l=[a,b,c,d,e]:=by
 match l,h with
 | [a,b,c,d,e],_=>exact⟨a,b,c,d,e,rfl⟩
def act_cells{H:Type}{enc:TypeId×Value->H}{W:World}{held:Bool}(n:Nat)(cs:zq)(x:DataW H×List MemPlace)(h:jH enc prog W 0 (λ_=>true) held n 80 cs=some x) :
  ∃a:AcV,cs=(eAc a).cl/\OkP (eAc a).parts1/\(eAc a).cl.length=5:=by
 obtain⟨xs,m,_,_,hl,hlen,hf⟩:=DataW.trod_struct underlying80 h;obtain⟨a,b,c,d,e,rfl⟩:=five_of (hl.trans (by kernel_rfl));obtain⟨x0,x1,x2,x3,x4,rfl⟩:=five_of (show xs.length=5 from hlen)
 have c0:prog.cellsOf 3 = 1:=by kernel_rfl
 have c1:prog.cellsOf 4 = 1:=by kernel_rfl
 have h0:jH enc prog W 0 (λ_=>true) held m 3 (([a,b,c,d,e].drop 0).take (prog.cellsOf 3))=some x0:=hf 0 _ rfl;have h1:jH enc prog W 0 (λ_=>true) held m 3 (([a,b,c,d,e].drop 1).take (prog.cellsOf 3))=some x1:=hf 1 _ rfl;have h2:jH enc prog W 0 (λ_=>true) held m 3 (([a,b,c,d,e].drop 2).take (prog.cellsOf 3))=some x2:=hf 2 _ rfl;have h3:jH enc prog W 0 (λ_=>true) held m 4 (([a,b,c,d,e].drop 3).take (prog.cellsOf 4))=some x3:=hf 3 _ rfl;have h4:jH enc prog W 0 (λ_=>true) held m 4 (([a,b,c,d,e].drop 4).take (prog.cellsOf 4))=some x4:=hf 4 _ rfl;rw [c0] at h0 h1 h2;rw [c1] at h3 h4;obtain⟨n0,e0,_⟩:=oC underlying3 h0;obtain⟨n1,e1,_⟩:=oC underlying3 h1;obtain⟨n2,e2,_⟩:=oC underlying3 h2;obtain⟨n3,e3,_⟩:=DataW.trod_bool underlying4 h3;obtain⟨n4,e4,_⟩:=DataW.trod_bool underlying4 h4
 injection e0 with e0
 injection e1 with e1
 injection e2 with e2
 injection e3 with e3
 injection e4 with e4
 subst e0 e1 e2 e3 e4;exact⟨⟨n0,n1,n2,n3,n4⟩,(eAc_cl ⟨n0,n1,n2,n3,n4⟩).symm,eAc_ok _⟩
end Go.Proofs.Q
