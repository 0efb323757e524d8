import Derived.Test.YtlhlkofpjhpaoaaGreatDoorMm
import Derived.Test.YtlhlkofpjhpaoaaGreatDoorMn
import Derived.Test.YtlhlkofpjhpaoaaGreatDoorMq
import Derived.Test.YtlhlkofpjhpaoaaGreatDoorMp
import Derived.Test.YtlhlkofpjhpaoaaGreatDoorMe
import Derived.Test.YtlhlkofpjhpaoaaGreatDoorRows
import Derived.Test.YtlhlkofpjhpaoaaGreatDoorMa
import Derived.ProofKit
import Derived.OpenShut
import Derived.SizedLaws
import Derived.Test.YtlhlkofpjhpaoaaGreatDoorMd
import Derived.Deep.Slices
set_option maxRecDepth 100000
set_option maxHeartbeats 4000000
open Go.DataW renaming trod->jX
open Go.Value renaming cells->oG
open List renaming replicate->aA,length_append->aB,mem_singleton->aE,getElem?_eq_getElem->aK,mem_cons->aL,mem_of_getElem?->aR,length_take->aU,append_assoc->a6,getElem?_eq_some_iff->bA,length_map->bO,mem_map->bP,length_set->bQ,mem_append->bR,getElem?_append_right->cG,getElem?_map->fA,map_append->fC,set_append_right->fS,take_length->fU,take_add_one->mN
open Nat renaming le_refl->aF,zero_le->aI,le_trans->b8,add_sub_cancel_left->kO
open Option.some renaming inj->cR
open UInt8 renaming ofNat->bK,toNat_ofNat'->mK
namespace Go.Proofs.YtlhlkofpjhpaoaaGreatDoor
open Go.RowKit Go.IntWalk Nums
section
variable{α:Type}{fe:α->SQ}{l:List α}{T:List TyR}{b:Base}{ops:Array Oper}{Q:Exit->Act->World->Prop}{N:Nat}{G:Nat->Nat}{S:Nat->Prop}{E:SE}{L:List LV}{R:List Res}{F M:World->Prop}{w0:World}{T':List Oper}{Fa:Told}{i1 i2:Nat}{o1 o2:Oper}{rest:List (Nat×Oper)}{u:EL}
theorem h_elem(hst:StW b G S L R F M w0)(h:elemS TY N E o1 o2=some u)(hg:o1.guard=none)(hg2:o2.guard=none)(hf1:farP i1 Fa=true)(hf2:farP i2 Fa=true)(j:Nat){x:α}(hj:u.i=(j:Int))(hx:l[j]?=some x)(hn:u.n=l.length)(hl:loadS TY (fe x).parts1 u.t 0=some (fe x))
 (hrd:∀G S w,View G S L R F M w->Rd u.sz fe u.A u.c l w)(hk:hS Tryz.prog ops Q N T' G w0 rest ((u.k2,.q (fe x))::(u.k1,.o (ptrAt u.A (u.sz*j)))::E) Fa):hS Tryz.prog ops Q N T' G w0 ((i1,o1)::(i2,o2)::rest) E Fa:=by
 obtain⟨d1,d2,n1,n2,ho2, -⟩:=elemS_ok (P:=Tryz.prog) zY h;obtain⟨_,_,_,h4,_⟩:=hrd G S w0 hst.view;refine h_opV hst (.o (ptrAt u.A (u.sz*j))) (ptrAt_ok _ _) hf1 hg d1 n1 (λG S a w ha hv=>(elem_run zY h j hj hx hn hl (hrd G S w hv) ha).1) ?_;refine h_opV hst (.q (fe x)) (SQ.ok_parts (h4 x (aR hx)).1) hf2 hg2 d2 n2 (λG S a w ha hv=>?_) hk;obtain⟨_,_,_,hok,hr⟩:=hrd G S w hv;obtain⟨bk,o,hA,hb,hr⟩:=hr (by have:=(bA.1 hx).1;omega);obtain⟨hp,hsz⟩:=hok x (aR hx)
 have ha':a.eval (.tmp u.k1) = .pointer (some ⟨bk,o+u.sz*j,none⟩):=by
  have e:=ha.get u.k1 _ (by rw [denE,look_cons,if_pos rfl]);rw [hA] at e;exact e
 obtain⟨_,h12⟩:=loadS_at zY hp hl;have h13:=h12 (w:=w) (g:=bk) (base:=o+u.sz*j) (by rw [<-SQ.cl_parts hp];exact hr j x hx);rw [Nat.add_zero] at h13
 unfold execOp
 simp only [ho2,ha',h13,Sem.run_bind,Sem.run_pure,Result.andThen_ok]
 rfl
end
abbrev EnX:=List UInt8×HSeg
def eEn(e:EnX):SQ:=.p [.agg 32 (By e.1).toArray,.one (.v (.slice e.2.A e.2.l.length e.2.c))]
theorem eEn_ok{e:EnX}(h:e.1.length=32):OkP (eEn e).parts1/\(eEn e).cl.length=33:=⟨λp hp=>by
 rcases aL.1 hp with rfl|hp
 ·exact(eY_ok h).1 _ List.mem_cons_self
 ·rw [aE.1 hp]
  exact⟨trivial,rfl,rfl⟩,by
 show(catP [.agg 32 (By e.1).toArray,.one (.v (.slice e.2.A e.2.l.length e.2.c))]).toList.length=33
 rw [catP_cons]
 simp [Pt.cells,catP,By_len,h]⟩
structure DocV where
  ep:Int
  A:Option Addr
  c:Nat
  es:List EnX
def DocV.parts(x:DocV):List Pt:=[.one (.v (.int .i64 x.ep)),.one (.v (.slice x.A x.es.length x.c))]
abbrev eDc(x:DocV):SQ:=.p x.parts
theorem DocV.parts_ok(x:DocV):OkP x.parts:=λp hp=>by
 rcases aL.1 hp with rfl|hp
 ·exact⟨trivial,rfl,rfl⟩
 ·rw [aE.1 hp]
  exact⟨trivial,rfl,rfl⟩
def DocV.F(x:DocV)(w:World):Prop:=Rd 33 eEn x.A x.c x.es w/\∀e∈x.es,e.2.rd w
instance docPst{x:DocV}:Pst x.F:=⟨λ_ _ ⟨h1,h2⟩ hb=>⟨h1.later hb,λe he=>Pst.later (p:=e.2.rd) _ _ (h2 e he) hb⟩⟩
def DocV.l(x:DocV):List EntD:=x.es.map entD
theorem DocV.len(x:DocV):x.l.length=x.es.length:=bO ..
theorem DocV.at{x:DocV}{i:Nat}{e:EnX}(h:x.es[i]?=some e):x.l.drop i=entD e::x.l.drop (i+1):=by
 have h1:x.l[i]?=some (entD e):=by unfold DocV.l;rw [fA,h];rfl
 obtain⟨h2,h3⟩:=bA.1 h1;rw [List.drop_eq_getElem_cons h2,h3]
theorem DocV.done(x:DocV):x.l.drop x.es.length=[]:=List.drop_of_length_le (by rw [x.len];exact aF _)
def zDocV:DocV:=⟨0,none,0,[]⟩
theorem zDocV_F(w:World):zDocV.F w:=⟨Rd.nil _ _ _,λ_ h=>by cases h⟩
theorem nextI(i n:Nat)(h:n<=9223372036854775807)(hi:i<n):some (SV.v (.int .i64 (IntKind.i64.wrap ((i:Int)+1))))=some (SV.v (.int .i64 ((i+1:Nat):Int))):=by rw [wrapI (m:=(i:Int)+1) (r:=((i+1:Nat):Int)) (by omega) (by omega) (by omega)]
theorem en_32{x:DocV}{w:World}(h:x.F w):∀e∈x.es,e.1.length=32:=λe he=>by
 have h1:=(h.1.2.2.2.1 e he).1 (.agg 32 (By e.1).toArray) (by simp [SQ.parts1,eEn]);have:=h1.1
 rwa [List.size_toArray,By_len] at this
theorem r12keys_S(x:DocV){k:List UInt8}(hk:k.length=32):Spec 16 [(eDc x).den,(eY 32 k).den] [] x.F { ret:=λs:{ s:HSeg // s.l=bU x.l k }=>.q (eHs s.1),p:=λs=>s.1.rd }:=by
 refine zQ [.p x.parts,eY 32 k] 21 Tryz.func16 rfl (by rw [Tryz.ntmps16];rfl) (two_ok x.parts_ok (eY_ok hk).1) λb=>?_;refine s_pure ((∀e∈x.es,e.1.length=32)/\x.es.length<=9223372036854775807) (λw h _=>⟨en_32 h,b8 h.1.1 h.1.2.1⟩) λ⟨h32,hmax⟩=>?_;refine zA rfl (zM λK hK=>?_);refine zA rfl (zN ?_)
 let Fs:Nat->Env:=λi=>⟨[(10,.v (.int .i64 (i:Int))),(9,.v (.int .i64 (x.es.length:Int))),(8,.v (.slice x.A x.es.length x.c)),(3,.a 3 0)],[⟨3,none,45,[.agg 32 (By k).toArray]⟩],[],x.F,λ_=>True⟩
 refine c_weak (e':=Fs 0) ⟨zE rfl, zL rfl rfl, .refl _,λ_ h _=>h, zU⟩ (s_loop (λi=>x.es.length-i) Fs (λi=>i<=x.es.length/\bU x.l k=bU (x.l.drop i) k) ?_ 0 ⟨aI _,rfl⟩)
 rintro i ⟨hi,hke⟩
 refine zA rfl (zM λK5 hK5=>?_);refine zW ((i:Int)<(x.es.length:Int)) rfl (λhlt=>?_) (λhge=>?_)
 ·have hlt:i<x.es.length:=by omega
  obtain⟨e,he⟩:∃e,x.es[i]?=some e:=⟨_,aK hlt⟩;have hem:=aR he;rw [DocV.at he,cH] at hke;refine zO (hK5 _ (zM λK6 hK6=>?_));refine zN (zC rfl λK7 hK7=>?_);refine l_elem zY rfl rfl rfl i rfl he rfl rfl (rd_fact λ_ h _=>h.1) ?_;refine zB rfl (zJ (hK7 _ ?_));refine zC rfl λK8 hK8=>?_;refine l_op (.b (decide (e.1=k))) trivial rfl rfl rfl (run_eqY rfl rfl rfl Tryz.underlying45 (by kernel_rfl) (h32 e hem) hk) ?_;refine zJ (hK8 _ ?_);refine zW (e.1=k) rfl (λhek=>?_) (λhek=>?_)
  ·rw [if_pos hek] at hke
   refine zA rfl ?_;exact zP (zR zY ⟨e.2,hke.symm⟩ rfl (by decide) rfl rfl rfl (λ_ h _=>h.2 e hem) zU)
  ·rw [if_neg hek] at hke
   refine zO (hK6 _ ?_);refine zD rfl ?_;exact zX (i+1) ⟨hlt,hke⟩ (by show x.es.length-(i+1)<x.es.length-i;omega) ⟨⟨nextI i x.es.length (by omega) hlt,rfl,rfl,rfl,trivial⟩,⟨rfl,rfl,trivial⟩,.refl _,λ_ h _=>h,λ_ h=>h⟩
 ·obtain rfl:x.es.length=i:=by omega
  rw [x.done] at hke;refine s_exit (zS (zS (k_out ?_)));refine hK _ ?_;refine zA rfl ?_;exact zP (zR zY ⟨nilH,hke.symm⟩ rfl (by decide) rfl rfl rfl (λw _ _=>Rd.nil _ _ w) zU)
theorem pairs_at'(x:DocV){i:Nat}{e:EnX}(h:x.es[i]?=some e):(pairsD x.l).take (i+1)=(pairsD x.l).take i++[(e.1,valH e.2.l)]:=by
 have h1:(pairsD x.l)[i]?=some (e.1,valH e.2.l):=by
  unfold pairsD DocV.l
  rw [fA,fA,h]
  rfl
 rw [mN,h1]
 rfl
theorem r12pairs_S(x:DocV)(hl:x.es.length<=1000):Spec 18 [(eDc x).den] [] x.F { ret:=λy:PX=>.v (.slice y.1 (pairsD x.l).length y.2),p:=λy=>Rd 64 eP y.1 y.2 (pairsD x.l) }:=by
 have hpl:(pairsD x.l).length=x.es.length:=by rw [pairsD,bO,x.len]
 refine zQ [.p x.parts] 24 Tryz.func18 rfl (by rw [Tryz.ntmps18];rfl) (one_ok x.parts_ok) λb=>?_;refine s_pure (∀e∈x.es,e.1.length=32) (λw h _=>en_32 h) λh32=>?_;refine zA rfl (zA rfl ?_);refine zM λK hK=>?_;refine zA rfl (zN ?_)
 let Fs:Nat×PX->Env:=λy=>⟨[(9,.v (.int .i64 (y.1:Int))),(8,.v (.int .i64 (x.es.length:Int))),(7,.v (.slice x.A x.es.length x.c)),(3,.v (.slice y.2.1 ((pairsD x.l).take y.1).length y.2.2))],[],[OwnS 0 96 64 eP y.2.1 y.2.2 ((pairsD x.l).take y.1)],x.F,λ_=>True⟩
 refine s_nil0 0 96 64 eP ?_;refine c_weak (e':=Fs (0,none,0)) ⟨zE rfl, trivial, .refl _,λ_ h _=>h, zU⟩ (s_loop (λy=>x.es.length-y.1) Fs (λy=>y.1<=x.es.length) ?_ (0,none,0) (aI _))
 rintro⟨i,B,c⟩ hi
 dsimp only at hi
 refine zA rfl (zM λK5 hK5=>?_);refine zW ((i:Int)<(x.es.length:Int)) rfl (λhlt=>?_) (λhge=>?_)
 ·have hlt:i<x.es.length:=by omega
  obtain⟨e,he⟩:∃e,x.es[i]?=some e:=⟨_,aK hlt⟩;have hem:=aR he;have htk:=pairs_at' x he
  have hlen:((pairsD x.l).take i).length<=1000:=by rw [aU];omega
  have hval:=λA c=>rvalue_S (A:=A) (c:=c) e.2.l;have hv32:(valH e.2.l).length=32:=dig_len _;generalize valH e.2.l=va at *;refine zO (hK5 _ (zM λK6 hK6=>?_));refine zN (zC rfl λK7 hK7=>?_);refine l_elem zY rfl rfl rfl i rfl he rfl rfl (rd_fact λ_ h _=>h.1) ?_;refine zB rfl (zJ (hK7 _ ?_));refine s_locs λG=>?_;have hwg:∀u∈withG G [⟨5,none,50,[.agg 32 (By e.1).toArray,.one (.v (.slice e.2.A e.2.l.length e.2.c))]⟩],u∈withG G [⟨5,none,50,[.agg 32 (By e.1).toArray,.one (.v (.slice e.2.A e.2.l.length e.2.c))]⟩]/\u.g.isSome=true:=λu hu=>⟨hu,by rw [aE.1 hu];rfl⟩;refine s_anyP [0,1,2,3,4] 8 2 (InvL (withG G [⟨5,none,50,[.agg 32 (By e.1).toArray,.one (.v (.slice e.2.A e.2.l.length e.2.c))]⟩])) (by kernel_rfl) rfl (inv_of hwg) ?_;refine p_front zY 0 (by kernel_rfl) rfl rfl rfl rfl rfl rfl (λ_ h=>h) ?_;refine p_front zY 1 (by kernel_rfl) rfl rfl rfl rfl rfl rfl (λ_ h=>h) ?_;refine p_front zY 2 (by kernel_rfl) rfl rfl rfl rfl rfl rfl (λ_ h=>h) ?_;refine p_front zY 3 (by kernel_rfl) rfl rfl rfl rfl rfl rfl (λ_ h=>h) ?_;refine p_front zY 4 (by kernel_rfl) rfl rfl rfl rfl rfl rfl (λ_ h=>h) ?_;refine p_step 5 (by kernel_rfl) rfl λKa hKa=>?_;refine l_call0 [.slice e.2.A e.2.l.length e.2.c] rfl rfl rfl (λ_ _=>by go_simp) rfl rfl (λ_ _=>rfl) (hval e.2.A e.2.c) (λ_ h _=>h.2 e hem) λ_=>?_;refine zJ (hKa _ (inv_of hwg) ?_);refine p_step 6 (by kernel_rfl) rfl λKb hKb=>?_;refine zB rfl ?_;refine zJ (hKb _ (inv_of hwg) ?_);refine p_step 7 (by kernel_rfl) rfl λKc hKc=>?_;refine l_list zY 0 [((e.1,va):PairT)] (fe:=eP) rfl rfl rfl rfl rfl (λ_=>rfl) rfl (by decide) (by decide) (λy hy=>by rw [aE.1 hy];exact eP_ok ⟨h32 e hem,hv32⟩) (aI _) λC=>?_;refine l_free 0 rfl ?_;refine zJ (hKc _ (inv_of hwg) ?_);refine p_tail [8,9] (by kernel_rfl) rfl ?_;refine l_appY zY 0 [((e.1,va):PairT)] rfl rfl rfl rfl rfl rfl rfl rfl rfl (rd_fact λw h _=>h.1) (by decide) (by show(((pairsD x.l).take i).length+1)*64<=_;omega) (by show((pairsD x.l).take i).length+1<=_;omega) (aI _) λA' c'=>?_;refine zB rfl ?_;rw [<-htk];refine zJ (k_noloc (hK6 _ ?_));refine zD rfl ?_;exact zX (i+1,A',c') hlt (by show x.es.length-(i+1)<x.es.length-i;omega) ⟨⟨nextI i x.es.length (by omega) hlt,rfl,rfl,rfl,trivial⟩,trivial,.refl _,λ_ h _=>h.2.2, zU⟩
 ·obtain rfl:x.es.length=i:=by omega
  refine s_exit (zS (zS (k_out ?_)));refine hK _ ?_;refine s_free 0 rfl ?_;refine zA rfl ?_;have e0:(pairsD x.l).take x.es.length=pairsD x.l:=List.take_of_length_le (by omega);rw [e0];exact zP (zR zY (B,c) rfl (by decide) rfl rfl rfl (λ_ h _=>h.1) zU)
theorem r12root_S(x:DocV)(hd:DirOk x.l)(hl:x.es.length<=1000):Spec 32 [(eDc x).den] [] x.F (one (.q (eY 32 (dX 256 (pairsD x.l))))):=by
 have hpl:(pairsD x.l).length=x.es.length:=by rw [pairsD,bO,x.len]
 have hr:=λA c=>rroot_S 256 (pairsD x.l) A c (aF _) (by omega) (DirOk.pairs hd).1 (λ_ _ _ _ _ h=>absurd h (Nat.not_lt_zero _));generalize dX 256 (pairsD x.l)=rt at *;refine zQ [.p x.parts] 6 Tryz.func32 rfl (by rw [Tryz.ntmps32];rfl) (one_ok x.parts_ok) λb=>?_;refine zA rfl (zC rfl λK hK=>?_);refine l_call0 [(eDc x).den] rfl rfl rfl (λ_ _=>by go_simp) rfl rfl (λ_ _=>rfl) (r12pairs_S x hl) (λ_ h _=>h) λy=>?_;refine l_call0 [.slice y.1 (pairsD x.l).length y.2,.int .i64 ((256-256:Nat):Int)] rfl rfl rfl (λ_ _=>by go_simp) rfl rfl (λ_ _=>rfl) (hr y.1 y.2) (λ_ h _=>h.1) λ_=>?_;refine zB rfl (zJ (hK _ ?_));exact zP (zR zY () rfl (by decide) rfl rfl rfl (λ_ _ _=>trivial) zU)
structure WdS where
  i:Nat
  A:Option Addr
  c:Nat
  o:List EnX
  dn:Bool
structure WdI(x:DocV)(id key:List UInt8)(s:WdS):Prop where
  i:s.i<=x.es.length
  run:s.o.map entD++oE id key (x.l.drop s.i) s.dn=oE id key x.l false
  len:s.o.length<=2*s.i
theorem r12with_S(x:DocV)(hd:DirOk x.l)(hsm:SmallD x.l)(hl:x.es.length<=1000){id key:List UInt8}(hid:id.length=32)(hkey:key.length=32):Spec 30 [(eDc x).den,(eY 32 id).den,(eY 32 key).den] [] x.F
  { ret:=λy:{ y:DocV // y.ep=x.ep/\y.l=iB x.l id (bU x.l id++[key]) }=>.q (eDc y.1),p:=λy=>y.1.F }:=by
 refine zQ [.p x.parts,eY 32 id,eY 32 key] 71 Tryz.func30 rfl (by rw [Tryz.ntmps30];rfl) (more_ok x.parts_ok (two_ok (eY_ok hid).1 (eY_ok hkey).1)) λb=>?_;refine s_pure (∀e∈x.es,e.1.length=32) (λw h _=>en_32 h) λh32=>?_;refine zA rfl (zA rfl ?_);refine zA rfl (zM λK hK=>?_);refine zA rfl (zN ?_);refine s_nil0 0 50 33 eEn ?_
 let Fs:WdS->Env:=λs=>⟨[(18,.v (.int .i64 (s.i:Int))),(17,.v (.int .i64 (x.es.length:Int))),(16,.v (.slice x.A x.es.length x.c)),(8,.v (.bool s.dn)),(7,.a 7 0),(6,.a 6 0),(5,.a 5 0),(4,.a 4 0)],[⟨7,none,36,[.one (.v (.int .i64 x.ep)),.one (.v (.slice s.A s.o.length s.c))]⟩,⟨6,none,36,zDocV.parts⟩,⟨5,none,45,[.agg 32 (By key).toArray]⟩,⟨4,none,45,[.agg 32 (By id).toArray]⟩],[OwnS 0 50 33 eEn s.A s.c s.o],λw=>x.F w/\∀e∈s.o,e.2.rd w,λ_=>True⟩
 refine c_weak (e':=Fs ⟨0,none,0,[],false⟩) ⟨zE rfl, zL rfl rfl, .refl _,λ_ h _=>⟨h,λ_ h=>by cases h⟩, zU⟩ (s_loop (λs=>x.es.length-s.i) Fs (WdI x id key) ?_ ⟨0,none,0,[],false⟩ ⟨aI _,rfl,aF _⟩)
 rintro⟨i,A,c,o,dn⟩ ⟨hi,hrun,hlen⟩
 dsimp only at hi hrun hlen
 refine zA rfl (zM λK5 hK5=>?_);refine zW ((i:Int)<(x.es.length:Int)) rfl (λhlt=>?_) (λhge=>?_)
 ·have hlt:i<x.es.length:=by omega
  obtain⟨e,he⟩:∃e,x.es[i]?=some e:=⟨_,aK hlt⟩;have hem:=aR he;have he32:=h32 e hem;have he64:e.2.l.length<=64:=hsm (entD e) (bP.2 ⟨e,hem,rfl⟩);rw [DocV.at he] at hrun;have hrun:o.map entD++((if (!dn&&cU id e.1)=true then [(id,[key])] else [])++(e.1,if e.1=id then e.2.l++[key] else e.2.l)::oE id key (x.l.drop (i+1)) (dn||cU id e.1||decide (e.1=id)))=oE id key x.l false:=hrun;refine zO (hK5 _ (zM λK6 hK6=>?_));refine zN (zC rfl λK7 hK7=>?_);refine l_elem zY rfl rfl rfl i rfl he rfl rfl (rd_fact λ_ h _=>h.1.1) ?_;refine zB rfl (zJ (hK7 _ ?_));refine zM λK8 hK8=>?_
  have hC:∀A1 c1 (o1:List EnX) dn1,o1.map entD=o.map entD++(if (!dn&&cU id e.1)=true then [(id,[key])] else [])->dn1=(dn||cU id e.1)->o1.length<=o.length+1->∀e',Weak e' ⟨[(18,.v (.int .i64 (i:Int))),(17,.v (.int .i64 (x.es.length:Int))),(16,.v (.slice x.A x.es.length x.c)),(8,.v (.bool dn1)),(7,.a 7 0),(6,.a 6 0),(5,.a 5 0),(4,.a 4 0),(10,.a 10 0)],[⟨10,none,50,[.agg 32 (By e.1).toArray,.one (.v (.slice e.2.A e.2.l.length e.2.c))]⟩,⟨7,none,36,[.one (.v (.int .i64 x.ep)),.one (.v (.slice A1 o1.length c1))]⟩,⟨6,none,36,zDocV.parts⟩,⟨5,none,45,[.agg 32 (By key).toArray]⟩,⟨4,none,45,[.agg 32 (By id).toArray]⟩],[OwnS 0 50 33 eEn A1 c1 o1],λw=>x.F w/\∀e∈o1,e.2.rd w,λ_=>True⟩->kS b K8 71 e':=by
   intro A1 c1 o1 dn1 ho1 hdn1 hlo1 e' hw
   rw [<-a6,<-ho1,<-hdn1] at hrun;refine k_weak hw (hK8 _ ?_);refine zM λK9 hK9=>?_
   have hE:∀(s2:HSeg) dn2,s2.l=(if e.1=id then e.2.l++[key] else e.2.l)->dn2=(dn1||decide (e.1=id))->∀e',Weak e' ⟨[(18,.v (.int .i64 (i:Int))),(17,.v (.int .i64 (x.es.length:Int))),(16,.v (.slice x.A x.es.length x.c)),(8,.v (.bool dn2)),(7,.a 7 0),(6,.a 6 0),(5,.a 5 0),(4,.a 4 0),(10,.a 10 0)],[⟨10,none,50,[.agg 32 (By e.1).toArray,.one (.v (.slice s2.A s2.l.length s2.c))]⟩,⟨7,none,36,[.one (.v (.int .i64 x.ep)),.one (.v (.slice A1 o1.length c1))]⟩,⟨6,none,36,zDocV.parts⟩,⟨5,none,45,[.agg 32 (By key).toArray]⟩,⟨4,none,45,[.agg 32 (By id).toArray]⟩],[OwnS 0 50 33 eEn A1 c1 o1],λw=>s2.rd w/\x.F w/\∀e∈o1,e.2.rd w,λ_=>True⟩->kS b K9 71 e':=by
    intro s2 dn2 hs2 hdn2 e' hw
    rw [<-hs2,<-hdn2] at hrun;refine k_weak hw (hK9 _ ?_);refine s_lit (zB rfl ?_);refine l_push zY 0 ((e.1,s2):EnX) rfl rfl rfl rfl rfl rfl rfl (eEn_ok he32) (by decide) (by decide) (by show(o1.length+1)*56<=_;omega) (by omega) (aI _) λA2 c2=>?_;refine zB rfl (zJ (hK6 _ ?_));refine zD rfl ?_;refine zX ⟨i+1,A2,c2,o1++[(e.1,s2)],dn2⟩ ⟨hlt,?_,by show(o1++[(e.1,s2)]).length<=2*(i+1);rw [aB];show o1.length+1<=_;omega⟩ (by show x.es.length-(i+1)<x.es.length-i;omega) ⟨⟨nextI i x.es.length (by omega) hlt,rfl,rfl,rfl,rfl,rfl,rfl,rfl,trivial⟩,zL rfl rfl, .refl _,λw h _=>⟨h.2.1,λy hy=>?_⟩, zU⟩
    ·rw [<-hrun]
     show(o1++[(e.1,s2)]).map entD++_=_
     rw [fC,a6]
     rfl
    ·rcases bR.1 hy with hy|hy
     ·exact h.2.2 y hy
     ·rw [aE.1 hy]
      exact h.1
   refine zC rfl λKa hKa=>?_;refine l_op (.b (decide (e.1=id))) trivial rfl rfl rfl (run_eqY rfl rfl rfl Tryz.underlying45 (by kernel_rfl) he32 hid) ?_;refine zJ (hKa _ ?_);refine zW (e.1=id) rfl (λhei=>?_) (λhei=>?_)
   ·refine zC rfl λKb hKb=>?_
    refine l_list0 (e:=45) (sz:=32) 0 (eY 32) rfl rfl rfl rfl (aI _) (λw=>by go_simp) λB=>?_;refine zB rfl ?_;refine l_appY zY 0 e.2.l (fe:=eY 32) rfl rfl rfl rfl rfl rfl rfl rfl rfl (rd_fact λw h _=>h.1.2 e hem) (by decide) (by show(0+_)*32<=_;omega) (by show 0+_<=_;omega) (aI _) λB1 d1=>?_;rw [List.nil_append];refine zB rfl (zJ (hKb _ ?_));refine zC rfl λKc hKc=>?_;refine zB rfl ?_;refine l_push zY 0 key (fe:=eY 32) rfl rfl rfl rfl rfl rfl rfl (eY_ok hkey) (by decide) (by decide) (by show(_+1)*32<=_;omega) (by omega) (aI _) λB2 d2=>?_;refine zB rfl ?_;refine l_free 0 rfl ?_;refine zJ (hKc _ ?_);refine zD rfl ?_;exact hE ⟨B2,d2,e.2.l++[key]⟩ true (by rw [if_pos hei]) (by rw [decide_eq_true hei,Bool.or_true]) _ ⟨zE rfl, zL rfl rfl, .refl _,λ_ h _=>h,λ_ h=>h⟩
   ·exact zO (hE e.2 dn1 (by rw [if_neg hei]) (by rw [decide_eq_false hei,Bool.or_false]) _ ⟨zE rfl, zL rfl rfl, .refl _,λ_ h _=>⟨h.1.2 e hem,h⟩,λ_ h=>h⟩)
  cases dn with
  | true =>
   refine zA rfl ?_;refine s_no rfl ?_;exact zO (hC A c o true (by simp) rfl (Nat.le_succ _) _ ⟨zE rfl, zL rfl rfl, .refl _,λ_ h _=>h,λ_ h=>h⟩)
  | false =>
   refine zC rfl λKa hKa=>?_;refine l_call0 [(eY 32 id).den,(eY 32 e.1).den] rfl rfl rfl (λ_ _=>by go_simp) rfl rfl (λ_ _=>rfl) (rless_S hid he32) (λ_ _ _=>trivial) λ_=>?_;refine zB rfl (zJ (hKa _ ?_));refine s_if (cU id e.1) rfl (λhlt2=>?_) (λhlt2=>?_)
   ·refine zC rfl λKb hKb=>?_
    refine l_list zY 0 [key] (fe:=eY 32) rfl rfl rfl rfl rfl (λ_=>rfl) rfl (by decide) (by decide) (okF_Y λl hl=>by rw [aE.1 hl];exact hkey) (aI _) λB=>?_;refine l_free 0 rfl ?_;refine zB rfl ?_;refine l_push zY 0 ((id,⟨B,1,[key]⟩):EnX) rfl rfl rfl rfl rfl rfl rfl (eEn_ok hid) (by decide) (by decide) (by show(o.length+1)*56<=_;omega) (by show o.length<_;omega) (aI _) λA2 c2=>?_;refine zB rfl (zJ (hKb _ ?_));refine zD rfl ?_
    exact hC A2 c2 (o++[(id,⟨B,1,[key]⟩)]) true (by rw [fC,hlt2];rfl) (by rw [hlt2];rfl) (by rw [aB];exact aF _) _ ⟨zE rfl, zL rfl rfl, .refl _,λw h _=>⟨h.2.2.1,λy hy=>by
     rcases bR.1 hy with hy|hy
     ·exact h.2.2.2 y hy
     ·rw [aE.1 hy]
      exact h.1⟩, zU⟩
   ·exact zO (hC A c o false (by rw [hlt2];simp) (by rw [hlt2];rfl) (Nat.le_succ _) _ ⟨zE rfl, zL rfl rfl, .refl _,λ_ h _=>h.2, zU⟩)
 ·obtain rfl:x.es.length=i:=by omega
  rw [x.done] at hrun;rw [q8 hid hd] at hrun;refine s_exit (zS (zS (k_out ?_)));refine hK _ ?_;refine zM λK6 hK6=>?_
  have hE:∀A1 c1 (o1:List EnX),o1.map entD=iB x.l id (bU x.l id++[key])->∀e',Weak e' ⟨[(7,.a 7 0),(6,.a 6 0)],[⟨7,none,36,[.one (.v (.int .i64 x.ep)),.one (.v (.slice A1 o1.length c1))]⟩,⟨6,none,36,zDocV.parts⟩],[OwnS 0 50 33 eEn A1 c1 o1],λw=>∀e∈o1,e.2.rd w,λ_=>True⟩->kS b K6 71 e':=by
   intro A1 c1 o1 ho1 e' hw
   refine k_weak hw (hK6 _ ?_);refine s_free 0 rfl ?_;refine zA rfl ?_;exact zP (zR zY ⟨⟨x.ep,A1,c1,o1⟩,rfl,ho1⟩ rfl (by decide) rfl rfl rfl (λ_ h _=>h) zU)
  cases dn with
  | true =>
   have hrun:o.map entD++[]=_:=hrun;rw [List.append_nil] at hrun;refine zA rfl ?_;refine s_no rfl ?_;exact zO (hE A c o hrun _ ⟨zE rfl, zL rfl rfl, .refl _,λ_ h _=>h.2, zU⟩)
  | false =>
   have hrun:o.map entD++[(id,[key])]=_:=hrun;refine zA rfl ?_;refine s_yes rfl ?_;refine s_lit (zB rfl ?_);refine l_list zY 0 [key] (fe:=eY 32) rfl rfl rfl rfl rfl (λ_=>rfl) rfl (by decide) (by decide) (okF_Y λl hl=>by rw [aE.1 hl];exact hkey) (aI _) λB=>?_;refine l_free 0 rfl ?_;refine zB rfl ?_;refine l_push zY 0 ((id,⟨B,1,[key]⟩):EnX) rfl rfl rfl rfl rfl rfl rfl (eEn_ok hid) (by decide) (by decide) (by show(o.length+1)*56<=_;omega) (by show o.length<_;omega) (aI _) λA2 c2=>?_;refine zB rfl ?_;refine zJ (hE A2 c2 (o++[(id,⟨B,1,[key]⟩)]) (by rw [fC];exact hrun) _ ⟨zE rfl, zL rfl rfl, .refl _,λw h _=>λy hy=>?_, zU⟩)
   rcases bR.1 hy with hy|hy
   ·exact h.2.2 y hy
   ·rw [aE.1 hy]
    exact h.1
structure RaI(x:DocV)(us:List UV)(s:Nat×DocV):Prop where
  i:s.1<=us.length
  ep:s.2.ep=x.ep
  l:s.2.l=fN x.l ((us.take s.1).map udH)
theorem r12apply_S(x:DocV)(hd:DirOk x.l)(hsm:SmallD x.l){A B:Option Addr}{c c2:Nat}{us:List UV}(hus:∀u∈us,u.Ok)(hl:x.es.length+us.length<=1000) :
  Spec 10 [(eDc x).den,.slice A us.length c,.slice B us.length c2] [] (λw=>x.F w/\Rd 129 eU A c us w/\Rd 1 eT B c2 (us.map signB) w) { ret:=λy:{ y:DocV // y.ep=IntKind.i64.wrap (x.ep+1)/\y.l=fN x.l (us.map udH) }=>.q (eDc y.1),p:=λy=>y.1.F }:=by
 refine zQ [.p x.parts,.c (.v (.slice A us.length c)),.c (.v (.slice B us.length c2))] 43 Tryz.func10 rfl (by rw [Tryz.ntmps10];rfl) (more_ok x.parts_ok (two_ok trivial trivial)) λb=>?_;refine zA rfl (zM λK hK=>?_);refine zA rfl (zN ?_)
 let Fs:Nat×DocV->Env:=λs=>⟨[(11,.v (.int .i64 (s.1:Int))),(10,.v (.int .i64 (us.length:Int))),(9,.v (.slice A us.length c)),(2,.v (.slice B us.length c2)),(3,.a 3 0),(6,.a 6 0)],[⟨6,none,36,zDocV.parts⟩,⟨3,none,36,s.2.parts⟩],[],λw=>(Rd 129 eU A c us w/\Rd 1 eT B c2 (us.map signB) w)/\s.2.F w,λ_=>True⟩
 refine c_weak (e':=Fs (0,x)) ⟨zE rfl, zL rfl rfl, .refl _,λ_ h _=>⟨h.2,h.1⟩, zU⟩ (s_loop (λs=>us.length-s.1) Fs (RaI x us) ?_ (0,x) ⟨aI _,rfl,rfl⟩)
 rintro⟨i,z⟩ ⟨hi,hep,hz⟩
 dsimp only at hi hep hz
 have hus2:tI ((us.take i).map udH):=us_ok λu hu=>hus u (List.mem_of_mem_take hu)
 have hdz:DirOk z.l:=by rw [hz];exact hd.apply hus2
 have hsz:SmallD z.l:=by rw [hz];exact hsm.apply
 have hzl:z.es.length<=x.es.length+i:=by
  have h1:=applyD_len ((us.take i).map udH) x.l;rw [<-hz,z.len,x.len,bO,aU] at h1
  omega
 refine zA rfl (zM λK5 hK5=>?_);refine zW ((i:Int)<(us.length:Int)) rfl (λhlt=>?_) (λhge=>?_)
 ·have hlt:i<us.length:=by omega
  obtain⟨u,hu⟩:∃u,us[i]?=some u:=⟨_,aK hlt⟩;have huo:=hus u (aR hu);have htk:=take_apply hu x.l;rw [<-hz] at htk
  have hgu:(us.map signB)[i]?=some (signB u):=by rw [fA,hu];rfl
  refine zO (hK5 _ (zM λK6 hK6=>?_))
  have hgo:∀y:DocV,y.ep=x.ep->y.l=iV z.l (udH u)->∀e',Weak e' ⟨[(11,.v (.int .i64 (i:Int))),(10,.v (.int .i64 (us.length:Int))),(9,.v (.slice A us.length c)),(2,.v (.slice B us.length c2)),(3,.a 3 0),(6,.a 6 0)],[⟨6,none,36,zDocV.parts⟩,⟨3,none,36,y.parts⟩],[],λw=>(Rd 129 eU A c us w/\Rd 1 eT B c2 (us.map signB) w)/\y.F w,λ_=>True⟩->kS b K6 43 e':=by
   intro y hy1 hy2 e' hw
   refine k_weak hw (hK6 _ ?_);refine zD rfl ?_;exact zX (i+1,y) ⟨hlt,hy1,hy2.trans htk.symm⟩ (by show us.length-(i+1)<us.length-i;omega) ⟨⟨nextI i us.length (by omega) hlt,rfl,rfl,rfl,rfl,rfl,trivial⟩,zL rfl rfl, .refl _,λ_ h _=>h,λ_ h=>h⟩
  refine zN (zC rfl λK7 hK7=>?_);refine l_elem zY rfl rfl rfl i rfl hu rfl rfl (rd_fact λ_ h _=>h.1.1) ?_;refine zB rfl (zJ (hK7 _ ?_));refine s_regH 15 (by decide) (by kernel_rfl) (by kernel_rfl) λK8 hK8 G S w0 hst=>?_;refine zV hst rfl ?_;refine h_elem hst rfl rfl rfl rfl rfl i rfl hgu (by rw [bO]) rfl (rd_fact λ_ h _=>h.1.2) ?_
  cases hs:signB u with
  | false =>
   refine h_is 19 false rfl rfl ?_;refine zV hst rfl ?_;refine h_end hst ?_;refine zJ (hK8 _ ?_);refine s_no rfl ?_;exact zO (hgo z hep (step_not λh=>by rw [hs] at h;cases h.1).symm _ ⟨zE rfl, zL rfl rfl, .refl _,λ_ h _=>h,λ_ h=>h⟩)
  | true =>
   refine h_is 19 true rfl rfl ?_;refine zV hst rfl ?_;refine h_callE (F':=z.F) hst [(eDc z).den,(eY 32 u.id).den] rfl rfl rfl rfl (λ_ _=>by go_simp) rfl rfl (λ_=>rfl) (r12keys_S z huo.id) (λw hv _=>hv.fact.2) λs _=>?_;obtain⟨s,hsl⟩:=s;have hk64:=hsz.keys u.id;refine zV hst rfl ?_;refine h_end hst ?_;refine zJ (hK8 _ ?_);have hwr:IntKind.i64.wrap ((s.l.length:Int)+1)=(s.l.length:Int)+1:=wrapI rfl (by rw [hsl];omega) (by rw [hsl];omega);refine zW (u.ver=IntKind.i64.wrap ((s.l.length:Int)+1)) rfl (λhv=>?_) (λhv=>?_)
   ·rw [hwr,hsl] at hv
    refine s_lit (zB rfl ?_);refine l_call0 [(eDc z).den,(eY 32 u.id).den,(eY 32 u.key).den] rfl rfl rfl (λ_ _=>by go_simp) rfl rfl (λ_ _=>rfl) (r12with_S z hdz hsz (by omega) huo.id huo.key) (λ_ h _=>h.2) λy=>?_;obtain⟨y,hy1,hy2⟩:=y;refine zB rfl ?_;exact zJ (hgo y (hy1.trans hep) (by rw [step_ok ⟨hs,hv⟩];exact hy2) _ ⟨zE rfl, zL rfl rfl, .refl _,λ_ h _=>⟨h.2.1,h.1⟩, zU⟩)
   ·rw [hwr,hsl] at hv
    exact zO (hgo z hep (step_not λh=>hv h.2).symm _ ⟨zE rfl, zL rfl rfl, .refl _,λ_ h _=>h,λ_ h=>h⟩)
 ·obtain rfl:us.length=i:=by omega
  rw [fU] at hz;refine s_exit (zS (zS (k_out ?_)));refine hK _ ?_;refine zA rfl (zA rfl ?_);exact zP (zR zY ⟨⟨IntKind.i64.wrap (z.ep+1),z.A,z.c,z.es⟩,by rw [hep],hz⟩ rfl (by decide) rfl rfl rfl (λ_ h _=>h.2) zU)
abbrev idsD(l:List EntD):List (List UInt8):=l.map (·.1)
theorem ids_next{l:List EntD}{j:Nat}{e:EntD}(h:l[j]?=some e):idsD (l.take (j+1))=idsD (l.take j)++[e.1]:=by
 unfold idsD
 rw [mN,h,fC]
 rfl
theorem owners12_S{d:DirV}(hd:d.Ok)(hl:d.l.length<=1000):Spec 11 [(eDv d).den] [] d.F { ret:=λx:PX=>.v (.slice x.1 (idsD d.l).length x.2),p:=λx=>Rd 32 (eY 32) x.1 x.2 (idsD d.l) }:=by
 refine spec_D [.p d.parts] 14 Tryz.func11 rfl (by rw [Tryz.ntmps11];rfl) (one_ok d.parts_ok) λb=>?_;refine d_auto zY rfl ?_;refine d_auto zY rfl ?_;refine d_seqD λK hK=>?_;refine d_regA zY rfl λK1 hK1=>?_;refine l_call0 [(eDv d).den] rfl rfl rfl (λ_ _=>by go_simp) rfl rfl (λ_ _=>rfl) (dall_S d) (λ_ _ _=>trivial) λgb=>?_;refine l_nil0 0 45 32 (eY 32) ?_;refine d_end (hK1 _ ?_);refine d_block ?_
 let E0:SE:=[(6,.v (.func (.func 43) #[] #[.pointer (some ⟨gb,0,none⟩)])),(3,.a 3 0)]
 let Lf:PX×List (List UInt8)->List LV:=λs=>[⟨3,none,43,[.one (.v (.slice s.1.1 s.2.length s.1.2))]⟩]
 let Rf:PX×List (List UInt8)->List Res:=λs=>[KyS s.1.1 s.1.2 s.2]
 refine d_weak (e':=⟨E0,Lf ((none,0),[]),Rf ((none,0),[]),λw=>ObjF gb 33 d.parts w/\d.F w,λ_=>True⟩) ⟨zE rfl, zL rfl rfl, .refl _,λ_ h _=>h, zU⟩ ?_;refine d_rangeO (β:=PX) d.l (λe=>eY 32 e.1) (λe y=>.c (.v (.slice y.1 e.2.length y.2))) (λe y=>[KyS y.1 y.2 e.2]) Lf Rf (λj s=>s.2=idsD (d.l.take j)) (λ_ _=>False) ((none,0),[]) (λw=>ObjF gb 33 d.parts w/\d.F w) (lb:=[.pointer (some ⟨gb,0,none⟩)]) rfl (λ_ _=>by go_simp) (λ_=>rfl) (λe he _=>⟨(eY_ok (hd.dir.ids e he)).1,trivial⟩) rfl rfl (λ_ h _=>h) (λy Fy JR JX hy=>dall1_S y gb Fy JR JX hd hy) rfl ?_ ?_ (λ_ _ _ h=>h.elim)
 ·rintro G y D m ready busy b1 j ⟨⟨A,c⟩,ids⟩ e z _ hI he K6 hK6
  dsimp only at hI
  have he32:=hd.dir.ids e (aR he)
  have hil:ids.length<=1000:=by
   rw [hI]
   unfold idsD
   rw [bO,aU]
   omega
  refine r_autoE rfl zY rfl ?_;refine hK6 _ _ _ _ _ ?_;refine r_block ?_;refine r_lit rfl ?_;refine zB rfl ?_;refine l_push zY 3 e.1 (fe:=eY 32) rfl rfl rfl rfl rfl rfl rfl (eY_ok he32) (by decide) (by decide) (by show(ids.length+1)*32<=_;omega) (by show ids.length<_;omega) (aI _) λA' c'=>?_;refine zB rfl ?_;refine zJ (k_drop 2 rfl ?_);exact k_rnd (Ix:=λ_ _=>False) ((A',c'),ids++[e.1]) (by show ids++[e.1]=_;rw [ids_next he,hI]) ⟨trivial,⟨rfl,rfl,trivial⟩,.refl _,λ_ _ _=>trivial, zU⟩
 ·rintro⟨⟨A,c⟩,ids⟩ D hI
  dsimp only at hI
  rw [fU] at hI;subst hI;refine hK _ _ ?_;refine d_regA zY rfl λK2 hK2=>?_;refine l_free 1 rfl ?_;refine d_end (hK2 _ ?_);exact d_ret (k_retM [D] (R:=[]) (zR zY (A,c) rfl (by decide) rfl rfl rfl (λ_ h _=>h.1) zU))
theorem told_rd{z:PX}{l:List (List UInt8)}{w:World}(h:∃y:PX,(RV.v (.slice z.1 l.length z.2)).den=(RV.v (.slice y.1 l.length y.2)).den/\Rd 32 (eY 32) y.1 y.2 l w):Rd 32 (eY 32) z.1 z.2 l w:=by
 obtain⟨y,h1,h2⟩:=h;have h1:Value.slice z.1 l.length z.2 = .slice y.1 l.length y.2:=h1
 injection h1 with e1 _ e2
 rw [e1,e2];exact h2
theorem DocV.F.addr{x:DocV}{w:World}(h:x.F w):x.es.length=0\/∃g o,x.A=some ⟨g,o,none⟩:=by
 rcases Nat.eq_zero_or_pos x.es.length with h0|h0
 ·exact .inl h0
 ·obtain⟨g,o,e,_⟩:=h.1.2.2.2.2 h0
  exact .inr ⟨g,o,e⟩
theorem same12_S{d:DirV}(hd:d.Ok)(hl:d.l.length<=1000)(x:DocV)(hx:x.l=d.l)(hep:x.ep=d.ep):Spec 13 [(eDv d).den,(eDc x).den] [] (λw=>d.F w/\x.F w) (one (.v (.bool true))):=by
 have hdr:=droot_S hd
 have hr32:(dX 256 (pairsD d.l)).length=32:=by rw [<-hd.tree.root];exact d.t.root_len
 have hxl:x.es.length=d.l.length:=by rw [<-hx,x.len]
 have hxr:=r12root_S x (by rw [hx];exact hd.dir) (by omega);rw [hx] at hxr;have htr:=tRoot_S d.t 0;rw [hd.tree.root] at htr
 have htl:d.t.len=d.l.length:=by rw [hd.tree.len,pairsD,bO]
 generalize dX 256 (pairsD d.l)=rt at *;refine spec_D [.p d.parts,.p x.parts] 82 Tryz.func13 rfl (by rw [Tryz.ntmps13];rfl) (two_ok d.parts_ok x.parts_ok) λb=>?_;refine d_pure ((∀e∈x.es,e.1.length=32)/\(x.es.length=0\/∃g o,x.A=some ⟨g,o,none⟩)) (λw h _=>⟨en_32 h.2,DocV.F.addr h.2⟩) λ⟨h32,hA⟩=>?_;refine d_auto zY rfl ?_;refine d_seq λK hK=>?_;refine d_regH 29 (by decide) (by kernel_rfl) (by kernel_rfl) λK1 hK1 G S w0 hst=>?_;refine zV hst rfl ?_;refine h_callS (F':=λ_=>True) (r:=.v (.int .i64 d.ep)) hst [(eDv d).den] rfl rfl rfl rfl (λ_ _=>by go_simp) rfl rfl (λ_=>rfl) trivial (depoch_S d) (λ_ _ _ _=>trivial) ?_;refine zV hst rfl ?_;refine h_is 13 false rfl (by rw [hep];simp) ?_;refine zV hst rfl ?_;refine h_callS (F':=d.F) (r:=.q (eY 32 rt)) hst [(eDv d).den] rfl rfl rfl rfl (λ_ _=>by go_simp) rfl rfl (λ_=>rfl) (eY_ok hr32).1 hdr (λ_ _ _ h=>h.fact.1) ?_;refine zV hst rfl ?_;refine h_callS (F':=x.F) (r:=.q (eY 32 rt)) hst [(eDc x).den] rfl rfl rfl rfl (λ_ _=>by go_simp) rfl rfl (λ_=>rfl) (eY_ok hr32).1 hxr (λ_ _ _ h=>h.fact.2) ?_;refine zV hst rfl ?_;refine h_op hst (.b (!decide (rt=rt))) trivial rfl rfl rfl rfl (run_neqY rfl rfl rfl Tryz.underlying45 (by kernel_rfl) hr32 hr32) ?_;refine h_is 18 false rfl (by simp) ?_;refine zV hst rfl ?_;refine h_callS (F':=λ_=>True) (r:=.q (.p [.agg 2 #[d.t.val,.int .u8 0]])) hst [(eDv d).den] rfl rfl rfl rfl (λ_ _=>by go_simp) rfl rfl (λ_=>rfl) (dtree_ok d) (dtree_S d) (λ_ _ _ _=>trivial) ?_;refine zV hst rfl ?_;refine h_callS (F':=TF d.t) (r:=.q (eY 32 rt)) hst [(eTr d.t 0).den] rfl rfl rfl rfl own_tRoot rfl rfl (λ_=>rfl) (eY_ok hr32).1 htr (λ_ _ _ h=>h.fact.1.2.2) ?_;refine zV hst rfl ?_;refine h_callS (F':=x.F) (r:=.q (eY 32 rt)) hst [(eDc x).den] rfl rfl rfl rfl (λ_ _=>by go_simp) rfl rfl (λ_=>rfl) (eY_ok hr32).1 hxr (λ_ _ _ h=>h.fact.2) ?_;refine zV hst rfl ?_;refine h_op hst (.b (!decide (rt=rt))) trivial rfl rfl rfl rfl (run_neqY rfl rfl rfl Tryz.underlying45 (by kernel_rfl) hr32 hr32) ?_;refine h_is 26 false rfl (by simp) ?_;refine zV hst rfl ?_;refine h_callS (F':=λ_=>True) (r:=.q (.p [.agg 2 #[d.t.val,.int .u8 0]])) hst [(eDv d).den] rfl rfl rfl rfl (λ_ _=>by go_simp) rfl rfl (λ_=>rfl) (dtree_ok d) (dtree_S d) (λ_ _ _ _=>trivial) ?_;refine zV hst rfl ?_;refine h_callS (F':=TF d.t) (r:=.v (.int .i64 (d.t.len:Int))) hst [(eTr d.t 0).den] rfl rfl rfl rfl (λ_ _=>by go_simp) rfl rfl (λ_=>rfl) trivial (tLen_S d.t 0) (λ_ _ _ h=>h.fact.1.2.2) ?_;refine zV hst rfl ?_;refine h_end hst ?_;refine l_is 36 false rfl (by rw [htl,hxl];simp) ?_;refine d_end (hK1 _ ?_);refine d_no rfl ?_;refine d_skip (hK _ ?_);clear hdr hxr htr;refine d_auto zY rfl ?_;refine d_seqD λK2 hK2=>?_;refine d_regA zY rfl λK3 hK3=>?_
 refine l_call0 [(eDv d).den] rfl rfl rfl (λ_ _=>by go_simp) rfl rfl (λ_ _=>rfl) (dall_S d) (λ_ _ _=>trivial) λgb=>?_;refine d_end (hK3 _ ?_);refine d_block ?_
 let E0:SE:=[(38,.v (.func (.func 43) #[] #[.pointer (some ⟨gb,0,none⟩)])),(5,.a 5 0),(4,.a 4 0),(3,.a 3 0),(2,.a 2 0)]
 let Lf:Nat->List LV:=λs=>[⟨5,none,3,[.one (.v (.int .i64 (s:Int)))]⟩,⟨4,none,4,[.one (.v (.bool false))]⟩,⟨3,none,36,x.parts⟩,⟨2,none,33,d.parts⟩]
 refine d_weak (e':=⟨E0,Lf 0,[],λw=>(ObjF gb 33 d.parts w/\d.F w)/\x.F w,λ_=>True⟩) ⟨zE rfl, zL rfl rfl, .refl _,λ_ h _=>⟨⟨h.1,h.2.1⟩,h.2.2⟩, zU⟩ ?_;refine d_rangeO (β:=PX) d.l (λe=>eY 32 e.1) (λe y=>.c (.v (.slice y.1 e.2.length y.2))) (λe y=>[KyS y.1 y.2 e.2]) Lf (λ_=>[]) (λj s=>s=j) (λ_ _=>False) 0 (λw=>ObjF gb 33 d.parts w/\d.F w) (lb:=[.pointer (some ⟨gb,0,none⟩)]) rfl (λ_ _=>by go_simp) (λ_=>rfl) (λe he _=>⟨(eY_ok (hd.dir.ids e he)).1,trivial⟩) rfl rfl (λ_ h _=>h.1) (λy Fy JR JX hy=>dall1_S y gb Fy JR JX hd hy) rfl ?_ ?_ (λ_ _ _ h=>h.elim)
 ·rintro G y D m ready busy b1 j s e z _ rfl he K6 hK6
  have hlt:s<d.l.length:=(bA.1 he).1
  have hlx:s<x.es.length:=by omega
  obtain⟨e2,he2⟩:∃e2,x.es[s]?=some e2:=⟨_,aK hlx⟩
  obtain rfl:e=entD e2:=by
   rw [<-hx] at he
   unfold DocV.l at he
   rw [fA,he2] at he;exact(cR he).symm
  have hem:=aR he2;have he32:=h32 e2 hem;have hke:=dkeys_S hd he32;rw [keysD_at hd.dir he] at hke;have hke:=hke.tell;obtain⟨ga,oa,hxA⟩:=hA.resolve_left (by omega);refine r_auto rfl zY rfl ?_;refine r_autoE rfl zY rfl ?_;refine hK6 _ _ _ _ _ ?_;refine r_block ?_;refine r_seq λK7 hK7=>?_;refine r_regH 34 (by decide) (by kernel_rfl) (by kernel_rfl) rfl λK8 hK8 G2 S w0 hst=>?_;refine zV hst rfl ?_;refine h_is 46 false rfl (decide_eq_false (by show ¬((s:Int)>=(x.es.length:Int));omega)) ?_;refine zV hst rfl ?_;refine h_op hst (.v (.pointer (some ⟨ga,oa+33*s,none⟩))) trivial rfl rfl rfl rfl (runO_ixS s rfl Tryz.underlying34 rfl (by rw [<-hxA];rfl) rfl hlx) ?_;refine zV hst rfl ?_;refine h_opV hst (.q (eY 32 e2.1)) (eY_ok he32).1 rfl rfl rfl rfl (run_ldEl (k':=33) (c:=x.c) (j:=s) (off:=0) (g:=ga) (a:=oa) (fe:=eEn) (l:=x.es) zY rfl rfl he2 rfl (eEn_ok he32).1 (rd_fact λ_ h _=>by rw [<-hxA];exact h.1.2.1)) ?_;refine zV hst rfl ?_;refine h_op hst (.b (!decide (e2.1=e2.1))) trivial rfl rfl rfl rfl (run_neqY rfl rfl rfl Tryz.underlying45 (by kernel_rfl) he32 he32) ?_;refine h_is 54 false rfl (by simp) ?_;refine zV hst rfl ?_;refine h_op hst (.v (.pointer (some ⟨ga,oa+33*s,none⟩))) trivial rfl rfl rfl rfl (runO_ixS s rfl Tryz.underlying34 rfl (by rw [<-hxA];rfl) rfl hlx) ?_;refine zV hst rfl ?_;refine h_opV hst (.q (eHs e2.2)) trivial rfl rfl rfl rfl (run_ldEl (k':=33) (c:=x.c) (j:=s) (off:=32) (g:=ga) (a:=oa) (fe:=eEn) (l:=x.es) zY rfl rfl he2 rfl (eEn_ok he32).1 (rd_fact λ_ h _=>by rw [<-hxA];exact h.1.2.1)) ?_;refine zV hst rfl ?_;refine h_callS (F':=λw=>Rd 32 (eY 32) z.1 z.2 e2.2.l w/\Rd 32 (eY 32) e2.2.A e2.2.c e2.2.l w) (r:=.v (.bool true)) hst [.slice z.1 e2.2.l.length z.2,.slice e2.2.A e2.2.l.length e2.2.c] rfl rfl rfl rfl (λ_ _=>by go_simp) rfl rfl (λ_=>rfl) trivial (rsame11_S e2.2.l) (λG S w h=>⟨rd_own 2 rfl G S w h,h.fact.1.2.2 e2 hem⟩) ?_;refine zV hst rfl ?_;refine h_callE (F':=d.F) hst [(eDv d).den,(eY 32 e2.1).den] rfl rfl rfl rfl own_dkeys rfl rfl (λ_=>rfl) hke (λw hv _=>hv.fact.1.1.2) λz2 _=>?_;refine zV hst rfl ?_;refine h_callE (F':=λw=>Rd 32 (eY 32) z2.1 z2.2 e2.2.l w/\Rd 32 (eY 32) z.1 z.2 e2.2.l w) (post:=one (.v (.bool true))) hst [.slice z2.1 e2.2.l.length z2.2,.slice z.1 e2.2.l.length z.2] rfl rfl rfl rfl (λ_ _=>by go_simp) rfl rfl (λ_=>rfl) (rsame11_S e2.2.l) (λw hv hu=>⟨told_rd (hu 29 _ rfl (by kernel_rfl)),rd_own 2 rfl _ _ w hv⟩) λ_ _=>?_;refine zV hst rfl ?_;refine h_end hst ?_;refine zJ (hK8 _ ?_);refine r_no rfl ?_;refine r_skip (hK7 _ ?_);refine r_lit rfl ?_;refine zB rfl ?_;refine zJ (k_drop 2 rfl ?_);exact k_rnd (Ix:=λ_ _=>False) (s+1) rfl ⟨trivial,⟨congrArg (λz=>some (LV.mk 5 (some (G 5)) 3 [.one (.v (.int .i64 z))])) (wrapI (m:=(s:Int)+1) (r:=((s+1:Nat):Int)) (by omega) (by omega) (by omega)),rfl,rfl,rfl,rfl,rfl,rfl,rfl,trivial⟩,.refl _,λ_ _ _=>trivial, zU⟩
 ·rintro s D rfl
  refine hK2 _ _ ?_;refine d_auto zY rfl ?_;exact d_ret (k_retM [D] (R:=[]) (k_retD zY () rfl (by decide) rfl (congrArg Value.bool (decide_eq_true (by rw [hxl])).symm) trivial rfl (λ_ _ _=>trivial) zU))
def hB(x:UInt8):List UInt8:=x::aA 31 0
def hB2(x y:UInt8):List UInt8:=x::y::aA 30 0
theorem uv_cells(u:UV):(catP u.parts).toList=By u.id++(.int .i64 u.ver::(By u.key++By u.sig)):=by
 show(catP [Pt.agg 32 (By u.id).toArray,.one (.v (.int .i64 u.ver)),.agg 32 (By u.key).toArray,.agg 64 (By u.sig).toArray]).toList=_
 rw [catP_cons,catP_cons,catP_cons,catP_cons]
 simp [Pt.cells,catP,SC.den]
theorem val_first:valH [hB 2]=j4 bJ 1 ([[2],be8 1,j4 bJ 2 ([[3],zH,hB 2]:List (List UInt8)).flatten]:List (List UInt8)).flatten:=by
 have h1:dH [hB 2]=j4 bJ 2 ([[3],zH,hB 2]:List (List UInt8)).flatten:=mC (s:=bJ) 2 _ (by decide) (by decide) (by decide +kernel)
 unfold valH
 rw [h1];exact mC (s:=bJ) 1 _ (by decide) (by decide) (by decide +kernel)
theorem root_first:dX 256 (pairsD [(gE (hB 1),[hB 2])])≠dJ:=by
 show g6 (gE (hB 1),valH [hB 2])≠dJ
 rw [key_all (seed:=hB 1) rfl (by decide +kernel),val_first,g6,mC (s:=bJ) 2 _ (by decide) (by decide) (by decide +kernel)]
 decide +kernel
section
variable{b:Base}{ops:Array Oper}{Q:Exit->Act->World->Prop}{N:Nat}{G:Nat->Nat}{S:Nat->Prop}{E:SE}{L:List LV}{R:List Res}{F M:World->Prop}{w0:World}{T':List Oper}{Fa:Told}{i k:Nat}{o:Oper}{rest:List (Nat×Oper)}
theorem h_buildY{t:TypeId}{parts:Array (Nat×Operand)}(vs:List (Nat×SC))(n:Nat)(l:List UInt8)(hst:StW b G S L R F M w0)(hf:farP i Fa=true)(hg:o.guard=none)(hd:o.dst=some k)(hk:Nat.blt k N=true)(ho:o.op = .build t parts)(hv:parts.toList.map (λp=>(p.1,evS E p.2))=vs.map (λx=>(x.1,some (.q (.c x.2)))))
 (hb:Tryz.prog.built t (vs.map λx=>(x.1,x.2.den))=some (By l).toArray)(hl:l.length=n)(hn:hS Tryz.prog ops Q N T' G w0 rest ((k,.q (eY n l))::E) Fa):hS Tryz.prog ops Q N T' G w0 ((i,o)::rest) E Fa :=
 h_f hst (.q (eY n l)) (eY_ok hl).1 hf (λ_ _ _ hQ=>f_build _ _ hg hd hk ho (parts_den _ _ hv) hb hQ) hn
end
theorem told_an{x:AnX}{n m:Nat}{p:AnX->World->Prop}{w:World}(h:∃y,(RV.q (eAn x n m)).den=(RV.q (eAn y n m)).den/\p y w):p x w:=by
 obtain⟨y,h1,h2⟩:=h;have h1:Value.agg #[.slice x.A n x.c,.slice x.B m x.d] = .agg #[.slice y.A n y.c,.slice y.B m y.d]:=h1
 have e:x=y:=by
  obtain⟨a,b,c,d⟩:=x;obtain⟨a',b',c',d'⟩:=y
  injection h1 with h1
  have h3:=congrArg Array.toList h1
  injection h3 with h4 h5
  injection h5 with h5 _
  injection h4 with e1 _ e2
  injection h5 with e3 _ e4
  subst e1 e2 e3 e4
  rfl
 rw [e];exact h2
theorem first12_S:Spec 7 [] [] Ta (one (.v (.bool true))):=by
 have hm:=hmake_S (seed:=hB 1) (key:=hB 2) 1 rfl rfl;have hsb:signB (mkH (hB 1) 1 (hB 2))=true:=signB_made _ _ _;have hok:(mkH (hB 1) 1 (hB 2)).Ok:=mkH_ok _ _ rfl;have hid:(mkH (hB 1) 1 (hB 2)).id=gE (hB 1):=rfl;have hver:(mkH (hB 1) 1 (hB 2)).ver=1:=rfl;have hkey:(mkH (hB 1) 1 (hB 2)).key=hB 2:=rfl;have hrf:=root_first;rw [<-hid] at hrf;generalize mkH (hB 1) 1 (hB 2)=u at *
 have hap:fN [] ([u].map udH)=[(u.id,[hB 2])]:=by
  show iV [] (udH u)=_
  rw [step_ok (l:=[]) ⟨hsb,by rw [hver];rfl⟩,hkey]
  rfl
 refine zQ [] 48 Tryz.func7 rfl (by rw [Tryz.ntmps7];rfl) (λ_ h=>by cases h) λb=>?_;refine zA rfl (zC rfl λK1 hK1=>?_);refine l_buildY [(0,.v (.int .u8 1))] 32 (hB 1) rfl rfl rfl rfl rfl rfl rfl ?_;refine zB rfl ?_;refine l_buildY [(0,.v (.int .u8 2))] 32 (hB 2) rfl rfl rfl rfl rfl rfl rfl ?_;refine l_call0 [.agg (By (hB 1)).toArray,.int .i64 1,.agg (By (hB 2)).toArray] rfl rfl rfl (λ_ _=>by go_simp) rfl rfl (λ_ _=>rfl) hm (λ_ h _=>h) λ_=>?_;refine zB rfl (zJ (hK1 _ ?_));refine zC rfl λK2 hK2=>?_;refine l_list zY 0 [u] (fe:=eU) rfl rfl rfl rfl rfl (λ_=>rfl) rfl (by decide) (by decide) (λy hy=>by rw [aE.1 hy];exact eU_ok hok) (aI _) λB=>?_;refine l_free 0 rfl ?_;refine l_call0 [(eDv zDirV).den,.slice B [u].length 1] rfl rfl rfl (λ_ _=>by go_simp) rfl rfl (λ_ _=>rfl) (dapply_S zDirV_ok (us:=[u]) (λy hy=>by rw [aE.1 hy];exact hok) (by show 0+1<=1000;decide)) (λw h _=>⟨h.2.2,zDirV_F w,h.1⟩) λd=>?_;refine zB rfl ?_;refine l_pure (d.Ok/\d.ep=IntKind.i64.wrap (0+1)/\d.l=fN [] ([u].map udH)) (λ_ h _=>⟨h.1.2.1,h.1.2.2⟩) λ⟨hd,hep,hl⟩=>?_;rw [hap] at hl;have hep:d.ep=1:=hep
 have hk1:bU d.l u.id=[hB 2]:=by rw [hl,cH,if_pos rfl]
 have hke:=(dkeys_S hd hok.id).tell;have hdr:=droot_S hd
 have hr32:(dX 256 (pairsD d.l)).length=32:=by rw [<-hd.tree.root];exact d.t.root_len
 have han:=danswer_S hd (by rw [hl];show 1<=1000;decide) hok.id;have hri:=dright_S hd.dir hd.small hok.id;rw [<-hl] at hrf
 unfold ansP at han
 rw [hk1] at hke han hri;generalize partD d.l u.id=W at *;generalize dX 256 (pairsD d.l)=rt at *;refine zJ (hK2 _ (zC rfl λK3 hK3=>?_));refine l_call0 [(eDv d).den,(eY 32 u.id).den] rfl rfl rfl own_dkeys rfl rfl (λ_ _=>rfl) hke (λ_ h _=>h.1.1) λz=>?_;refine zB rfl ?_
 refine l_pure (∃g o,z.1=some ⟨g,o,none⟩) (λ_ h _=>by
  obtain⟨g,o,e,_⟩:=h.1.2.2.2.2 (by decide)
  exact⟨g,o,e⟩) λ⟨g,o,hz⟩=>?_
 refine zJ (k_weak (e':=⟨[(3,.v (.slice (some ⟨g,o,none⟩) 1 z.2)),(2,.a 2 0),(1,.a 1 0)],[⟨2,none,33,d.parts⟩,⟨1,none,76,u.parts⟩],[],λw=>Rd 32 (eY 32) (some ⟨g,o,none⟩) z.2 [hB 2] w/\d.F w/\Ta w,λ_=>True⟩) ⟨⟨by rw [<-hz];rfl,rfl,rfl,trivial⟩,zL rfl rfl, .refl _,λ_ h _=>⟨by rw [<-hz];exact h.1,h.2.1.1,h.2.2.2.2⟩, zU⟩ (hK3 _ ?_));refine s_regH 33 (by decide) (by kernel_rfl) (by kernel_rfl) λK4 hK4 G S w0 hst=>?_;refine zV hst rfl ?_;refine h_callS (F':=λ_=>True) (r:=.v (.int .i64 d.ep)) hst [(eDv d).den] rfl rfl rfl rfl (λ_ _=>by go_simp) rfl rfl (λ_=>rfl) trivial (depoch_S d) (λ_ _ _ _=>trivial) ?_;refine zV hst rfl ?_;refine h_is 18 true rfl (by rw [hep];rfl) ?_;refine zV hst rfl ?_;refine h_is 23 true rfl rfl ?_;refine zV hst rfl ?_;refine h_op hst (.v (.pointer (some ⟨g,o+32*0,none⟩))) trivial rfl rfl rfl rfl (runO_ixS 0 rfl Tryz.underlying43 rfl rfl rfl (by decide)) ?_;refine zV hst rfl ?_;have hb2:OkP (eY 32 (hB 2)).parts1:=(eY_ok (n:=32) (l:=hB 2) rfl).1;refine h_opV hst (.q (eY 32 (hB 2))) hb2 rfl rfl rfl rfl (run_ldEl (k':=32) (c:=z.2) (j:=0) (off:=0) (g:=g) (a:=o) (fe:=eY 32) (l:=[hB 2]) zY rfl rfl rfl rfl hb2 (rd_fact λ_ h _=>h.1)) ?_;refine zV hst rfl ?_;refine h_buildY [(0,.v (.int .u8 2))] 32 (hB 2) hst rfl rfl rfl rfl rfl rfl rfl rfl ?_;refine zV hst rfl ?_;refine h_op hst (.b (decide (hB 2=hB 2))) trivial rfl rfl rfl rfl (run_eqY rfl rfl rfl Tryz.underlying45 (by kernel_rfl) rfl rfl) ?_;refine h_is 28 true rfl (by simp) ?_;refine zV hst rfl ?_;refine h_callS (F':=d.F) (r:=.q (eY 32 rt)) hst [(eDv d).den] rfl rfl rfl rfl (λ_ _=>by go_simp) rfl rfl (λ_=>rfl) (eY_ok hr32).1 hdr (λ_ _ _ h=>h.fact.2.1) ?_;refine zV hst rfl ?_;refine h_op hst (.b (!decide (rt=dJ))) trivial rfl rfl rfl rfl (run_neqY rfl rfl rfl Tryz.underlying45 (by kernel_rfl) hr32 rfl) ?_;refine h_is 34 true rfl (by simp [hrf]) ?_;refine zV hst rfl ?_;refine h_callS (F':=d.F) (r:=.q (eY 32 rt)) hst [(eDv d).den] rfl rfl rfl rfl (λ_ _=>by go_simp) rfl rfl (λ_=>rfl) (eY_ok hr32).1 hdr (λ_ _ _ h=>h.fact.2.1) ?_;refine zV hst rfl ?_;refine h_callE (F':=d.F) hst [(eDv d).den,(eY 32 u.id).den] rfl rfl rfl rfl (λ_ _=>by go_simp) rfl rfl (λ_=>rfl) han (λw hv _=>hv.fact.2.1) λx _=>?_;refine zV hst rfl ?_;refine h_callE (F':=λw=>Ta w/\Rd 32 (eY 32) x.A x.c [hB 2] w/\Rd 1 eB x.B x.d W.bytes w) (post:=one (.v (.int .i64 0))) hst [(eY 32 rt).den,(eY 32 u.id).den,(eAn x [hB 2].length W.bytes.length).den] rfl rfl rfl rfl (λ_ _=>by go_simp) rfl rfl (λ_=>rfl) (hri x) (λw hv hu=>⟨hv.fact.2.2,told_an (p:=λy w=>Rd 32 (eY 32) y.A y.c [hB 2] w/\Rd 1 eB y.B y.d W.bytes w) (hu 29 _ rfl (by kernel_rfl))⟩) λ_ _=>?_
 refine zV hst rfl ?_;refine h_is 47 true rfl rfl ?_;refine h_end hst ?_;refine zB rfl (zJ (hK4 _ ?_));exact zP (zR zY () rfl (by decide) rfl rfl rfl (λ_ _ _=>trivial) zU)
structure AcV where
  who:Int
  ver:Int
  key:Int
  wr:Bool
  cut:Bool
def AcV.parts(a:AcV):List Pt:=[.one (.v (.int .i64 a.who)),.one (.v (.int .i64 a.ver)),.one (.v (.int .i64 a.key)),.one (.b a.wr),.one (.b a.cut)]
abbrev eAc(a:AcV):SQ:=.p a.parts
structure BaV where
  A:Option Addr
  c:Nat
  B:Option Addr
  d:Nat
  l:List UV
def eUs(p:BaV):SQ:=.c (.v (.slice p.A p.l.length p.c))
def eGs(p:BaV):SQ:=.c (.v (.slice p.B p.l.length p.d))
theorem eUs_ok(p:BaV):OkP (eUs p).parts1/\(eUs p).cl.length=1:=⟨λx hx=>by rw [aE.1 hx];exact⟨trivial,rfl,rfl⟩,rfl⟩
theorem eGs_ok(p:BaV):OkP (eGs p).parts1/\(eGs p).cl.length=1:=⟨λx hx=>by rw [aE.1 hx];exact⟨trivial,rfl,rfl⟩,rfl⟩
def BaV.rd(p:BaV)(w:World):Prop:=Rd 129 eU p.A p.c p.l w/\Rd 1 eT p.B p.d (p.l.map signB) w
instance baPst{p:BaV}:Pst p.rd:=⟨λ_ _ h hb=>⟨h.1.later hb,h.2.later hb⟩⟩
def GoodU(u:UV):Prop:=u.Ok/\∃w:Nat,w<4/\u.id=gE (hB2 (bK w) 77)
abbrev allB(ps:List BaV):List UV:=(ps.map (·.l)).flatten
theorem allB_next(ps:List BaV)(p:BaV):allB (ps++[p])=allB ps++p.l:=by simp [allB]
abbrev TC:MapT Int Int:={ t:=72,kt:=3,vt:=3,kv:=eI,vv:=eI }
abbrev okI(n:Int):Prop:=(Lit.int .i64 n).wf=true
theorem TC_ok:TC.Ok okI:=mapI_ok Tryz.underlying72 Tryz.underlying3 rfl
theorem zeroI:∀w,(zeroValue TC.vt).run Tryz.prog w = .ok (TC.V 0) w:=λw=>by
 have hi:(Tryz.prog.info? 3).bind (·.zero)=some (.int .i64 0):=by kernel_rfl
 unfold zeroValue typeInfo
 cases h:Tryz.prog.info? 3 with
 | none=>rw [h] at hi;cases hi
 | some i =>
  rw [h] at hi;have hi:i.zero=some (.int .i64 0):=hi
  simp [h,hi]
  rfl
theorem runO_count{N:Nat}{E:SE}{L:List LV}{R:List Res}{F M:World->Prop}{o:Oper}{x y:Operand}{m n:Nat}{f:Int->Option Int}(hA:∀G S w,View G S L R F M w->MapA TC okI m n f w)(k:Int)(hk:okI k)(ho:o.op = .lookup TC.t x y false)(hx:evS E x=some (.v (.map (some m))))(hy:evS E y=some (.q (eI k))) :
  ∀(G:Nat->Nat) (S:Nat->Prop) (a:Act) (w:World),Fr N (denE G E) a->View G S L R F M w->(execOp a.eval o).run Tryz.prog w = .ok (.value ((SV.q (eI ((f k).getD 0))).den G)) w:=by
 cases hs:f k with
 | none=>exact runO_noneA TC_ok hA k 0 hk hs zeroI ho hx hy
 | some s=>exact runO_lookA TC_ok hA k s hk hs ho hx hy
theorem xor_b2(a:UInt8):∃y:UInt8,bits .xor .u8 (a.toNat:Int) 2=(y.toNat:Int):=by
 have key:∀m:Nat,m<256->0<=bits .xor .u8 (m:Int) 2/\bits .xor .u8 (m:Int) 2<256:=by decide +kernel
 exact⟨bK (bits .xor .u8 (a.toNat:Int) 2).toNat,by have:=key a.toNat a.toNat_lt;rw [mK];omega⟩
theorem uv_atJ{u:UV}(hu:u.Ok){j:Nat}{s:UInt8}(hs:u.sig[j]?=some s):(catP u.parts)[65+j]?=some (.int .u8 (s.toNat:Int)):=by
 rw [<-Array.getElem?_toList,uv_cells,cG (by rw [By_len,hu.id];omega),By_len,hu.id,show 65+j-32=32+j+1 by omega,List.getElem?_cons_succ,cG (by rw [By_len,hu.key];omega),By_len,hu.key,kO]
 show(u.sig.map λx=>Value.int .u8 (x.toNat:Int))[j]?=_
 rw [fA,hs]
 rfl
theorem uv_setJ{u:UV}(hu:u.Ok)(j:Nat)(y:UInt8):(catP ({ u with sig:=u.sig.set j y }:UV).parts).toList=(catP u.parts).toList.set (65+j) (.int .u8 (y.toNat:Int)):=by
 rw [uv_cells,uv_cells,fS _ _ (by rw [By_len,hu.id];omega),By_len,hu.id,show 65+j-32=32+j+1 by omega,List.set_cons_succ,fS _ _ (by rw [By_len,hu.key];omega),By_len,hu.key,kO]
 show _++_::(_++(u.sig.set j y).map _)=_++_::(_++(u.sig.map _).set j _)
 rw [List.map_set]
structure BtS where
  i:Nat
  ps:List BaV
  X:KX
  Y:KX
  l:List UV
  U:KX
  V:KX
  n:Nat
  f:Int->Option Int
structure BtI(k:Nat)(s:BtS):Prop where
  i:s.i<=k
  i12:s.i<=12
  tot:(allB s.ps).length+s.l.length<=s.i
  num:s.ps.length<=s.i
  good:∀u∈allB s.ps,GoodU u
  goodl:∀u∈s.l,GoodU u
structure BtX where
  ps:List BaV
  X:KX
  Y:KX
structure BtX.Ok(x:BtX):Prop where
  tot:(allB x.ps).length<=12
  num:x.ps.length<=13
  good:∀u∈allB x.ps,GoodU u
def BtX.F(x:BtX)(w:World):Prop:=Rd 1 eUs x.X.1 x.X.2 x.ps w/\Rd 1 eGs x.Y.1 x.Y.2 x.ps w/\∀p∈x.ps,p.rd w
theorem batches12_S{A:Option Addr}{c:Nat}(acts:List AcV):Spec 8 [.slice A acts.length c] [] (λw=>Ta w/\Rd 5 eAc A c acts w) { ret:=λx:{ x:BtX // x.Ok }=>.t [.c (.v (.slice x.1.X.1 x.1.ps.length x.1.X.2)),.c (.v (.slice x.1.Y.1 x.1.ps.length x.1.Y.2))],p:=λx=>x.1.F }:=by
 refine zQ [.c (.v (.slice A acts.length c))] 99 Tryz.func8 rfl (by rw [Tryz.ntmps8];rfl) (one_ok trivial) λb=>?_;refine s_pure (acts.length<=9223372036854775807) (λw h _=>b8 h.2.1 h.2.2.1) λhmax=>?_;refine zA rfl (zA rfl ?_);refine zA rfl (zA rfl ?_);refine zA rfl (zC rfl λK0 hK0=>?_);refine l_mkG TC okI rfl rfl rfl rfl λm=>?_;refine zB rfl (zJ (hK0 _ ?_));refine zM λK hK=>?_;refine zA rfl (zN ?_);refine s_nil0 0 42 1 eGs (s_nil0 0 40 1 eUs (s_nil0 0 4 1 eT (s_nil0 0 76 129 eU ?_)))
 let Es:BtS->SE:=λs=>[(18,.v (.int .i64 (s.i:Int))),(17,.v (.int .i64 (acts.length:Int))),(16,.v (.slice A acts.length c)),(4,.v (.slice s.X.1 s.ps.length s.X.2)),(5,.v (.slice s.Y.1 s.ps.length s.Y.2)),(6,.v (.slice s.U.1 s.l.length s.U.2)),(7,.v (.slice s.V.1 s.l.length s.V.2)),(8,.v (.map (some m)))]
 let Rs:BtS->List Res:=λs=>[OwnS 0 76 129 eU s.U.1 s.U.2 s.l,OwnS 0 4 1 eT s.V.1 s.V.2 (s.l.map signB),OwnS 0 40 1 eUs s.X.1 s.X.2 s.ps,OwnS 0 42 1 eGs s.Y.1 s.Y.2 s.ps,MapG TC okI m s.n s.f]
 let Ff:BtS->World->Prop:=λs w=>(Ta w/\Rd 5 eAc A c acts w)/\∀p∈s.ps,p.rd w
 let Fs:BtS->Env:=λs=>⟨Es s,[],Rs s,Ff s,λ_=>True⟩
 refine c_weak (e':=Fs ⟨0,[],(none,0),(none,0),[],(none,0),(none,0),0,λ_=>none⟩) ⟨zE rfl, trivial, .refl _,λ_ h _=>⟨h,(λ_ h=>(by cases h))⟩, zU⟩ (s_loop (λs=>acts.length-s.i) Fs (BtI acts.length) ?_ ⟨0,[],(none,0),(none,0),[],(none,0),(none,0),0,λ_=>none⟩ ⟨aI _,aI _,aF _,aF _,(λ_ h=>(by cases h)),(λ_ h=>(by cases h))⟩)
 rintro s ⟨hi,hi12,htot,hnum,hgood,hgoodl⟩
 have hend:∀e',Weak e' (Fs s)->kS b K 99 e':=by
  intro e' hw
  refine k_weak hw (hK _ ?_);refine zC rfl λK1 hK1=>?_;refine l_push zY 2 (⟨s.U.1,s.U.2,s.V.1,s.V.2,s.l⟩:BaV) rfl rfl rfl rfl rfl rfl rfl (eUs_ok _) (by decide) (by decide) (by show(s.ps.length+1)*24<=_;omega) (by omega) (aI _) λX1 x1=>?_;refine zB rfl ?_;refine l_push zY 3 (⟨s.U.1,s.U.2,s.V.1,s.V.2,s.l⟩:BaV) rfl rfl rfl rfl rfl rfl rfl (eGs_ok _) (by decide) (by decide) (by show(s.ps.length+1)*24<=_;omega) (by omega) (aI _) λY1 y1=>?_;refine zB rfl ?_;refine l_free 0 rfl (l_free 0 rfl (l_free 0 rfl (l_free 0 rfl ?_)));refine zJ (hK1 _ ?_);refine zP (k_drop 0 rfl ?_);refine zR zY ⟨⟨s.ps++[(⟨s.U.1,s.U.2,s.V.1,s.V.2,s.l⟩:BaV)],(X1,x1),(Y1,y1)⟩,?_⟩ rfl (by decide) rfl rfl rfl (λw h _=>⟨h.2.1,h.1,λp hp=>?_⟩) zU
  ·refine⟨?_,?_,λu hu=>?_⟩
   ·show(allB (s.ps++[_])).length<=12
    rw [allB_next,aB];exact b8 htot hi12
   ·show(s.ps++[_]).length<=13
    rw [aB]
    show s.ps.length+1<=13
    omega
   ·have hu:u∈allB (s.ps++[_]):=hu
    rw [allB_next] at hu
    rcases bR.1 hu with hu|hu
    ·exact hgood u hu
    ·exact hgoodl u hu
  ·have hp:p∈s.ps++[_]:=hp
   rcases bR.1 hp with hp|hp
   ·exact h.2.2.2.2.2 p hp
   ·rw [aE.1 hp]
    exact⟨h.2.2.2.1,h.2.2.1⟩
 refine zA rfl (zM λK5 hK5=>?_);refine zW ((s.i:Int)<(acts.length:Int)) rfl (λhlt=>?_) (λhge=>?_)
 ·have hlt:s.i<acts.length:=by omega
  obtain⟨a,ha⟩:∃a,acts[s.i]?=some a:=⟨_,aK hlt⟩;refine zO (hK5 _ (zM λK6 hK6=>?_));refine zN (zC rfl λK7 hK7=>?_);refine l_elem zY rfl rfl rfl s.i rfl ha rfl rfl (rd_fact λ_ h _=>h.1.2) ?_;refine zB rfl (zJ (hK7 _ ?_));refine zM λK8 hK8=>?_;refine zA rfl ?_;refine zW ((s.i:Int)>=12) rfl (λh12=>?_) (λh12=>?_)
  ·exact s_exit (zS (k_passB rfl (zS (zS (k_out (hend _ ⟨zE rfl, trivial, .refl _,λ_ h _=>h,λ_ h=>h⟩))))))
  refine zO (hK8 _ ?_);obtain⟨w4,hw4,_,hww⟩:=wrapU_mod a.who 4 (by decide) (by decide)
  have hwk:okI (w4:Int):=by
   show(Lit.int .i64 (w4:Int)).wf=true
   simp [Lit.wf,IntKind.min,IntKind.max,IntKind.signed,IntKind.bits]
   omega
  refine zC rfl λK9 hK9=>?_;refine l_num 11 (w4:Int) rfl (by rw [show(IntKind.u64.wrap a.who).tmod 4=(IntKind.u64.wrap a.who).tmod ((4:Nat):Int) from rfl,hww]) ?_;refine zJ (hK9 _ ?_)
  -- the end of a round
  have hF:∀t:BtS,t.i=s.i->(allB t.ps).length+t.l.length<=s.i+1->t.ps.length<=s.i+1->(∀u∈allB t.ps,GoodU u)->(∀u∈t.l,GoodU u)->∀e',Weak e' (Fs t)->kS b K6 99 e':=by
   intro t ht h1 h2 h3 h4 e' hw
   refine k_weak hw (hK6 _ ?_);refine zD rfl ?_;exact zX ({ t with i:=s.i+1 }:BtS) ⟨hlt,(by show s.i+1<=12;omega),h1,h2,h3,h4⟩ (by show acts.length-(s.i+1)<acts.length-s.i;omega) ⟨⟨by rw [ht];exact congrArg (λz=>some (SV.v (.int .i64 z))) (wrapI (m:=(s.i:Int)+1) (r:=((s.i+1:Nat):Int)) (by omega) (by omega) (by omega)),rfl,rfl,rfl,rfl,rfl,rfl,rfl,trivial⟩,trivial,.refl _,λ_ h _=>h,λ_ h=>h⟩
  refine zA rfl (zM λK10 hK10=>?_)
  have hV:∀v:Int,∀e',Weak e' ⟨(12,.v (.int .i64 v))::(11,.v (.int .i64 (w4:Int)))::(10,.a 10 0)::(9,.v (.int .i64 (s.i:Int)))::Es s,[⟨10,none,80,a.parts⟩],Rs s,Ff s,λ_=>True⟩->kS b K10 99 e':=by
   intro v e' hw
   refine k_weak hw (hK10 _ ?_);obtain⟨kb,hkb⟩:∃kb:UInt8,IntKind.u8.wrap a.key=(kb.toNat:Int):=byte_z (by show 0<=a.key%256/\a.key%256<256;omega);obtain⟨ib,hib⟩:∃ib:UInt8,IntKind.u8.wrap (s.i:Int)=(ib.toNat:Int):=byte_z (by show 0<=(s.i:Int)%256/\(s.i:Int)%256<256;omega)
   have hwb:IntKind.u8.wrap (w4:Int)=((bK w4).toNat:Int):=by
    rw [mK]
    show(w4:Int)%256=_
    omega
   have hm:=hmake_S (seed:=hB2 (bK w4) 77) (key:=hB2 kb ib) v rfl rfl;have hgu:GoodU (mkH (hB2 (bK w4) 77) v (hB2 kb ib)):=⟨mkH_ok _ _ rfl,w4,hw4,rfl⟩;generalize mkH (hB2 (bK w4) 77) v (hB2 kb ib)=u at *;refine zC rfl λK11 hK11=>?_;refine l_num 39 ((bK w4).toNat:Int) rfl hwb ?_;refine l_buildY [(0,.v (.int .u8 ((bK w4).toNat:Int))),(1,.v (.int .u8 77))] 32 (hB2 (bK w4) 77) rfl rfl rfl rfl rfl rfl rfl ?_;refine zB rfl ?_;refine l_num 44 (kb.toNat:Int) rfl hkb ?_;refine l_num 46 (ib.toNat:Int) rfl hib ?_;refine l_buildY [(0,.v (.int .u8 (kb.toNat:Int))),(1,.v (.int .u8 (ib.toNat:Int)))] 32 (hB2 kb ib) rfl rfl rfl rfl rfl rfl rfl ?_;refine l_call0 [.agg (By (hB2 (bK w4) 77)).toArray,.int .i64 v,.agg (By (hB2 kb ib)).toArray] rfl rfl rfl (λ_ _=>by go_simp) rfl rfl (λ_ _=>rfl) hm (λ_ h _=>h.1.1) λ_=>?_;refine zB rfl (zJ (hK11 _ ?_));refine zM λK12 hK12=>?_
   have hW:∀u:UV,GoodU u->∀e',Weak e' ⟨(13,.a 13 0)::(12,.v (.int .i64 v))::(11,.v (.int .i64 (w4:Int)))::(10,.a 10 0)::Es s,[⟨13,none,76,u.parts⟩,⟨10,none,80,a.parts⟩],Rs s,Ff s,λ_=>True⟩->kS b K12 99 e':=by
    intro u hgu e' hw
    refine k_weak hw (hK12 _ ?_);refine zC rfl λK13 hK13=>?_;refine l_call0 [(eU u).den] rfl rfl rfl (λ_ _=>by go_simp) rfl rfl (λ_ _=>rfl) (hsigned_S hgu.1) (λ_ h _=>h.1.1) λ_=>?_;refine zB rfl (zJ (hK13 _ ?_));refine zM λK14 hK14=>?_
    have hX:∀n f,∀e',Weak e' ⟨(14,.b (signB u))::(13,.a 13 0)::(10,.a 10 0)::Es s,[⟨13,none,76,u.parts⟩,⟨10,none,80,a.parts⟩],Rs { s with n:=n,f:=f },Ff s,λ_=>True⟩->kS b K14 99 e':=by
     intro n f e' hw
     refine k_weak hw (hK14 _ ?_)
     have e1:s.l.map signB++[signB u]=(s.l++[u]).map signB:=by rw [fC];rfl
     refine zC rfl λK15 hK15=>?_;refine l_push zY 0 u (fe:=eU) rfl rfl rfl rfl rfl rfl rfl (eU_ok hgu.1) (by decide) (by decide) (by show(s.l.length+1)*136<=_;omega) (by show s.l.length<_;omega) (aI _) λU1 u1=>?_;refine zB rfl ?_;refine l_push zY 1 (signB u) (fe:=eT) rfl rfl rfl rfl rfl rfl (bO ..).symm (eT_ok _) (by decide) (by decide) (by rw [bO];show(s.l.length+1)*1<=_;omega) (by rw [bO];show s.l.length<_;omega) (aI _) λV1 v1=>?_;rw [e1,bO];refine zB rfl (zJ (hK15 _ ?_));refine zA rfl ?_
     have hgl:∀u2∈s.l++[u],GoodU u2:=λu2 h2=>by
      rcases bR.1 h2 with h2|h2
      ·exact hgoodl u2 h2
      ·rw [aE.1 h2]
       exact hgu
     have hll:(s.l++[u]).length=s.l.length+1:=aB;refine s_if a.cut rfl (λ_=>?_) (λ_=>?_)
     ·refine zC rfl λK16 hK16=>?_
      refine l_push zY 2 (⟨U1,u1,V1,v1,s.l++[u]⟩:BaV) rfl rfl rfl rfl rfl rfl rfl (eUs_ok _) (by decide) (by decide) (by show(s.ps.length+1)*24<=_;omega) (by show s.ps.length<_;omega) (aI _) λX1 x1=>?_;refine zB rfl ?_;refine l_push zY 3 (⟨U1,u1,V1,v1,s.l++[u]⟩:BaV) rfl rfl rfl rfl rfl rfl rfl (eGs_ok _) (by decide) (by decide) (by show(s.ps.length+1)*24<=_;omega) (by show s.ps.length<_;omega) (aI _) λY1 y1=>?_;refine zB rfl ?_;refine l_free 0 rfl (l_free 0 rfl ?_);refine zJ (hK16 _ ?_);refine s_nil0 0 4 1 eT (s_nil0 0 76 129 eU (zD rfl ?_));refine hF ⟨s.i,s.ps++[⟨U1,u1,V1,v1,s.l++[u]⟩],(X1,x1),(Y1,y1),[],(none,0),(none,0),n,f⟩ rfl ?_ ?_ ?_ (λ_ h=>by cases h) _ ⟨zE rfl, trivial, .refl _,λw h _=>⟨h.2.2.1,λp hp=>?_⟩,λ_ h=>h⟩
      ·show(allB (s.ps++[_])).length+0<=_
       rw [allB_next,aB,hll]
       omega
      ·show(s.ps++[_]).length<=_
       rw [aB]
       show s.ps.length+1<=_
       omega
      ·intro u2 h2
       have h2:u2∈allB (s.ps++[_]):=h2;rw [allB_next] at h2
       rcases bR.1 h2 with h2|h2
       ·exact hgood u2 h2
       ·exact hgl u2 h2
      ·have hp:p∈s.ps++[_]:=hp
       rcases bR.1 hp with hp|hp
       ·exact h.2.2.2 p hp
       ·rw [aE.1 hp]
        exact⟨h.2.1,h.1⟩
     ·exact zO (hF ⟨s.i,s.ps,s.X,s.Y,s.l++[u],(U1,u1),(V1,v1),n,f⟩ rfl (by show(allB s.ps).length+(s.l++[u]).length<=_;rw [hll];omega) (by show s.ps.length<=_;omega) hgood hgl _ ⟨zE rfl, trivial, .refl _,λ_ h _=>h,λ_ h=>h⟩)
    cases hsb:signB u with
    | false =>
     refine zC rfl λK15 hK15=>?_;refine l_is 60 false rfl rfl ?_;refine zB rfl ?_;refine l_as 14 (.b (signB u)) rfl (λ_=>by rw [hsb];rfl) trivial ?_;refine zJ (hK15 _ ?_);refine s_no rfl ?_;exact zO (hX s.n s.f _ ⟨zE rfl, zL rfl rfl, .refl _,λ_ h _=>h.2, zU⟩)
    | true =>
     refine zC rfl λK15 hK15=>?_;refine l_is 60 true rfl rfl ?_;refine zB rfl ?_;refine l_opV (.q (eI ((s.f (w4:Int)).getD 0))) trivial rfl rfl rfl (runO_count (map_own 4 rfl) (w4:Int) hwk rfl rfl rfl) ?_;refine zB rfl ?_;refine l_as 14 (.b (signB u)) rfl (λ_=>by rw [hsb];rfl) trivial ?_;refine zJ (hK15 _ ?_);refine zW (v=IntKind.i64.wrap ((s.f (w4:Int)).getD 0+1)) rfl (λ_=>?_) (λ_=>?_)
     ·refine s_lit ?_
      refine zB rfl ?_;refine l_opV (.q (eI ((s.f (w4:Int)).getD 0))) trivial rfl rfl rfl (runO_count (map_own 4 rfl) (w4:Int) hwk rfl rfl rfl) ?_;refine zB rfl ?_;refine l_updG TC_ok 4 rfl (w4:Int) (IntKind.i64.wrap ((s.f (w4:Int)).getD 0+1)) hwk rfl rfl rfl rfl rfl rfl ?_;exact zJ (hX (if (s.f (w4:Int)).isSome then s.n else s.n+1) (putF s.f (w4:Int) (IntKind.i64.wrap ((s.f (w4:Int)).getD 0+1))) _ ⟨zE rfl, zL rfl rfl, .refl _,λ_ h _=>h.2, zU⟩)
     ·exact zO (hX s.n s.f _ ⟨zE rfl, zL rfl rfl, .refl _,λ_ h _=>h.2, zU⟩)
   refine zA rfl ?_;refine s_if a.wr rfl (λ_=>?_) (λ_=>?_)
   ·obtain⟨sb,hsb⟩:∃sb,u.sig[1]?=some sb:=⟨_,aK (by rw [hgu.1.sig];decide)⟩
    obtain⟨y,hy⟩:=xor_b2 sb;have hok2:({ u with sig:=u.sig.set 1 y }:UV).Ok:=⟨hgu.1.id,hgu.1.key,by show(u.sig.set 1 y).length=64;rw [bQ];exact hgu.1.sig⟩;refine s_lit (zB rfl ?_);refine l_op (.a 13 (65+1*1)) trivial rfl rfl rfl (runO_ixA 1 rfl Tryz.underlying74 rfl rfl rfl (by decide)) ?_;refine l_opV (.v (.int .u8 (sb.toNat:Int))) trivial rfl rfl rfl (runO_ldA _ rfl rfl rfl (uv_atJ hgu.1 hsb) Tryz.underlying5 rfl) ?_;refine l_op (.v (.int .u8 (bits .xor .u8 (sb.toNat:Int) 2))) trivial rfl rfl rfl (run_xor rfl rfl rfl) ?_;refine l_num 54 (y.toNat:Int) rfl hy ?_;refine zB rfl ?_;refine l_op (.a 13 (65+1*1)) trivial rfl rfl rfl (runO_ixA 1 rfl Tryz.underlying74 rfl rfl rfl (by decide)) ?_;refine l_stA ({ u with sig:=u.sig.set 1 y }:UV).parts rfl rfl rfl rfl rfl rfl rfl rfl rfl (by rw [OkP.size hgu.1.parts_ok];show _<129;decide) hok2.parts_ok (uv_setJ hgu.1 1 y) ?_;exact zJ (hW { u with sig:=u.sig.set 1 y } ⟨hok2,hgu.2⟩ _ ⟨zE rfl, zL rfl rfl, .refl _,λ_ h _=>h.2, zU⟩)
   ·exact zO (hW u hgu _ ⟨zE rfl, zL rfl rfl, .refl _,λ_ h _=>h.2, zU⟩)
  refine zA rfl ?_;refine zW (a.ver=0) rfl (λ_=>?_) (λ_=>?_)
  ·refine s_lit ?_
   refine zB rfl ?_;refine l_opV (.q (eI ((s.f (w4:Int)).getD 0))) trivial rfl rfl rfl (runO_count (map_own 4 rfl) (w4:Int) hwk rfl rfl rfl) ?_;refine zB rfl ?_;exact zJ (hV _ _ ⟨zE rfl, zL rfl rfl, .refl _,λ_ h _=>h,λ_ h=>h⟩)
  ·exact zO (hV _ _ ⟨zE rfl, zL rfl rfl, .refl _,λ_ h _=>h,λ_ h=>h⟩)
 ·exact s_exit (zS (zS (k_out (hend _ ⟨zE rfl, trivial, .refl _,λ_ h _=>h,λ_ h=>h⟩))))
section
variable{b:Base}{ops:Array Oper}{Q:Exit->Act->World->Prop}{N fuel:Nat}{p:Nat->Bool}{Fin:Array Bool->Act->World->Prop}{listed:Array Bool}{E:SE}{L:List LV}{R:List Res}{F M:World->Prop}{Inv:World->Prop}{o:Oper}{k:Nat}
theorem p_frontW(v:SV)(hvo:v.Ok)(i:Nat)(hc:frontP ops p i listed=true)(ho:ops[i]?=some o)(hg:o.guard=none)(hd:o.dst=some k)(hk:Nat.blt k N=true)(hs:stillG o.op=true)
 (hv:∀(G:Nat->Nat) (S:Nat->Prop) (a:Act) (w:World),Fr N (denE G E) a->View G S [] [] Inv (λ_=>True) w->(execOp a.eval o).run Tryz.prog w = .ok (.value (v.den G)) w)
 (hn:pS Tryz.prog b Q N ops Inv p Fin fuel (listed.setIfInBounds i true) ⟨(k,v)::E,L,R,F,M⟩):pS Tryz.prog b Q N ops Inv p Fin (fuel+1) listed ⟨E,L,R,F,M⟩ :=
 p_frontI v hvo i hc ho hg hd hk hs (λG a w hF hI=>hv G (λ_=>False) a w hF ⟨(λ_ h=>(by cases h)),λ_ h=>h,hI,trivial⟩) hn
end
theorem allB_take{ps:List BaV}{j:Nat}{p:BaV}(h:ps[j]?=some p):allB (ps.take (j+1))=allB (ps.take j)++p.l:=by
 rw [mN,h];exact allB_next _ _
theorem allB_le(ps:List BaV)(j:Nat):(allB (ps.take j)).length<=(allB ps).length:=by
 have h:allB ps=allB (ps.take j)++allB (ps.drop j):=by
  unfold allB
  rw [<-List.flatten_append,<-fC,List.take_append_drop]
 rw [h,aB]
 omega
theorem BtX.Ok.batch{x:BtX}(h:x.Ok){j:Nat}{p:BaV}(hp:x.ps[j]?=some p):(∀u∈p.l,GoodU u)/\(allB (x.ps.take j)).length+p.l.length<=12:=by
 have h1:=allB_le x.ps (j+1);rw [allB_take hp,aB] at h1;refine⟨λu hu=>h.good u ?_,b8 h1 h.tot⟩;exact List.mem_flatten.2 ⟨p.l,bP.2 ⟨p,aR hp,rfl⟩,hu⟩
abbrev DzV:=DirV×DocV
def eDz(z:DzV):SQ:=eDv z.1
def eXz(z:DzV):SQ:=eDc z.2
theorem eDz_ok(z:DzV):OkP (eDz z).parts1/\(eDz z).cl.length=4:=⟨z.1.parts_ok,by simp [SQ.cl,eDz,DirV.parts,SQ.den,oG,catP,Pt.cells,SC.den]⟩
theorem eXz_ok(z:DzV):OkP (eXz z).parts1/\(eXz z).cl.length=2:=⟨z.2.parts_ok,by simp [SQ.cl,eXz,DocV.parts,SQ.den,oG,catP,Pt.cells,SC.den]⟩
structure DzOk(z:DzV):Prop where
  ok:z.1.Ok
  l:z.2.l=z.1.l
  ep:z.2.ep=z.1.ep
  len:z.1.l.length<=12
def DzF(z:DzV)(w:World):Prop:=z.1.F w/\z.2.F w
instance dzPst{z:DzV}:Pst (DzF z):=⟨λ_ _ h hb=>⟨Pst.later (p:=z.1.F) _ _ h.1 hb,Pst.later (p:=z.2.F) _ _ h.2 hb⟩⟩
instance btPst{x:BtX}:Pst x.F:=⟨λ_ _ h hb=>⟨h.1.later hb,h.2.1.later hb,λp hp=>Pst.later (p:=p.rd) _ _ (h.2.2 p hp) hb⟩⟩
structure PlS where
  j:Nat
  d:DirV
  y:DocV
  zs:List DzV
  D:KX
  X:KX
structure PlI(x:BtX)(s:PlS):Prop where
  j:s.j<=x.ps.length
  ok:DzOk (s.d,s.y)
  len:s.d.l.length<=(allB (x.ps.take s.j)).length
  num:s.zs.length<=s.j
  zok:∀z∈s.zs,DzOk z
theorem plays12_S{A:Option Addr}{c:Nat}(acts:List AcV):Spec 3 [.slice A acts.length c] [] (λw=>Ta w/\Rd 5 eAc A c acts w) (one (.v (.bool true))):=by
 refine zQ [.c (.v (.slice A acts.length c))] 91 Tryz.func3 rfl (by rw [Tryz.ntmps3];rfl) (one_ok trivial) λb=>?_;refine zA rfl (zM λK0 hK0=>?_);refine zC rfl λK1 hK1=>?_;refine l_call0 [] rfl rfl rfl (λ_ _=>by go_simp) rfl rfl (λ_ _=>rfl) first12_S (λ_ h _=>h.1) λ_=>?_;refine zB rfl (zJ (hK1 _ ?_));refine s_no rfl ?_;refine zO (hK0 _ (zC rfl λK2 hK2=>?_));refine l_call0 [.slice A acts.length c] rfl rfl rfl (λ_ _=>by go_simp) rfl rfl (λ_ _=>rfl) (batches12_S acts) (λ_ h _=>h.2) λx=>?_;obtain⟨x,hx⟩:=x;refine zB rfl (zJ (hK2 _ ?_));refine zA rfl (zA rfl ?_);refine zA rfl (zA rfl ?_);refine zM λK hK=>?_;refine zA rfl (zN ?_);refine s_nil0 0 36 2 eXz (s_nil0 0 33 4 eDz ?_)
 let Es:PlS->SE:=λs=>[(23,.v (.int .i64 (s.j:Int))),(22,.v (.int .i64 (x.ps.length:Int))),(21,.v (.slice x.X.1 x.ps.length x.X.2)),(8,.v (.slice s.X.1 s.zs.length s.X.2)),(7,.v (.slice s.D.1 s.zs.length s.D.2)),(6,.a 6 0),(5,.a 5 0),(4,.v (.slice x.Y.1 x.ps.length x.Y.2)),(3,.v (.slice x.X.1 x.ps.length x.X.2))]
 let Ls:PlS->List LV:=λs=>[⟨6,none,36,s.y.parts⟩,⟨5,none,33,s.d.parts⟩]
 let Rs:PlS->List Res:=λs=>[OwnS 0 33 4 eDz s.D.1 s.D.2 s.zs,OwnS 0 36 2 eXz s.X.1 s.X.2 s.zs]
 let Ff:PlS->World->Prop:=λs w=>(x.F w/\Ta w)/\DzF (s.d,s.y) w/\∀z∈s.zs,DzF z w
 let Fs:PlS->Env:=λs=>⟨Es s,Ls s,Rs s,Ff s,λ_=>True⟩
 refine c_weak (e':=Fs ⟨0,zDirV,zDocV,[],(none,0),(none,0)⟩) ⟨zE rfl, zL rfl rfl, .refl _,λw h _=>⟨⟨h.1,h.2.2.1⟩,⟨zDirV_F w,zDocV_F w⟩,λ_ h=>(by cases h)⟩, zU⟩ (s_loop (λs=>x.ps.length-s.j) Fs (PlI x) ?_ ⟨0,zDirV,zDocV,[],(none,0),(none,0)⟩ ⟨aI _,⟨zDirV_ok,rfl,rfl,aI _⟩,aI _,aF _,λ_ h=>(by cases h)⟩)
 rintro⟨j,d,y,zs,D,X⟩ ⟨hj,⟨hd,hyl,hye,hd12⟩,hlen,hnum,hzok⟩
 dsimp only at hj hd hyl hye hd12 hlen hnum hzok
 have h13:=hx.num;refine zA rfl (zM λK5 hK5=>?_);refine zW ((j:Int)<(x.ps.length:Int)) rfl (λhlt=>?_) (λhge=>?_)
 ·have hlt:j<x.ps.length:=by omega
  obtain⟨p,hp⟩:∃p,x.ps[j]?=some p:=⟨_,aK hlt⟩;obtain⟨hgood,h12⟩:=hx.batch hp;have hpm:=aR hp;have hpu:∀u∈p.l,u.Ok:=λu hu=>(hgood u hu).1;refine zO (hK5 _ (zM λK6 hK6=>?_));refine zN (zA rfl ?_);refine zM λK7 hK7=>?_
  have hrest:∀(D1 X1:KX),∀e',Weak e' ⟨(9,.v (.int .i64 (j:Int)))::Es ⟨j,d,y,zs++[((d,y):DzV)],D1,X1⟩,Ls ⟨j,d,y,zs,D,X⟩,Rs ⟨j,d,y,zs++[((d,y):DzV)],D1,X1⟩,Ff ⟨j,d,y,zs++[((d,y):DzV)],D1,X1⟩,λ_=>True⟩->kS b K7 91 e':=by
   intro D1 X1 e' hw
   refine k_weak hw (hK7 _ ?_)
   have hz2:∀z∈zs++[((d,y):DzV)],DzOk z:=λz hz=>by
    rcases bR.1 hz with hz|hz
    ·exact hzok z hz
    ·rw [aE.1 hz]
     exact⟨hd,hyl,hye,hd12⟩
   have hzn:(zs++[((d,y):DzV)]).length<=j+1:=by
    rw [aB];exact Nat.succ_le_succ hnum
   generalize zs++[((d,y):DzV)]=zs at hz2 hzn
   refine s_pure ((∃g o,x.X.1=some ⟨g,o,none⟩)/\∃g o,x.Y.1=some ⟨g,o,none⟩) (λw h _=>by
    obtain⟨g,o,e,_⟩:=h.1.1.1.2.2.2.2 (by omega);obtain⟨g2,o2,e2,_⟩:=h.1.1.2.1.2.2.2.2 (by omega)
    exact⟨⟨g,o,e⟩,g2,o2,e2⟩) λ⟨⟨ga,oa,hXA⟩,gb,ob,hYA⟩=>?_
   have hal:=applyD_len (p.l.map udH) d.l;rw [bO] at hal;have hdl1:=dapply_S (A:=p.A) (c:=p.c) hd (us:=p.l) hpu (by omega);have hyl1:=r12apply_S (A:=p.A) (c:=p.c) (B:=p.B) (c2:=p.d) y (by rw [hyl];exact hd.dir) (by rw [hyl];exact hd.small) (us:=p.l) hpu (by rw [<-y.len,hyl];omega);refine zM λK8 hK8=>?_;refine s_locs λG=>?_;refine s_anyP [0,1,2,3,4,6,7,8,9,10,11,12,13,14] 16 2 (λw=>InvL (withG G (Ls ⟨j,d,y,zs,D1,X1⟩)) w/\x.F w) (by kernel_rfl) rfl (inv_two withG_is λw h _=>h.1.1) ?_;refine p_frontS zY 0 (by kernel_rfl) rfl rfl rfl rfl rfl rfl (λ_ h=>h) (λ_ h=>h.1) ?_;refine p_frontS zY 1 (by kernel_rfl) rfl rfl rfl rfl rfl rfl (λ_ h=>h) (λ_ h=>h.1) ?_;refine p_frontS zY 2 (by kernel_rfl) rfl rfl rfl rfl rfl rfl (λ_ h=>h) (λ_ h=>h.1) ?_;refine p_frontO (.v (.pointer (some ⟨ga,oa+1*j,none⟩))) trivial 3 (by kernel_rfl) rfl rfl rfl rfl rfl (runO_ixS j rfl Tryz.underlying24 rfl (by rw [<-hXA];rfl) rfl hlt) ?_;refine p_frontW (.q (eUs p)) trivial 4 (by kernel_rfl) rfl rfl rfl rfl rfl (run_ldEl (k':=1) (c:=x.X.2) (j:=j) (off:=0) (g:=ga) (a:=oa) (fe:=eUs) (l:=x.ps) zY rfl rfl hp rfl (eUs_ok p).1 λG S w h=>by rw [<-hXA];exact h.fact.2.1) ?_;refine p_frontS zY 6 (by kernel_rfl) rfl rfl rfl rfl rfl rfl (λ_ h=>h) (λ_ h=>h.1) ?_;refine p_frontS zY 7 (by kernel_rfl) rfl rfl rfl rfl rfl rfl (λ_ h=>h) (λ_ h=>h.1) ?_;refine p_frontS zY 8 (by kernel_rfl) rfl rfl rfl rfl rfl rfl (λ_ h=>h) (λ_ h=>h.1) ?_;refine p_frontO (.v (.pointer (some ⟨ga,oa+1*j,none⟩))) trivial 9 (by kernel_rfl) rfl rfl rfl rfl rfl (runO_ixS j rfl Tryz.underlying24 rfl (by rw [<-hXA];rfl) rfl hlt) ?_;refine p_frontW (.q (eUs p)) trivial 10 (by kernel_rfl) rfl rfl rfl rfl rfl (run_ldEl (k':=1) (c:=x.X.2) (j:=j) (off:=0) (g:=ga) (a:=oa) (fe:=eUs) (l:=x.ps) zY rfl rfl hp rfl (eUs_ok p).1 λG S w h=>by rw [<-hXA];exact h.fact.2.1) ?_;refine p_frontS zY 11 (by kernel_rfl) rfl rfl rfl rfl rfl rfl (λ_ h=>h) (λ_ h=>h.1) ?_;refine p_frontS zY 12 (by kernel_rfl) rfl rfl rfl rfl rfl rfl (λ_ h=>h) (λ_ h=>h.1) ?_;refine p_frontO (.v (.pointer (some ⟨gb,ob+1*j,none⟩))) trivial 13 (by kernel_rfl) rfl rfl rfl rfl rfl (runO_ixS j rfl Tryz.underlying25 rfl (by rw [<-hYA];rfl) rfl hlt) ?_;refine p_frontW (.q (eGs p)) trivial 14 (by kernel_rfl) rfl rfl rfl rfl rfl (run_ldEl (k':=1) (c:=x.Y.2) (j:=j) (off:=0) (g:=gb) (a:=ob) (fe:=eGs) (l:=x.ps) zY rfl rfl hp rfl (eGs_ok p).1 λG S w h=>by rw [<-hYA];exact h.fact.2.2.1) ?_;refine p_step 5 (by kernel_rfl) rfl λKa hKa=>?_;refine l_call0 [(eDv d).den,.slice p.A p.l.length p.c] rfl rfl rfl (λ_ _=>by go_simp) rfl rfl (λ_ _=>rfl) hdl1 (λw h _=>⟨h.1.2,h.2.1.1,(h.1.1.2.2 p hpm).1⟩) λd2=>?_;refine l_pure (d2.Ok/\d2.ep=IntKind.i64.wrap (d.ep+1)/\d2.l=fN d.l (p.l.map udH)) (λ_ h _=>⟨h.1.2.1,h.1.2.2⟩) λ⟨hd2,hd2e,hd2l⟩=>?_
   refine zJ (hKa _ (inv_two withG_is λw h _=>h.2.1.1) ?_);refine p_step 15 (by kernel_rfl) rfl λKb hKb=>?_;refine l_call0 [(eDc y).den,.slice p.A p.l.length p.c,.slice p.B p.l.length p.d] rfl rfl rfl (λ_ _=>by go_simp) rfl rfl (λ_ _=>rfl) hyl1 (λw h _=>⟨h.2.2.1.2,h.2.1.1.2.2 p hpm⟩) λy2=>?_;obtain⟨y2,hy2e,hy2l⟩:=y2;refine zJ (hKb _ (inv_two withG_is λw h _=>h.2.2.1.1) ?_);refine p_tail [16,17] (by kernel_rfl) rfl ?_;refine zB rfl ?_;refine zJ (k_noloc ?_);rw [<-hd2l] at hal;rw [hyl,<-hd2l] at hy2l
   have hd212:d2.l.length<=12:=by omega
   have hd2n:d2.l.length<=(allB (x.ps.take (j+1))).length:=by
    rw [allB_take hp,aB]
    omega
   clear hdl1 hyl1 hXA hYA hal;refine k_weak (e':=⟨(9,.v (.int .i64 (j:Int)))::Es ⟨j,d2,y2,zs,D1,X1⟩,Ls ⟨j,d2,y2,zs,D1,X1⟩,Rs ⟨j,d2,y2,zs,D1,X1⟩,Ff ⟨j,d2,y2,zs,D1,X1⟩,λ_=>True⟩) ⟨zE rfl, zL rfl rfl, .refl _,λ_ h _=>⟨h.2.2.1,⟨h.2.1.1,h.1⟩,h.2.2.2.2⟩, zU⟩ (hK8 _ ?_);have hok2:DzOk (d2,y2):=⟨hd2,hy2l,by rw [hy2e,hd2e,hye],hd212⟩;clear hyl hye hy2e hd2e;refine zC rfl λKc hKc=>?_;refine l_call0 [(eDv d2).den] rfl rfl rfl (λ_ _=>by go_simp) rfl rfl (λ_ _=>rfl) (owners12_S hd2 (by omega)) (λ_ h _=>h.2.1.1) λz=>?_;refine zB rfl (zJ (hKc _ ?_));refine zN ?_
   let E2:Nat->SE:=λi=>[(53,.v (.int .i64 (i:Int))),(52,.v (.int .i64 ((idsD d2.l).length:Int))),(51,.v (.slice z.1 (idsD d2.l).length z.2)),(9,.v (.int .i64 (j:Int)))]++Es ⟨j,d2,y2,zs,D1,X1⟩
   let F2:World->Prop:=λw=>Rd 32 (eY 32) z.1 z.2 (idsD d2.l) w/\Ff ⟨j,d2,y2,zs,D1,X1⟩ w
   let Gs:Nat->Env:=λi=>⟨E2 i,Ls ⟨j,d2,y2,zs,D1,X1⟩,Rs ⟨j,d2,y2,zs,D1,X1⟩,F2,λ_=>True⟩
   refine c_weak (e':=Gs 0) ⟨zE rfl, zL rfl rfl, .refl _,λ_ h _=>h, zU⟩ (s_loop (λi=>(idsD d2.l).length-i) Gs (λi=>i<=(idsD d2.l).length) ?_ 0 (aI _))
   intro i hi
   have hidl:(idsD d2.l).length=d2.l.length:=bO ..;refine zA rfl (zM λK9 hK9=>?_);refine zW ((i:Int)<((idsD d2.l).length:Int)) rfl (λhilt=>?_) (λhige=>?_)
   ·have hilt:i<(idsD d2.l).length:=by omega
    obtain⟨id,hid⟩:∃id,(idsD d2.l)[i]?=some id:=⟨_,aK hilt⟩
    have hid32:id.length=32:=by
     obtain⟨e,he,rfl⟩:=bP.1 (aR hid);exact hd2.dir.ids e he
    have hke:=dkeys_S hd2 hid32;have h64:=hd2.small.keys id;refine zO (hK9 _ (zM λK10 hK10=>?_))
    have hF:∀e',Weak e' (Gs i)->kS b K10 91 e':=by
     intro e' hw
     refine k_weak hw (hK10 _ ?_);refine zD rfl ?_;exact zX (i+1) hilt (by show(idsD d2.l).length-(i+1)<(idsD d2.l).length-i;omega) ⟨⟨nextI i (idsD d2.l).length (by omega) hilt,rfl,rfl,rfl,rfl,rfl,rfl,rfl,rfl,rfl,rfl,rfl,rfl,trivial⟩,zL rfl rfl, .refl _,λ_ h _=>h,λ_ h=>h⟩
    refine zN (zC rfl λK11 hK11=>?_);refine l_elem zY rfl rfl rfl i rfl hid rfl rfl (rd_fact λ_ h _=>h.1) ?_;refine zB rfl (zJ (hK11 _ ?_));refine zC rfl λK12 hK12=>?_;refine l_call0 [(eDv d2).den,(eY 32 id).den] rfl rfl rfl own_dkeys rfl rfl (λ_ _=>rfl) hke (λ_ h _=>h.2.2.1.1) λk=>?_;refine zB rfl (zJ (hK12 _ ?_));obtain⟨ks,hks⟩:∃ks,bU d2.l id=ks:=⟨_,rfl⟩;rw [hks] at h64 hke;obtain⟨kA,kc⟩:=k;refine c_weak (e':=⟨(12,.v (.slice kA ks.length kc))::E2 i,Ls ⟨j,d2,y2,zs,D1,X1⟩,KyS kA kc ks::Rs ⟨j,d2,y2,zs,D1,X1⟩,F2,λ_=>True⟩) ⟨⟨by rw [<-hks];rfl,rfl,rfl,rfl,rfl,rfl,rfl,rfl,rfl,rfl,rfl,rfl,rfl,rfl,trivial⟩,⟨rfl,rfl,rfl,rfl,trivial⟩,by rw [<-hks];exact .refl _,λ_ h _=>h.2, zU⟩ ?_;refine zA rfl ?_;refine zW ((ks.length:Int)>0) rfl (λh0=>?_) (λ_=>?_)
    ·refine s_own 0 rfl λhoks _ _=>?_
     refine s_where 0 rfl (by omega) λg hg=>?_;subst hg;obtain⟨k0,hk0⟩:∃k0,ks[0]?=some k0:=⟨_,aK (by omega)⟩;have hk32:k0.length=32:=eY_len (hoks k0 (aR hk0)).1;obtain⟨v,hv⟩:=xor_b1 k0[9];have hfl:=flat_setY hoks hk0 (show 9<k0.length by omega) v;have em:0+32*0+1*9=32*0+9:=rfl;rw [<-em] at hfl;refine s_drawn 6 (by decide) (by kernel_rfl) (by kernel_rfl) λG S w0 hst=>?_;refine g_autoS zY hst rfl ?_;refine g_opS (.v (.pointer (some ⟨g,0+32*0,none⟩))) trivial rfl rfl rfl (runO_ixS 0 rfl Tryz.underlying43 rfl rfl rfl (by omega)) ?_;refine g_opS (.v (.pointer (some ⟨g,0+32*0+1*9,none⟩))) trivial rfl rfl rfl (runO_ixP 9 rfl Tryz.underlying45 rfl rfl rfl (by decide)) ?_;refine g_opV hst (.v (.int .u8 (k0[9].toNat:Int))) trivial rfl rfl rfl (runO_ldC 0 _ rfl rfl rfl hfl.1 Tryz.underlying5 rfl) ?_;refine g_opS (.v (.int .u8 (v.toNat:Int))) trivial rfl rfl rfl (by rw [<-hv];exact run_xor rfl rfl rfl) ?_;refine g_opS (.v (.pointer (some ⟨g,0+32*0,none⟩))) trivial rfl rfl rfl (runO_ixS 0 rfl Tryz.underlying43 rfl rfl rfl (by omega)) ?_;refine g_endS hst ?_;refine l_op (.v (.pointer (some ⟨g,0+32*0+1*9,none⟩))) trivial rfl rfl rfl (runO_ixP 9 rfl Tryz.underlying45 rfl rfl rfl (by decide)) ?_;refine l_stC 0 (ks.set 0 (k0.set 9 v)) rfl rfl rfl rfl rfl rfl rfl rfl rfl (bA.1 hfl.1).1 bQ (hoks.set (eY_ok (by rw [bQ];exact hk32))) hfl.2 ?_;refine zJ (k_drop 0 rfl ?_);exact hF _ ⟨zE rfl, zL rfl rfl, .refl _,λ_ h _=>h,λ_ h=>h⟩
    ·refine zO (k_drop 0 rfl ?_)
     exact hF _ ⟨zE rfl, zL rfl rfl, .refl _,λ_ h _=>h,λ_ h=>h⟩
   ·refine s_exit (zS (zS (k_out ?_)))
    refine hK6 _ ?_;refine zD rfl ?_;exact zX ⟨j+1,d2,y2,zs,D1,X1⟩ ⟨hlt,hok2,hd2n,hzn,hz2⟩ (by show x.ps.length-(j+1)<x.ps.length-j;omega) ⟨⟨nextI j x.ps.length (by omega) hlt,rfl,rfl,rfl,rfl,rfl,rfl,rfl,rfl,trivial⟩,zL rfl rfl, .refl _,λ_ h _=>h.2,λ_ h=>h⟩
  refine s_locs λG=>?_;refine s_anyP [0,1,4,5] 7 3 (InvL (withG G (Ls ⟨j,d,y,zs,D,X⟩))) (by kernel_rfl) rfl (inv_of withG_is) ?_;refine p_front zY 0 (by kernel_rfl) rfl rfl rfl rfl rfl rfl (λ_ h=>h) ?_;refine p_front zY 1 (by kernel_rfl) rfl rfl rfl rfl rfl rfl (λ_ h=>h) ?_;refine p_front zY 4 (by kernel_rfl) rfl rfl rfl rfl rfl rfl (λ_ h=>h) ?_;refine p_front zY 5 (by kernel_rfl) rfl rfl rfl rfl rfl rfl (λ_ h=>h) ?_
  have hq1:OkF 4 eDz [((d,y):DzV)]:=λz hz=>by rw [aE.1 hz];exact eDz_ok _
  have hq2:OkF 2 eXz [((d,y):DzV)]:=λz hz=>by rw [aE.1 hz];exact eXz_ok _
  let Ef:Option Addr->Option Addr->KX->Env:=λP1 P2 D1=>⟨[(29,.v (.slice D1.1 (zs++[((d,y):DzV)]).length D1.2)),(32,.v (.slice P2 1 1)),(30,.v (.slice X.1 zs.length X.2)),(9,.v (.int .i64 (j:Int)))]++Es ⟨j,d,y,zs,D,X⟩,withG G (Ls ⟨j,d,y,zs,D,X⟩),[OwnS 0 33 4 eDz D1.1 D1.2 (zs++[((d,y):DzV)]),OwnS 0 36 2 eXz X.1 X.2 zs],λw=>Rd 2 eXz P2 1 [((d,y):DzV)] w/\Ff ⟨j,d,y,zs,D,X⟩ w,λ_=>True⟩
  refine p_step2 2 6 (by kernel_rfl) rfl rfl (λKa hKa=>?pa) λKa hKa=>?pb
  case' pa =>
   refine l_list (fe:=eDz) zY 0 [((d,y):DzV)] rfl rfl rfl rfl rfl (λ_=>rfl) rfl (by decide) (by decide) hq1 (aI _) λP1=>?_;refine l_free 0 rfl ?_;refine zJ (hKa _ (inv_of withG_is) ?_);refine p_step2 3 6 (by kernel_rfl) rfl rfl (λKb hKb=>?pc) λKb hKb=>?pd
  case' pc =>
   refine l_appY zY 0 [((d,y):DzV)] (fe:=eDz) rfl rfl rfl rfl rfl rfl rfl rfl rfl (rd_fact λ_ h _=>h.1) (by decide) (by show(zs.length+1)*32<=_;omega) (by show zs.length+1<=_;omega) (aI _) λD1 d1=>?_;refine zJ (hKb _ (inv_of withG_is) ?_);refine p_step 6 (by kernel_rfl) rfl λKc hKc=>?_;refine l_list (fe:=eXz) zY 0 [((d,y):DzV)] rfl rfl rfl rfl rfl (λ_=>rfl) rfl (by decide) (by decide) hq2 (aI _) λP2=>?_;refine l_free 0 rfl ?_;refine zJ (hKc _ (inv_of withG_is) ?_);refine p_weak (e':=Ef P1 P2 (D1,d1)) ⟨zE rfl, zL rfl rfl, .refl _,λ_ h _=>⟨h.1,h.2.2⟩, zU⟩ ?_
  case' pd =>
   refine l_list (fe:=eXz) zY 0 [((d,y):DzV)] rfl rfl rfl rfl rfl (λ_=>rfl) rfl (by decide) (by decide) hq2 (aI _) λP2=>?_;refine l_free 0 rfl ?_;refine zJ (hKb _ (inv_of withG_is) ?_);refine p_step 3 (by kernel_rfl) rfl λKc hKc=>?_;refine l_appY zY 0 [((d,y):DzV)] (fe:=eDz) rfl rfl rfl rfl rfl rfl rfl rfl rfl (rd_fact λ_ h _=>h.2.1) (by decide) (by show(zs.length+1)*32<=_;omega) (by show zs.length+1<=_;omega) (aI _) λD1 d1=>?_;refine zJ (hKc _ (inv_of withG_is) ?_);refine p_weak (e':=Ef P1 P2 (D1,d1)) ⟨zE rfl, zL rfl rfl, .refl _,λ_ h _=>⟨h.1,h.2.2⟩, zU⟩ ?_
  case' pb =>
   refine l_list (fe:=eXz) zY 0 [((d,y):DzV)] rfl rfl rfl rfl rfl (λ_=>rfl) rfl (by decide) (by decide) hq2 (aI _) λP2=>?_;refine l_free 0 rfl ?_;refine zJ (hKa _ (inv_of withG_is) ?_);refine p_step 2 (by kernel_rfl) rfl λKb hKb=>?_;refine l_list (fe:=eDz) zY 0 [((d,y):DzV)] rfl rfl rfl rfl rfl (λ_=>rfl) rfl (by decide) (by decide) hq1 (aI _) λP1=>?_;refine l_free 0 rfl ?_;refine zJ (hKb _ (inv_of withG_is) ?_);refine p_step 3 (by kernel_rfl) rfl λKc hKc=>?_;refine l_appY zY 0 [((d,y):DzV)] (fe:=eDz) rfl rfl rfl rfl rfl rfl rfl rfl rfl (rd_fact λ_ h _=>h.1) (by decide) (by show(zs.length+1)*32<=_;omega) (by show zs.length+1<=_;omega) (aI _) λD1 d1=>?_;refine zJ (hKc _ (inv_of withG_is) ?_);refine p_weak (e':=Ef P1 P2 (D1,d1)) ⟨zE rfl, zL rfl rfl, .refl _,λ_ h _=>⟨h.2.1,h.2.2⟩, zU⟩ ?_
  all_goals
   refine p_tail [7,8,9] (by kernel_rfl) rfl ?_;refine l_appY zY 1 [((d,y):DzV)] (fe:=eXz) rfl rfl rfl rfl rfl rfl rfl rfl rfl (rd_fact λ_ h _=>h.1) (by decide) (by show(zs.length+1)*32<=_;omega) (by show zs.length+1<=_;omega) (aI _) λX1 x1=>?_;refine zB rfl ?_
   refine zJ (k_noloc (hrest (D1,d1) (X1,x1) _ ⟨zE rfl, zL rfl rfl, .refl _,λw h _=>⟨h.2.1,h.2.2.1,λz hz=>(by
    rcases bR.1 hz with hz|hz
    ·exact h.2.2.2 z hz
    ·rw [aE.1 hz]
     exact h.2.2.1)⟩, zU⟩))
 refine s_exit (zS (zS (k_out ?_)));refine hK _ ?_;refine s_free 0 rfl (s_free 0 rfl ?_);refine zM λK7 hK7=>?_;refine zA rfl (zN ?_)
 let Hs:Nat->Env:=λi=>⟨[(74,.v (.int .i64 (i:Int))),(73,.v (.int .i64 (zs.length:Int))),(8,.v (.slice X.1 zs.length X.2)),(7,.v (.slice D.1 zs.length D.2)),(6,.a 6 0),(5,.a 5 0)],Ls ⟨j,d,y,zs,D,X⟩,[],λw=>Rd 2 eXz X.1 X.2 zs w/\Rd 4 eDz D.1 D.2 zs w/\Ff ⟨j,d,y,zs,D,X⟩ w,λ_=>True⟩
 refine c_weak (e':=Hs 0) ⟨zE rfl, zL rfl rfl, .refl _,λ_ h _=>h, zU⟩ (s_loop (λi=>zs.length-i) Hs (λi=>i<=zs.length) ?_ 0 (aI _))
 intro i hi
 refine zA rfl (zM λK8 hK8=>?_);refine zW ((i:Int)<(zs.length:Int)) rfl (λhilt=>?_) (λhige=>?_)
 ·have hilt:i<zs.length:=by omega
  obtain⟨z,hz⟩:∃z,zs[i]?=some z:=⟨_,aK hilt⟩;have hzm:=aR hz;obtain⟨z1,z2⟩:=z;obtain⟨hz1,hzl,hze,hz12⟩:=hzok _ hzm
  dsimp only at hz1 hzl hze hz12
  refine zO (hK8 _ (zM λK9 hK9=>?_));refine zN (zA rfl ?_);refine s_regH 10 (by decide) (by kernel_rfl) (by kernel_rfl) λK11 hK11 G S w0 hst=>?_;refine zV hst rfl ?_;refine h_elem hst rfl rfl rfl rfl rfl i rfl hz rfl rfl (rd_fact λ_ h _=>h.2.1) ?_;refine zV hst rfl ?_;refine h_elem hst rfl rfl rfl rfl rfl i rfl hz rfl rfl (rd_fact λ_ h _=>h.1) ?_;refine zV hst rfl ?_;refine h_callS (F':=λw=>z1.F w/\z2.F w) (r:=.v (.bool true)) hst [(eDv z1).den,(eDc z2).den] rfl rfl rfl rfl (λ_ _=>by go_simp) rfl rfl (λ_=>rfl) trivial (same12_S hz1 (by omega) z2 hzl hze) (λ_ _ _ h=>h.fact.2.2.2.2 _ hzm) ?_;refine zV hst rfl ?_;refine h_end hst ?_;refine zJ (hK11 _ ?_);refine s_no rfl ?_;refine zO (hK9 _ ?_);refine zD rfl ?_;exact zX (i+1) hilt (by show zs.length-(i+1)<zs.length-i;omega) ⟨⟨nextI i zs.length (by omega) hilt,rfl,rfl,rfl,rfl,rfl,trivial⟩,zL rfl rfl, .refl _,λ_ h _=>h,λ_ h=>h⟩
 ·refine s_exit (zS (zS (k_out ?_)))
  refine hK7 _ ?_;refine zC rfl λK12 hK12=>?_;refine l_call0 [(eDv d).den,(eDc y).den] rfl rfl rfl (λ_ _=>by go_simp) rfl rfl (λ_ _=>rfl) (same12_S hd (by omega) y hyl hye) (λ_ h _=>h.2.2.2.1) λ_=>?_;refine zB rfl (zJ (hK12 _ ?_));exact zP (zR zY () rfl (by decide) rfl rfl rfl (λ_ _ _=>trivial) zU)
end Go.Proofs.YtlhlkofpjhpaoaaGreatDoor
namespace Go.Proofs.YtlhlkofpjhpaoaaGreatDoor
open Go.ChangeShapes Go.WideShapes Go.ChangeAt Go.RowKit
theorem own:ownKnob Tryz.prog.godebug=none:=by kernel_rfl
theorem laidOut:laidOutB Tryz.prog=true:=by kernel_rfl
section
variable{H:Type}{enc:TypeId×Value->H}{W W':World}
theorem trodAll_below:∀{ts:List TypeId} {vs:List Value} {ds:List (DataW H)} {p:List MemPlace},(∀t∈ts,Tryz.prog.readableRec t=true/\t<Tryz.prog.types.size) ->
  DataW.TrodAll enc Tryz.prog W 0 (λ_=>true) true ts vs ds p->Below W.heap.size W W'->(∀x∈p,x.block<W.heap.size)->DataW.TrodAll enc Tryz.prog W' 0 (λb=>decide (b<W.heap.size)) true ts vs ds p
 | [],_,_,_,_,h,_,_=>by
  obtain⟨rfl,rfl,rfl⟩:=trodAll_nil h;exact trodAll_mk0
 | t::ts,_,_,_,hts,h,hb,hlt=>by
  obtain⟨v,vs',d,ds',p,q,rfl,rfl,rfl,h0,h1⟩:=trodAll_cons h;obtain⟨hr,hz⟩:=hts t (by simp);exact trodAll_cons_mk (Below.trod laidOut hr hz h0 hb (λx hx=>hlt x (by simp [hx]))) (trodAll_below (λu hu=>hts u (by simp [hu])) h1 hb (λx hx=>hlt x (by simp [hx])))
theorem law_post{f:Func}{s:ChangeSpec}{args:Array Value}{ds gs:List (DataW H)}{before:List MemPlace}(hf:f.resultTypes = #[4])(hvars:s.vars=[])
 (hts:∀t∈f.params.toList,Tryz.prog.readableRec t=true/\t<Tryz.prog.types.size)
 (hW:DataW.Whole enc Tryz.prog f.params.toList s.vars false W args.toList ds gs before)(hs:s.fn H (ds++gs)={ results:=[.lit (.bool true)],args:=ds })(hb:Below W.heap.size W W') :
  s.post enc Tryz.prog f false true false false W args (.bool true) W':=by
 have hW':=hW;obtain⟨p,q,hA,hV,rfl,_,_⟩:=hW;rw [hvars] at hV;obtain⟨rfl,rfl⟩:=trodVars_none hV;have hlt:∀x∈p,x.block<W.heap.size:=λx hx=>hW'.lt x (by simp [hx]);refine⟨ds,[],p++[],[],p,[],hW',?_,?_,?_,hb.frame _,λh=>by cases h⟩
 ·rw [hs,hf]
  exact trodAll_mk1 (shut_bool Tryz.underlying4 true)
 ·rw [hs]
  exact trodAll_below hts hA hb hlt
 ·rw [hs,hvars]
  rfl
end
theorem one_of{l:List Value}{i:Nat}{v:Value}(h:(l.drop (i*1)).take 1=[v]):l[i]?=some v:=by
 rw [Nat.mul_one] at h
 have h1:((l.drop i).take 1)[0]?=some v:=by rw [h];rfl
 rw [List.getElem?_take,if_pos (by omega),List.getElem?_drop] at h1
 simpa using h1
end Go.Proofs.YtlhlkofpjhpaoaaGreatDoor
namespace Go.Proofs.YtlhlkofpjhpaoaaGreatDoor
open Go.RowKit Go.IntWalk
open Go.ChangeShapes Go.WideShapes Go.ChangeAt
theorem pick_list{α:Type}(P:Nat->α->Prop):∀n,(∀i,i<n->∃l,P i l)->∃ks:List α,ks.length=n/\∀i l,ks[i]?=some l->P i l
 | 0,_=>⟨[],rfl,λi l h=>by simp at h⟩
 | n+1,h=>by
  obtain⟨ks,hl,hk⟩:=pick_list P n λi hi=>h i (by omega);obtain⟨l,hp⟩:=h n (by omega);refine⟨ks++[l],by simp [hl],λi x hx=>?_⟩
  by_cases hi:i<ks.length
  ·rw [List.getElem?_append_left hi] at hx
   exact hk i x hx
  ·rw [cG (by omega)] at hx
   have h0:i-ks.length=0:=by
    by_cases e:i-ks.length=0
    ·exact e
    ·rw [List.getElem?_eq_none (by simp;omega)] at hx
     cases hx
   rw [h0] at hx
   obtain rfl:l=x:=by simpa using hx
   obtain rfl:i=n:=by omega
   exact hp
theorem open_rd{α H:Type}{enc:TypeId×Value->H}{W:World}{held:Bool}{fuel:Nat}{t e:TypeId}{k:Nat}{fe:α->SQ}{cs:List Value}{x:DataW H×List MemPlace}(ht:Tryz.prog.underlying t=some (.slice e))(hk:Tryz.prog.cellsOf e=k)(hk0:0<k)
 (hel:∀n cs x,jX enc Tryz.prog W 0 (λ_=>true) held n e cs=some x->∃a:α,cs=(fe a).cl/\OkP (fe a).parts1/\(fe a).cl.length=k)
 (h:jX enc Tryz.prog W 0 (λ_=>true) held fuel t cs=some x) :
  ∃(A:Option Addr) (l:List α) (c:Nat),cs=[.slice A l.length c]/\Rd k fe A c l W:=by
 rcases DataW.trod_slice ht h with⟨rfl,_⟩|⟨a,len,cap,elems,rest,n,rfl,rfl,rfl,_,hl,hm,hlen,hel2,_⟩
 ·exact⟨none,[],0,rfl,Rd.nil _ _ _⟩
 ·rw [hk] at hel2
  obtain⟨ks,hk1,hk2⟩:=pick_list (λi (y:α)=>(OkP (fe y).parts1/\(fe y).cl.length=k)/\W.cells? 0 (a.add (i*k)) k=some (fe y).cl) len λi hi=>by
   have h0:=hel2 i hi;rw [aK (by omega)] at h0
   cases hc:W.cells? 0 (a.add (i*k)) k with
   | none=>rw [hc] at h0;cases h0
   | some cs =>
    rw [hc] at h0;obtain⟨y,rfl,h1⟩:=hel _ _ _ h0;exact⟨y,h1,rfl⟩
  subst hk1;refine⟨some a,ks,cap,rfl,hl,(by unfold maxLen at hm;omega),λe=>(by cases e),λy hy=>?_,λhpos=>?_⟩
  ·obtain⟨i,hi,rfl⟩:=List.getElem_of_mem hy
   exact(hk2 i _ (aK hi)).1
  have hcell:∀i y,ks[i]?=some y->∀j v,(fe y).cl[j]?=some v->W.cell? (a.add (i*k+j))=some v:=λi y hi j v hj=>by
   obtain⟨⟨_,hkl⟩,hc⟩:=hk2 i y hi;obtain⟨_,_,h3⟩:=World.cells?_some hc
   have hjk:j<k:=by
    have:=(bA.1 hj).1
    omega
   have:=h3 j hjk;rw [Addr.add_add,hj] at this;exact this
  have h00:=hk2 0 _ (aK hpos);have hb:=World.cells?_block h00.2 hk0;rw [Nat.zero_mul] at hb;obtain⟨b,o,sp⟩:=a
  have hsp0:sp=none:=by
   obtain⟨v,hv⟩:∃v,(fe ks[0]).cl[0]?=some v:=⟨_,aK (by rw [h00.1.2];exact hk0)⟩;have:=hcell 0 _ (aK hpos) 0 v hv;rw [Nat.zero_mul,show(⟨b,o,sp⟩:Addr).add (0+0)=⟨b,o,sp⟩ from rfl,World.cell?] at this
   cases sp with
   | none=>rfl
   | some s =>
    exfalso
    dsimp only at this
    split at this
    ·simp at this
    ·cases this
  subst hsp0;refine⟨b,o,rfl,hb,λi y hi j v hj=>?_⟩;have:=hcell i y hi j v hj;rw [Addr.add_mid] at this
  rwa [Nat.add_assoc,Nat.mul_comm k i]
end Go.Proofs.YtlhlkofpjhpaoaaGreatDoor
namespace Go.Proofs.YtlhlkofpjhpaoaaGreatDoor
open Go.RowKit Go.IntWalk
open Go.ChangeShapes Go.WideShapes Go.ChangeAt
end Go.Proofs.YtlhlkofpjhpaoaaGreatDoor
