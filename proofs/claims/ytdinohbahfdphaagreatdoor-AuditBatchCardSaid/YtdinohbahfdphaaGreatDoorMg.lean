import Derived.Test.YtdinohbahfdphaaGreatDoorMf
import Derived.Test.YtdinohbahfdphaaGreatDoorMe
import Derived.Lib.BytesEntry
import Derived.Laws.Externs
import Derived.Test.YtdinohbahfdphaaGreatDoorMb
import Derived.Test.YtdinohbahfdphaaGreatDoorMc
import Derived.Test.YtdinohbahfdphaaGreatDoorMd
import Derived.Test.YtdinohbahfdphaaGreatDoorRows
import Derived.Test.YtdinohbahfdphaaGreatDoorMa
import Derived.ProofKit
import Derived.OpenShut
import Derived.SizedLaws
import Derived.Deep.Slices
import Derived.LaidMore
import Derived.SevenTiedAt
import Derived.Stop.Joined
import Derived.Test.YtdinohbahfdphaaGreatDoorCards
import Derived.Test.YtdinohbahfdphaaGreatDoorTie
set_option linter.defProp false
open Go.Proofs.Tryz
set_option maxRecDepth 100000
set_option maxHeartbeats 4000000
open Bool renaming and_eq_true->aM
open Go.Addr renaming add_mid->cM
open Go.DataW renaming trod->rP
open Go.Extern.BytealgCompare renaming compare->iK
open Go.Extern.Bytes renaming bytesOf->jP
open Go.Lib renaming compareBytes->cN
open Go.Result renaming andThen_ok->aC
open Go.Sem renaming run_bind->aG,run_pure->aI
open Go.Value renaming int->cK,bool->mH
open Go.World renaming block_lt_of_cell?->mI
open List renaming length_append->aA,replicate->aB,mem_singleton->aE,mem_cons->aH,getElem?_eq_getElem->aK,getElem?_eq_some_iff->aP,append_assoc->aR,mem_map->aU,length_take->aV,length_cons->aY,map_cons->aZ,length_map->a6,mem_of_getElem?->a8,append_nil->bB,eq_nil_of_length_eq_zero->bE,take_of_length_le->bK,length_replicate->bM,mem_append->bO,map_append->bS,take_append_drop->bX,getElem?_append_right->b9,nil_append->cP,getElem?_map->cQ,getElem?_append_left->cR,map_map->cU,drop_of_length_le->c8,take_length->dF,range->dT,map_congr_left->dU,drop_eq_getElem_cons->dX,take_add_one->eH,flatten_cons->eK,nodup_cons->fH,sum_cons->fV,getElem?_of_mem->gP,set_append_right->iO,mem_filter->jZ,getElem?_drop->j7,Perm->lG,pairwise_append->lP,nodup_iff_pairwise_ne->lQ,length->lR,range_succ->pA,pairwise_map->pB,nodup_append->sF,perm_append_comm->uM,eq_nil_or_concat->uN,concat_eq_append->uO
open List.Perm renaming swap->kU
open Nat renaming le_refl->aF,zero_le->aN,zero_add->aX,le_trans->bP,add_zero->cD,sub_self->fK,one_mul->fM,not_lt_zero->iN,mul_le_mul_left->lD,lt_succ_iff_lt_or_eq->tN
open Option renaming map_some->bN,map_eq_some_iff->sZ
open Option.some renaming injEq->a9,inj->bL
open UInt8 renaming ofNat->bG,lt_irrefl->iZ,lt_iff_toNat_lt->nG
namespace Go.Proofs.YtdinohbahfdphaaGreatDoor
open Go.RowKit Go.IntWalk
theorem hread_S(g:Nat){A:Option Addr}{c:Nat}(s:Rds):Spec 119 [ptr g] [RdrS g A c s] (Rd 1 eB A c s.1)
  { ret:=λ_:RX=>.t [eU (upO s),.c (.v (.int .u64 (upV s:Int)))],own:=λx=>[RdrS g x.1 x.2 (upS s)],p:=λx=>Rd 1 eB x.1 x.2 (upS s).1 }:=by
 refine zQ [.c (.v (ptr g))] 22 func119 rfl (by rw [ntmps119];rfl) (one_ok trivial) λb=>?_;have hh1:=haO_len s;have hh2:=haO_len (nuS (haS s));have hh3:=sgO_len (haS (nuS (haS s)));have e1:upO s=⟨haO s,IntKind.i64.wrap (upV s:Int),haO (nuS (haS s)),sgO (haS (nuS (haS s)))⟩:=rfl;have e2:upS s=sigS (haS (nuS (haS s))):=rfl;refine zA rfl (zC rfl λK1 hK1=>?_);refine l_callA [ptr g] rfl rfl rfl (λ_ _=>by go_simp) rfl rfl (λ_ _=>rfl) (rdhash_S g s) (λw h _=>h) λ⟨A1,c1⟩=>?_;refine l_R [RdrS g A1 c1 (haS s)] rfl ?_;generalize haO s=h1 at *;refine zB rfl (zJ (hK1 _ (zC rfl λK2 hK2=>?_)));refine l_callA [ptr g] rfl rfl rfl (λ_ _=>by go_simp) rfl rfl (λ_ _=>rfl) (rnum_S g (haS s)) (λw h _=>h.1) λ⟨A2,c2⟩=>?_;refine l_R [RdrS g A2 c2 (nuS (haS s))] rfl (l_eq 10 (.v (.int .u64 (upV s:Int))) rfl rfl ?_);generalize upV s=uv at *;refine zB rfl (zJ (hK2 _ (zC rfl λK3 hK3=>?_)));refine l_callA [ptr g] rfl rfl rfl (λ_ _=>by go_simp) rfl rfl (λ_ _=>rfl) (rdhash_S g (nuS (haS s))) (λw h _=>h.1) λ⟨A3,c3⟩=>?_;refine l_R [RdrS g A3 c3 (haS (nuS (haS s)))] rfl ?_;generalize haO (nuS (haS s))=h2 at *;refine zB rfl ?_;refine l_callA [ptr g] rfl rfl rfl (λ_ _=>by go_simp) rfl rfl (λ_ _=>rfl) (rsig_S g (haS (nuS (haS s)))) (λw h _=>h.1) λ⟨A4,c4⟩=>?_;refine l_R [RdrS g A4 c4 (sigS (haS (nuS (haS s))))] rfl ?_;generalize sgO (haS (nuS (haS s)))=h3 at *;refine zB rfl (zJ (hK3 _ (zA rfl ?_)));exact zP (zR zY (A4,c4) rfl (by decide) rfl (by show RV.t [eU (upO s),.c (.v (.int .u64 (uv:Int)))]=_;rw [e1];rfl) rfl (λw h _=>h.1) zU)
def end_10{s:Rds}(h:endE s=10):s.2≠0:=λh0=>by unfold endE don at h;rw [if_pos h0] at h;split at h<;>cases h
abbrev batP(us:List UV)(e:Nat):Post KX:={ ret:=λx=>.t [.c (.v (.slice x.1 us.length x.2)),.c (.v (.int .i64 (e:Int)))],p:=λx=>Rd 129 eU x.1 x.2 us }
theorem hparse_S{A:Option Addr}{c:Nat}(l:List UInt8)(hl:l.length<=281474976710656):Spec 85 [.slice A l.length c] [] (Rd 1 eB A c l) (batP (hpU l) (hpE l)):=by
 refine zQ [.c (.v (.slice A l.length c))] 46 func85 rfl (by rw [ntmps85];rfl) (one_ok trivial) λb=>?_;refine zA rfl (zC rfl λK1 hK1=>?_);refine l_call0 [.slice A l.length c] rfl rfl rfl (λ_ _=>by go_simp) rfl rfl (λ_ _=>rfl) (rdnew_S l hl) (λw h _=>h) λ⟨g,g0⟩=>?_;refine zB rfl (zJ (hK1 _ (zC rfl λK2 hK2=>l_R [RdrS g (some ⟨g0,0,none⟩) l.length (l,0)] rfl ?_)));refine l_callA [ptr g] rfl rfl rfl (λ_ _=>by go_simp) rfl rfl (λ_ _=>rfl) (rcount_S g (l,0)) (λw _ h=>h.1) λ⟨A1,c1⟩=>?_;refine l_R [RdrS g A1 c1 (hpS l)] rfl (zB rfl (zJ (hK2 _ ?_)));obtain⟨n,hn⟩:∃n,n=hpN l:=⟨_,rfl⟩;have hn6:n<=65536:=by rw [hn];exact moO_le _ _
 have hn':moO 65536 (l,0)=n:=hn.symm;rw [hn'];refine zA rfl (zA rfl (s_nil0 0 69 129 eU (zM λK3 hK3=>zA rfl (zN ?_))));let F:Nat×RX×KX->Env:=λ⟨i,r,x⟩=>⟨[(8,.v (.int .i64 (i:Int))),(5,.v (.int .i64 (n:Int))),(4,.v (ptr g)),(6,.v (.slice x.1 (usI (hpS l) i).length x.2)),(7,.v (.int .u64 (mxI (hpS l) i:Int)))],[],[RdrS g r.1 r.2 (stU (hpS l) i),OwnS 0 69 129 eU x.1 x.2 (usI (hpS l) i)],Rd 1 eB r.1 r.2 (stU (hpS l) i).1,λ_=>True⟩;have hfin:∀(i:Nat) (r:RX) (x:KX),i<=n->((stU (hpS l) i).2≠0\/i=n)->∀e,Weak e (F (i,r,x))->kS b K3 46 e:=by
  intro i r x hi hor e hw;refine k_weak hw (hK3 _ ?_);obtain⟨he,hkn⟩:=hpR_stop (l:=l) (k:=i) (by omega) (by rw [hn] at hor;exact hor);have hrd:=rdone_S g (A:=r.1) (c:=r.2) (stU (hpS l) i);rw [he] at hrd;refine zM λK4 hK4=>zC rfl λK5 hK5=>?_;refine l_callA [ptr g] rfl rfl rfl (λ_ _=>by go_simp) rfl rfl (λ_ _=>rfl) hrd (λ_ _ _=>trivial) λ_=>?_;refine zB rfl (zJ (hK5 _ (zA rfl ?_)));refine zW ((endE (hpR l):Int)≠0) rfl (λh1=>?_) (λh1=>?_)
  .have e3:hpE l=endE (hpR l):=by unfold hpE;rw [if_neg (by omega)]
   have e4:hpU l=[]:=by unfold hpU;rw [if_neg (by omega)]
   refine zA rfl ?_;exact zP (k_drop 0 rfl (k_drop 0 rfl (zR zY (none,0) rfl (by decide) rfl (by show RV.t [.c (.v (.slice none (hpU l).length 0)),.c (.v (.int .i64 (hpE l:Int)))]=_;rw [e3,e4];rfl) rfl (λw _ _=>by show Rd 129 eU none 0 (hpU l) w;rw [e4];exact Rd.nil _ _ _) zU)))
  have h1:endE (hpR l)=0:=by omega
  have hk2:=hkn h1;refine zO (hK4 _ (zM λK6 hK6=>zA rfl ?_));refine zW ((mxI (hpS l) i:Int)>64) rfl (λh2=>?_) (λh2=>?_)
  .have e3:hpE l=13:=by unfold hpE;rw [if_pos h1,<-hk2,if_pos (by omega)]
   have e4:hpU l=[]:=by unfold hpU;rw [if_neg (by omega)]
   refine zA rfl ?_;exact zP (k_drop 0 rfl (k_drop 0 rfl (zR zY (none,0) rfl (by decide) rfl (by show RV.t [.c (.v (.slice none (hpU l).length 0)),.c (.v (.int .i64 (hpE l:Int)))]=_;rw [e3,e4];rfl) rfl (λw _ _=>by show Rd 129 eU none 0 (hpU l) w;rw [e4];exact Rd.nil _ _ _) zU)))
  .have e3:hpE l=0:=by unfold hpE;rw [if_pos h1,<-hk2,if_neg (by omega)]
   have e4:hpU l=usI (hpS l) i:=by unfold hpU;rw [if_pos e3,<-hk2]
   refine zO (hK6 _ (s_free 1 rfl (zA rfl ?_)));exact zP (k_drop 0 rfl (zR zY x rfl (by decide) rfl (by show RV.t [.c (.v (.slice x.1 (hpU l).length x.2)),.c (.v (.int .i64 (hpE l:Int)))]=_;rw [e3,e4];rfl) rfl (λw h _=>by show Rd 129 eU x.1 x.2 (hpU l) w;rw [e4];exact h.1) zU))
 refine c_weak (e':=F (0,(A1,c1),(none,0))) ⟨⟨rfl,rfl,rfl,rfl,rfl,trivial⟩,trivial,(uM (l₁:=[_]) (l₂:=[_])),λ_ h _=>h.1, zU⟩ (s_loop (λx=>n-x.1) F (λx=>x.1<=n) ?_ (0,(A1,c1),(none,0)) (aN _));rintro⟨i,r,x⟩ hi;dsimp only at hi;have hul:=usI_len (hpS l) i;refine zM λK4 hK4=>zC rfl λK5 hK5=>?_;by_cases hlt:¬(i:Int)<(n:Int)
 .refine l_is 19 false rfl (decide_eq_false hlt) ?_;refine zB rfl (zJ (hK5 _ (s_no rfl (s_exit (zS (zS (k_out ?_)))))));exact hfin i r x hi (.inr (by omega)) _ ⟨zE rfl, trivial, .refl _,λ_ h _=>h,λ_ h=>h⟩
 have hlt':i<n:=by omega
 refine l_is 19 true rfl (decide_eq_true (by omega)) ?_;refine zB rfl ?_;refine l_callA [ptr g] rfl rfl rfl (λ_ _=>by go_simp) rfl rfl (λ_ _=>rfl) (rdone_S g (A:=r.1) (c:=r.2) (stU (hpS l) i)) (λ_ _ _=>trivial) λ_=>?_;refine l_R [RdrS g r.1 r.2 (stU (hpS l) i),OwnS 0 69 129 eU x.1 x.2 (usI (hpS l) i)] rfl (zB rfl (zJ (hK5 _ ?_)));refine zW ((endE (stU (hpS l) i):Int)≠10) rfl (λh0=>?_) (λh0=>?_)
 .refine zO (hK4 _ ?_);refine zM λK6 hK6=>zN (zC rfl λK7 hK7=>?_);refine l_callA [ptr g] rfl rfl rfl (λ_ _=>by go_simp) rfl rfl (λ_ _=>rfl) (hread_S g (stU (hpS l) i)) (λw h _=>h.2) λ⟨A2,c2⟩=>?_;refine l_R [RdrS g A2 c2 (stU (hpS l) (i+1)),OwnS 0 69 129 eU x.1 x.2 (usI (hpS l) i)] rfl ?_;have hoo:=upO_ok (stU (hpS l) i);have hun:=usI_next (hpS l) i;have hmx:mxI (hpS l) (i+1)=max (mxI (hpS l) i) (upV (stU (hpS l) i)):=rfl;generalize upO (stU (hpS l) i)=u at *;generalize upV (stU (hpS l) i)=uv at *;refine zB rfl (zJ (hK7 _ (zC rfl λK8 hK8=>?_)));refine l_push zY 1 u rfl rfl rfl rfl rfl rfl rfl (eU_ok hoo) (by decide) (by decide) (by rw [hul];show(_+1)*136<=_;omega) (by omega) (aN _) λB' d'=>?_;rw [<-hun];refine zB rfl (zJ (hK8 _ (s_lit (zB rfl (l_op (.v (.int .u64 ((max (mxI (hpS l) i) uv:Nat):Int))) trivial rfl rfl rfl (run_maxU rfl rfl rfl) (zB rfl (zJ (hK6 _ (zD rfl ?_)))))))));exact zX (i+1,(A2,c2),(B',d')) hlt' (by show n-(i+1)<n-i;omega) ⟨⟨congrArg some (congrArg SV.v (congrArg (cK .i64) (wrapI rfl (by omega) (by omega)))),rfl,rfl,rfl,by show lookS _ 7=some (.v (.int .u64 (mxI (hpS l) (i+1):Int)));rw [hmx];rfl,trivial⟩,trivial,.refl _,λ_ h _=>h.1, zU⟩
 .refine s_exit (zS (zS (k_out ?_)));exact hfin i r x hi (.inl (end_10 (by omega))) _ ⟨zE rfl, trivial, .refl _,λ_ h _=>h.2, zU⟩
end Go.Proofs.YtdinohbahfdphaaGreatDoor
namespace Go.Proofs.YtdinohbahfdphaaGreatDoor
open Go.RowKit Go.IntWalk Nums
def GrV.parts(g:GrV):List Pt:=[.agg 32 (By g.id).toArray,.one (.v (.slice g.k.A g.k.l.length g.k.c)),.one (.v (.slice g.U g.more.length g.u))]
abbrev eGr(g:GrV):SQ:=.p g.parts
def GrV.parts_ok(g:GrV):OkP g.parts:=λp hp=>by
 simp only [GrV.parts,aH,List.not_mem_nil,or_false] at hp;rcases hp with rfl|rfl|rfl
 .exact(eY_ok g.h32).1 _ (aE.2 rfl)
 .exact⟨trivial,rfl,rfl⟩
 .exact⟨trivial,rfl,rfl⟩
def eGr_ok(g:GrV):OkP (eGr g).parts1/\(eGr g).cl.length=34:=⟨g.parts_ok,by rw [SQ.cl,show(eGr g).den.cells=catP g.parts from rfl,Array.length_toList,OkP.size g.parts_ok];rfl⟩
def GrV.rd(g:GrV)(w:World):Prop:=g.k.rd w/\Rd 129 eU g.U g.u g.more w
instance{g:GrV}:Pst g.rd:=⟨λ_ _ h hb=>⟨Pst.later (p:=g.k.rd) _ _ h.1 hb,h.2.later hb⟩⟩
abbrev nilG:GrV:=⟨aB 32 0,by decide,nilH,none,0,[]⟩
abbrev TG:MapT (List UInt8) GrV:={ t:=135,kt:=47,vt:=60,kv:=eY 32,vv:=eGr }
def TG_ok:TG.Ok ok32 where
 und:=underlying135
 keyed:=hash_keyed
 key _ h:=hash_key h
 inj _ _ h:=KVT_inj h
theorem nilG_zero:∀w,(zeroValue TG.vt).run prog w = .ok (TG.V nilG) w:=λw=>by
 have hi:(prog.info? 60).bind (·.zero)=some (TG.V nilG):=by kernel_rfl
 unfold zeroValue typeInfo;cases h:prog.info? 60 with
 | none=>rw [h] at hi;cases hi
 | some i =>
  rw [h] at hi;have hi:i.zero=some (TG.V nilG):=hi
  simp [h,hi]
def eGr_all(g:GrV):(TG.vv g).Ok:=g.parts_ok
section
variable{N:Nat}{E:SE}{L:List LV}{R:List Res}{F M:World->Prop}{o:Oper}{x y:Operand}
theorem runO_gr{m n:Nat}{f:List UInt8->Option GrV}(hA:∀G S w,View G S L R F M w->MapA TG ok32 m n f w)(k:List UInt8)(hk:k.length=32)(ho:o.op = .lookup TG.t x y true)(hx:evS E x=some (.v (.map (some m))))(hy:evS E y=some (.q (eY 32 k))) :
  ∀(G:Nat->Nat) (S:Nat->Prop) (a:Act) (w:World),Fr N (denE G E) a->View G S L R F M w->(execOp a.eval o).run prog w = .ok (.value ((SV.t [eGr ((f k).getD nilG),.c (.b (f k).isSome)]).den G)) w:=by
 cases hs:f k with
 | none=>exact runO_noneA2 TG_ok hA k nilG hk hs nilG_zero ho hx hy
 | some s=>exact runO_lookA2 TG_ok hA k s hk hs ho hx hy
end
theorem cmp_less:∀{a b:List UInt8},dI a b=true->cN b a=1
 | [],_,h=>by cases h
 | _::_,[],h=>by cases h
 | x::a,y::b,h=>by
  unfold dI at h;unfold cN;by_cases e:x=y
  .subst e;rw [if_pos rfl] at h;rw [if_neg (iZ x),if_neg (iZ x)];exact cmp_less h
  .rw [if_neg e] at h;have h:x.toNat<y.toNat:=of_decide_eq_true h;rw [if_neg (λh2:y<x=>by have:=nG.1 h2;omega),if_pos (nG.2 h)]
def bytesOf_By(l:List UInt8):Lib.bytesOf (l.map λx=>(x.toNat:Int))=l:=by
 unfold Lib.bytesOf;rw [cU]
 conv=>rhs;rw [<-List.map_id l]
 refine dU λx _=>?_;show bG ((x.toNat:Int).toNat)=x;simp
def run_bytesOf{P:Program}{w:World}{g o c:Nat}{l:List UInt8}(h:w.rangeAt g o (By l)):(jP (.slice (some ⟨g,o,none⟩) l.length c)).run P w = .ok ⟨l.toArray⟩ w:=by have h1:=Lib.run_loadBytesX (P:=P) w (l.map λx=>(x.toNat:Int)) ⟨g,o,none⟩ .empty (λj x hj=>by rw [cM];rw [cQ] at hj;obtain⟨y,hy,rfl⟩:=sZ.1 hj;exact h j _ (by unfold By;rw [cQ,hy];rfl));rw [bytesOf_By,a6] at h1;unfold jP;rw [h1];simp
def run_bcmp{P:Program}{w:World}{g o c g' o' c':Nat}{l m:List UInt8}(h:w.rangeAt g o (By l))(h':w.rangeAt g' o' (By m)):(iK #[.slice (some ⟨g,o,none⟩) l.length c,.slice (some ⟨g',o',none⟩) m.length c']).run P w = .ok (.int .i64 (cN l m)) w:=by
 have e:∀A B:Value,iK #[A,B]=(do
  let a <-jP A
  let b <-jP B
  pure (goInt (Extern.BytealgCompare.cmp a b))):=λ_ _=>rfl
 rw [e];simp only [aG,run_bytesOf h,run_bytesOf h',aC,aI,Lib.cmp_eq];rfl
def run_call_ext{N:Nat}{E:SE}{o:Oper}{f:FuncId}{xs:Array Operand}{ats:Array TypeId}{svs:List SV}{v:Value}{w:World}{G:Nat->Nat}{a:Act}(ha:Fr N (denE G E) a)(ho:o.op = .call { callee:=.value (.func f),args:=xs,argTypes:=ats })(hx:evSs E xs.toList=some svs)(hv:(callFunc f (svs.map (SV.den G)).toArray).run prog w = .ok (.value v) w) :
  (execOp a.eval o).run prog w = .ok (.value v) w:=by
 have h2:=map_eval (args:=(svs.map (SV.den G)).toArray) (ha.evals _ _ (by rw [evSs_ok hx]));obtain⟨dst,op,ty,pos,af,gd⟩:=o;simp only at ho;subst ho
 unfold execOp
 simp only [resolve,Act.eval,h2,Deferred.ofValue,aG,aI,aC,invoke]
 simpa using hv
abbrev HP:=Nat×PairT
section
variable{b:Base}{ops:Array Oper}{Q:Exit->Act->World->Prop}{N:Nat}{E:SE}{L:List LV}{R:List Res}{F M:World->Prop}{G:Nat->Nat}{S:Nat->Prop}{w0:World}{T':List Oper}{Fa:Told}{i k:Nat}{o:Oper}{rest:List (Nat×Oper)}
theorem h_callV{F':World->Prop}{f:FuncId}{y:Operand}{xs:Array Operand}{ats:Array TypeId}{svs:List SV}{caps:List Value}{r:RV}[Pst F'](hst:StW b G S L R F M w0)(args:List Value)(hf:farP i Fa=true)(hg:o.guard=none)(hd:o.dst=some k)(hk:Nat.blt k N=true)(how:Own f)(ho:o.op = .call { callee:=.value y,args:=xs,argTypes:=ats })(hy:evS E y=some (.v (.func (.func f) #[] caps.toArray)))(hx:evSs E xs.toList=some svs)
 (ha:svs.map (SV.den G)++caps=args)(hr:r.sv.Ok)(hs:Spec f args [] F' (one r))(hF:∀G S w,View G S L R F M w->F' w)
 (hn:hS prog ops Q N T' G w0 rest ((k,r.sv)::E) Fa):hS prog ops Q N T' G w0 ((i,o)::rest) E Fa:=by
 refine h_f hst r.sv hr hf (λC0 Q' hC hQ=>λa ha'=>?_) hn;rw [RV.sv_den] at hQ;refine b_call1 (f:=f) (args:=args.toArray) (v:=r.den) (by simp [Region.wanted,hg]) (λw hw=>(hs w (λ_=>False) (λ_=>False) (λ_ h=>h) (λ_ h=>h.elim) (Stb.of_pst (hF _ _ _ (hC w hw).1) λ_ _ h=>h.elim id id)).mono λ_ _ ⟨_,_,h1,_,h2,_⟩=>⟨h1,h2.up λ_ _ h=>h⟩) (λw=>?_) (by rw [hd];exact hQ _ (ha'.put hk _));have:=callV_run (w:=w) how ho hy hx ha';rw [ha] at this;exact this
end
def len8T:List UInt8:=[0]++([1]++(aB 2 2++(aB 4 3++(aB 8 4++(aB 16 5++(aB 32 6++(aB 64 7++aB 128 8)))))))
def len8_pos:∀i,i<256->1<=i->1<=(len8T[i]!).toNat:=by decide +kernel
theorem run_idxS{N:Nat}{E:SE}{o:Oper}{y:Operand}{s:ByteArray}{i:Nat}(ho:o.op = .index 9 (.const (.string s)) y)(hs:s=⟨len8T.toArray⟩)(hi:i<256)(hy:evS E y=some (.v (.int .u8 (i:Int)))) :
  ∀(G:Nat->Nat) (a:Act) (w:World),Fr N (denE G E) a->(execOp a.eval o).run prog w = .ok (.value ((SV.v (.int .u8 ((len8T[i]!).toNat:Int))).den G)) w:=λG a w ha=>by
 have h1:a.eval y = .int .u8 (i:Int):=ha.eval (evS_ok hy);have h2:=run_index_string (P:=prog) w 9 s .u8 (i:Int) underlying9;subst hs
 have hl:len8T.length=256:=by decide +kernel
 have h3:0<=(i:Int)/\(i:Int)<(ByteArray.mk len8T.toArray).size:=⟨by omega,by show(i:Int)<(len8T.toArray.size:Int);rw [List.size_toArray,hl];omega⟩;rw [dif_pos h3] at h2
 have h4:((ByteArray.mk len8T.toArray)[(i:Int).toNat]'(by omega))=len8T[i]!:=by rw [getElem!_pos len8T i (by omega)];rfl
 rw [h4] at h2;have h0:a.eval (.const (.string ⟨len8T.toArray⟩)) = .string ⟨len8T.toArray⟩:=rfl
 unfold execOp
 simp only [ho,h0,h1,aG,h2,aC,aI]
 rfl
abbrev LenX(n:Nat):={ r:Nat // (1<=n->1<=r)/\r<=255 }
theorem len64_S{n:Nat}(hn:n<256):Spec 202 [.int .u64 (n:Int)] [] (λ_=>True) { ret:=λr:LenX n=>.v (.int .i64 ((r.1:Nat):Int)),own:=λ_=>[] }:=by refine zQ [.c (.v (.int .u64 (n:Int)))] 25 func202 rfl (by rw [ntmps202];rfl) (one_ok trivial) λb=>?_;refine zA rfl (zM λK1 hK1=>zA rfl ?_);refine zW ((n:Int)>=4294967296) rfl (λh=>absurd h (by omega)) (λ_=>?_);refine zO (hK1 _ (zM λK2 hK2=>zA rfl ?_));refine zW ((n:Int)>=65536) rfl (λh=>absurd h (by omega)) (λ_=>?_);refine zO (hK2 _ (zM λK3 hK3=>zA rfl ?_));refine zW ((n:Int)>=256) rfl (λh=>absurd h (by omega)) (λ_=>?_);refine zO (hK3 _ (zC rfl λK4 hK4=>?_));refine l_num 21 (n:Int) rfl (by show(n:Int)%256=n;omega) ?_;refine l_op (.v (.int .u8 ((len8T[n]!).toNat:Int))) trivial rfl rfl rfl (run_idxS rfl (by kernel_rfl) hn rfl) ?_;have hp:=len8_pos n hn;have hb:(len8T[n]!).toNat<=255:=Nat.le_of_lt_succ (UInt8.toNat_lt _);generalize (len8T[n]!).toNat=r at *;refine zB rfl ?_;refine l_num 2 (r:Int) rfl (by rw [wrapI (m:=(r:Int)) (r:=(r:Int)) rfl (by omega) (by omega)];exact wrapI (by omega) (by omega) (by omega)) ?_;exact zJ (hK4 _ (zP (zR zY ⟨r,hp,hb⟩ rfl (by decide) rfl rfl rfl (λ_ _ _=>trivial) zU)))
def len_S{n:Nat}(hn:n<256):Spec 146 [.int .u64 (n:Int)] [] (λ_=>True) { ret:=λr:LenX n=>.v (.int .i64 ((r.1:Nat):Int)),own:=λ_=>[] }:=by refine zQ [.c (.v (.int .u64 (n:Int)))] 8 func146 rfl (by rw [ntmps146];rfl) (one_ok trivial) λb=>?_;refine zA rfl (zM λK1 hK1=>s_no rfl (zO (hK1 _ (zC rfl λK2 hK2=>?_))));refine l_call0 [.int .u64 (n:Int)] rfl rfl rfl (λ_ _=>by go_simp) rfl rfl (λ_ _=>rfl) (len64_S hn) (λ_ _ _=>trivial) λr=>?_;refine zB rfl (zJ (hK2 _ ?_));exact zP (zR zY r rfl (by decide) rfl rfl rfl (λ_ _ _=>trivial) zU)
theorem cmp_more:∀{a b:List UInt8},dI a b=true->cN a b = -1
 | [],[],h=>by cases h
 | [],_::_,_=>rfl
 | _::_,[],h=>by cases h
 | x::a,y::b,h=>by
  unfold dI at h;unfold cN;by_cases e:x=y
  .subst e;rw [if_pos rfl] at h;rw [if_neg (iZ x),if_neg (iZ x)];exact cmp_more h
  .rw [if_neg e] at h;rw [if_pos (nG.2 (of_decide_eq_true h))]
theorem cmp_refl:∀a:List UInt8,cN a a=0
 | []=>rfl
 | x::a=>by unfold cN;rw [if_neg (iZ x),if_neg (iZ x)];exact cmp_refl a
def rd_bytes{A:Option Addr}{c:Nat}{l:List UInt8}{w:World}(h:Rd 1 eB A c l w)(h0:0<l.length):∃g o,A=some ⟨g,o,none⟩/\w.rangeAt g o (By l):=by obtain⟨g,o,e,_,hr⟩:=h.2.2.2.2 h0;refine⟨g,o,e,λj v hv=>?_⟩;have hlt:=(aP.1 hv).1;rw [By_len] at hlt;have hx:l[j]?=some l[j]:=aK hlt;have hr:=hr j l[j] hx 0 (.int .u8 (l[j].toNat:Int)) rfl;rw [fM,cD] at hr;rw [hr];rw [<-hv];simp [By,hx]
theorem bCmp_S{A B:Option Addr}{c d:Nat}{l m:List UInt8}(hl:0<l.length)(hm:0<m.length):Spec 41 [.slice A l.length c,.slice B m.length d] [] (λw=>Rd 1 eB A c l w/\Rd 1 eB B d m w) (one (.v (.int .i64 (cN l m)))):=by
 refine zQ [.c (.v (.slice A l.length c)),.c (.v (.slice B m.length d))] 8 func41 rfl (by rw [ntmps41];rfl) (two_ok trivial trivial) λb=>?_;refine zA rfl (zC rfl λK hK=>?_);refine l_opV (.v (.int .i64 (cN l m))) trivial rfl rfl rfl (λG S a w ha hw=>run_call_ext ha rfl rfl ?_) ?_
 .obtain⟨g1,o1,rfl,h1⟩:=rd_bytes hw.fact.1 hl;obtain⟨g2,o2,rfl,h2⟩:=rd_bytes hw.fact.2 hm;have h:=run_bcmp (P:=prog) (c:=c) (c':=d) h1 h2;have h2:=run_callFunc_extern func87 (by kernel_rfl) (by kernel_rfl) (by kernel_rfl) (e:=iK) (by kernel_rfl) #[.slice (some ⟨g1,o1,none⟩) l.length c,.slice (some ⟨g2,o2,none⟩) m.length d] w;rw [h] at h2;exact h2
 refine zB rfl (zJ (hK _ ?_));exact zP (zR zY () rfl (by decide) rfl rfl rfl (λ_ _ _=>trivial) zU)
def gr_idB{g t:Nat}{x:GrV}{w:World}(h:ObjF g t x.parts w):Rd 1 eB (some ⟨g,0,none⟩) 32 x.id w:=rd_in h.1 x.h32 (by decide) λj v hj=>by
 have e:(catP x.parts).toList=By x.id++[.slice x.k.A x.k.l.length x.k.c,.slice x.U x.more.length x.u]:=by simp [catP,GrV.parts,Pt.cells,SC.den]
 rw [<-Array.getElem?_toList,e,aX,cR (aP.1 hj).1];exact hj
theorem growth1_S(x y:GrV):Spec 63 [(eGr x).den,(eGr y).den] [] (λ_=>True) (one (.v (.int .i64 (cN x.id y.id)))):=by refine zQ [eGr x,eGr y] 10 func63 rfl (by rw [ntmps63];rfl) (two_ok x.parts_ok y.parts_ok) λb=>?_;refine zC rfl λK0 hK0=>zB rfl (l_give 3 (E':=[(2,.a 2 0)]) rfl ⟨rfl,trivial⟩ λg3=>l_objOut 0 rfl (l_give 2 (E':=[(3,.v (.pointer (some ⟨g3,0,none⟩)))]) rfl ⟨rfl,trivial⟩ λg2=>l_objOut 0 rfl (zJ (hK0 _ ?_))));have hb:=bCmp_S (A:=some ⟨g2,0,none⟩) (B:=some ⟨g3,0,none⟩) (c:=32) (d:=32) (l:=x.id) (m:=y.id) (by rw [x.h32];decide) (by rw [y.h32];decide);rw [x.h32,y.h32] at hb;refine s_regH 5 (by decide) (by kernel_rfl) (by kernel_rfl) λK hK G S w0 hst=>?_;refine zV hst rfl (h_op hst (.v (.slice (some ⟨g2,0,none⟩) 32 32)) trivial rfl rfl rfl rfl (runO_allQ rfl underlying47 rfl rfl) (zV hst rfl (h_op hst (.v (.slice (some ⟨g3,0,none⟩) 32 32)) trivial rfl rfl rfl rfl (runO_allQ rfl underlying47 rfl rfl) ?_)));refine h_callS (F':=λw=>Rd 1 eB (some ⟨g2,0,none⟩) 32 x.id w/\Rd 1 eB (some ⟨g3,0,none⟩) 32 y.id w) (r:=.v (.int .i64 (cN x.id y.id))) hst [.slice (some ⟨g2,0,none⟩) 32 32,.slice (some ⟨g3,0,none⟩) 32 32] rfl rfl rfl rfl (λ_ _=>by go_simp) rfl rfl (λ_=>rfl) trivial hb (λ_ _ _ hv=>⟨gr_idB hv.fact.1,gr_idB hv.fact.2.1⟩) ?_;refine h_end hst (zB rfl (zJ (hK _ ?_)));exact zP (zR zY () rfl (by decide) rfl rfl rfl (λ_ _ _=>trivial) zU)
abbrev GrS(A:Option Addr)(c:Nat)(l:List GrV):Res:=OwnS 0 60 34 eGr A c l
abbrev cmpG:Value:=.func (.func 63) #[] #[]
abbrev ltG(a b:GrV):Prop:=dI a.id b.id=true
structure InX where
  p:List GrV
  x:GrV
  r:List GrV
  q:List GrV
def InX.l(s:InX):List GrV:=s.p++s.x::(s.r++s.q)
structure InX.Ok(vs:List GrV)(i:Nat)(s:InX):Prop where
  perm:s.l.Perm vs
  i:s.p.length+s.r.length=i
  pr:(s.p++s.r).Pairwise ltG
  xr:∀y∈s.r,ltG s.x y
def InX.swap(p:List GrV)(y x:GrV)(r q:List GrV):((InX.l ⟨p++[y],x,r,q⟩).set (p.length+1) y).set p.length x=InX.l ⟨p,x,y::r,q⟩/\((InX.l ⟨p++[y],x,r,q⟩).set p.length x).set (p.length+1) y=InX.l ⟨p,x,y::r,q⟩:=by constructor<;>simp [InX.l]
def InX.at_(s:InX):s.l[s.p.length]?=some s.x:=by simp [InX.l]
def InX.at1(p:List GrV)(y x:GrV)(r q:List GrV):(InX.l ⟨p++[y],x,r,q⟩)[p.length]?=some y:=by simp [InX.l]
def InX.step{vs:List GrV}{i:Nat}{p:List GrV}{y x:GrV}{r q:List GrV}(h:InX.Ok vs i ⟨p++[y],x,r,q⟩)(hxy:ltG x y):InX.Ok vs i ⟨p,x,y::r,q⟩:=by
 refine⟨?_,?_,?_,λz hz=>?_⟩
 .refine List.Perm.trans ?_ h.perm;show(p++x::(y::r++q)).Perm ((p++[y])++x::(r++q));rw [aR];exact List.Perm.append_left p (kU y x (r++q))
 .have:=h.i;simp only [aA,aY,List.length_nil] at this ⊢;omega
 .have:=h.pr;simpa [aR] using this
 .rcases aH.1 hz with rfl|hz
  .exact hxy
  .exact h.xr z hz
theorem InX.stay{vs:List GrV}{i:Nat}{s:InX}(h:s.Ok vs i)(hx:∀y,s.p.getLast?=some y->ltG y s.x):(s.l.take (i+1)).Pairwise ltG:=by
 obtain⟨p,x,r,q⟩:=s;have hi:=h.i;have e:(InX.l ⟨p,x,r,q⟩).take (i+1)=p++x::r:=by
  have h1:(p++x::r).length=i+1:=by simp only [aA,aY];show p.length+(r.length+1)=_;have:p.length+r.length=i:=hi;omega
  show(p++x::(r++q)).take (i+1)=_;rw [show p++x::(r++q)=(p++x::r)++q by simp,<-h1,List.take_left]
 rw [e];have hpr:(p++r).Pairwise ltG:=h.pr;obtain⟨h1,h2,h3⟩:=lP.1 hpr;refine lP.2 ⟨h1,List.pairwise_cons.2 ⟨h.xr,h2⟩,λa ha b hb=>?_⟩;rcases aH.1 hb with rfl|hb
 .rcases uN p with rfl|⟨p',y,rfl⟩
  .cases ha
  .have hy:=hx y (by simp)
   rw [uO] at ha h1;rcases bO.1 ha with ha|ha
   .exact gL ((lP.1 h1).2.2 a ha y (.head _)) hy
   .rw [aE.1 ha];exact hy
 .exact h3 a ha b hb
section
variable{α:Type}{fe:α->SQ}{l:List α}{P:Program}{b:Base}{ops:Array Oper}{Q:Exit->Act->World->Prop}{N:Nat}{E:SE}{L:List LV}{R:List Res}{F M:World->Prop}{o:Oper}{rest:List Oper}{t e:TypeId}{x z:Operand}{lo c sz g:Nat}
def l_stEl(i j:Nat)(u u':α)(hi:R[i]?=some (OwnS lo e sz fe (some ⟨g,0,none⟩) c l))(hg:o.guard=none)(hd:o.dst=none)(ho:o.op = .store t x z)(hx:evS E x=some (.v (.pointer (some ⟨g,sz*j+0,none⟩))))(hz:evS E z=some (.q (fe u')))(hj:l[j]?=some u)(ht:(P.info? t).map (·.size)=some sz)(hu:(fe u).cl.length=sz)(hu':OkP (fe u').parts1/\(fe u').cl.length=sz)
 (hc:lS P b ops Q N rest ⟨E,L,R.set i (OwnS lo e sz fe (some ⟨g,0,none⟩) c (l.set j u')),F,M⟩):lS P b ops Q N (o::rest) ⟨E,L,R,F,M⟩ :=
 l_stFd i j 0 sz u u' hi hg hd ho hx hz hj ht hu'.2 (SQ.cl_one hu'.1) (by rw [c8 (by omega)];simp) (by omega) hu' hc
end
def InX.start{vs l:List GrV}{i:Nat}{x:GrV}(hp:l.Perm vs)(hs:(l.take i).Pairwise ltG)(hx:l[i]?=some x):InX.l ⟨l.take i,x,[],l.drop (i+1)⟩=l/\InX.Ok vs i ⟨l.take i,x,[],l.drop (i+1)⟩:=by
 have hlt:=(aP.1 hx).1;have e:InX.l ⟨l.take i,x,[],l.drop (i+1)⟩=l:=by
  show l.take i++x::([]++l.drop (i+1))=l;rw [cP];have h1:l.drop i=x::l.drop (i+1):=by rw [dX hlt,(aP.1 hx).2]
  rw [<-h1,bX]
 refine⟨e,by rw [e];exact hp,?_,by rw [bB];exact hs,λy hy=>(by cases hy)⟩;show(l.take i).length+0=i;rw [aV];omega
theorem insG_S{A:Option Addr}{c:Nat}(vs:List GrV)(hap:(vs.map GrV.id).Nodup)(h12:vs.length<=12):Spec 193 [.slice A vs.length c,.int .i64 0,.int .i64 (vs.length:Int),cmpG] [GrS A c vs] (λ_=>True) { ret:=λ_=>.t [],own:=λx:{ l:List GrV // l.Perm vs/\l.Pairwise ltG }=>[GrS A c x.1] }:=by
 refine zQ [.c (.v (.slice A vs.length c)),.c (.v (.int .i64 0)),.c (.v (.int .i64 (vs.length:Int))),.c (.v cmpG)] 53 func193 rfl (by rw [ntmps193];rfl) (more_ok trivial (more_ok trivial (two_ok trivial trivial))) λb=>?_;refine zA rfl (zN ?_);let F:Nat×List GrV->Env:=λs=>⟨[(8,.v (.int .i64 (s.1:Int))),(0,.v (.slice A vs.length c)),(1,.v (.int .i64 0)),(2,.v (.int .i64 (vs.length:Int))),(3,.v cmpG)],[],[GrS A c s.2],λ_=>True,λ_=>True⟩;refine c_weak (e':=F (1,vs)) ⟨zE rfl, trivial, .refl _,λ_ h _=>trivial,λ_ h=>h⟩ (s_loop (λs=>vs.length-s.1) F (λs=>1<=s.1/\s.2.Perm vs/\(s.2.take s.1).Pairwise ltG) ?_ (1,vs) ⟨aF _,.refl _,by cases vs<;>simp⟩);rintro⟨i,l⟩ ⟨hi,hp,hso⟩;dsimp only at hi hp hso;have hll:=hp.length_eq;refine zM λK1 hK1=>zA rfl ?_;refine zW ((i:Int)<(vs.length:Int)) rfl (λhlt=>?_) (λhge=>?_)
 .have hlt:i<vs.length:=by omega
  obtain⟨x,hx⟩:∃x,l[i]?=some x:=⟨_,aK (by omega)⟩;obtain⟨hl0,hok0⟩:=InX.start hp hso hx;refine zO (hK1 _ (zM λK2 hK2=>zN (zA rfl (zN ?_))));let F2:InX->Env:=λs=>⟨[(9,.v (.int .i64 (s.p.length:Int))),(8,.v (.int .i64 (i:Int))),(0,.v (.slice A vs.length c)),(1,.v (.int .i64 0)),(2,.v (.int .i64 (vs.length:Int))),(3,.v cmpG)],[],[GrS A c s.l],λ_=>True,λ_=>True⟩;have hti:(l.take i).length=i:=by rw [aV];omega
  refine c_weak (e':=F2 ⟨l.take i,x,[],l.drop (i+1)⟩) ⟨⟨by show lookS _ 9=some (.v (.int .i64 (((l.take i).length:Nat):Int)));rw [hti];rfl,rfl,rfl,rfl,rfl,rfl,trivial⟩,trivial,by show lG _ [GrS A c (InX.l ⟨l.take i,x,[],l.drop (i+1)⟩)];rw [hl0],λ_ h _=>trivial,λ_ h=>h⟩ (s_loop (λs=>s.p.length) F2 (λs=>s.Ok vs i) ?_ ⟨l.take i,x,[],l.drop (i+1)⟩ hok0);rintro⟨p,x,r,q⟩ hok;have hsl:(InX.l ⟨p,x,r,q⟩).length=vs.length:=hok.perm.length_eq;have hpi:p.length+r.length=i:=hok.i;have hstay:(∀y,p.getLast?=some y->ltG y x)->∀e,Weak e (F2 ⟨p,x,r,q⟩)->kS b K2 53 e:=by intro hst e hw;refine k_weak hw (hK2 _ (zD rfl ?_));exact zX (i+1,InX.l ⟨p,x,r,q⟩) ⟨by show 1<=i+1;omega,hok.perm,InX.stay hok hst⟩ (by show vs.length-(i+1)<vs.length-i;omega) ⟨⟨congrArg some (congrArg SV.v (congrArg (cK .i64) (wrapI rfl (by omega) (by omega)))),rfl,rfl,rfl,rfl,trivial⟩,trivial,.refl _,λ_ h _=>h,λ_ h=>h⟩
  refine zM λK3 hK3=>?_;rcases uN p with rfl|⟨p,y,hpe⟩
  .refine s_regH 17 (by decide) (by kernel_rfl) (by kernel_rfl) λK4 hK4 G S w0 hst=>?_;refine zV hst rfl ?_;refine h_is 21 false rfl (by simp) ?_;refine zV hst rfl (h_end hst (zJ (hK4 _ (s_no rfl (s_exit (zS (zS (k_out ?_))))))));exact hstay (λy hy=>by cases hy) _ ⟨zE rfl, trivial, .refl _,λ_ h _=>h,λ_ h=>h⟩
  rw [uO] at hpe;subst hpe;have hpl:(p++[y]).length=p.length+1:=by simp
  rw [hpl] at hpi;have hne:x.id≠y.id:=by
   have h1:=(hok.perm.map GrV.id).nodup_iff.2 hap;intro e;have h2:(InX.l ⟨p++[y],x,r,q⟩).map GrV.id=p.map GrV.id++y.id::x.id::((r++q).map GrV.id):=by simp [InX.l]
   rw [h2] at h1;have h3:=(sF.1 h1).2.1;exact(fH.1 h3).1 (by rw [e];exact .head _)
  have hw1:IntKind.i64.wrap (((p++[y]).length:Int)-1)=(p.length:Int):=wrapI (by rw [hpl];omega) (by omega) (by omega);obtain⟨v,t,hv,ht,hty,htn⟩:∃(v:Int) (t:Bool),cN x.id y.id=v/\decide (v<0)=t/\(t=true->ltG x y)/\(t=false->ltG y x):=by
   cases hxy:dI x.id y.id with
   | true=>exact⟨-1,true,cmp_more hxy,rfl,λ_=>hxy,λh=>by cases h⟩
   | false =>
    have hyx:dI y.id x.id=true:=gM (by rw [x.h32,y.h32]) hxy hne;exact⟨1,false,cmp_less hyx,rfl,λh=>(by cases h),λ_=>hyx⟩
  have hlen:=vs.length;refine s_regH 17 (by decide) (by kernel_rfl) (by kernel_rfl) λK4 hK4 G S w0 hst=>?_;refine zV hst rfl ?_;refine h_is 21 true rfl (by rw [hpl];exact decide_eq_true (by omega)) ?_;refine zV hst rfl (g_elem (b:=b) zY hst rfl rfl rfl (p++[y]).length rfl (InX.at_ ⟨p++[y],x,r,q⟩) hsl.symm rfl (rd_own 0 rfl) (h_auto (Fa:=[]) zY hst rfl (g_elem (b:=b) zY hst rfl rfl rfl p.length hw1 (InX.at1 p y x r q) hsl.symm rfl (rd_own 0 rfl) (h_auto (Fa:=[]) zY hst rfl ?_))));refine h_callV (Fa:=[]) (F':=λ_=>True) (caps:=[]) (r:=.v (.int .i64 (cN x.id y.id))) hst [(eGr x).den,(eGr y).den] rfl rfl rfl rfl (λ_ _=>by go_simp) rfl rfl rfl rfl trivial (growth1_S x y) (λ_ _ _ _=>trivial) ?_;refine h_num 32 v rfl hv (zV hst rfl (h_is 34 t rfl ht (h_end hst (zJ (hK4 _ ?_)))));cases t with
  | false =>
   refine s_no rfl (s_exit (zS (zS (k_out ?_))));exact hstay (λz hz=>by rw [List.getLast?_concat] at hz;rw [<-bL hz];exact htn rfl) _ ⟨zE rfl, trivial, .refl _,λ_ h _=>h,λ_ h=>h⟩
  | true =>
  have hxy:=hty rfl;refine s_yes rfl (zO (hK3 _ ?_));refine s_where 0 rfl (by rw [hsl];omega) λg hA=>?_;subst hA;refine zM λK5 hK5=>zN ?_;have hfin:∀e,Weak e ⟨[(9,.v (.int .i64 ((p++[y]).length:Int))),(8,.v (.int .i64 (i:Int))),(0,.v (.slice (some ⟨g,0,none⟩) vs.length c)),(1,.v (.int .i64 0)),(2,.v (.int .i64 (vs.length:Int))),(3,.v cmpG)],[],[GrS (some ⟨g,0,none⟩) c (InX.l ⟨p,x,y::r,q⟩)],λ_=>True,λ_=>True⟩->kS b K5 53 e:=by intro e hw;refine k_weak hw (hK5 _ (zD rfl ?_));exact zX ⟨p,x,y::r,q⟩ (InX.step hok hxy) (by show p.length<(p++[y]).length;omega) ⟨⟨congrArg (λz=>some (SV.v (.int .i64 z))) hw1,rfl,rfl,rfl,rfl,rfl,trivial⟩,trivial,.refl _,λ_ h _=>h,λ_ h=>h⟩
  have hsw:=(InX.swap p y x r q).1;have hxj:(InX.l ⟨p++[y],x,r,q⟩)[p.length+1]?=some x:=by rw [<-hpl];exact InX.at_ ⟨p++[y],x,r,q⟩
  have hyj:((InX.l ⟨p++[y],x,r,q⟩).set (p.length+1) y)[p.length]?=some y:=by rw [List.getElem?_set_ne (by omega)];exact InX.at1 p y x r q
  refine s_anyP [0,1,2,3,4,5,6,7,8,10,11,12] 16 2 (InvL []) (by kernel_rfl) rfl (λ_ _ _ _ h=>by cases h) ?_;refine p_front zY 0 (by kernel_rfl) rfl rfl rfl rfl rfl rfl (λ_ h=>by cases h) ?_;refine p_front zY 1 (by kernel_rfl) rfl rfl rfl rfl rfl rfl (λ_ h=>by cases h) ?_;refine p_front zY 2 (by kernel_rfl) rfl rfl rfl rfl rfl rfl (λ_ h=>by cases h) ?_;refine p_front zY 3 (by kernel_rfl) rfl rfl rfl rfl rfl rfl (λ_ h=>by cases h) ?_;refine p_front zY 4 (by kernel_rfl) rfl rfl rfl rfl rfl rfl (λ_ h=>by cases h) ?_;refine p_front zY 5 (by kernel_rfl) rfl rfl rfl rfl rfl rfl (λ_ h=>by cases h) ?_;refine p_front zY 6 (by kernel_rfl) rfl rfl rfl rfl rfl rfl (λ_ h=>by cases h) ?_;refine p_front zY 7 (by kernel_rfl) rfl rfl rfl rfl rfl rfl (λ_ h=>by cases h) ?_;refine p_frontO (.v (.pointer (some ⟨g,0+34*p.length,none⟩))) trivial 8 (by kernel_rfl) rfl rfl rfl rfl rfl (runO_ixS p.length rfl underlying54 rfl rfl (congrArg (λz=>some (SV.v (.int .i64 z))) hw1) (by omega)) ?_;refine p_front zY 10 (by kernel_rfl) rfl rfl rfl rfl rfl rfl (λ_ h=>by cases h) ?_;refine p_front zY 11 (by kernel_rfl) rfl rfl rfl rfl rfl rfl (λ_ h=>by cases h) ?_;refine p_frontO (.v (.pointer (some ⟨g,0+34*(p.length+1),none⟩))) trivial 12 (by kernel_rfl) rfl rfl rfl rfl rfl (runO_ixS (p.length+1) rfl underlying54 rfl rfl (congrArg (λz=>some (SV.v (.int .i64 z))) (by rw [hpl])) (by omega)) ?_;refine p_step2 9 13 (by kernel_rfl) rfl rfl (λKa hKa=>?_) (λKa hKa=>?_)
  .refine l_opV (.q (eGr y)) y.parts_ok rfl rfl rfl (run_ldEl (fe:=eGr) (a:=0) (off:=0) (j:=p.length) zY rfl rfl (InX.at1 p y x r q) rfl y.parts_ok (rd_own 0 rfl)) ?_;refine zJ (hKa _ (λ_ _ _ _ h=>by cases h) ?_);refine p_step 13 (by kernel_rfl) rfl λKb hKb=>?_;refine l_opV (.q (eGr x)) x.parts_ok rfl rfl rfl (run_ldEl (fe:=eGr) (a:=0) (off:=0) (j:=p.length+1) zY rfl rfl hxj rfl x.parts_ok (rd_own 0 rfl)) ?_;refine zJ (hKb _ (λ_ _ _ _ h=>by cases h) ?_);refine p_step 14 (by kernel_rfl) rfl λKc hKc=>?_;refine l_op (.v (.pointer (some ⟨g,0+34*(p.length+1),none⟩))) trivial rfl rfl rfl (runO_ixS (p.length+1) rfl underlying54 rfl rfl (congrArg (λz=>some (SV.v (.int .i64 z))) (by rw [hpl])) (by omega)) ?_;refine zJ (hKc _ (λ_ _ _ _ h=>by cases h) ?_);refine p_step 15 (by kernel_rfl) rfl λKd hKd=>?_;refine l_stEl 0 (p.length+1) x y rfl rfl rfl rfl (congrArg (λz:Nat=>some (SV.v (.pointer (some ⟨g,z,none⟩)))) (show 0+34*(p.length+1)=34*(p.length+1)+0 by omega)) rfl hxj (by kernel_rfl) (eGr_ok x).2 (eGr_ok y) ?_;refine zJ (hKd _ (λ_ _ _ _ h=>by cases h) ?_);refine p_tail [16,17] (by kernel_rfl) rfl ?_;refine l_op (.v (.pointer (some ⟨g,0+34*p.length,none⟩))) trivial rfl rfl rfl (runO_ixS p.length rfl underlying54 rfl rfl (congrArg (λz=>some (SV.v (.int .i64 z))) hw1) (by omega)) ?_;refine l_stEl 0 p.length y x rfl rfl rfl rfl (congrArg (λz:Nat=>some (SV.v (.pointer (some ⟨g,z,none⟩)))) (show 0+34*p.length=34*p.length+0 by omega)) rfl hyj (by kernel_rfl) (eGr_ok y).2 (eGr_ok x) ?_;refine zJ (hfin _ ⟨⟨rfl,rfl,rfl,rfl,rfl,rfl,trivial⟩,trivial,?_,λ_ h _=>h, zU⟩);show lG [GrS (some ⟨g,0,none⟩) c _] _;rw [hsw]
  .refine l_opV (.q (eGr x)) x.parts_ok rfl rfl rfl (run_ldEl (fe:=eGr) (a:=0) (off:=0) (j:=p.length+1) zY rfl rfl hxj rfl x.parts_ok (rd_own 0 rfl)) ?_;refine zJ (hKa _ (λ_ _ _ _ h=>by cases h) ?_);refine p_step 9 (by kernel_rfl) rfl λKb hKb=>?_;refine l_opV (.q (eGr y)) y.parts_ok rfl rfl rfl (run_ldEl (fe:=eGr) (a:=0) (off:=0) (j:=p.length) zY rfl rfl (InX.at1 p y x r q) rfl y.parts_ok (rd_own 0 rfl)) ?_;refine zJ (hKb _ (λ_ _ _ _ h=>by cases h) ?_);refine p_step 14 (by kernel_rfl) rfl λKc hKc=>?_;refine l_op (.v (.pointer (some ⟨g,0+34*(p.length+1),none⟩))) trivial rfl rfl rfl (runO_ixS (p.length+1) rfl underlying54 rfl rfl (congrArg (λz=>some (SV.v (.int .i64 z))) (by rw [hpl])) (by omega)) ?_;refine zJ (hKc _ (λ_ _ _ _ h=>by cases h) ?_);refine p_step 15 (by kernel_rfl) rfl λKd hKd=>?_;refine l_stEl 0 (p.length+1) x y rfl rfl rfl rfl (congrArg (λz:Nat=>some (SV.v (.pointer (some ⟨g,z,none⟩)))) (show 0+34*(p.length+1)=34*(p.length+1)+0 by omega)) rfl hxj (by kernel_rfl) (eGr_ok x).2 (eGr_ok y) ?_;refine zJ (hKd _ (λ_ _ _ _ h=>by cases h) ?_);refine p_tail [16,17] (by kernel_rfl) rfl ?_;refine l_op (.v (.pointer (some ⟨g,0+34*p.length,none⟩))) trivial rfl rfl rfl (runO_ixS p.length rfl underlying54 rfl rfl (congrArg (λz=>some (SV.v (.int .i64 z))) hw1) (by omega)) ?_;refine l_stEl 0 p.length y x rfl rfl rfl rfl (congrArg (λz:Nat=>some (SV.v (.pointer (some ⟨g,z,none⟩)))) (show 0+34*p.length=34*p.length+0 by omega)) rfl hyj (by kernel_rfl) (eGr_ok y).2 (eGr_ok x) ?_;refine zJ (hfin _ ⟨⟨rfl,rfl,rfl,rfl,rfl,rfl,trivial⟩,trivial,?_,λ_ h _=>h, zU⟩);show lG [GrS (some ⟨g,0,none⟩) c _] _;rw [hsw]
 .refine s_exit (zS (zS (k_out ?_)))
  refine zR zY (⟨l,hp,?_⟩:{ l:List GrV // l.Perm vs/\l.Pairwise ltG }) rfl (by decide) rfl rfl rfl (λ_ _ _=>trivial) zU
  rwa [bK (by omega)] at hso
abbrev srtP(A:Option Addr)(c:Nat)(vs:List GrV):Post { l:List GrV // l.Perm vs/\l.Pairwise ltG }:={ ret:=λ_=>.t [],own:=λx=>[GrS A c x.1] }
theorem pdqG_S{A:Option Addr}{c:Nat}(vs:List GrV)(hap:(vs.map GrV.id).Nodup)(h12:vs.length<=12)(r:Nat):Spec 145 [.slice A vs.length c,.int .i64 0,.int .i64 (vs.length:Int),.int .i64 (r:Int),cmpG] [GrS A c vs] (λ_=>True) (srtP A c vs):=by refine zQ [.c (.v (.slice A vs.length c)),.c (.v (.int .i64 0)),.c (.v (.int .i64 (vs.length:Int))),.c (.v (.int .i64 (r:Int))),.c (.v cmpG)] 148 func145 rfl (by rw [ntmps145];rfl) (more_ok trivial (more_ok trivial (more_ok trivial (two_ok trivial trivial)))) λb=>?_;refine zA rfl (zA rfl (zN ?_));let F:Unit->Env:=λ_=>⟨[(11,.v (.bool true)),(10,.v (.bool true)),(0,.v (.slice A vs.length c)),(1,.v (.int .i64 0)),(2,.v (.int .i64 (vs.length:Int))),(3,.v (.int .i64 (r:Int))),(4,.v cmpG)],[],[GrS A c vs],λ_=>True,λ_=>True⟩;refine c_weak (e':=F ()) ⟨zE rfl, trivial, .refl _,λ_ h _=>trivial,λ_ h=>h⟩ (s_loop (λ_=>0) F (λ_=>True) ?_ () trivial);intro _ _;refine zN (zA rfl ?_);refine c_weak (e':=⟨[(12,.v (.int .i64 (vs.length:Int))),(0,.v (.slice A vs.length c)),(1,.v (.int .i64 0)),(2,.v (.int .i64 (vs.length:Int))),(4,.v cmpG)],[],[GrS A c vs],λ_=>True,λ_=>True⟩) ⟨⟨congrArg some (congrArg SV.v (congrArg (cK .i64) (wrapI (m:=((vs.length:Nat):Int)-0) (by omega) (by omega) (by omega)))),rfl,rfl,rfl,rfl,trivial⟩,trivial,.refl _,λ_ h _=>h, zU⟩ ?_;refine zM λK1 hK1=>zA rfl ?_;refine zW ((vs.length:Int)<=12) rfl (λ_=>?_) (λh=>absurd h (by omega));refine zC rfl λK2 hK2=>?_;refine l_callA (own:=[GrS A c vs]) (R':=[]) [.slice A vs.length c,.int .i64 0,.int .i64 (vs.length:Int),cmpG] rfl rfl rfl (λ_ _=>by go_simp) rfl rfl (λ_ _=>rfl) (insG_S vs hap h12) (λ_ _ _=>trivial) λx=>?_;exact zJ (hK2 _ (zP (zR zY x rfl (by decide) rfl rfl rfl (λ_ _ _=>trivial) zU)))
theorem sortG_S{A:Option Addr}{c:Nat}(vs:List GrV)(hap:(vs.map GrV.id).Nodup)(h12:vs.length<=12):Spec 105 [.slice A vs.length c,cmpG] [GrS A c vs] (λ_=>True) (srtP A c vs):=by refine zQ [.c (.v (.slice A vs.length c)),.c (.v cmpG)] 14 func105 rfl (by rw [ntmps105];rfl) (two_ok trivial trivial) λb=>?_;refine zA rfl (s_lit (zB rfl ?_));refine l_num 10 (vs.length:Int) rfl (by show((vs.length:Nat):Int)%18446744073709551616=_;omega) ?_;refine l_call0 [.int .u64 (vs.length:Int)] rfl rfl rfl (λ_ _=>by go_simp) rfl rfl (λ_ _=>rfl) (len_S (by omega)) (λ_ _ _=>trivial) λr=>?_;refine zB rfl ?_;refine l_callA (own:=[GrS A c vs]) (R':=[]) [.slice A vs.length c,.int .i64 0,.int .i64 (vs.length:Int),.int .i64 ((r.1:Nat):Int),cmpG] rfl rfl rfl (λ_ _=>by go_simp) rfl rfl (λ_ _=>rfl) (pdqG_S vs hap h12 r.1) (λ_ _ _=>trivial) λx=>?_;refine zJ ?_;exact zR zY x rfl (by decide) rfl rfl rfl (λ_ _ _=>trivial) zU
section
variable{ro:Option Nat}{n:Nat}{b:Base}{ops:Array Oper}{Q:Exit->Act->World->Prop}{N:Nat}{e e':Env}{E:SE}{L:List LV}{R1 R':List Res}{F M:World->Prop}{l:List Oper}
def t_star(h:tS ro n b ops Q N l ⟨E,L,StarR R1::R',F,M⟩):tS ro n b ops Q N l ⟨E,L,R1++R',F,M⟩:=λa w ⟨G,S,h1,h2,h3⟩=>h a w ⟨G,S,h1,h2,{ h3 with res:=starR.2 h3.res }⟩
def t_weak(hw:Weak e e')(h:tS ro n b ops Q N l e'):tS ro n b ops Q N l e:=λa w hs=>h a w (hs.weak hw)
end
abbrev EnX:=List UInt8×HSeg
structure DocV where
  ep:Int
  A:Option Addr
  c:Nat
  es:List EnX
def nextI(i n:Nat)(h:n<=9223372036854775807)(hi:i<n):some (SV.v (.int .i64 (IntKind.i64.wrap ((i:Int)+1))))=some (SV.v (.int .i64 ((i+1:Nat):Int))):=by rw [wrapI (m:=(i:Int)+1) (r:=((i+1:Nat):Int)) (by omega) (by omega) (by omega)]
structure BaV where
  A:Option Addr
  c:Nat
  B:Option Addr
  d:Nat
  l:List UV
abbrev TC:MapT Int Int:={ t:=76,kt:=3,vt:=3,kv:=eI,vv:=eI }
abbrev okI(n:Int):Prop:=(Lit.int .i64 n).wf=true
def TC_ok:TC.Ok okI:=mapI_ok underlying76 underlying3 rfl
theorem zeroI:∀w,(zeroValue TC.vt).run prog w = .ok (TC.V 0) w:=λw=>by
 have hi:(prog.info? 3).bind (·.zero)=some (.int .i64 0):=by kernel_rfl
 unfold zeroValue typeInfo;cases h:prog.info? 3 with
 | none=>rw [h] at hi;cases hi
 | some i =>
  rw [h] at hi;have hi:i.zero=some (.int .i64 0):=hi
  simp [h,hi]
  rfl
theorem runO_count{N:Nat}{E:SE}{L:List LV}{R:List Res}{F M:World->Prop}{o:Oper}{x y:Operand}{m n:Nat}{f:Int->Option Int}(hA:∀G S w,View G S L R F M w->MapA TC okI m n f w)(k:Int)(hk:okI k)(ho:o.op = .lookup TC.t x y false)(hx:evS E x=some (.v (.map (some m))))(hy:evS E y=some (.q (eI k))) :
  ∀(G:Nat->Nat) (S:Nat->Prop) (a:Act) (w:World),Fr N (denE G E) a->View G S L R F M w->(execOp a.eval o).run prog w = .ok (.value ((SV.q (eI ((f k).getD 0))).den G)) w:=by
 cases hs:f k with
 | none=>exact runO_noneA TC_ok hA k 0 hk hs zeroI ho hx hy
 | some s=>exact runO_lookA TC_ok hA k s hk hs ho hx hy
section
variable{a:Act}{G:Nat->Nat}{P:Program}{ro:Option Nat}{n:Nat}{Q:Exit->Act->World->Prop}{ops:Array Oper}{K:Act->World->Prop}{l':List Oper}{b:Base}{N:Nat}{e:Env}{E:SE}{L:List LV}{R R':List Res}{F M:World->Prop}{l:List Oper}{id:Nat}
theorem list_app[NoOut Q](hK:∀a w,K a w->wpListIn (FW ro) n P ops Q l' a w):∀{p:List Oper} {a:Act} {w:World},noDef p=true->wpList P ops (Exit.then K Q) p a w->wpListIn (FW ro) n P ops Q (p++l') a w
 | [],a,w,_,h=>hK a w h
 | o::p,a,w,hd,h=>by
  have hd':noDef p=true:=by unfold noDef at hd ⊢;rw [List.all_cons,aM] at hd;exact hd.2
  unfold wpList at h;show wpListIn (FW ro) n P ops Q (o::(p++l')) a w;unfold wpListIn;split
  .rename_i hw;rw [if_pos hw] at h;have h:o.wp P a w (λa' w'=>wpList P ops (Exit.then K Q) p a' w') Q\/(o.asks P a w/\LetsOut Q):=h;exact op_in (noDef_mem hd List.mem_cons_self) (h.imp (Oper.wp_mono λa' w' h'=>list_app hK hd' h') id)
  .rename_i hw;rw [if_neg hw] at h;exact⟨λ_ _=>trivial,list_app hK hd' h⟩
def r_cut[NoOut Q](m:Nat)(l':List Oper)(hl:l.drop m=l')(hd:noDef (l.take m)=true)(h:∀K:Act->World->Prop,(∀e',tS ro n b l.toArray Q N l' e'->kS b K N e')->lS prog b l.toArray (Exit.then K Q) N (l.take m) e):rS ro n b (.region id l.toArray false) Q N e:=λa w hs=>by
 refine wpIn_region_lit ?_;have h1:=h (λa w=>wpListIn (FW ro) n prog l.toArray Q l' a w) (λ_ h' a w hs'=>h' a w hs') a w hs;have h2:=list_app (ro:=ro) (n:=n) (l':=l') (λ_ _ h=>h) hd h1
 rwa [<-hl,bX] at h2
def k_anyR{σ:Type}{p:σ->Prop}{r:σ->Res}(s:σ)(hs:p s)(h:kS b K N ⟨E,L,AnyR p r::R,F,M⟩):kS b K N ⟨E,L,r s::R,F,M⟩:=λa w ⟨G,S,h1,h2,h3⟩=>by obtain⟨S1,S2,a1,a2,a3⟩:=h3.res;exact h a w ⟨G,S,h1,h2,{ h3 with res:=⟨S1,S2,⟨s,hs,a1⟩,a2,a3⟩ }⟩
end
abbrev KvG:=List UInt8×GrV
def NxV(f:List UInt8->Option GrV)(t:List KvG)(y:GrV)(t':List KvG):Prop:=∃q,f q=some y/\(∀d∈t,d.1≠q)/\t'=t++[(q,y)]
structure DnV(f:List UInt8->Option GrV)(t:List KvG):Prop where
  in_:∀d∈t,f d.1=some d.2
  nd:(t.map (·.1)).Nodup
  all:∀k v,f k=some v->(k,v)∈t
theorem values_S(m:Nat):Spec 62 [.map (some m)] [] (λ_=>True) { ret:=λg:Nat=>.v (.func (.func 106) #[] #[.pointer (some ⟨g,0,none⟩)]),own:=λ_=>[],p:=λg=>ObjF g TG.t [.one (.v (.map (some m)))] }:=by refine zQ [.c (.v (.map (some m)))] 4 func62 rfl (by rw [ntmps62];rfl) (one_ok trivial) λb=>?_;refine zC rfl λK hK=>l_give 1 (E':=[]) rfl trivial λg=>l_objOut 0 rfl (zB rfl (zJ (hK _ (zC rfl λK2 hK2=>l_op (.v (.func (.func 106) #[] #[.pointer (some ⟨g,0,none⟩)])) trivial rfl rfl rfl (run_makeF rfl rfl (λ_=>rfl)) (zB rfl (zJ (hK2 _ ?_)))))));exact zP (zR zY g rfl (by decide) rfl rfl rfl (λ_ h _=>h.1) zU)
theorem values1_S(l gb:Nat)(Fy:World->Prop)(JR:List KvG->Res)(JX:Res){m clock k:Nat}{es:Array MapEntry}{f:List UInt8->Option GrV}(hH:MapH TG ok32 es clock k f)(hy:∀t y t',NxV f t y t'->YSpec l [(eGr y).den] Fy (StarR ([]++[JR t])) (JR t') JX) :
  Spec 106 [.func (.yield l) #[] #[],.pointer (some ⟨gb,0,none⟩)] [JR []] (λw=>(ObjF gb TG.t [.one (.v (.map (some m)))] w/\MapE m es clock w)/\Fy w) (epost (AnyR (DnV f) JR) JX):=by
 refine zQ [.c (.v (.func (.yield l) #[] #[])),.c (.v (.pointer (some ⟨gb,0,none⟩)))] 15 func106 rfl (by rw [ntmps106];rfl) (two_ok trivial trivial) λb=>?_;refine zC rfl λK hK=>l_ldO zY rfl rfl rfl rfl rfl rfl (obj_fact λ_ h _=>h.1.1) (l_rangeM rfl rfl rfl rfl underlying135 rfl (es:=es) (clock:=clock) (λ_ _ _ h=>h.fact.1.2) λr=>zJ (hK _ (zN ?_)))
 let Fs:Array Nat×List KvG->Env:=λx=>⟨[(6,.v (.pointer (some ⟨r,0,none⟩))),(0,.v (.func (.yield l) #[] #[]))],[],[ItR (some m) r clock x.1,JR x.2],λw=>MapE m es clock w/\Fy w,λ_=>True⟩
 refine c_weak (e':=Fs (#[],[])) ⟨zE rfl, trivial, .refl _,λ_ h _=>⟨h.1.2,h.2⟩, zU⟩ (s_loop (λx=>(leftOf es x.1).size) Fs (λx=>DidM TG ok32 es f x.1 x.2) ?_ (#[],[]) DidM.nil)
 rintro⟨seen,done⟩ hD
 dsimp only at hD
 refine zC rfl λK2 hK2=>?_;refine l_nextM hH hD (λ_ h=>eY_all h) eGr_all 0 rfl rfl rfl rfl rfl rfl (λ_ _ _ h=>h.fact.1) (λh0=>?_) λq v seen' hq hv hne hlt hl hD'=>?_
 .refine zB rfl ?_;refine zJ (hK2 _ (zM λK3 hK3=>s_no rfl (s_exit (zS (zS (k_out (k_drop 0 rfl (k_anyR (p:=DnV f) done ⟨λd hd=>(hD.in_ d hd).2,hD.nodup,λk v h=>hD.all TG_ok hH h0 h⟩ ?_))))))));exact zR zY true rfl (by decide) rfl rfl rfl (λ_ _ _=>trivial) zU
 refine zB rfl (zJ (hK2 _ (zM λK3 hK3=>s_yes rfl (zO (hK3 _ (zN (zC rfl λK4 hK4=>l_opV (.t [eY 32 q,eGr v]) (two_ok (eY_all hq) (eGr_all v)) rfl rfl rfl (runO_entry hH 0 rfl hl (λ_ _ _ h=>h.fact.1) rfl rfl) (zB rfl (zJ (hK4 _ (zM λK5 hK5=>s_of_r (r_cut 2 _ rfl rfl λK6 hK6=>zB rfl (zJ (hK6 _ ?_))))))))))))));have hyv:=hy done v (done++[(q,v)]) ⟨q,hv,hne,rfl⟩;refine t_weak (e':=⟨[(11,.v (.func (.yield l) #[] #[])),(12,.q (eGr v)),(6,.v (.pointer (some ⟨r,0,none⟩))),(0,.v (.func (.yield l) #[] #[]))],[],[JR done,ItR (some m) r clock seen'],λw=>MapE m es clock w/\Fy w,λ_=>True⟩) ⟨⟨rfl,rfl,rfl,rfl,trivial⟩,trivial,kU _ _ _,λ_ h _=>h, zU⟩ (t_star (R1:=[JR done]) (t_yield (R':=[ItR (some m) r clock seen']) [(eGr v).den] rfl rfl rfl rfl rfl rfl (λ_=>rfl) hyv (λ_ h _=>h.2) λt=>t_list rfl ?_))
 cases t with
 | true =>
  refine zB rfl (zJ (hK5 _ (s_no rfl ?_)));exact zO (zX (seen',done++[(q,v)]) hD' hlt ⟨⟨rfl,rfl,trivial⟩,trivial,kU _ _ _,λ_ h _=>h,λ_ h=>h⟩)
 | false =>
  refine zB rfl (zJ (hK5 _ (s_yes rfl ?_)));exact zP (k_drop 1 rfl (zR zY false rfl (by decide) rfl rfl rfl (λ_ _ _=>trivial) zU))
abbrev seqG(gb:Nat):Value:=.func (.func 106) #[] #[.pointer (some ⟨gb,0,none⟩)]
abbrev SeqF(gb m clock:Nat)(es:Array MapEntry)(w:World):Prop:=ObjF gb TG.t [.one (.v (.map (some m)))] w/\MapE m es clock w
abbrev colP(f:List UInt8->Option GrV):Post ({ t:List KvG // DnV f t }×PX):={ ret:=λx=>.v (.slice x.2.1 (x.1.1.map (·.2)).length x.2.2),own:=λx=>[GrS x.2.1 x.2.2 (x.1.1.map (·.2))] }
structure GaS where
  vs:List GrV
  A:Option Addr
  c:Nat
def fr_bind1{N:Nat}{G:Nat->Nat}{E:SE}{a:Act}{k:Tmp}{q:SQ}(hk:Nat.blt k N=true)(h:Fr N (denE G E) a):Fr N (denE G ([(k,.q q)]++E)) { tmps:=(#[k].zip [q.den].toArray).foldl (λtm (t,v)=>tm.setIfInBounds t v) a.tmps,defers:=[] }:=by
 have e:({ tmps:=a.tmps,defers:=[] }:Act)=a:=by have:=h.defers;cases a;simp only at this;rw [this]
 have hf0:Fr N (denE G E) { tmps:=a.tmps,defers:=[] }:=by rw [e];exact h
 have h:=hf0.put hk q.den;have e1:(#[k].zip [q.den].toArray).foldl (λtm (t,v)=>tm.setIfInBounds t v) a.tmps=a.tmps.setIfInBounds k q.den:=by simp
 show Fr N _ { tmps:=_,defers:=[] };rw [e1];exact h
abbrev FewV(f:List UInt8->Option GrV):Prop:=∀t:List KvG,(t.map (·.1)).Nodup->(∀d∈t,f d.1=some d.2)->t.length<=1000
structure GaI(f:List UInt8->Option GrV)(t:List KvG)(s:GaS):Prop where
  e:s.vs=t.map (·.2)
  in_:∀d∈t,f d.1=some d.2
  nd:(t.map (·.1)).Nodup
def GaI.next{f:List UInt8->Option GrV}{t t':List KvG}{s:GaS}{y:GrV}(h:GaI f t s)(hn:NxV f t y t')(A:Option Addr)(c:Nat):GaI f t' ⟨s.vs++[y],A,c⟩:=by
 obtain⟨q,hq,hne,rfl⟩:=hn;obtain⟨e,h1,h2⟩:=h;refine⟨by rw [e];simp,λd hd=>?_,?_⟩
 .rcases bO.1 hd with hd|hd
  .exact h1 d hd
  .rw [aE.1 hd];exact hq
 .rw [bS];refine sF.2 ⟨h2,by simp,λa ha b hb e=>?_⟩;obtain⟨d,hd,rfl⟩:=aU.1 ha;exact hne d hd (e.trans (by simpa using hb))
theorem appSeq_S(gb:Nat){m clock k:Nat}{es:Array MapEntry}{f:List UInt8->Option GrV}(hH:MapH TG ok32 es clock k f)(hfew:FewV f):Spec 144 [.slice none 0 0,seqG gb] [] (SeqF gb m clock es) (colP f):=by
 refine spec_D [.c (.v (.slice none 0 0)),.c (.v (seqG gb))] 13 func144 rfl (by rw [ntmps144];rfl) (two_ok trivial trivial) λb=>?_;refine d_auto zY rfl (d_seqD λK hK=>d_regA zY rfl λK1 hK1=>l_nil0 0 60 34 eGr (d_end (hK1 _ (d_block ?_))));let E0:SE:=[(6,.v (seqG gb)),(2,.a 2 0)];let Lf:GaS->List LV:=λs=>[⟨2,none,54,[.one (.v (.slice s.A s.vs.length s.c))]⟩];let Rf:GaS->List Res:=λs=>[GrS s.A s.c s.vs];refine d_weak (e':=⟨E0,Lf ⟨[],none,0⟩,Rf ⟨[],none,0⟩,SeqF gb m clock es,λ_=>True⟩) ⟨zE rfl, zL rfl rfl, .refl _,λ_ h _=>h, zU⟩ ?_;refine d_rangeG (β:=GrV) #[7] (λy=>[(eGr y).den]) (λy=>[(7,.q (eGr y))]) (λ_=>[]) (NxV f) (DnV f) [] Lf Rf (GaI f) (λ_ _=>False) ⟨[],none,0⟩ (SeqF gb m clock es) (lb:=[.pointer (some ⟨gb,0,none⟩)]) rfl (λ_ _=>by go_simp) (λ_=>rfl) (λ_ y _ _ hE=>hE.cons (v:=.q (eGr y)) y.parts_ok) (λ_=>rfl) (λy G a ha=>fr_bind1 rfl ha) (λ_ h _=>h) (λy Fy JR JX hy=>values1_S y gb Fy JR JX hH hy) ⟨rfl,λ_ h=>(by cases h),List.nodup_nil⟩ ?_ ?_ (λ_ _ _ h=>h.elim)
 .rintro G l D n ready busy b1 t ⟨vs,A,c⟩ y t' _ hI hn K6 hK6
  have hl:vs.length<=1000:=by rw [show vs=t.map (·.2) from hI.e,a6];exact hfew t hI.nd hI.in_
  refine r_autoE rfl zY rfl (hK6 _ _ _ _ _ (r_block (r_lit rfl (zB rfl ?_))));refine l_push zY 2 y (fe:=eGr) rfl rfl rfl rfl rfl rfl rfl (eGr_ok y) (by decide) (by decide) (by show(vs.length+1)*80<=_;omega) (by show vs.length<_;omega) (aN _) λA' c'=>?_;refine zB rfl (zJ ?_);exact k_rnd (Ix:=λ_ _=>False) ⟨vs++[y],A',c'⟩ (hI.next hn A' c') ⟨trivial,⟨rfl,rfl,trivial⟩,.refl _,λ_ _ _=>trivial, zU⟩
 .rintro t ⟨vs,A,c⟩ D hdn hI;obtain rfl:vs=t.map (·.2):=hI.e;refine hK _ _ (d_regA zY rfl λK2 hK2=>d_end (hK2 _ ?_));exact d_ret (k_retM [D] (R:=_) (zR zY (⟨t,hdn⟩,A,c) rfl (by decide) rfl rfl rfl (λ_ h _=>trivial) zU))
def collect_S(gb:Nat){m clock k:Nat}{es:Array MapEntry}{f:List UInt8->Option GrV}(hH:MapH TG ok32 es clock k f)(hfew:FewV f):Spec 104 [seqG gb] [] (SeqF gb m clock es) (colP f):=by refine zQ [.c (.v (seqG gb))] 5 func104 rfl (by rw [ntmps104];rfl) (one_ok trivial) λb=>?_;refine zA rfl (zC rfl λK hK=>?_);refine l_callA (own:=[]) (R':=[]) [.slice none 0 0,seqG gb] rfl rfl rfl (λ_ _=>by go_simp) rfl rfl (λ_ _=>rfl) (appSeq_S gb hH hfew) (λ_ h _=>h) λx=>?_;refine zB rfl (zJ (hK _ ?_));exact zP (zR zY x rfl (by decide) rfl rfl rfl (λ_ _ _=>trivial) zU)
abbrev AllG(f:List UInt8->Option GrV)(gl:List GrV):Prop:=(∀g,g∈gl↔∃k,f k=some g)/\gl.Pairwise ltG
def DnV.mem{f:List UInt8->Option GrV}{t:List KvG}(h:DnV f t)(g:GrV):g∈t.map (·.2)↔∃k,f k=some g:=by
 rw [aU];constructor
 .rintro⟨d,hd,rfl⟩;exact⟨d.1,h.in_ d hd⟩
 .rintro⟨k,hk⟩;exact⟨(k,g),h.all k g hk,rfl⟩
theorem sortedF_S(gb:Nat){m clock k:Nat}{es:Array MapEntry}{f:List UInt8->Option GrV}(hH:MapH TG ok32 es clock k f)(hid:∀q g,f q=some g->g.id=q)(hfew:∀t:List KvG,(t.map (·.1)).Nodup->(∀d∈t,f d.1=some d.2)->t.length<=12):Spec 61 [seqG gb,cmpG] [] (SeqF gb m clock es) { ret:=λx:{ gl:List GrV // AllG f gl }×PX=>.v (.slice x.2.1 x.1.1.length x.2.2),own:=λx=>[GrS x.2.1 x.2.2 x.1.1] }:=by
 refine zQ [.c (.v (seqG gb)),.c (.v cmpG)] 12 func61 rfl (by rw [ntmps61];rfl) (two_ok trivial trivial) λb=>?_;refine zA rfl (zC rfl λK hK=>?_);refine l_callA (own:=[]) (R':=[]) [seqG gb] rfl rfl rfl (λ_ _=>by go_simp) rfl rfl (λ_ _=>rfl) (collect_S gb hH λt h1 h2=>bP (hfew t h1 h2) (by decide)) (λ_ h _=>h) λ⟨⟨t,ht⟩,A,c⟩=>?_;refine zB rfl (zJ (hK _ ?_));have hap:((t.map (·.2)).map GrV.id).Nodup:=by rw [cU];have e:t.map (GrV.id ∘ λd=>d.2)=t.map (·.1):=dU λd hd=>hid _ _ (ht.in_ d hd);rw [e];exact ht.nd
 have h12:(t.map (·.2)).length<=12:=by rw [a6];exact hfew t ht.nd ht.in_
 refine zC rfl λK2 hK2=>l_R [GrS A c (t.map (·.2))] rfl ?_;have h9:=sortG_S (A:=A) (c:=c) (t.map (·.2)) hap h12;obtain⟨vs,hvs⟩:∃vs,t.map (·.2)=vs:=⟨_,rfl⟩;rw [hvs] at h9;refine l_eq 8 (.v (.slice A vs.length c)) rfl (by rw [<-hvs];rfl) ?_;refine l_R [GrS A c vs] (by rw [<-hvs]) ?_;refine l_callA (own:=[GrS A c vs]) (R':=[]) [.slice A vs.length c,cmpG] rfl rfl rfl (λ_ _=>by go_simp) rfl rfl (λ_ _=>rfl) h9 (λ_ _ _=>trivial) λ⟨gl,hgl⟩=>?_;obtain⟨hp,hs⟩:=hgl;refine zJ (hK2 _ (zA rfl ?_));refine zP (k_weak (e':=⟨[(4,.v (.slice A gl.length c))],[],[GrS A c gl],λ_=>True,λ_=>True⟩) ⟨⟨by show some (SV.v (.slice A (t.map (·.2)).length c))=some (SV.v (.slice A gl.length c));rw [hvs,hp.length_eq],trivial⟩,trivial,.refl _,λ_ _ _=>trivial, zU⟩ ?_);exact zR zY (⟨gl,λg=>(hp.mem_iff).trans (by rw [<-hvs];exact ht.mem g),hs⟩,A,c) rfl (by decide) rfl rfl rfl (λ_ _ _=>trivial) zU
theorem nodup_le:∀{l m:List (List UInt8)},l.Nodup->(∀x∈l,x∈m)->l.length<=m.length
 | [],_,_,_=>aN _
 | x::l,m,hd,h=>by obtain⟨h1,h2⟩:=fH.1 hd;have hx:=h x (.head _);have h3:=nodup_le (l:=l) (m:=m.erase x) h2 λy hy=>(List.mem_erase_of_ne (λe=>h1 (by rw [<-e];exact hy))).2 (h y (.tail _ hy));rw [List.length_erase_of_mem hx] at h3;have:=List.length_pos_of_mem hx;rw [aY];omega
theorem took_len(id:List UInt8):∀(us:List UV) (l:List EntD),(tookD id l us).length<=us.length
 | [],_=>aF _
 | u::us,l=>by
  have:=took_len id us (fG l (udH u));rw [tookD_cons];split
  .rw [aY,aY];omega
  .rw [aY];omega
def GwI.few{l:List EntD}{us:List UV}{gs:List GrV}{f:List UInt8->Option GrV}(h:GwI l us gs f):∀t:List KvG,(t.map (·.1)).Nodup->(∀d∈t,f d.1=some d.2)->t.length<=(grewD l us).length:=λt h1 h2=>by
 have:=nodup_le (m:=(grewD l us).map GrD.id) h1 λk hk=>by obtain⟨d,hd,rfl⟩:=aU.1 hk;obtain⟨g1,g2⟩:=(h.iff_ _ _).1 (h2 d hd);obtain⟨_,a3,a4⟩:=h.ok _ g1;rw [a3,g2] at a4;exact aU.2 ⟨_,grew_has a4,rfl⟩
 rwa [a6,a6] at this
abbrev UsR(g:GrV):Res:=OwnS 0 69 129 eU g.U g.u g.more
section
variable{b:Base}{N:Nat}{E:SE}{L:List LV}{R:List Res}{M:World->Prop}{K:Act->World->Prop}
theorem k_freeG:∀(gs:List GrV) {F:World->Prop},kS b K N ⟨E,L,R,λw=>(∀g∈gs,Rd 129 eU g.U g.u g.more w)/\F w,M⟩->kS b K N ⟨E,L,gs.map UsR++R,F,M⟩
 | [],F,h=>λa w ⟨G,S,h1,h2,h3⟩=>h a w ⟨G,S,h1,h2,h3.imp (λ_ h _=>⟨λ_ h=>(by cases h),h⟩) λ_ h=>h⟩
 | p::ps,F,h=>λa w ⟨G,S,h1,h2,h3⟩=>by
  obtain⟨S',h4⟩:=h3.free (i:=0) rfl;refine k_freeG ps (F:=λw=>Rd 129 eU p.U p.u p.more w/\F w) (λa w ⟨G,S,h1,h2,h3⟩=>h a w ⟨G,S,h1,h2,?_⟩) a w ⟨G,S',h1,h2,h4⟩;refine h3.imp (λw h _=>⟨λq hq=>?_,h.2.2⟩) λ_ h=>h;rcases aH.1 hq with rfl|hq
  .exact h.2.1
  .exact h.1 q hq
end
structure GhS where
  i:Nat
  gs:List GrV
  f:List UInt8->Option GrV
abbrev grwP(l:List EntD)(us:List UV):Post ({ gl:List GrV // gl.map GrV.pl=grewD l us }×PX):={ ret:=λx=>.v (.slice x.2.1 x.1.1.length x.2.2),p:=λx w=>Rd 34 eGr x.2.1 x.2.2 x.1.1 w/\∀g∈x.1.1,g.rd w }
theorem growth_S{d:DirV}(hd:d.Ok){A:Option Addr}{c:Nat}{us:List UV}(hus:∀u∈us,u.Ok)(hsz:us.length<=1000)(h12:(grewD d.l us).length<=12) :
  Spec 26 [(eDv d).den,.slice A us.length c] [] (λw=>Ta w/\d.F w/\Rd 129 eU A c us w) (grwP d.l us):=by
 refine zQ [.p d.parts,.c (.v (.slice A us.length c))] 62 func26 rfl (by rw [ntmps26];rfl) (two_ok d.parts_ok trivial) λb=>?_;refine zA rfl (zC rfl λK1 hK1=>l_mkG TG ok32 rfl rfl rfl rfl λm=>zB rfl (zJ (hK1 _ (zM λK hK=>zA rfl (zN ?_)))))
 let Es:Nat->SE:=λi=>[(13,.v (.int .i64 (i:Int))),(12,.v (.int .i64 (us.length:Int))),(11,.v (.slice A us.length c)),(5,.v (.map (some m))),(2,.a 2 0)]
 let Ls:List LV:=[⟨2,none,33,d.parts⟩]
 let Ff:List GrV->World->Prop:=λgs w=>(Ta w/\d.F w/\Rd 129 eU A c us w)/\∀g∈gs,g.k.rd w
 let Fs:GhS->Env:=λx=>⟨Es x.i,Ls,MapG TG ok32 m x.gs.length x.f::x.gs.map UsR,Ff x.gs,λ_=>True⟩
 refine c_weak (e':=Fs ⟨0,[],λ_=>none⟩) ⟨zE rfl, zL rfl rfl, .refl _,λ_ h _=>⟨h,λ_ h=>by cases h⟩, zU⟩ (s_loop (λx=>us.length-x.i) Fs (λx=>x.i<=us.length/\GwI d.l (us.take x.i) x.gs x.f) ?_ ⟨0,[],λ_=>none⟩ ⟨aN _,GwI.nil _⟩)
 rintro⟨i,gs,f⟩ ⟨hi,hg⟩
 dsimp only at hi hg
 refine zA rfl (zM λK5 hK5=>?_);refine zW ((i:Int)<(us.length:Int)) rfl (λhlt=>?_) (λhge=>?_)
 .have hlt:i<us.length:=by omega
  obtain⟨u,hu⟩:∃u,us[i]?=some u:=⟨_,aK hlt⟩;have huo:=hus u (a8 hu);have h64:=hd.small.keys u.id;have htl:=took_len u.id (us.take i) d.l;rw [aV] at htl;refine zO (hK5 _ (zM λK10 hK10=>?_));have hgo:∀gs' f',GwI d.l (us.take (i+1)) gs' f'->∀e,Weak e ⟨Es i,Ls,MapG TG ok32 m gs'.length f'::gs'.map UsR,Ff gs',λ_=>True⟩->kS b K10 62 e:=by intro gs' f' hg' e hw;refine k_weak hw (hK10 _ (zD rfl ?_));exact zX ⟨i+1,gs',f'⟩ ⟨hlt,hg'⟩ (by show us.length-(i+1)<us.length-i;omega) ⟨⟨nextI i us.length (by omega) hlt,rfl,rfl,rfl,rfl,trivial⟩,⟨rfl,rfl,trivial⟩,.refl _,λ_ h _=>h,λ_ h=>h⟩
  refine zN (zC rfl λK11 hK11=>l_elem zY rfl rfl rfl i rfl hu rfl rfl (rd_fact λ_ h _=>h.1.2.2) (zB rfl (zJ (hK11 _ (zC rfl λK12 hK12=>l_opV (.t [eGr ((f u.id).getD nilG),.c (.b (f u.id).isSome)]) (two_ok (GrV.parts_ok _) trivial) rfl rfl rfl (runO_gr (map_own 0 rfl) u.id huo.id rfl rfl rfl) (zB rfl (zJ (hK12 _ (zM λK13 hK13=>?_)))))))));have hrest:∀(g:GrV) (r:List GrV),g.id=u.id->g.k.l=bV d.l u.id->g.more=tookD u.id d.l (us.take i)->(∀x,x∈r↔x∈gs/\x.id≠u.id)->(r.map GrV.id).Nodup->((f u.id=none/\r=gs)\/(f u.id=some g/\gs.Perm (g::r)))->∀e,Weak e ⟨(8,.a 8 0)::(7,.a 7 0)::Es i,⟨8,none,60,g.parts⟩::⟨7,none,69,u.parts⟩::Ls,MapG TG ok32 m gs.length f::UsR g::r.map UsR,λw=>g.k.rd w/\Ff gs w,λ_=>True⟩->kS b K13 62 e:=by
   intro g r hgi hgk hgm hr hrn hcase e hw;have hnot:¬(signB u=true/\u.ver=((bV d.l u.id).length:Int)+((tookD u.id d.l (us.take i)).length:Int)+1)->∀e,Weak e ⟨Es i,Ls,MapG TG ok32 m gs.length f::UsR g::r.map UsR,Ff gs,λ_=>True⟩->kS b K10 62 e:=by
    intro hn e hw;refine k_weak hw ?_;rcases hcase with⟨_,rfl⟩|⟨_,hp⟩
    .exact k_drop 1 rfl (hgo r f (hg.not hu hn) _ ⟨zE rfl, zL rfl rfl, .refl _,λ_ h _=>h, zU⟩)
    .exact hgo gs f (hg.not hu hn) _ ⟨zE rfl, ⟨rfl,rfl,trivial⟩,((hp.map UsR).symm.cons _),λ_ h _=>h, zU⟩
   rw [<-hgk,<-hgm] at hnot;refine k_weak hw (hK13 _ ?_);have hwr:IntKind.i64.wrap (IntKind.i64.wrap ((g.k.l.length:Int)+(g.more.length:Int))+1)=(g.k.l.length:Int)+(g.more.length:Int)+1:=by rw [hgk,hgm,wrapI (r:=((bV d.l u.id).length:Int)+((tookD u.id d.l (us.take i)).length:Int)) rfl (by omega) (by omega)];exact wrapI rfl (by omega) (by omega)
   refine zC rfl λK14 hK14=>?_;by_cases hv:u.ver=(g.k.l.length:Int)+(g.more.length:Int)+1
   .refine l_is 44 true rfl (by rw [hwr];exact decide_eq_true hv) ?_
    refine zB rfl ?_;refine l_call0 [(eU u).den] rfl rfl rfl (λ_ _=>by go_simp) rfl rfl (λ_ _=>rfl) (hsigned_S huo) (λ_ h _=>h.2.1.1) λ_=>?_;refine zB rfl (zJ (hK14 _ ?_));refine s_if (signB u) rfl (λhsg=>?_) (λhsg=>?_)
    .have hml:g.more.length<=1000:=by rw [hgm];omega
     refine zC rfl λK15 hK15=>?_;refine l_push zY 1 u (fe:=eU) rfl rfl rfl rfl rfl rfl rfl (eU_ok huo) (by decide) (by decide) (by show(g.more.length+1)*136<=_;omega) (by show g.more.length<_;omega) (aN _) λU' u'=>?_;refine zB rfl (zJ (hK15 _ (s_lit (zB rfl (l_updG TG_ok 0 rfl u.id ⟨g.id,g.h32,g.k,U',u',g.more++[u]⟩ huo.id rfl rfl rfl rfl rfl rfl ?_)))));have hn:(if (f u.id).isSome then gs.length else gs.length+1)=((⟨g.id,g.h32,g.k,U',u',g.more++[u]⟩:GrV)::r).length:=by
      rcases hcase with⟨h1,rfl⟩|⟨h1,hp⟩
      .rw [h1];rfl
      .rw [h1,hp.length_eq];rfl
     rw [hn];refine zJ (hgo (⟨g.id,g.h32,g.k,U',u',g.more++[u]⟩::r) _ (hg.yes hu ⟨hsg,by rw [<-hgk,<-hgm];exact hv⟩ hgi hgk (by rw [<-hgm]) hrn hr) _ ⟨zE rfl, zL rfl rfl, .refl _,λw h _=>⟨h.2.2.1,λx hx=>?_⟩, zU⟩);rcases aH.1 hx with rfl|hx
     .exact h.2.1
     .exact h.2.2.2 x ((hr x).1 hx).1
    .exact zO (hnot (λh=>by rw [h.1] at hsg;cases hsg) _ ⟨zE rfl, zL rfl rfl, .refl _,λ_ h _=>h.2.2, zU⟩)
   .refine l_is 44 false rfl (by rw [hwr];exact decide_eq_false hv) ?_;refine zB rfl (zJ (hK14 _ (s_no rfl ?_)));exact zO (hnot (λh=>hv h.2) _ ⟨zE rfl, zL rfl rfl, .refl _,λ_ h _=>h.2, zU⟩)
  cases hf:f u.id with
  | some g =>
   obtain⟨g1,g2,g3,a,c0,hab,hn2,hm2⟩:=hg.some_ hf;refine zA rfl ?_;refine s_if false rfl (λh=>by cases h) (λ_=>?_);refine zO (hrest g (a++c0) g1 g2 g3 hm2 hn2 (.inr ⟨hf,by rw [hab];exact List.perm_middle⟩) _ ⟨zE rfl, ⟨rfl,rfl,rfl,rfl,rfl,rfl,trivial⟩,?_,λw h _=>⟨h.2 g (by rw [hab];simp),h⟩, zU⟩)
   show lG (MapG TG ok32 m gs.length f::gs.map UsR) (MapG TG ok32 m gs.length f::(g::(a++c0)).map UsR)
   rw [hab];exact(List.perm_middle.map UsR).cons _
  | none =>
   obtain⟨hm2,ht0⟩:=hg.none_ hf;have hkx:=dkeys_S hd huo.id;refine zA rfl ?_;refine s_if true rfl (λ_=>?_) (λh=>by cases h);refine s_nil0 0 69 129 eU ?_;refine s_locs λG=>?_;refine s_anyP [0,1,2,3,4] 6 2 (InvL (withG G (⟨8,none,60,nilG.parts⟩::⟨7,none,69,u.parts⟩::Ls))) (by kernel_rfl) rfl (inv_of withG_is) ?_;refine p_front zY 0 (by kernel_rfl) rfl rfl rfl rfl rfl rfl (λ_ h=>h) ?_;refine p_front zY 1 (by kernel_rfl) rfl rfl rfl rfl rfl rfl (λ_ h=>h) ?_;refine p_front zY 2 (by kernel_rfl) rfl rfl rfl rfl rfl rfl (λ_ h=>h) ?_;refine p_front zY 3 (by kernel_rfl) rfl rfl rfl rfl rfl rfl (λ_ h=>h) ?_;refine p_front zY 4 (by kernel_rfl) rfl rfl rfl rfl rfl rfl (λ_ h=>h) ?_;refine p_step 5 (by kernel_rfl) rfl λKa hKa=>?_;refine l_call0 [(eDv d).den,(eY 32 u.id).den] rfl rfl rfl (λ_ _=>by go_simp) rfl rfl (λ_ _=>rfl) hkx (λ_ h _=>h.1.2.1) λx=>?_;refine l_free 0 rfl (zJ (hKa _ (inv_of withG_is) ?_));refine p_tail [6,7] (by kernel_rfl) rfl ?_;refine zB rfl ?_;refine zJ (k_noloc (hrest ⟨u.id,huo.id,⟨x.1,x.2,bV d.l u.id⟩,none,0,[]⟩ gs rfl rfl ht0.symm hm2 hg.nd (.inl ⟨hf,rfl⟩) _ ⟨zE rfl, ⟨rfl,rfl,rfl,rfl,rfl,rfl,trivial⟩,kU _ _ _,λw h _=>⟨h.1,h.2.2⟩, zU⟩))
 refine s_exit (zS (zS (k_out (k_openG 0 rfl λes clock hH=>k_freeB 0 rfl ?_))))
 obtain rfl:us.length=i:=by omega
 rw [dF] at hg;refine k_weak (e':=⟨[(5,.v (.map (some m)))],[],gs.map UsR++[],λw=>MapE m es clock w/\Ff gs w,λ_=>True⟩) ⟨⟨rfl,trivial⟩,trivial,by rw [bB];exact .refl _,λ_ h _=>h, zU⟩ (k_freeG gs (hK _ ?_));refine zC rfl λK2 hK2=>?_;refine l_call0 [.map (some m)] rfl rfl rfl (λ_ _=>by go_simp) rfl rfl (λ_ _=>rfl) (values_S m) (λ_ _ _=>trivial) λgb=>?_;refine l_callA (own:=[]) (R':=[]) [seqG gb,cmpG] rfl rfl rfl (λ_ _=>by go_simp) rfl rfl (λ_ _=>rfl) (sortedF_S gb hH (λq g hq=>((hg.iff_ q g).1 hq).2) λt h1 h2=>bP (hg.few t h1 h2) h12) (λw h _=>⟨h.1,h.2.2.1⟩) λ⟨⟨gl,hgl⟩,B,e⟩=>?_;refine zB rfl (zJ (hK2 _ (s_free 0 rfl ?_)));have hmem:∀g,g∈gl↔g∈gs:=λg=>(hgl.1 g).trans ⟨λ⟨k,hk⟩=>((hg.iff_ k g).1 hk).1,λh=>⟨g.id,(hg.iff_ g.id g).2 ⟨h,rfl⟩⟩⟩;refine zP (zR zY (⟨gl,hg.grew (hd.dir.apply (us_ok hus)) hgl.2 hmem⟩,B,e) rfl (by decide) rfl rfl rfl (λw h _=>⟨h.1,λg hg=>⟨?_,?_⟩⟩) zU)
 .exact h.2.2.2.2.2.2 g ((hmem g).1 hg)
 .exact h.2.2.2.1 g ((hmem g).1 hg)
def tk_11{k:Nat}{s:Rds}(h:s.2≠11):(tkS k s).2≠11:=by
 obtain⟨l,f⟩:=s;have h:f≠11:=h;show(tk l f k).2.2≠11;unfold tk;by_cases h0:f=0
 .rw [if_pos h0];split<;>simp
 .rw [if_neg h0];exact h
def mo_11{m:Nat}{s:Rds}(h:s.2≠11):(moS m s).2≠11:=by
 unfold moS;split
 .show(12:Nat)≠11;decide
 .exact tk_11 h
def by_11{s:Rds}(h:s.2≠11):(byS s).2≠11:=tk_11 (mo_11 h)
theorem it_11{f:Rds->Rds}(hf:∀s:Rds,s.2≠11->(f s).2≠11){s:Rds}(h:s.2≠11):∀n,(itS f s n).2≠11
 | 0=>h
 | n+1=>hf _ (it_11 hf h n)
def gb_11{s:Rds}(h:s.2≠11):(gbS s).2≠11:=it_11 (λ_ h=>tk_11 h) (mo_11 (tk_11 h)) _
def gr_11{s:Rds}(h:s.2≠11):(grS s).2≠11:=by_11 (gb_11 h)
def end_on{s:Rds}(h:s.2≠11):(endE s=0\/endE s=11)↔s.2=0:=by
 unfold endE don;constructor
 .intro h2
  by_cases h0:s.2=0
  .exact h0
  .rw [if_neg h0] at h2;exact h2.resolve_right h
 .intro h0
  rw [if_pos h0];split
  .exact .inl rfl
  .exact .inr rfl
theorem goesOn_S(g:Nat){A:Option Addr}{c:Nat}{s:Rds}(h11:s.2≠11):Spec 80 [ptr g] [RdrS g A c s] (λ_=>True) { ret:=λ_:Unit=>.q (.c (.b (decide (s.2=0)))),own:=λ_=>[RdrS g A c s] }:=by
 refine zQ [.c (.v (ptr g))] 12 func80 rfl (by rw [ntmps80];rfl) (one_ok trivial) λb=>?_;have hon:=end_on h11;have hrd:=rdone_S g (A:=A) (c:=c) s;obtain⟨e,he⟩:∃e,endE s=e:=⟨_,rfl⟩;rw [he] at hon hrd;refine zA rfl (zC rfl λK1 hK1=>?_);refine l_callA [ptr g] rfl rfl rfl (λ_ _=>by go_simp) rfl rfl (λ_ _=>rfl) hrd (λ_ _ _=>trivial) λ_=>?_;refine zB rfl (zJ (hK1 _ (zC rfl λK2 hK2=>?_)));by_cases h0:e=0
 .refine l_is 8 true rfl (decide_eq_true (by omega)) ?_;refine zB rfl (zJ (hK2 _ ?_));exact zP (k_retD zY () rfl (by decide) rfl (by show mH (decide (s.2=0)) = .bool true;rw [decide_eq_true (hon.1 (.inl h0))]) trivial rfl (λ_ _ _=>trivial) zU)
 .refine l_is 8 false rfl (decide_eq_false (by omega)) ?_
  refine zB rfl (zJ (hK2 _ ?_));refine zP (k_retD zY () rfl (by decide) rfl ?_ trivial rfl (λ_ _ _=>trivial) zU);have e1:decide (s.2=0)=decide ((e:Int)=11):=by rw [decide_eq_decide,<-hon];omega
  show mH (decide (s.2=0))=mH (decide ((e:Int)=11));rw [e1]
theorem akeys_S(g:Nat){A:Option Addr}{c:Nat}(s:Rds)(h11:s.2≠11):Spec 82 [ptr g] [RdrS g A c s] (Rd 1 eB A c s.1)
  { ret:=λx:{ k:Nat // (itS haS (moS 65536 s) (moO 65536 s)).2=0->k=moO 65536 s }×RX×PX=>.v (.slice x.2.2.1 (ksI (moS 65536 s) x.1.1).length x.2.2.2),own:=λx=>[RdrS g x.2.1.1 x.2.1.2 (itS haS (moS 65536 s) (moO 65536 s))],p:=λx w=>Rd 32 (eY 32) x.2.2.1 x.2.2.2 (ksI (moS 65536 s) x.1.1) w/\Rd 1 eB x.2.1.1 x.2.1.2 (itS haS (moS 65536 s) (moO 65536 s)).1 w }:=by
 refine zQ [.c (.v (ptr g))] 21 func82 rfl (by rw [ntmps82];rfl) (one_ok trivial) λb=>?_;have hn6:moO 65536 s<=65536:=moO_le _ _;have h12:(moS 65536 s).2≠11:=mo_11 h11;have hrc:=rcount_S g (A:=A) (c:=c) s;obtain⟨n,hn⟩:∃n,moO 65536 s=n:=⟨_,rfl⟩;obtain⟨z,hz⟩:∃z,moS 65536 s=z:=⟨_,rfl⟩;rw [hn,hz] at hrc;rw [hn] at hn6;rw [hz] at h12;rw [hn,hz];refine zA rfl (zA rfl (zM λK hK=>zC rfl λK1 hK1=>?_));refine l_callA [ptr g] rfl rfl rfl (λ_ _=>by go_simp) rfl rfl (λ_ _=>rfl) hrc (λw h _=>h) λ⟨A1,c1⟩=>?_;refine l_R [RdrS g A1 c1 z] rfl (zB rfl (l_nil0 0 47 32 (eY 32) (zJ (hK1 _ (zN ?_)))))
 let F:Nat×RX×PX->Env:=λ⟨i,r,x⟩=>⟨[(4,.v (.int .i64 (n:Int))),(0,.v (ptr g)),(3,.v (.slice x.1 (ksI z i).length x.2))],[],[RdrS g r.1 r.2 (itS haS z i),KyS x.1 x.2 (ksI z i)],Rd 1 eB r.1 r.2 (itS haS z i).1,λ_=>True⟩
 have hfin:∀(i:Nat) (r:RX) (x:PX),i<=n->((itS haS z i).2≠0\/i=n)->∀e,Weak e (F (i,r,x))->kS b K 21 e:=by intro i r x hi hor e hw;refine k_weak hw (hK _ ?_);have hst:=itS_stop ha_stick hi hor;refine s_free 1 rfl (zA rfl ?_);have hk:(itS haS z n).2=0->i=n:=λh0=>hor.resolve_left λh=>h (by rw [<-hst];exact h0);refine zP (zR zY (⟨i,hk⟩,r,x) rfl (by decide) rfl rfl ?_ (λw h _=>⟨h.1,by show Rd 1 eB r.1 r.2 (itS haS z n).1 w;rw [hst];exact h.2⟩) zU);show [RdrS g r.1 r.2 (itS haS z n)]=[RdrS g r.1 r.2 (itS haS z i)];rw [hst]
 refine c_weak (e':=F (0,(A1,c1),(none,0))) ⟨⟨rfl,rfl,rfl,trivial⟩,trivial,kU _ _ _,λ_ h _=>h.1, zU⟩ (s_loop (λx=>n-x.1) F (λx=>x.1<=n) ?_ (0,(A1,c1),(none,0)) (aN _))
 rintro⟨i,r,x⟩ hi
 dsimp only at hi
 have hkl:=ksI_len z i;refine zM λK5 hK5=>zC rfl λK6 hK6=>?_
 by_cases hlt:¬i<n
 .refine l_is 11 false rfl (decide_eq_false (by omega)) ?_;refine zB rfl (zJ (hK6 _ (s_no rfl (s_exit (zS (zS (k_out ?_)))))));exact hfin i r x hi (.inr (by omega)) _ ⟨zE rfl, trivial, .refl _,λ_ h _=>h,λ_ h=>h⟩
 have hlt':i<n:=by omega
 refine l_is 11 true rfl (decide_eq_true (by omega)) ?_;refine zB rfl ?_;refine l_callA [ptr g] rfl rfl rfl (λ_ _=>by go_simp) rfl rfl (λ_ _=>rfl) (goesOn_S g (A:=r.1) (c:=r.2) (it_11 (f:=haS) (λ_ h=>tk_11 h) h12 i)) (λ_ _ _=>trivial) λ_=>?_;refine l_R [RdrS g r.1 r.2 (itS haS z i),KyS x.1 x.2 (ksI z i)] rfl (zB rfl (zJ (hK6 _ ?_)));refine zW ((itS haS z i).2=0) rfl (λh0=>?_) (λh0=>?_)
 .refine zO (hK5 _ ?_);have hh:=haO_len (itS haS z i);have hnx:=ksI_next z i;have hrh:=rdhash_S g (A:=r.1) (c:=r.2) (itS haS z i);obtain⟨h1,hh1⟩:∃h1,haO (itS haS z i)=h1:=⟨_,rfl⟩;rw [hh1] at hh hnx hrh;refine zN (s_lit (zB rfl ?_));refine l_callA [ptr g] rfl rfl rfl (λ_ _=>by go_simp) rfl rfl (λ_ _=>rfl) hrh (λw h _=>h.2) λ⟨A2,c2⟩=>?_;refine l_R [RdrS g A2 c2 (itS haS z (i+1)),KyS x.1 x.2 (ksI z i)] rfl ?_;refine l_push zY 1 h1 (fe:=eY 32) rfl rfl rfl rfl rfl rfl rfl (eY_ok hh) (by decide) (by decide) (by rw [hkl];show(i+1)*32<=_;omega) (by omega) (aN _) λA3 c3=>?_;refine zB rfl (zJ ?_);exact zX (i+1,(A2,c2),(A3,c3)) hlt' (by show n-(i+1)<n-i;omega) ⟨⟨rfl,rfl,by show lookS _ 3=some (.v (.slice A3 (ksI z (i+1)).length c3));rw [hnx];rfl,trivial⟩,trivial,by show lG _ [_,KyS A3 c3 (ksI z (i+1))];rw [hnx];exact .refl _,λ_ h _=>h.1, zU⟩
 .refine s_exit (zS (zS (k_out ?_)));exact hfin i r x hi (.inl h0) _ ⟨zE rfl, trivial, .refl _,λ_ h _=>h.2, zU⟩
theorem read_err:∀(n:Nat) (way:List Nat) (b:List UInt8) (e:Nat),PW.read n way b = .error e->e≠0
 | n,way,[],e,h=>by rw [read_nil] at h;injection h with h;omega
 | n,way,x::b,e,h=>by
  rw [read_cons] at h;by_cases h0:x=0
  .rw [if_pos h0] at h;cases h
  rw [if_neg h0] at h;by_cases h1:x=1
  .rw [if_pos h1] at h
   unfold readLeaf at h;split at h
   .injection h with h;omega
   .split at h
    .cases h
    .injection h with h;omega
  rw [if_neg h1] at h;by_cases h2:x=2
  .rw [if_pos h2] at h
   cases n with
   | zero=>injection h with h;omega
   | succ n =>
    unfold readIn at h
    dsimp only at h
    cases hr:PW.read n (way++[0]) b with
    | error e1 =>
     rw [hr] at h
     injection h with h
     subst h;exact read_err n _ _ _ hr
    | ok u =>
     obtain⟨y,b1⟩:=u;rw [hr] at h
     dsimp only at h
     cases hr2:PW.read n (way++[1]) b1 with
     | error e1 =>
      rw [hr2] at h
      injection h with h
      subst h;exact read_err n _ _ _ hr2
     | ok u =>
      obtain⟨z,b2⟩:=u;rw [hr2] at h
      dsimp only at h
      split at h
      .injection h with h;omega
      .cases h
  rw [if_neg h2] at h;by_cases h3:x=3
  .rw [if_pos h3] at h
   unfold readHid at h;split at h
   .injection h with h;omega
   .cases h
  .rw [if_neg h3] at h;injection h with h;omega
theorem parse_err{b:List UInt8}{e:Nat}(h:PW.parse b = .error e):e≠0:=by
 unfold PW.parse at h;cases hr:PW.read 256 [] b with
 | error e1 =>
  rw [hr] at h
  injection h with h
  subst h;exact read_err _ _ _ _ hr
 | ok u =>
  obtain⟨w,r⟩:=u;rw [hr] at h
  cases r with
  | nil=>cases h
  | cons=>injection h with h;omega
def stpW(b:List UInt8):PW:=if stpE b=0 then(match PW.parse (apP b) with
  | .ok w=>w
  | .error _=>.empty) else .empty
theorem stpW_ok{b:List UInt8}(h:stpE b=0):PW.parse (apP b) = .ok (stpW b):=by
 have h1:=(stpE_ok h).2.1;unfold prtE at h1;unfold stpW;rw [if_pos h];cases hp:PW.parse (apP b) with
 | ok w=>rfl
 | error e =>
  rw [hp] at h1;have h1:e=0:=h1;subst h1;exact absurd rfl (parse_err hp)
theorem firstE_at:∀{l:List Nat} {i e:Nat},(∀j,j<i->l[j]?=some 0)->l[i]?=some e->e≠0->firstE l=e
 | [],_,_,_,h,_=>by simp at h
 | x::l,0,e,_,h,he=>by
  have h:x=e:=by simpa using h
  subst h;unfold firstE;rw [if_neg he]
 | x::l,i+1,e,h0,h,he=>by
  have hx:x=0:=by simpa using h0 0 (Nat.succ_pos _)
  subst hx;unfold firstE;rw [if_pos rfl];exact firstE_at (l:=l) (i:=i) (λj hj=>by simpa using h0 (j+1) (Nat.succ_lt_succ hj)) (by simpa using h) he
theorem firstE_all:∀{l:List Nat},(∀e∈l,e=0)->firstE l=0
 | [],_=>rfl
 | x::l,h=>by have hx:x=0:=h x (.head _);subst hx;unfold firstE;rw [if_pos rfl];exact firstE_all λe he=>h e (.tail _ he)
def gb_yes{z:Rds}{i:Nat}(h:(itS grS z (i+1)).2=0):(gbS (itS grS z i)).2=0:=by unfold itS grS at h;exact(by_yes h).1
structure PaI(z:Rds)(i:Nat)(vs:List GrV)(ss:List Seg):Prop where
  ids:vs.map GrV.id=(dT i).map λj=>(grO (itS grS z j)).id
  keys:(itS grS z i).2=0->(vs.map λv=>v.k.l)=(dT i).map λj=>(grO (itS grS z j)).keys
  segs:ss.map Seg.l=(dT i).map λj=>(grO (itS grS z j)).more
  more:∀v∈vs,v.more=[]
def PaI.zero(z:Rds):PaI z 0 [] []:=⟨rfl,λ_=>rfl,rfl,λ_ h=>by cases h⟩
def PaI.next{z:Rds}{i:Nat}{vs:List GrV}{ss:List Seg}(h:PaI z i vs ss){v:GrV}{s:Seg}(h1:v.id=haO (itS grS z i))(h2:(gbS (itS grS z i)).2=0->v.k.l=ksI (gkS (itS grS z i)) (gkN (itS grS z i)))(h3:v.more=[])(h4:s.l=byO (gbS (itS grS z i))):PaI z (i+1) (vs++[v]) (ss++[s]):=by
 refine⟨?_,λh0=>?_,?_,λx hx=>?_⟩
 .rw [pA,bS,bS,h.ids];show _++[v.id]=_++[haO _];rw [h1]
 .have hi:(itS grS z i).2=0:=itS_ok (f:=grS) (s:=z) (n:=i+1) (i:=i) gr_stick h0 (Nat.le_succ i);rw [pA,bS,bS,h.keys hi];show _++[v.k.l]=_++[ksI _ _];rw [h2 (gb_yes h0)]
 .rw [pA,bS,bS,h.segs];show _++[s.l]=_++[byO _];rw [h4]
 .rcases bO.1 hx with hx|hx
  .exact h.more x hx
  .rw [aE.1 hx];exact h3
def PaI.len{z:Rds}{i:Nat}{vs:List GrV}{ss:List Seg}(h:PaI z i vs ss):vs.length=i/\ss.length=i:=by have h1:=congrArg lR h.ids;have h2:=congrArg lR h.segs;rw [a6,a6,List.length_range] at h1 h2;exact⟨h1,h2⟩
def fullG(g:GbD):GrD:=⟨g.id,g.keys,hpU g.more⟩
def bareG(g:GbD):GrD:=⟨g.id,g.keys,[]⟩
structure PbI(L:List GbD)(ss:List Seg)(i:Nat)(vs:List GrV):Prop where
  pl:vs.map GrV.pl=(L.take i).map fullG++(L.drop i).map bareG
  ok:∀j,j<i->(L.map λg=>hpE g.more)[j]?=some 0
theorem PaI.bare{b:List UInt8}{vs:List GrV}{ss:List Seg}(h:PaI (apM b) (apN b) vs ss)(h0:(apR b).2=0):PbI (apL b) ss 0 vs/\ss.map Seg.l=(apL b).map GbD.more:=by
 refine⟨⟨?_,λj hj=>absurd hj (iN j)⟩,?_⟩
 .show vs.map GrV.pl=[]++(apL b).map bareG
  rw [cP];have h1:=h.ids;have h2:=h.keys h0;have h3:=h.more;unfold apL;rw [cU];generalize dT (apN b)=ns at h1 h2 ⊢;clear h h0;induction vs generalizing ns with
  | nil =>
   cases ns with
   | nil=>rfl
   | cons n ns=>cases h1
  | cons v vs ih =>
   cases ns with
   | nil=>cases h1
   | cons n ns =>
    rw [aZ,aZ] at h1 h2
    injection h1 with a1 a2
    injection h2 with b1 b2
    rw [aZ,aZ,ih (λx hx=>h3 x (.tail _ hx)) ns a2 b2]
    congr 1
    unfold GrV.pl
    rw [h3 v (.head _),b1,a1]
    rfl
 .unfold apL;rw [h.segs,cU];rfl
def PbI.step{L:List GbD}{ss:List Seg}{i:Nat}{vs:List GrV}(h:PbI L ss i vs){g:GbD}(hg:L[i]?=some g)(h0:hpE g.more=0){v':GrV}(hv:v'.pl=fullG g):PbI L ss (i+1) (vs.set i v'):=by
 have hlt:=(aP.1 hg).1;have hge:=(aP.1 hg).2;refine⟨?_,λj hj=>?_⟩
 .rw [List.map_set,h.pl,hv]
  have h1:L.drop i=g::L.drop (i+1):=by rw [dX hlt,hge]
  have h2:L.take (i+1)=L.take i++[g]:=by rw [eH,hg];rfl
  have h3:((L.take i).map fullG).length=i:=by rw [a6,aV];omega
  rw [h1,h2,bS,aZ,iO _ _ (by omega),h3,fK,aR];rfl
 .rcases tN.1 hj with hj|rfl
  .exact h.ok j hj
  .rw [cQ,hg];show some (hpE g.more)=_;rw [h0]
theorem PbI.at_{L:List GbD}{ss:List Seg}{i:Nat}{vs:List GrV}(h:PbI L ss i vs){g:GbD}(hg:L[i]?=some g):∃v,vs[i]?=some v/\v.pl=bareG g:=by
 have hlt:=(aP.1 hg).1;have h3:((L.take i).map fullG).length=i:=by rw [a6,aV];omega
 have h1:=congrArg (λl=>l[i]?) h.pl;simp only [cQ] at h1;rw [b9 (by omega),h3,fK,cQ,j7,cD,hg] at h1;cases hv:vs[i]? with
 | none=>rw [hv] at h1;cases h1
 | some v =>
  rw [hv] at h1;exact⟨v,rfl,bL h1⟩
abbrev SgS(A:Option Addr)(c:Nat)(l:List Seg):Res:=OwnS 0 39 1 eSeg A c l
abbrev StX(b:List UInt8):={ vs:List GrV // vs.map GrV.pl=stpG b }×PX
abbrev stpP(b:List UInt8):Post (StX b):={ ret:=λx=>.t [prQ (stpW b),.c (.v (.slice x.2.1 x.1.1.length x.2.2)),.c (.v (.int .i64 (stpE b:Int)))],p:=λx w=>Rd 34 eGr x.2.1 x.2.2 x.1.1 w/\∀g∈x.1.1,g.rd w }
def gr_cl(g:GrV):(eGr g).cl=By g.id++[.slice g.k.A g.k.l.length g.k.c,.slice g.U g.more.length g.u]:=by show(eGr g).den.cells.toList=_;show(catP g.parts).toList=_;simp [catP,GrV.parts,Pt.cells,SC.den]
def gr_setU(g:GrV)(U:Option Addr)(u:Nat)(us:List UV):(eGr ⟨g.id,g.h32,g.k,U,u,us⟩).cl=(eGr g).cl.take 33++(SQ.c (.v (.slice U us.length u))).cl++(eGr g).cl.drop 34:=by
 have h1:(By g.id).length=32:=by rw [By_len,g.h32]
 rw [gr_cl,gr_cl,List.take_append,List.drop_append,h1,bK (by omega),c8 (by omega)];simp [SQ.cl,SQ.den,SC.den,Value.cells]
def apL_len(l:List UInt8):(apL l).length=apN l:=by unfold apL;rw [a6,List.length_range]
structure PrS where
  i:Nat
  r:RX
  vs:List GrV
  X:PX
  ss:List Seg
  Y:PX
structure PqS where
  i:Nat
  vs:List GrV
theorem aparse_S{A:Option Addr}{c:Nat}(l:List UInt8)(hl:l.length<=281474976710656):Spec 39 [.slice A l.length c] [] (λw=>Ta w/\Rd 1 eB A c l w) (stpP l):=by
 refine zQ [.c (.v (.slice A l.length c))] 83 func39 rfl (by rw [ntmps39];rfl) (one_ok trivial) λb=>?_;refine zA rfl (zC rfl λK1 hK1=>?_);refine l_call0 [.slice A l.length c] rfl rfl rfl (λ_ _=>by go_simp) rfl rfl (λ_ _=>rfl) (rdnew_S l hl) (λw h _=>h.2) λ⟨g,g0⟩=>?_;refine zB rfl (zJ (hK1 _ (zC rfl λK2 hK2=>l_R [RdrS g (some ⟨g0,0,none⟩) l.length (l,0)] rfl ?_)));have hbl:(byO (l,0)).length<=1048576:=bP (tkO_le _ _).1 (moO_le _ _);have hb0:byO (l,0)=apP l:=rfl;have hrb:=rbytes_S g (A:=some ⟨g0,0,none⟩) (c:=l.length) (l,0);rw [hb0] at hrb hbl;obtain⟨top,htop⟩:∃top,apP l=top:=⟨_,rfl⟩;rw [htop] at hrb;refine l_callA [ptr g] rfl rfl rfl (λ_ _=>by go_simp) rfl rfl (λ_ _=>rfl) hrb (λw _ h=>h.1) λ⟨gt,A1,c1⟩=>?_;refine l_R [RdrS g A1 c1 (byS (l,0))] rfl (zB rfl (zJ (hK2 _ (zA rfl (zA rfl ?_)))));obtain⟨n,hn⟩:∃n,apN l=n:=⟨_,rfl⟩;obtain⟨z,hz⟩:∃z,apM l=z:=⟨_,rfl⟩;have hn6:n<=65536:=by rw [<-hn];exact moO_le _ _
 have hz11:z.2≠11:=by rw [<-hz];exact mo_11 (by_11 (show(0:Nat)≠11 by decide))
 have hrc:=rcount_S g (A:=A1) (c:=c1) (byS (l,0));have hn':moO 65536 (byS (l,0))=n:=hn;have hz':moS 65536 (byS (l,0))=z:=hz;rw [hn',hz'] at hrc;refine zM λK hK=>zC rfl λK3 hK3=>?_;refine l_callA [ptr g] rfl rfl rfl (λ_ _=>by go_simp) rfl rfl (λ_ _=>rfl) hrc (λw h _=>h.1) λ⟨A2,c2⟩=>?_;refine l_R [RdrS g A2 c2 z] rfl (zB rfl (l_nil0 0 39 1 eSeg (l_nil0 0 60 34 eGr (zJ (hK3 _ (zN ?_))))));let Es:PrS->SE:=λs=>[(5,.v (ptr g)),(6,.v (.slice (some ⟨gt,0,none⟩) top.length top.length)),(9,.v (.int .i64 (n:Int))),(7,.v (.slice s.X.1 s.vs.length s.X.2)),(8,.v (.slice s.Y.1 s.ss.length s.Y.2)),(2,.a 2 0)];let Ls:List LV:=[⟨2,none,87,[.one (.v PW.empty.top)]⟩];let Ff:PrS->World->Prop:=λs w=>(Ta w/\Rd 1 eB (some ⟨gt,0,none⟩) top.length top w)/\(∀v∈s.vs,v.rd w)/\(∀q∈s.ss,q.rd w)/\Rd 1 eB s.r.1 s.r.2 (itS grS z s.i).1 w;let Fs:PrS->Env:=λs=>⟨Es s,Ls,[RdrS g s.r.1 s.r.2 (itS grS z s.i),GrS s.X.1 s.X.2 s.vs,SgS s.Y.1 s.Y.2 s.ss],Ff s,λ_=>True⟩;have hfin:∀s:PrS,s.i<=n->PaI z s.i s.vs s.ss->((itS grS z s.i).2≠0\/s.i=n)->∀e,Weak e (Fs s)->kS b K 83 e:=by
  rintro⟨i,r,vs,X,ss,Y⟩ hi hP hor e hw;dsimp only at hi hP hor;obtain⟨hvl,hsl⟩:=hP.len;have hst:=itS_stop gr_stick hi hor;have hR:apR l=itS grS z i:=by unfold apR;rw [hn,hz];exact hst
  refine k_weak hw (hK _ ?_);obtain⟨e0,he0⟩:∃e0,endE (apR l)=e0:=⟨_,rfl⟩;have hrd:=rdone_S g (A:=r.1) (c:=r.2) (itS grS z i);rw [<-hR,he0] at hrd;refine zM λK5 hK5=>zC rfl λK4 hK4=>?_;refine l_R [RdrS g r.1 r.2 (apR l),GrS X.1 X.2 vs,SgS Y.1 Y.2 ss] (by rw [hR]) ?_;refine l_callA [ptr g] rfl rfl rfl (λ_ _=>by go_simp) rfl rfl (λ_ _=>rfl) hrd (λ_ _ _=>trivial) λ_=>?_;refine l_R [RdrS g r.1 r.2 (apR l),GrS X.1 X.2 vs,SgS Y.1 Y.2 ss] rfl (zB rfl (zJ (hK4 _ (zA rfl ?_))));refine zW ((e0:Int)≠0) rfl (λh1=>?_) (λh1=>?_)
  .have h1:e0≠0:=by omega
   have e3:stpE l=e0:=by unfold stpE;rw [he0,if_neg h1]
   have e4:stpG l=[]:=by unfold stpG;rw [if_neg (by omega)]
   have e5:stpW l = .empty:=by unfold stpW;rw [if_neg (by omega)]
   refine zA rfl (zP (k_drop 0 rfl (k_drop 0 rfl (k_drop 0 rfl ?_))));exact zR zY (⟨[],by rw [e4];rfl⟩,none,0) rfl (by decide) rfl (by show RV.t [prQ (stpW l),.c (.v (.slice none 0 0)),.c (.v (.int .i64 (stpE l:Int)))]=_;rw [e3,e5];rfl) rfl (λw _ _=>⟨Rd.nil _ _ _,λ_ h=>by cases h⟩) zU
  have h1:e0=0:=by omega
  have h0:endE (apR l)=0:=by rw [he0,h1]
  have hR2:(apR l).2=0:=(end_ok h0).1;obtain rfl:i=n:=hor.resolve_left λh=>h (by rw [<-hR];exact hR2);obtain⟨hPb,hss⟩:=PaI.bare (b:=l) (by rw [hz,hn];exact hP) hR2;have hLn:(apL l).length=i:=by rw [apL_len,hn]
  refine zO (hK5 _ ?_);have hwp:=wParse_S (A:=some ⟨gt,0,none⟩) (c:=top.length) top;have hbadP:∀ee,PW.parse top = .error ee->stpE l=ee/\stpG l=[]/\stpW l = .empty/\ee≠0:=by
   intro ee hee;have hne:=parse_err hee;have e3:stpE l=ee:=by
    have:prtE (apP l)=ee:=by unfold prtE;rw [htop,hee]
    unfold stpE;rw [if_pos h0,this,if_neg hne]
   exact⟨e3,by unfold stpG;rw [if_neg (by omega)],by unfold stpW;rw [if_neg (by omega)],hne⟩
  cases hpp:PW.parse top with
  | error ee =>
   obtain⟨e3,e4,e5,hne⟩:=hbadP ee hpp;rw [hpp] at hwp;refine zC rfl λK6 hK6=>?_;refine l_call0 [.slice (some ⟨gt,0,none⟩) top.length top.length] rfl rfl rfl (λ_ _=>by go_simp) rfl rfl (λ_ _=>rfl) hwp (λw h _=>⟨h.2.1.2,h.2.1.1.sh⟩) λ_=>?_;refine zB rfl (zJ (hK6 _ (zM λK7 hK7=>zA rfl ?_)));refine zW ((ee:Int)≠0) rfl (λ_=>?_) (λh=>absurd h (by omega));refine zA rfl (zP (k_drop 0 rfl (k_drop 0 rfl (k_drop 0 rfl ?_))));exact zR zY (⟨[],by rw [e4];rfl⟩,none,0) rfl (by decide) rfl (by show RV.t [prQ (stpW l),.c (.v (.slice none 0 0)),.c (.v (.int .i64 (stpE l:Int)))]=_;rw [e3,e5];rfl) rfl (λw _ _=>⟨Rd.nil _ _ _,λ_ h=>by cases h⟩) zU
  | ok W =>
   have hpr:prtE (apP l)=0:=by unfold prtE;rw [htop,hpp]
   rw [hpp] at hwp;refine zC rfl λK6 hK6=>?_;refine l_call0 [.slice (some ⟨gt,0,none⟩) top.length top.length] rfl rfl rfl (λ_ _=>by go_simp) rfl rfl (λ_ _=>rfl) hwp (λw h _=>⟨h.2.1.2,h.2.1.1.sh⟩) λ_=>?_;refine zB rfl (zJ (hK6 _ (zM λK7 hK7=>zA rfl ?_)));refine zW ((0:Int)≠0) rfl (λh=>absurd rfl h) (λ_=>?_);refine zO (hK7 _ (s_free 2 rfl (zM λK8 hK8=>zA rfl (zN ?_))))
   let Gs:PqS->Env:=λs=>⟨[(62,.v (.int .i64 (s.i:Int))),(61,.v (.int .i64 (ss.length:Int))),(60,.v (.slice Y.1 ss.length Y.2)),(7,.v (.slice X.1 vs.length X.2)),(12,.a 12 0),(2,.a 2 0)],[⟨12,none,87,[.one (.v W.top)]⟩,⟨2,none,87,[.one (.v PW.empty.top)]⟩],[RdrS g r.1 r.2 (apR l),GrS X.1 X.2 s.vs],λw=>(Rd 1 eSeg Y.1 Y.2 ss w/\∀q∈ss,q.rd w)/\∀v∈s.vs,v.rd w,λ_=>True⟩
   refine c_weak (e':=Gs ⟨0,vs⟩) ⟨zE rfl, zL rfl rfl, .refl _,λ_ h _=>⟨⟨h.1,h.2.2.2.2.2.1⟩,h.2.2.2.2.1⟩, zU⟩ (s_loop (λs=>ss.length-s.i) Gs (λs=>s.i<=ss.length/\PbI (apL l) ss s.i s.vs) ?_ ⟨0,vs⟩ ⟨aN _,hPb⟩)
   rintro⟨j,ws⟩ ⟨hj,hB⟩
   dsimp only at hj hB
   have hwl:ws.length=vs.length:=by have:=congrArg lR hB.pl;simp only [a6,aA,aV,List.length_drop] at this;omega
   refine zA rfl (zM λK9 hK9=>?_);refine zW ((j:Int)<(ss.length:Int)) rfl (λhlt=>?_) (λhge=>?_)
   .have hlt:j<ss.length:=by omega
    obtain⟨sg,hsg⟩:∃sg,ss[j]?=some sg:=⟨_,aK hlt⟩;obtain⟨gd,hgd⟩:∃gd,(apL l)[j]?=some gd:=⟨_,aK (by omega)⟩;have hsl2:sg.l=gd.more:=by have h2:=congrArg (λl=>l[j]?) hss;simp only [cQ,hsg,hgd,bN] at h2;exact bL h2
    have hgl:sg.l.length<=281474976710656:=by rw [hsl2];unfold apL at hgd;rw [cQ] at hgd;obtain⟨q,_,rfl⟩:=sZ.1 hgd;have:(byO (gbS (itS grS (apM l) q))).length<=1048576:=bP (tkO_le _ _).1 (moO_le _ _);show(byO (gbS (itS grS (apM l) q))).length<=_;omega
    obtain⟨v,hv,hvp⟩:=hB.at_ hgd;have hwf:=(aP.1 hv).1;have hhp:=hparse_S (A:=sg.A) (c:=sg.c) sg.l hgl;obtain⟨us,hus⟩:∃us,hpU sg.l=us:=⟨_,rfl⟩;obtain⟨ee,hee⟩:∃ee,hpE sg.l=ee:=⟨_,rfl⟩;rw [hus,hee] at hhp;have hmap:((apL l).map λg=>hpE g.more)[j]?=some ee:=by rw [cQ,hgd,<-hee,hsl2];rfl
    refine zO (hK9 _ (zM λK10 hK10=>zN (zC rfl λK11 hK11=>l_elem zY rfl rfl rfl j rfl hsg rfl rfl (rd_fact λ_ h _=>h.1.1) (zB rfl (zJ (hK11 _ ?_))))));refine s_where 1 rfl (show 0<ws.length by omega) λgx hX=>?_;refine zC rfl λK12 hK12=>?_;refine l_call0 [.slice sg.A sg.l.length sg.c] rfl rfl rfl (λ_ _=>by go_simp) rfl rfl (λ_ _=>rfl) hhp (λw h _=>h.1.2 sg (a8 hsg)) λx=>?_;refine zB rfl ?_;refine l_op (.v (.pointer (some ⟨gx,0+34*j,none⟩))) trivial rfl rfl rfl (runO_ixS j rfl underlying54 rfl (by rw [<-hX];rfl) rfl (by omega)) ?_;refine zB rfl ?_;refine l_R [RdrS g r.1 r.2 (apR l),GrS (some ⟨gx,0,none⟩) X.2 ws] (by rw [<-hX];rfl) ?_;refine l_stFd (q:=.c (.v (.slice x.1 us.length x.2))) 1 j 33 1 v ⟨v.id,v.h32,v.k,x.1,x.2,us⟩ rfl rfl rfl rfl (congrArg (λz:Nat=>some (SV.v (.pointer (some ⟨gx,z,none⟩)))) (show 0+34*j+33=34*j+33 by omega)) rfl hv (by kernel_rfl) rfl (λy hy=>by rw [aE.1 hy];rfl) (gr_setU v x.1 x.2 us) (by decide) (eGr_ok _) ?_;refine zB rfl (zJ (hK12 _ (zA rfl ?_)));refine zW ((ee:Int)≠0) rfl (λh2=>?_) (λh2=>?_)
    .have h2:ee≠0:=by omega
     have e3:stpE l=ee:=by unfold stpE;rw [if_pos h0,if_pos hpr];exact firstE_at hB.ok hmap h2
     have e4:stpG l=[]:=by unfold stpG;rw [if_neg (by omega)]
     have e5:stpW l = .empty:=by unfold stpW;rw [if_neg (by omega)]
     refine zA rfl (zP (k_drop 0 rfl (k_drop 0 rfl ?_)));exact zR zY (⟨[],by rw [e4];rfl⟩,none,0) rfl (by decide) rfl (by show RV.t [prQ (stpW l),.c (.v (.slice none 0 0)),.c (.v (.int .i64 (stpE l:Int)))]=_;rw [e3,e5];rfl) rfl (λw _ _=>⟨Rd.nil _ _ _,λ_ h=>by cases h⟩) zU
    have h2:ee=0:=by omega
    refine zO (hK10 _ (zD rfl ?_));refine zX ⟨j+1,ws.set j ⟨v.id,v.h32,v.k,x.1,x.2,us⟩⟩ ⟨hlt,hB.step hgd (by rw [<-hsl2,hee,h2]) ?_⟩ (by show ss.length-(j+1)<ss.length-j;omega) ⟨⟨nextI j ss.length (by omega) hlt,rfl,rfl,rfl,rfl,rfl,trivial⟩,⟨rfl,rfl,rfl,rfl,trivial⟩,by show lG [_,GrS (some ⟨gx,0,none⟩) X.2 _] [_,GrS X.1 X.2 _];rw [hX],λw h _=>⟨h.2.1,λq hq=>?_⟩, zU⟩
    .have a1:v.id=gd.id:=congrArg GrD.id hvp;have a2:v.k.l=gd.keys:=congrArg GrD.keys hvp;show(⟨v.id,v.k.l,us⟩:GrD)=⟨gd.id,gd.keys,hpU gd.more⟩;rw [a1,a2,<-hus,hsl2]
    .rcases List.mem_or_eq_of_mem_set hq with hq|rfl
     .exact h.2.2 q hq
     .exact⟨(h.2.2 v (a8 hv)).1,h.1⟩
   obtain rfl:ss.length=j:=by omega
   have hall:∀e∈(apL l).map λg=>hpE g.more,e=0:=λe he=>by obtain⟨j,hj⟩:=gP he;have hlt:=(aP.1 hj).1;rw [a6] at hlt;have:=hB.ok j (by omega);rw [hj] at this;exact bL this
   have e3:stpE l=0:=by unfold stpE;rw [if_pos h0,if_pos hpr];exact firstE_all hall
   have e4:stpG l=ws.map GrV.pl:=by unfold stpG;rw [if_pos e3,hB.pl,bK (by omega),c8 (by omega),List.map_nil,bB];rfl
   have e5:stpW l=W:=by unfold stpW;rw [if_pos e3,htop,hpp]
   refine s_exit (zS (zS (k_out (k_drop 0 rfl (hK8 _ (s_free 0 rfl (zA rfl ?_)))))));refine zP (k_weak (e':=⟨[(3,.v (.slice X.1 ws.length X.2)),(4,.v (.int .i64 0)),(2,.a 2 0)],[⟨2,none,87,[.one (.v W.top)]⟩],[],λw=>Rd 34 eGr X.1 X.2 ws w/\∀v∈ws,v.rd w,λ_=>True⟩) ⟨⟨by rw [hwl];rfl,rfl,rfl,trivial⟩,⟨rfl,rfl,trivial⟩,.refl _,λ_ h _=>⟨h.1,h.2.2⟩, zU⟩ ?_);exact zR zY (⟨ws,e4.symm⟩,X) rfl (by decide) rfl (by show RV.t [prQ (stpW l),.c (.v (.slice X.1 ws.length X.2)),.c (.v (.int .i64 (stpE l:Int)))]=_;rw [e3,e5];rfl) rfl (λw h _=>h) zU
 refine c_weak (e':=Fs ⟨0,(A2,c2),[],(none,0),[],(none,0)⟩) ⟨zE rfl, ⟨rfl,rfl,trivial⟩,?_,λ_ h hM=>⟨⟨h.2.2.2.1,hM.2.1⟩,λ_ h=>(by cases h),λ_ h=>(by cases h),h.1⟩, zU⟩ (s_loop (λs=>n-s.i) Fs (λs=>s.i<=n/\PaI z s.i s.vs s.ss) ?_ ⟨0,(A2,c2),[],(none,0),[],(none,0)⟩ ⟨aN _,PaI.zero z⟩)
 .exact uM (l₁:=[_,_]) (l₂:=[_])
 rintro⟨i,r,vs,X,ss,Y⟩ ⟨hi,hP⟩;dsimp only at hi hP;obtain⟨hvl,hsl⟩:=hP.len;have h11:=it_11 (f:=grS) (λ_ h=>gr_11 h) hz11 i;refine zM λK5 hK5=>zC rfl λK6 hK6=>?_;by_cases hlt:¬i<n
 .refine l_is 26 false rfl (decide_eq_false (show ¬(vs.length:Int)<(n:Int) by omega)) ?_;refine zB rfl (zJ (hK6 _ (s_no rfl (s_exit (zS (zS (k_out ?_)))))));exact hfin ⟨i,r,vs,X,ss,Y⟩ hi hP (.inr (by show i=n;omega)) _ ⟨zE rfl, zL rfl rfl, .refl _,λ_ h _=>h,λ_ h=>h⟩
 have hlt':i<n:=by omega
 refine l_is 26 true rfl (decide_eq_true (show(vs.length:Int)<(n:Int) by omega)) ?_;refine zB rfl ?_;obtain⟨s,hs⟩:∃s,itS grS z i=s:=⟨_,rfl⟩;have hsn:itS grS z (i+1)=byS (gbS s):=by rw [<-hs];rfl
 rw [hs] at h11;refine l_R [RdrS g r.1 r.2 s,GrS X.1 X.2 vs,SgS Y.1 Y.2 ss] (by rw [<-hs]) ?_;refine l_callA [ptr g] rfl rfl rfl (λ_ _=>by go_simp) rfl rfl (λ_ _=>rfl) (goesOn_S g (A:=r.1) (c:=r.2) h11) (λ_ _ _=>trivial) λ_=>?_;refine l_R [RdrS g r.1 r.2 s,GrS X.1 X.2 vs,SgS Y.1 Y.2 ss] rfl (zB rfl (zJ (hK6 _ ?_)));refine zW (s.2=0) rfl (λh0=>?_) (λh0=>?_)
 .refine zO (hK5 _ ?_)
  have hh:=haO_len s;have hrh:=rdhash_S g (A:=r.1) (c:=r.2) s;obtain⟨h1,hh1⟩:∃h1,haO s=h1:=⟨_,rfl⟩;rw [hh1] at hh hrh;refine zN (zC rfl λK7 hK7=>?_);refine l_callA [ptr g] rfl rfl rfl (λ_ _=>by go_simp) rfl rfl (λ_ _=>rfl) hrh (λw h _=>by rw [<-hs];exact h.2.2.2.2) λ⟨A3,c3⟩=>?_;refine l_R [RdrS g A3 c3 (haS s),GrS X.1 X.2 vs,SgS Y.1 Y.2 ss] rfl (zB rfl (zJ (hK7 _ (zC rfl λK8 hK8=>?_))));refine l_callA [ptr g] rfl rfl rfl (λ_ _=>by go_simp) rfl rfl (λ_ _=>rfl) (akeys_S g (A:=A3) (c:=c3) (haS s) (tk_11 h11)) (λw h _=>h.1) λ⟨⟨k,hk⟩,⟨A4,c4⟩,A5,c5⟩=>?_;refine l_R [RdrS g A4 c4 (gbS s),GrS X.1 X.2 vs,SgS Y.1 Y.2 ss] rfl (zB rfl (zJ (hK8 _ ?_)));have hk:(gbS s).2=0->k=gkN s:=hk;refine zC rfl λK9 hK9=>?_;refine l_push zY 1 (⟨h1,hh,⟨A5,c5,ksI (gkS s) k⟩,none,0,[]⟩:GrV) (fe:=eGr) rfl rfl rfl rfl rfl rfl rfl (eGr_ok _) (by decide) (by decide) (by rw [hvl];show(i+1)*80<=_;omega) (by omega) (aN _) λB1 b1=>?_;refine zB rfl (zJ (hK9 _ (s_lit (zB rfl ?_))));have hrb2:=rbytes_S g (A:=A4) (c:=c4) (gbS s);rw [<-hsn] at hrb2;obtain⟨bs,hbs⟩:∃bs,byO (gbS s)=bs:=⟨_,rfl⟩;rw [hbs] at hrb2;refine l_callA [ptr g] rfl rfl rfl (λ_ _=>by go_simp) rfl rfl (λ_ _=>rfl) hrb2 (λw h _=>h.1.2) λ⟨gs,A6,c6⟩=>?_;refine l_R [RdrS g A6 c6 (itS grS z (i+1)),GrS B1 b1 (vs++[⟨h1,hh,⟨A5,c5,ksI (gkS s) k⟩,none,0,[]⟩]),SgS Y.1 Y.2 ss] rfl ?_;refine l_push zY 2 (⟨some ⟨gs,0,none⟩,bs.length,bs⟩:Seg) (fe:=eSeg) rfl rfl rfl rfl rfl rfl rfl (eSeg_ok _) (by decide) (by decide) (by rw [hsl];show(i+1)*24<=_;omega) (by omega) (aN _) λB2 b2=>?_;refine zB rfl (zJ ?_);refine zX ⟨i+1,(A6,c6),vs++[⟨h1,hh,⟨A5,c5,ksI (gkS s) k⟩,none,0,[]⟩],(B1,b1),ss++[⟨some ⟨gs,0,none⟩,bs.length,bs⟩],(B2,b2)⟩ ⟨hlt',hP.next (by rw [hs];exact hh1.symm) (by rw [hs];exact λh=>congrArg (ksI (gkS s)) (hk h)) rfl (by rw [hs];exact hbs.symm)⟩ (by show n-(i+1)<n-i;omega) ⟨zE rfl, zL rfl rfl, .refl _,λw h hM=>?_, zU⟩;refine⟨h.2.2.2.2.1,λv hv=>?_,λq hq=>?_,h.1⟩
  .rcases bO.1 hv with hv|hv
   .exact h.2.2.2.2.2.1 v hv
   .rw [aE.1 hv];exact⟨h.2.1.1,Rd.nil _ _ _⟩
  .rcases bO.1 hq with hq|hq
   .exact h.2.2.2.2.2.2.1 q hq
   .rw [aE.1 hq];exact hM.1
 .refine s_exit (zS (zS (k_out ?_)));exact hfin ⟨i,r,vs,X,ss,Y⟩ hi hP (.inl (by show(itS grS z i).2≠0;rw [hs];exact h0)) _ ⟨zE rfl, ⟨rfl,rfl,trivial⟩,by show lG _ [RdrS g r.1 r.2 (itS grS z i),_,_];rw [hs],λ_ h _=>h.2, zU⟩
theorem aGrown_S{A:Option Addr}{c:Nat}(l:List UInt8)(hl:l.length<=281474976710656):Spec 16 [.slice A l.length c] [] (λw=>Ta w/\Rd 1 eB A c l w) { ret:=λx:StX l=>.t [.c (.v (.slice x.2.1 x.1.1.length x.2.2)),.c (.v (.int .i64 (stpE l:Int)))],p:=λx w=>Rd 34 eGr x.2.1 x.2.2 x.1.1 w/\∀g∈x.1.1,g.rd w }:=by refine zQ [.c (.v (.slice A l.length c))] 15 func16 rfl (by rw [ntmps16];rfl) (one_ok trivial) λb=>?_;refine zA rfl (zC rfl λK1 hK1=>?_);have hp:=aparse_S (A:=A) (c:=c) l hl;obtain⟨W,hW⟩:∃W,stpW l=W:=⟨_,rfl⟩;obtain⟨e,he⟩:∃e,stpE l=e:=⟨_,rfl⟩;unfold stpP at hp;rw [hW,he] at hp;refine l_call0 [.slice A l.length c] rfl rfl rfl (λ_ _=>by go_simp) rfl rfl (λ_ _=>rfl) hp (λ_ h _=>h) λx=>?_;refine zB rfl (zJ (hK1 _ (zA rfl (zP (k_weak (e':=⟨[(2,.v (.slice x.2.1 x.1.1.length x.2.2)),(3,.v (.int .i64 (e:Int)))],[],[],λw=>Rd 34 eGr x.2.1 x.2.2 x.1.1 w/\∀g∈x.1.1,g.rd w,λ_=>True⟩) ⟨zE rfl, trivial, .refl _,λ_ h _=>h.1, zU⟩ ?_)))));exact zR zY x rfl (by decide) rfl (by show RV.t [.c (.v (.slice x.2.1 x.1.1.length x.2.2)),.c (.v (.int .i64 (stpE l:Int)))]=_;rw [he];rfl) rfl (λ_ h _=>h) zU
noncomputable def grwE(W:PW)(g:GrD):Nat :=
  if (PW.tell g.id (PW.find g.id 0 W)).2.2=true then 100
  else if (PW.tell g.id (PW.find g.id 0 W)).2.1≠decide (g.keys≠[])\/((PW.tell g.id (PW.find g.id 0 W)).2.1=true/\(PW.tell g.id (PW.find g.id 0 W)).1≠valH g.keys) then 130
  else upsE g.id g.keys g.more
theorem upsE_at{id:List UInt8}:∀{us:List UV} {ks:List (List UInt8)} {i e:Nat} {u:UV},us[i]?=some u->(∀(j:Nat) (v:UV),j<i->us[j]?=some v->v.id=id/\signB v=true/\v.ver=(ks.length:Int)+(j:Int)+1) ->
  (if u.id≠id\/signB u=false then 110 else if u.ver≠(ks.length:Int)+(i:Int)+1 then 111 else 0)=e->e≠0->upsE id ks us=e
 | [],_,_,_,_,h,_,_,_=>by simp at h
 | v::us,ks,0,e,u,h,_,he,h0=>by
  obtain rfl:v=u:=by simpa using h
  unfold upsE;by_cases c:v.id≠id\/signB v=false
  .rw [if_pos c] at he ⊢;exact he
  .rw [if_neg c] at he ⊢
   by_cases c2:v.ver≠(ks.length:Int)+1
   .rw [if_pos c2];rw [if_pos (by simpa using c2)] at he;exact he
   .rw [if_neg (by simpa using c2)] at he;exact absurd he.symm h0
 | v::us,ks,i+1,e,u,h,hp,he,h0=>by
  obtain⟨g1,g2,g3⟩:=hp 0 v (Nat.succ_pos _) rfl;unfold upsE;rw [if_neg (by rw [g2];simp [g1]),if_neg (by rw [g3];simp)];have hl:((ks++[v.key]).length:Int)=(ks.length:Int)+1:=by simp
  refine upsE_at (us:=us) (i:=i) (u:=u) (by simpa using h) (λj x hj hx=>?_) ?_ h0
  .obtain⟨x1,x2,x3⟩:=hp (j+1) x (Nat.succ_lt_succ hj) (by simpa using hx);refine⟨x1,x2,?_⟩;rw [x3,hl];omega
  .rw [hl];rw [show(ks.length:Int)+1+(i:Int)+1=(ks.length:Int)+((i+1:Nat):Int)+1 by omega];exact he
abbrev histK(ks:List (List UInt8))(us:List UV):List (List UInt8):=ks++us.map (·.key)
def histK_take{ks:List (List UInt8)}{us:List UV}{i:Nat}{u:UV}(h:us[i]?=some u):histK ks (us.take (i+1))=histK ks (us.take i)++[u.key]:=by unfold histK;rw [eH,h,bS,<-aR];rfl
noncomputable def growR(W:PW)(g:GrD):RV:=.t [prQ (if grwE W g=0 then PW.put g.pair 0 W else .empty),.c (.v (.int .i64 (grwE W g:Int)))]
def growR_no{W:PW}{g:GrD}{e:Nat}(h:grwE W g=e)(h0:e≠0):growR W g = .t [prQ .empty,.c (.v (.int .i64 (e:Int)))]:=by unfold growR;rw [h,if_neg h0]
structure GwS where
  i:Nat
  k:HSeg
theorem agrow_S{W:PW}(hr:W.Right [])(g:GrV)(hus:∀u∈g.more,u.Ok)(hl:g.k.l.length+g.more.length<=1000):Spec 42 [(prQ W).den,(eGr g).den] [] (λw=>Ta w/\g.rd w) (one (growR W g.pl)):=by
 refine zQ [prQ W,eGr g] 75 func42 rfl (by rw [ntmps42];rfl) (two_ok (prQ_ok W) g.parts_ok) λb=>?_;refine zA rfl ?_;have hget:=wGet_S g.h32 W hr;obtain⟨tl,htl⟩:∃tl,PW.tell g.id (PW.find g.id 0 W)=tl:=⟨_,rfl⟩;have ht32:tl.1.length=32:=by rw [<-htl];exact PW.tell_len hr.good
 have hval:=hvalue_S (A:=g.k.A) (c:=g.k.c) g.k.l;have hv32:(valH g.k.l).length=32:=dig_len _;have hE:grwE W g.pl=if tl.2.2=true then 100 else if tl.2.1≠decide (g.k.l≠[])\/(tl.2.1=true/\tl.1≠valH g.k.l) then 130 else upsE g.id g.k.l g.more:=by unfold grwE;dsimp only;rw [htl]
 rw [htl] at hget;obtain⟨tv,tt,tu⟩:=tl;dsimp only at ht32 hE;cases tu with
 | true =>
  refine zC rfl λK4 hK4=>?_;refine l_call0 [(prQ W).den,(eY 32 g.id).den] rfl rfl rfl (λ_ _=>by go_simp) rfl rfl (λ_ _=>rfl) hget (λ_ _ _=>trivial) λ_=>?_;refine zB rfl (zJ (hK4 _ (zM λK5 hK5=>zA rfl ?_)));refine zW ((100:Int)≠0) rfl (λ_=>?_) (λh=>absurd (by decide) h);refine zA rfl ?_;exact zP (zR zY () rfl (by decide) rfl (growR_no (e:=100) (by rw [hE];rfl) (by decide)) rfl (λ_ _ _=>trivial) zU)
 | false =>
  obtain⟨va,hva⟩:∃va,valH g.k.l=va:=⟨_,rfl⟩;rw [hva] at hval hv32 hE;refine zC rfl λK4 hK4=>?_;refine l_call0 [(prQ W).den,(eY 32 g.id).den] rfl rfl rfl (λ_ _=>by go_simp) rfl rfl (λ_ _=>rfl) hget (λ_ _ _=>trivial) λ_=>?_;refine zB rfl (zJ (hK4 _ (zM λK5 hK5=>zA rfl ?_)));refine zW ((0:Int)≠0) rfl (λh=>absurd rfl h) λ_=>?_;refine zO (hK5 _ (zM λK6 hK6=>?_))
  have hpos:decide ((g.k.l.length:Int)>0)=decide (g.k.l≠[]):=by
   rw [decide_eq_decide];cases g.k.l with
   | nil=>simp
   | cons=>simp
  have hbad:((tt≠decide (g.k.l≠[]))\/(tt=true/\tv≠va))->grwE W g.pl=130:=λh=>by rw [hE,if_neg (by decide),if_pos h]
  have hgood:(tt=decide (g.k.l≠[]))->(tt=true->tv=va)->∀e,Weak e ⟨[(2,.a 2 0),(3,.a 3 0),(4,.a 4 0)],[⟨4,none,87,[.one (.v PW.empty.top)]⟩,⟨3,none,60,g.parts⟩,⟨2,none,87,[.one (.v W.top)]⟩],[],λw=>Ta w/\g.rd w,λ_=>True⟩->kS b K6 75 e:=by
   intro hg1 hg2 e hw;refine k_weak hw (hK6 _ ?_);have hE2:grwE W g.pl=upsE g.id g.k.l g.more:=by
    rw [hE,if_neg (by decide),if_neg];rintro(h|h)
    .exact h hg1
    .exact h.2 (hg2 h.1)
   refine zA rfl (zM λK8 hK8=>zA rfl (zN ?_));let Ls:List LV:=[⟨4,none,87,[.one (.v PW.empty.top)]⟩,⟨3,none,60,g.parts⟩,⟨2,none,87,[.one (.v W.top)]⟩];let Fs:GwS->Env:=λs=>⟨[(46,.v (.int .i64 (s.i:Int))),(45,.v (.int .i64 (g.more.length:Int))),(44,.v (.slice g.U g.more.length g.u)),(9,.v (.slice s.k.A s.k.l.length s.k.c)),(2,.a 2 0),(3,.a 3 0),(4,.a 4 0)],Ls,[],λw=>(Ta w/\g.rd w)/\s.k.rd w,λ_=>True⟩;refine c_weak (e':=Fs ⟨0,g.k⟩) ⟨zE rfl, zL rfl rfl, .refl _,λ_ h _=>⟨h,h.2.1⟩, zU⟩ (s_loop (λs=>g.more.length-s.i) Fs (λs=>s.i<=g.more.length/\s.k.l=histK g.k.l (g.more.take s.i)/\∀(j:Nat) (v:UV),j<s.i->g.more[j]?=some v->v.id=g.id/\signB v=true/\v.ver=(g.k.l.length:Int)+(j:Int)+1) ?_ ⟨0,g.k⟩ ⟨aN _,by simp [histK],λ_ _ h=>absurd h (iN _)⟩);rintro⟨i,k⟩ ⟨hi,hkl,hall⟩;dsimp only at hi hkl hall;have hklen:k.l.length=g.k.l.length+i:=by rw [hkl];simp only [histK,aA,a6,aV];omega
   refine zA rfl (zM λK9 hK9=>?_);refine zW ((i:Int)<(g.more.length:Int)) rfl (λhlt=>?_) (λhge=>?_)
   .have hlt:i<g.more.length:=by omega
    obtain⟨u,hu⟩:∃u,g.more[i]?=some u:=⟨_,aK hlt⟩;have huo:=hus u (a8 hu);refine zO (hK9 _ (zM λK10 hK10=>zN (zC rfl λK11 hK11=>l_elem zY rfl rfl rfl i rfl hu rfl rfl (rd_fact λ_ h _=>h.1.2.2) (zB rfl (zJ (hK11 _ (zM λK12 hK12=>zC rfl λK13 hK13=>?_)))))));refine l_op (.b (!decide (u.id=g.id))) trivial rfl rfl rfl (run_neqY rfl rfl rfl underlying47 (by kernel_rfl) huo.id g.h32) ?_;refine zJ (hK13 _ ?_);refine s_if (!decide (u.id=g.id)) rfl (λhid=>?_) (λhid=>?_)
    .have hid:u.id≠g.id:=by simpa using hid
     have h110:upsE g.id g.k.l g.more=110:=upsE_at hu hall (by rw [if_pos (.inl hid)]) (by decide);refine zA rfl ?_;exact zP (zR zY () rfl (by decide) rfl (growR_no (hE2.trans h110) (by decide)) rfl (λ_ _ _=>trivial) zU)
    have hid:u.id=g.id:=by simpa using hid
    refine zO (hK12 _ ?_);obtain⟨ee,hee⟩:∃ee,nxE k.l u=ee:=⟨_,rfl⟩;obtain⟨kk,hkk⟩:∃kk,nxK k.l u=kk:=⟨_,rfl⟩;have hnx:=hnext_Q (A:=k.A) (c:=k.c) hee hkk huo (by omega);have hvr:((k.l.length:Int)+1)=(g.k.l.length:Int)+(i:Int)+1:=by omega
    refine zC rfl λK14 hK14=>?_;refine l_call0 [.slice k.A k.l.length k.c,(eU u).den] rfl rfl rfl (λ_ _=>by go_simp) rfl rfl (λ_ _=>rfl) hnx (λ_ h _=>⟨h.1.1,h.2⟩) λ⟨X,c2⟩=>?_;refine zB rfl (zJ (hK14 _ (zA rfl ?_)));refine zW ((ee:Int)≠0) rfl (λh0=>?_) (λh0=>?_)
    .have h0:ee≠0:=by omega
     have he:upsE g.id g.k.l g.more=ee:=upsE_at hu hall (by
      rw [<-hee];unfold nxE;rw [hvr];by_cases hs:signB u=true
      .rw [if_neg (by simp [hid,hs]),if_pos hs]
       by_cases hv:u.ver=(g.k.l.length:Int)+(i:Int)+1
       .rw [if_neg (by simp [hv]),if_pos hv]
       .rw [if_pos hv,if_neg hv]
      .rw [if_pos (.inr (by simpa using hs)),if_neg hs]) h0
     refine zA rfl ?_;exact zP (zR zY () rfl (by decide) rfl (growR_no (hE2.trans he) h0) rfl (λ_ _ _=>trivial) zU)
    have h0:nxE k.l u=0:=by omega
    have hnz:=nxE_zeroD.1 h0;have hk2:kk=k.l++[u.key]:=by rw [<-hkk];unfold nxK;rw [if_pos h0]
    refine zO (hK10 _ (zD rfl ?_));refine zX ⟨i+1,⟨X,c2,kk⟩⟩ ⟨hlt,?_,λj v hj hv=>?_⟩ (by show g.more.length-(i+1)<g.more.length-i;omega) ⟨⟨nextI i g.more.length (by omega) hlt,rfl,rfl,rfl,rfl,rfl,rfl,trivial⟩,zL rfl rfl, .refl _,λ_ h _=>⟨h.2.1,h.1⟩, zU⟩
    .show kk=_;rw [hk2,hkl,histK_take hu]
    .rcases tN.1 hj with hj|rfl
     .exact hall j v hj hv
     .rw [hu] at hv;injection hv with hv;subst hv;exact⟨hid,hnz.1,by rw [hnz.2];omega⟩
   obtain rfl:g.more.length=i:=by omega
   rw [dF] at hkl;have hz:upsE g.id g.k.l g.more=0:=upsE_ok λj v hj=>hall j v (aP.1 hj).1 hj;refine s_exit (zS (zS (k_out (hK8 _ ?_))));have hv2:=hvalue_S (A:=k.A) (c:=k.c) k.l;have hv3:(valH k.l).length=32:=dig_len _;have hput:=wPut_S (p:=(g.id,valH k.l)) ⟨g.h32,hv3⟩ W hr;have hunk:PW.unk g.id 0 W=false:=by unfold PW.unk;rw [htl]
   rw [hunk] at hput;have hfinE:growR W g.pl = .t [prQ (PW.put (g.id,valH k.l) 0 W),.c (.v (.int .i64 0))]:=by unfold growR;rw [hE2,hz,if_pos rfl,hkl];rfl
   obtain⟨W2,hW2⟩:∃W2,PW.put (g.id,valH k.l) 0 W=W2:=⟨_,rfl⟩;rw [hW2] at hput hfinE;obtain⟨v2,hv2e⟩:∃v2,valH k.l=v2:=⟨_,rfl⟩;rw [hv2e] at hput hv2 hv3;refine s_regH 8 (by decide) (by kernel_rfl) (by kernel_rfl) λK7 hK7 G S w0 hst=>?_;refine zV hst rfl ?_;refine h_callS (F':=λw=>Ta w/\Rd 32 (eY 32) k.A k.c k.l w) (r:=.q (eY 32 v2)) hst [.slice k.A k.l.length k.c] rfl rfl rfl rfl (λ_ _=>by go_simp) rfl rfl (λ_=>rfl) (eY_ok hv3).1 hv2 (λ_ _ _ h=>⟨h.fact.1.1,h.fact.2⟩) ?_;refine zV hst rfl ?_;refine h_callS (F':=Tsh) (r:=.t [prQ W2,.c (.v (.int .i64 0))]) hst [(prQ W).den,(eY 32 g.id).den,(eY 32 v2).den] rfl rfl rfl rfl (λ_ _=>by go_simp) rfl rfl (λ_=>rfl) (two_ok (prQ_ok W2) trivial) hput (λ_ _ _ h=>h.fact.1.1.sh) ?_;refine zV hst rfl (h_end hst (zB rfl (zJ (hK7 _ ?_))));exact zP (zR zY () rfl (by decide) rfl hfinE rfl (λ_ _ _=>trivial) zU)
  refine s_regH 16 (by decide) (by kernel_rfl) (by kernel_rfl) λK7 hK7 G S w0 hst=>?_;refine zV hst rfl (h_op hst (.b (!(tt==decide ((g.k.l.length:Int)>0)))) trivial rfl rfl rfl rfl (run_neqBoolW rfl rfl rfl (λ_=>rfl) (λ_=>rfl)) ?_)
  by_cases h1:tt=decide (g.k.l≠[])
  .refine h_is 29 false rfl (by rw [hpos,<-h1];simp) ?_
   refine zV hst rfl ?_;cases tt with
   | false =>
    refine zV hst rfl (h_end hst (zJ (hK7 _ (s_no rfl ?_))));exact zO (hgood h1 (λh=>by cases h) _ ⟨zE rfl, zL rfl rfl, .refl _,λ_ h _=>h.2, zU⟩)
   | true =>
    refine h_callS (F':=λw=>Ta w/\Rd 32 (eY 32) g.k.A g.k.c g.k.l w) (r:=.q (eY 32 va)) hst [.slice g.k.A g.k.l.length g.k.c] rfl rfl rfl rfl (λ_ _=>by go_simp) rfl rfl (λ_=>rfl) (eY_ok hv32).1 hval (λ_ _ _ h=>⟨h.fact.2.1,h.fact.2.2.1⟩) ?_;refine zV hst rfl ?_;refine h_op hst (.b (!decide (tv=va))) trivial rfl rfl rfl rfl (run_neqY rfl rfl rfl underlying47 (by kernel_rfl) ht32 hv32) ?_
    by_cases h2:tv=va
    .refine h_is 37 false rfl (by simp [h2]) ?_;refine zV hst rfl (h_end hst (zJ (hK7 _ (s_no rfl ?_))));exact zO (hgood h1 (λ_=>h2) _ ⟨zE rfl, zL rfl rfl, .refl _,λ_ h _=>h.2, zU⟩)
    .refine h_is 37 true rfl (by simp [h2]) ?_;refine zV hst rfl (h_end hst (zJ (hK7 _ (s_yes rfl (zA rfl ?_)))));exact zP (zR zY () rfl (by decide) rfl (growR_no (hbad (.inr ⟨rfl,h2⟩)) (by decide)) rfl (λ_ _ _=>trivial) zU)
  .refine h_is 29 true rfl (by rw [hpos];revert h1;cases tt<;>cases decide (g.k.l≠[])<;>simp) ?_;refine zV hst rfl (g_skips (b:=b) rfl (h_auto (Fa:=[]) zY hst rfl (h_end hst (zJ (hK7 _ (s_yes rfl (zA rfl ?_)))))));exact zP (zR zY () rfl (by decide) rfl (growR_no (hbad (.inl h1)) (by decide)) rfl (λ_ _ _=>trivial) zU)
def hpU_upd{b:List UInt8}:∀u∈hpU b,u.Ok:=λu hu=>by
 unfold hpU at hu;split at hu
 .unfold usI at hu;obtain⟨i,_,rfl⟩:=aU.1 hu;exact upO_ok _
 .cases hu
def stpG_ok{b:List UInt8}{g:GrD}(hg:g∈stpG b):∀u∈g.more,u.Ok:=λu hu=>by
 unfold stpG at hg;split at hg
 .obtain⟨q,_,rfl⟩:=aU.1 hg;exact hpU_upd u hu
 .cases hg
theorem flat32:∀{l:List (List UInt8)},(∀k∈l,k.length=32)->l.flatten.length=32*l.length
 | [],_=>rfl
 | k::l,h=>by rw [eK,aA,h k (.head _),flat32 λx hx=>h x (.tail _ hx),aY];omega
theorem raws_has:∀{gs:List GrD} {g:GrD},g∈gs->g.raw.bytes.length<=(gs.map λg=>g.raw.bytes).flatten.length
 | x::gs,g,h=>by
  rw [aZ,eK,aA];rcases aH.1 h with rfl|h
  .omega
  .have:=raws_has h;omega
def stpG_keys{b:List UInt8}{g:GrD}(hg:g∈stpG b):∀k∈g.keys,k.length=32:=by
 unfold stpG at hg;split at hg
 .obtain⟨q,hq,rfl⟩:=aU.1 hg;unfold apL at hq;obtain⟨j,_,rfl⟩:=aU.1 hq;exact ksI_32 _ _
 .cases hg
def stpG_small{b:List UInt8}(h:stpE b=0){g:GrD}(hg:g∈stpG b):32*g.keys.length+136*g.more.length<=b.length:=by
 have h1:=congrArg lR (stp_back h);have h2:=flat32 (stpG_keys hg);have h3:=batB_len (stpG_ok hg);have h4:=raws_has hg;have h5:g.raw.bytes.length=g.id.length+8+g.keys.flatten.length+8+(batB g.more).length:=by unfold GbD.bytes;simp only [aA,be8_len];omega
 obtain⟨gs,hgs⟩:∃gs,stpG b=gs:=⟨_,rfl⟩;rw [hgs] at h1 h4;rw [stpB_len] at h1;omega
def parse_right{p:List UInt8}{w:PW}(h:PW.parse p = .ok w):w.Right []:=(PW.parse_ok h).1
def stpW_right{b:List UInt8}{W:PW}(hW:stpW b=W)(h:stpE b=0):W.Right []:=by have h1:=stpW_ok h;rw [hW] at h1;exact parse_right h1
def leadE_bad{f t b:List UInt8}{e:Nat}(h:stpE b=e)(h0:e≠0):leadE f t b=e:=by unfold leadE;rw [h,if_neg h0]
def leadE_W{f t b:List UInt8}(h:stpE b=0):leadE f t b=if (stpW b).root=f then chkE t (stpW b) none (stpG b) else 130:=by unfold leadE;rw [if_pos h,stpW_ok h]
theorem gr_idR{g o c j:Nat}{vs:List GrV}{v:GrV}{w:World}(h:Rd 34 eGr (some ⟨g,o,none⟩) c vs w)(hj:vs[j]?=some v):Rd 1 eB (some ⟨g,o+34*j,none⟩) 32 v.id w:=by
 obtain⟨g',o',e,hlt,hr⟩:=h.2.2.2.2 (Nat.lt_of_le_of_lt (aN _) (aP.1 hj).1);injection e with e;injection e with e1 e2;subst e1 e2;have h1:=hr j v hj;refine⟨by rw [v.h32];exact aF _,by decide,λh=>(by cases h),okF_B _,λ_=>⟨g,_,rfl,hlt,λi x hi q y hq=>?_⟩⟩;have hq0:q=0:=by have:=(aP.1 hq).1;have e:(eB x).cl.length=1:=(eB_ok x).2;omega
 subst hq0;have hi32:i<32:=by rw [<-v.h32];exact(aP.1 hi).1
 have e2:y = .int .u8 (x.toNat:Int):=(bL ((show(eB x).cl[0]?=some (.int .u8 (x.toNat:Int)) from rfl).symm.trans hq)).symm;have h2:=h1 i (.int .u8 (x.toNat:Int)) (by rw [gr_cl,cR (by rw [By_len,v.h32];exact hi32)];simp [By,hi]);rw [e2,fM,cD];exact h2
structure CkS where
  i:Nat
  W:PW
def wasG(gs:List GrD)(i:Nat):Option (List UInt8):=if i=0 then none else(gs[i-1]?).map GrD.id
def wasG_next{gs:List GrD}{i:Nat}{g:GrD}(h:gs[i]?=some g):wasG gs (i+1)=some g.id:=by unfold wasG;rw [if_neg (Nat.succ_ne_zero i),Nat.add_sub_cancel,h];rfl
theorem acheck_S{f t:List UInt8}(hf:f.length=32)(ht:t.length=32){A:Option Addr}{c:Nat}(l:List UInt8)(hl:l.length<=30000):Spec 12 [(eY 32 f).den,(eY 32 t).den,.slice A l.length c] [] (λw=>Ta w/\Rd 1 eB A c l w) (one (.v (.int .i64 (leadE f t l:Int)))):=by
 refine zQ [eY 32 f,eY 32 t,.c (.v (.slice A l.length c))] 66 func12 rfl (by rw [ntmps12];rfl) (more_ok (eY_ok hf).1 (two_ok (eY_ok ht).1 trivial)) λb=>?_;refine zA rfl ?_;have hp:=aparse_S (A:=A) (c:=c) l (by omega);have hbad:=λe=>leadE_bad (f:=f) (t:=t) (b:=l) (e:=e);have hlW:=leadE_W (f:=f) (t:=t) (b:=l);have hgok:=λg=>stpG_ok (b:=l) (g:=g);have hgsm:=λh g=>stpG_small (b:=l) h (g:=g);unfold stpP at hp;obtain⟨R,hR⟩:∃R,leadE f t l=R:=⟨_,rfl⟩;obtain⟨W,hW⟩:∃W,stpW l=W:=⟨_,rfl⟩;have hWr:=stpW_right hW;obtain⟨e,he⟩:∃e,stpE l=e:=⟨_,rfl⟩;obtain⟨gs,hgs⟩:∃gs,stpG l=gs:=⟨_,rfl⟩;rw [hR];rw [hR] at hlW hbad;rw [hW] at hp hlW;rw [he] at hp hlW hWr hbad hgsm;rw [hgs] at hlW hgok hgsm;refine zC rfl λK1 hK1=>?_;refine l_call0 [.slice A l.length c] rfl rfl rfl (λ_ _=>by go_simp) rfl rfl (λ_ _=>rfl) hp (λ_ h _=>h) λ⟨⟨vs,hvs⟩,X⟩=>?_;rw [hgs] at hvs;refine zB rfl (zJ (hK1 _ (zM λK2 hK2=>zA rfl ?_)));refine zW ((e:Int)≠0) rfl (λh0=>?_) (λh0=>?_)
 .refine zA rfl ?_;exact zP (zR zY () rfl (by decide) rfl (by rw [hbad e rfl (by omega)];rfl) rfl (λ_ _ _=>trivial) zU)
 obtain rfl:e=0:=by omega
 have hWr:=hWr rfl;have hlW:=hlW rfl;have hgsm:=hgsm rfl;refine zO (hK2 _ (zM λK3 hK3=>?_));refine s_regH 4 (by decide) (by kernel_rfl) (by kernel_rfl) λK4 hK4 G S w0 hst=>?_;refine zV hst rfl ?_;refine h_callS (F':=λ_=>True) (r:=.q (eY 32 W.root)) hst [(prQ W).den] rfl rfl rfl rfl (λ_ _=>by go_simp) rfl rfl (λ_=>rfl) (eY_ok (PW.root_len hWr)).1 (wRoot_S hWr.good) (λ_ _ _ _=>trivial) ?_;refine zV hst rfl ?_;refine h_op hst (.b (!decide (W.root=f))) trivial rfl rfl rfl rfl (run_neqY rfl rfl rfl underlying47 (by kernel_rfl) (PW.root_len hWr) hf) ?_;refine h_end hst (zJ (hK4 _ ?_));refine s_if (!decide (W.root=f)) rfl (λhrt=>?_) (λhrt=>?_)
 .have hrt:W.root≠f:=by simpa using hrt
  rw [if_neg hrt] at hlW;refine zA rfl ?_;exact zP (zR zY () rfl (by decide) rfl (by rw [hlW];rfl) rfl (λ_ _ _=>trivial) zU)
 have hrt:W.root=f:=by simpa using hrt
 rw [if_pos hrt] at hlW;refine zO (hK3 _ (zM λK5 hK5=>zA rfl (zN ?_)));let Ls:PW->List LV:=λW=>[⟨7,none,87,[.one (.v W.top)]⟩,⟨4,none,47,[.agg 32 (By t).toArray]⟩];let Fs:CkS->Env:=λs=>⟨[(27,.v (.int .i64 (s.i:Int))),(26,.v (.int .i64 (vs.length:Int))),(25,.v (.slice X.1 vs.length X.2)),(8,.v (.slice X.1 vs.length X.2)),(7,.a 7 0),(4,.a 4 0)],Ls s.W,[],λw=>Ta w/\Rd 34 eGr X.1 X.2 vs w/\∀g∈vs,g.rd w,λ_=>True⟩;refine c_weak (e':=Fs ⟨0,W⟩) ⟨zE rfl, zL rfl rfl, .refl _,λ_ h _=>⟨h.2.1,h.1⟩, zU⟩ (s_loop (λs=>vs.length-s.i) Fs (λs=>s.i<=vs.length/\s.W.Right []/\R=chkE t s.W (wasG gs s.i) (gs.drop s.i)) ?_ ⟨0,W⟩ ⟨aN _,hWr,hlW⟩);clear hlW hrt hWr hbad;rintro⟨i,W⟩ ⟨hi,hWr,hch⟩;dsimp only at hi hWr hch;refine zA rfl (zM λK6 hK6=>?_);refine zW ((i:Int)<(vs.length:Int)) rfl (λhlt=>?_) (λhge=>?_)
 .have hlt:i<vs.length:=by omega
  obtain⟨v,hv⟩:∃v,vs[i]?=some v:=⟨_,aK hlt⟩;have hgv:gs[i]?=some v.pl:=by rw [<-hvs,cQ,hv];rfl
  have hvm:v.pl∈gs:=a8 hgv;have hdr:gs.drop i=v.pl::gs.drop (i+1):=by have h1:=(aP.1 hgv).1;rw [dX h1,(aP.1 hgv).2]
  rw [hdr] at hch;obtain⟨ee,hee⟩:∃ee,grwE W v.pl=ee:=⟨_,rfl⟩;have hch:R=if (if riseB (wasG gs i) v.id=false\/v.more=[] then 81 else ee)=0 then chkE t (PW.put v.pl.pair 0 W) (some v.id) (gs.drop (i+1)) else(if riseB (wasG gs i) v.id=false\/v.more=[] then 81 else ee):=by rw [hch,<-hee];rfl
  have hsm:=hgsm v.pl hvm;have hsm:32*v.k.l.length+136*v.more.length<=l.length:=hsm;have hgr:=agrow_S hWr v (λu hu=>hgok v.pl hvm u hu) (by omega);refine zO (hK6 _ (zM λK10 hK10=>zN ?_));refine s_pure (vs.length<=9223372036854775807/\∃g o,X.1=some ⟨g,o,none⟩) (λw h _=>⟨bP h.2.1.1 h.2.1.2.1,by obtain⟨g,o,e,_⟩:=h.2.1.2.2.2.2 (by omega);exact⟨g,o,e⟩⟩) λ⟨hvl,gx,ox,hX⟩=>?_;refine zC rfl λK11 hK11=>l_elem zY rfl rfl rfl i rfl hv rfl rfl (rd_fact λ_ h _=>h.2.1) (zB rfl (zJ (k_give 11 rfl (E':=[(10,.v (.int .i64 (i:Int))),(27,.v (.int .i64 (i:Int))),(26,.v (.int .i64 (vs.length:Int))),(25,.v (.slice X.1 vs.length X.2)),(8,.v (.slice X.1 vs.length X.2)),(7,.a 7 0),(4,.a 4 0)]) ⟨rfl,rfl,rfl,rfl,rfl,rfl,rfl,trivial⟩ λg11=>k_objOut 0 rfl (hK11 _ ?_))));let Es:SE:=[(11,.v (.pointer (some ⟨g11,0,none⟩))),(10,.v (.int .i64 (i:Int))),(27,.v (.int .i64 (i:Int))),(26,.v (.int .i64 (vs.length:Int))),(25,.v (.slice X.1 vs.length X.2)),(8,.v (.slice X.1 vs.length X.2)),(7,.a 7 0),(4,.a 4 0)];let Ff:World->Prop:=λw=>ObjF g11 60 v.parts w/\Ta w/\Rd 34 eGr X.1 X.2 vs w/\∀g∈vs,g.rd w;refine zM λK12 hK12=>?_;have hbad:riseB (wasG gs i) v.id=false\/v.more=[]->R=81:=λh=>by rw [hch,if_pos h,if_neg (by decide)]
  have hgood:¬(riseB (wasG gs i) v.id=false\/v.more=[])->∀e,Weak e ⟨Es,Ls W,[],Ff,λ_=>True⟩->kS b K12 66 e:=by
   intro hn e hw;rw [if_neg hn] at hch;refine k_weak hw (hK12 _ ?_);obtain⟨P2,hP2⟩:∃P2,(if ee=0 then PW.put v.pl.pair 0 W else .empty)=P2:=⟨_,rfl⟩;have hgR:growR W v.pl = .t [prQ P2,.c (.v (.int .i64 (ee:Int)))]:=by unfold growR;rw [hee,hP2]
   rw [hgR] at hgr;refine zC rfl λK13 hK13=>l_ldO zY rfl rfl rfl rfl rfl rfl (obj_fact λ_ h _=>h.1) (zB rfl ?_);refine l_call0 [(prQ W).den,(eGr v).den] rfl rfl rfl (λ_ _=>by go_simp) rfl rfl (λ_ _=>rfl) hgr (λ_ h _=>⟨h.2.1,h.2.2.2 v (a8 hv)⟩) λ_=>?_;refine zB rfl (zJ (hK13 _ (zA rfl ?_)));refine zW ((ee:Int)≠0) rfl (λh0=>?_) (λh0=>?_)
   .rw [if_neg (by omega)] at hch;refine zA rfl ?_;exact zP (zR zY () rfl (by decide) rfl (by rw [hch];rfl) rfl (λ_ _ _=>trivial) zU)
   have h0:ee=0:=by omega
   rw [if_pos h0] at hch hP2;subst hP2;refine zO (hK10 _ (zD rfl ?_));exact zX ⟨i+1,PW.put v.pl.pair 0 W⟩ ⟨hlt,(PW.Right.put (p:=v.pl.pair) ⟨v.h32,valH_len _⟩ (n:=256) (way:=[]) rfl hWr (Leads.nil _)).1,by rw [hch,wasG_next hgv]⟩ (by show vs.length-(i+1)<vs.length-i;omega) ⟨⟨nextI i vs.length hvl hlt,rfl,rfl,rfl,rfl,rfl,trivial⟩,zL rfl rfl, .refl _,λ_ h _=>h.2.2, zU⟩
  cases i with
  | zero =>
   have hrise:riseB (wasG gs 0) v.id=true:=rfl;refine s_regH 20 (by decide) (by kernel_rfl) (by kernel_rfl) λK7 hK7 G S w0 hst=>?_;refine zV hst rfl ?_;refine h_is 34 false rfl (by simp) ?_;refine zV hst rfl (h_opV hst (.q (.c (.v (.slice v.U v.more.length v.u)))) trivial rfl rfl rfl rfl (λG S a w ha hw=>(load_obj (q:=.c (.v (.slice v.U v.more.length v.u))) zY rfl rfl rfl ha hw.fact.1).2) (zV hst rfl (h_end hst (zJ (hK7 _ ?_)))));refine zW ((v.more.length:Int)=0) rfl (λhm=>?_) (λhm=>?_)
   .have hm:v.more=[]:=bE (by omega);refine zA rfl ?_;exact zP (zR zY () rfl (by decide) rfl (by rw [hbad (.inr hm)];rfl) rfl (λ_ _ _=>trivial) zU)
   .exact zO (hgood (by rintro(h|h);exact absurd (hrise.symm.trans h) (by decide);exact hm (by rw [h];rfl)) _ ⟨zE rfl, zL rfl rfl, .refl _,λ_ h _=>h, zU⟩)
  | succ j =>
   obtain⟨pv,hpv⟩:∃pv,vs[j]?=some pv:=⟨_,aK (by omega)⟩
   have hgp:gs[j]?=some pv.pl:=by rw [<-hvs,cQ,hpv];rfl
   have hwas:wasG gs (j+1)=some pv.id:=wasG_next hgp;have hw1:IntKind.i64.wrap (((j+1:Nat):Int)-1)=(j:Int):=wrapI (by omega) (by omega) (by omega);have hbc:=bCmp_S (A:=some ⟨gx,ox+34*j,none⟩) (B:=some ⟨g11,0,none⟩) (c:=32) (d:=32) (l:=pv.id) (m:=v.id) (by rw [pv.h32];decide) (by rw [v.h32];decide);rw [pv.h32,v.h32] at hbc
   obtain⟨cv,q,hcv,hq,hqt,hqf⟩:∃(cv:Int) (q:Bool),cN pv.id v.id=cv/\decide (cv>=0)=q/\(q=true->riseB (wasG gs (j+1)) v.id=false)/\(q=false->riseB (wasG gs (j+1)) v.id=true):=by
    rw [hwas];cases hl:dI pv.id v.id with
    | true=>exact⟨-1,false,cmp_more hl,by decide,λh=>(by cases h),λ_=>hl⟩
    | false =>
     by_cases he:pv.id=v.id
     .exact⟨0,true,by rw [he];exact cmp_refl _,by decide,λ_=>hl,λh=>by cases h⟩
     .have h2:dI v.id pv.id=true:=gM (by rw [pv.h32,v.h32]) hl he;exact⟨1,true,cmp_less h2,by decide,λ_=>hl,λh=>by cases h⟩
   refine s_regH 20 (by decide) (by kernel_rfl) (by kernel_rfl) λK7 hK7 G S w0 hst=>?_;refine zV hst rfl ?_;refine h_is 34 true rfl (by simp) ?_;refine zV hst rfl ?_;refine h_op hst (.v (.pointer (some ⟨gx,ox+34*j,none⟩))) trivial rfl rfl rfl rfl (runO_ixS j rfl underlying54 rfl (by rw [<-hX];rfl) (congrArg (λz=>some (SV.v (.int .i64 z))) hw1) (by omega)) ?_;refine zV hst rfl (h_op hst (.v (.slice (some ⟨gx,ox+34*j,none⟩) 32 32)) trivial rfl rfl rfl rfl (runO_allQ rfl underlying47 rfl rfl) (zV hst rfl (h_op hst (.v (.slice (some ⟨g11,0,none⟩) 32 32)) trivial rfl rfl rfl rfl (runO_allQ rfl underlying47 rfl rfl) (zV hst rfl ?_))));refine h_callS (F':=λw=>Rd 1 eB (some ⟨gx,ox+34*j,none⟩) 32 pv.id w/\Rd 1 eB (some ⟨g11,0,none⟩) 32 v.id w) (r:=.v (.int .i64 (cN pv.id v.id))) hst [.slice (some ⟨gx,ox+34*j,none⟩) 32 32,.slice (some ⟨g11,0,none⟩) 32 32] rfl rfl rfl rfl (λ_ _=>by go_simp) rfl rfl (λ_=>rfl) trivial hbc (λ_ _ _ hv=>⟨gr_idR (by rw [<-hX];exact hv.fact.2.2.1) hpv,gr_idB hv.fact.1⟩) ?_;refine h_num 43 cv rfl hcv (zV hst rfl (h_is 46 q rfl hq ?_))
   cases q with
   | true =>
    refine zV hst rfl (h_end hst (zJ (hK7 _ (s_yes rfl (zA rfl ?_)))));exact zP (zR zY () rfl (by decide) rfl (by rw [hbad (.inl (hqt rfl))];rfl) rfl (λ_ _ _=>trivial) zU)
   | false =>
    have hrise:=hqf rfl;refine zV hst rfl (h_opV hst (.q (.c (.v (.slice v.U v.more.length v.u)))) trivial rfl rfl rfl rfl (λG S a w ha hw=>(load_obj (q:=.c (.v (.slice v.U v.more.length v.u))) zY rfl rfl rfl ha hw.fact.1).2) (zV hst rfl (h_end hst (zJ (hK7 _ ?_)))));refine zW ((v.more.length:Int)=0) rfl (λhm=>?_) (λhm=>?_)
    .have hm:v.more=[]:=bE (by omega);refine zA rfl ?_;exact zP (zR zY () rfl (by decide) rfl (by rw [hbad (.inr hm)];rfl) rfl (λ_ _ _=>trivial) zU)
    .exact zO (hgood (by rintro(h|h);exact absurd (hrise.symm.trans h) (by decide);exact hm (by rw [h];rfl)) _ ⟨zE rfl, zL rfl rfl, .refl _,λ_ h _=>h, zU⟩)
 obtain rfl:vs.length=i:=by omega
 have hgl:gs.length=vs.length:=by rw [<-hvs,a6]
 rw [c8 (by omega)] at hch;have hch:R=if W.root=t then 0 else 130:=hch;refine s_exit (zS (zS (k_out (hK5 _ (zM λK7 hK7=>?_)))));refine s_regH 4 (by decide) (by kernel_rfl) (by kernel_rfl) λK4 hK4 G S w0 hst=>?_;refine zV hst rfl ?_;refine h_callS (F':=λ_=>True) (r:=.q (eY 32 W.root)) hst [(prQ W).den] rfl rfl rfl rfl (λ_ _=>by go_simp) rfl rfl (λ_=>rfl) (eY_ok (PW.root_len hWr)).1 (wRoot_S hWr.good) (λ_ _ _ _=>trivial) ?_;refine zV hst rfl ?_;refine h_op hst (.b (!decide (W.root=t))) trivial rfl rfl rfl rfl (run_neqY rfl rfl rfl underlying47 (by kernel_rfl) (PW.root_len hWr) ht) ?_;refine h_end hst (zJ (hK4 _ ?_));refine s_if (!decide (W.root=t)) rfl (λhrt=>?_) (λhrt=>?_)
 .have hrt:W.root≠t:=by simpa using hrt
  rw [if_neg hrt] at hch;refine zA rfl ?_;exact zP (zR zY () rfl (by decide) rfl (by rw [hch];rfl) rfl (λ_ _ _=>trivial) zU)
 have hrt:W.root=t:=by simpa using hrt
 rw [if_pos hrt] at hch;refine zO (hK7 _ (zA rfl ?_));exact zP (zR zY () rfl (by decide) rfl (by rw [hch];rfl) rfl (λ_ _ _=>trivial) zU)
def y_idB{g t:Nat}{k:List UInt8}{w:World}(hk:k.length=32)(h:ObjF g t [.agg 32 (By k).toArray] w):Rd 1 eB (some ⟨g,0,none⟩) 32 k w:=rd_in h.1 hk (by decide) λj v hj=>by rw [aX];simpa [catP,Pt.cells] using hj
structure LyS where
  i:Nat
  ss:List Seg
  A:Option Addr
  c:Nat
structure LyI(T:List UInt8)(m:Nat)(s:LyS):Prop where
  t:(s.ss.map Seg.l).flatten=T
  n:s.ss.length<=m
def LyI.more{T:List UInt8}{m:Nat}{s:LyS}(h:LyI T m s)(i:Nat)(l:List Seg)(A:Option Addr)(c:Nat){T':List UInt8}{m':Nat}(hT:T++(l.map Seg.l).flatten=T')(hm:m+l.length<=m'):LyI T' m' ⟨i,s.ss++l,A,c⟩:=⟨by
 show((s.ss++l).map Seg.l).flatten=T';rw [bS,List.flatten_append,h.t,hT],by
 have:=h.n;show(s.ss++l).length<=m';rw [aA];omega⟩
def layT(P:List UInt8)(gs:List GrD)(i:Nat):List UInt8:=be8 P.length++(P++(be8 gs.length++((gs.take i).map λg=>g.raw.bytes).flatten))
def layT_next{P:List UInt8}{gs:List GrD}{i:Nat}{g:GrD}(h:gs[i]?=some g):layT P gs (i+1)=layT P gs i++g.raw.bytes:=by unfold layT;rw [eH,h];simp [aR]
def layT_all(P:List UInt8)(gs:List GrD):layT P gs gs.length=stpB P gs:=by unfold layT;rw [dF];rfl
theorem alay_S{W:PW}(hW:W.Good)(hWl:W.bytes.length<=1000000){A:Option Addr}{c:Nat}(vs:List GrV)(hvl:vs.length<=1000)(hvs:∀v∈vs,v.k.l.length<=64/\v.more.length<=64)(hT:(stpB W.bytes (vs.map GrV.pl)).length<=281474976710656):Spec 27 [(prQ W).den,.slice A vs.length c] [] (λw=>Rd 34 eGr A c vs w/\∀v∈vs,v.rd w) (madeN (stpB W.bytes (vs.map GrV.pl))):=by
 refine zQ [prQ W,.c (.v (.slice A vs.length c))] 56 func27 rfl (by rw [ntmps27];rfl) (two_ok (prQ_ok W) trivial) λb=>?_;have hwb:=wBytes_S hW hWl;obtain⟨P,hP⟩:∃P,W.bytes=P:=⟨_,rfl⟩;rw [hP] at hwb hWl hT;rw [hP];obtain⟨gs,hgs⟩:∃gs,vs.map GrV.pl=gs:=⟨_,rfl⟩;have hgl:gs.length=vs.length:=by rw [<-hgs,a6]
 rw [hgs] at hT;rw [hgs];refine zA rfl (zC rfl λK1 hK1=>?_);refine l_call0 [(prQ W).den] rfl rfl rfl (λ_ _=>by go_simp) rfl rfl (λ_ _=>rfl) hwb (λ_ _ _=>trivial) λx=>?_;refine l_free 0 rfl ?_;refine l_call0 [.slice none ([]:List UInt8).length 0,.slice x.1 P.length x.2] rfl rfl rfl (λ_ _=>by go_simp) rfl rfl (λ_ _=>rfl) (wbytes_S [] P (by show 0+8+P.length<=_;omega)) (λw h _=>⟨Rd.nil _ _ _,h.1⟩) λgp=>?_;rw [cP];refine zB rfl ?_;refine l_num 15 (vs.length:Int) rfl (wrapU rfl (by omega) (by omega)) ?_;refine l_call0 [.slice none ([]:List UInt8).length 0,.int .u64 (vs.length:Int)] rfl rfl rfl own_wnum rfl rfl (λ_ _=>rfl) (wnum_S [] vs.length (by omega) (by decide)) (λ_ _ _=>Rd.nil _ _ _) λgn=>?_;rw [cP];refine l_list zY b.B.heap.size [⟨some ⟨gp,0,none⟩,(be8 P.length++P).length,be8 P.length++P⟩,⟨some ⟨gn,0,none⟩,(be8 vs.length).length,be8 vs.length⟩] (fe:=eSeg) rfl rfl rfl rfl rfl (λ_=>rfl) rfl (by decide) (by decide) (okF_seg _) (aF _) λP0=>?_;refine zB rfl (zJ (hK1 _ (zM λK2 hK2=>zA rfl (zN ?_))));let Es:LyS->SE:=λs=>[(20,.v (.int .i64 (s.i:Int))),(19,.v (.int .i64 (vs.length:Int))),(18,.v (.slice A vs.length c)),(5,.v (.slice s.A s.ss.length s.c))];let Rs:LyS->List Res:=λs=>[OwnS b.B.heap.size 39 1 eSeg s.A s.c s.ss];let Ff:LyS->World->Prop:=λs w=>(∀q∈s.ss,q.rd w)/\Rd 34 eGr A c vs w/\∀v∈vs,v.rd w;let Fs:LyS->Env:=λs=>⟨Es s,[],Rs s,Ff s,λ_=>True⟩;let s0:LyS:=⟨0,[⟨some ⟨gp,0,none⟩,(be8 P.length++P).length,be8 P.length++P⟩,⟨some ⟨gn,0,none⟩,(be8 vs.length).length,be8 vs.length⟩],P0,2⟩;have h0:LyI (layT P gs 0) 2 s0:=⟨by simp [s0,layT,hgl],aF _⟩;refine c_weak (e':=Fs s0) ⟨zE rfl, trivial, .refl _,λw h hM=>⟨λq hq=>?_,h.2.2.2.2⟩, zU⟩ (s_loop (λs=>vs.length-s.i) Fs (λs=>s.i<=vs.length/\LyI (layT P gs s.i) (2+70*s.i) s) ?_ s0 ⟨aN _,h0⟩)
 .rcases aH.1 hq with rfl|hq
  .exact hM.2.1
  .rw [aE.1 hq];exact hM.1
 rintro s ⟨hi,hL⟩;obtain⟨i,ss,B,d⟩:=s;dsimp only at hi hL;have hsn:ss.length<=2+70*i:=hL.n;refine zA rfl (zM λK3 hK3=>?_);refine zW ((i:Int)<(vs.length:Int)) rfl (λhlt=>?_) (λhge=>?_)
 .have hlt:i<vs.length:=by omega
  obtain⟨v,hv⟩:∃v,vs[i]?=some v:=⟨_,aK hlt⟩;have hvm:=a8 hv;have hgv:gs[i]?=some v.pl:=by rw [<-hgs,cQ,hv];rfl
  obtain⟨hk64,hm64⟩:=hvs v hvm;have hnx:=layT_next (P:=P) hgv;obtain⟨T0,hT0⟩:∃T0,layT P gs i=T0:=⟨_,rfl⟩;rw [hT0] at hL hnx;refine zO (hK3 _ (zM λK4 hK4=>zN (zC rfl λK5 hK5=>l_elem zY rfl rfl rfl i rfl hv rfl rfl (rd_fact λ_ h _=>h.2.1) (zB rfl (zJ (k_give 7 rfl (E':=Es ⟨i,ss,B,d⟩) ⟨rfl,rfl,rfl,rfl,trivial⟩ λg7=>k_objOut 0 rfl (hK5 _ (zM λK6 hK6=>?_))))))));refine s_anyP [0,1,2,3,4,5,6] 9 2 (λw=>InvL [] w/\ObjF g7 60 v.parts w) (by kernel_rfl) rfl (inv_two (λ_ h=>by cases h) λ_ h _=>h.1) ?_;refine p_frontS (L0:=[]) zY 0 (by kernel_rfl) rfl rfl rfl rfl rfl rfl (λ_ h=>by cases h) (λ_ h=>h.1) ?_;refine p_frontS (L0:=[]) zY 1 (by kernel_rfl) rfl rfl rfl rfl rfl rfl (λ_ h=>by cases h) (λ_ h=>h.1) ?_;refine p_frontO (.v (.slice (some ⟨g7,0,none⟩) 32 32)) trivial 2 (by kernel_rfl) rfl rfl rfl rfl rfl (runO_allP (off:=0) rfl underlying47 rfl rfl) ?_;refine p_frontS (L0:=[]) zY 3 (by kernel_rfl) rfl rfl rfl rfl rfl rfl (λ_ h=>by cases h) (λ_ h=>h.1) ?_;refine p_ldO zY 4 (by kernel_rfl) rfl rfl rfl rfl rfl rfl rfl v.parts_ok (λ_ h=>h.2) ?_;refine p_frontS (L0:=[]) zY 5 (by kernel_rfl) rfl rfl rfl rfl rfl rfl (λ_ h=>by cases h) (λ_ h=>h.1) ?_;refine p_frontS (L0:=[]) zY 6 (by kernel_rfl) rfl rfl rfl rfl rfl rfl (λ_ h=>by cases h) (λ_ h=>h.1) ?_;refine p_step 7 (by kernel_rfl) rfl λKa hKa=>?_;refine l_num 30 (v.k.l.length:Int) rfl (wrapU rfl (by omega) (by omega)) ?_;refine l_call0 [.slice none ([]:List UInt8).length 0,.int .u64 (v.k.l.length:Int)] rfl rfl rfl own_wnum rfl rfl (λ_ _=>rfl) (wnum_S [] v.k.l.length (by omega) (by decide)) (λ_ _ _=>Rd.nil _ _ _) λgk=>?_;rw [cP];refine zJ (hKa _ (inv_two (λ_ h=>by cases h) λ_ h _=>h.2.1) ?_);refine p_step 8 (by kernel_rfl) rfl λKb hKb=>?_;refine l_eq 26 (.v (.slice (some ⟨g7,0,none⟩) v.id.length 32)) rfl (by rw [v.h32]) ?_;refine l_list zY b.B.heap.size [⟨some ⟨g7,0,none⟩,32,v.id⟩,⟨some ⟨gk,0,none⟩,(be8 v.k.l.length).length,be8 v.k.l.length⟩] (fe:=eSeg) rfl rfl rfl rfl rfl (λ_=>rfl) rfl (by decide) (by decide) (okF_seg _) (aF _) λP2=>?_;refine zJ (hKb _ (inv_two (λ_ h=>by cases h) λ_ h _=>h.2.1) ?_);refine p_tail [9,10] (by kernel_rfl) rfl ?_;refine l_free 0 rfl ?_;refine l_appY zY 0 [⟨some ⟨g7,0,none⟩,32,v.id⟩,⟨some ⟨gk,0,none⟩,(be8 v.k.l.length).length,be8 v.k.l.length⟩] rfl rfl rfl rfl rfl rfl rfl rfl rfl (rd_fact λw h _=>h.1) (by decide) (by show(ss.length+2)*24<=_;omega) (by show ss.length+2<=_;omega) (aF _) λB1 d1=>?_;refine zB rfl (zJ ?_);have hL1:=hL.more i [⟨some ⟨g7,0,none⟩,32,v.id⟩,⟨some ⟨gk,0,none⟩,(be8 v.k.l.length).length,be8 v.k.l.length⟩] B1 d1 (T':=T0++(v.id++be8 v.k.l.length)) (m':=4+70*i) (by simp) (by show 2+70*i+2<=_;omega);obtain⟨ss1,hss1⟩:∃ss1,ss++[⟨some ⟨g7,0,none⟩,32,v.id⟩,⟨some ⟨gk,0,none⟩,(be8 v.k.l.length).length,be8 v.k.l.length⟩]=ss1:=⟨_,rfl⟩;refine k_weak (e':=⟨(7,.v (.pointer (some ⟨g7,0,none⟩)))::Es ⟨i,ss1,B1,d1⟩,[],Rs ⟨i,ss1,B1,d1⟩,λw=>ObjF g7 60 v.parts w/\Ff ⟨i,ss1,B1,d1⟩ w,λ_=>True⟩) ⟨⟨rfl,rfl,rfl,rfl,by rw [<-hss1];rfl,trivial⟩,trivial,by rw [<-hss1];exact .refl _,λw h hM=>?_, zU⟩ (hK6 _ ?_)
  .refine⟨h.2.2.1,λq hq=>?_,h.2.2.2.2⟩
   have hq:q∈ss1:=hq;rw [<-hss1] at hq;rcases bO.1 hq with hq|hq
   .exact h.2.2.2.1 q hq
   .rcases aH.1 hq with rfl|hq
    .exact gr_idB h.2.2.1
    .rw [aE.1 hq];exact hM.1
  rw [hss1] at hL1;obtain⟨T1,hT1⟩:∃T1,T0++(v.id++be8 v.k.l.length)=T1:=⟨_,rfl⟩;rw [hT1] at hL1;refine zM λK7 hK7=>zC rfl λK8 hK8=>l_ldO zY rfl rfl rfl rfl rfl rfl (obj_fact λ_ h _=>h.1) (zB rfl (zJ (hK8 _ (zN ?_))));refine s_pure (v.k.l.length<=9223372036854775807/\(∀k∈v.k.l,k.length=32)/\∀u∈v.more,u.Ok) (λw h _=>⟨by omega,seg_32 (h.2.2.2 v hvm).1,uvs_of (h.2.2.2 v hvm).2⟩) λ⟨hkl,hk32,huok⟩=>?_;let Gs:LyS->Env:=λs=>⟨(37,.v (.int .i64 (s.i:Int)))::(36,.v (.int .i64 (v.k.l.length:Int)))::(35,.v (.slice v.k.A v.k.l.length v.k.c))::(7,.v (.pointer (some ⟨g7,0,none⟩)))::Es ⟨i,s.ss,s.A,s.c⟩,[],Rs s,λw=>ObjF g7 60 v.parts w/\Ff ⟨i,s.ss,s.A,s.c⟩ w,λ_=>True⟩;refine c_weak (e':=Gs ⟨0,ss1,B1,d1⟩) ⟨zE rfl, trivial, .refl _,λ_ h _=>h, zU⟩ (s_loop (λs=>v.k.l.length-s.i) Gs (λs=>s.i<=v.k.l.length/\LyI (T1++(v.k.l.take s.i).flatten) (4+70*i+s.i) s) ?_ ⟨0,ss1,B1,d1⟩ ⟨aN _,⟨by rw [List.take_zero,List.flatten_nil,bB];exact hL1.t,hL1.n⟩⟩);rintro s ⟨hj,hM⟩;obtain⟨j,ss2,B2,d2⟩:=s;dsimp only at hj hM;have hsn2:ss2.length<=4+70*i+j:=hM.n;refine zA rfl (zM λK9 hK9=>?_);refine zW ((j:Int)<(v.k.l.length:Int)) rfl (λhltj=>?_) (λhgej=>?_)
  .have hltj:j<v.k.l.length:=by omega
   obtain⟨k,hk⟩:∃k,v.k.l[j]?=some k:=⟨_,aK hltj⟩;have hkl32:=hk32 k (a8 hk);have htk:v.k.l.take (j+1)=v.k.l.take j++[k]:=by rw [eH,hk];rfl
   refine zO (hK9 _ (zM λK10 hK10=>zN (zC rfl λK11 hK11=>l_elem zY rfl rfl rfl j rfl hk rfl rfl (rd_fact λ_ h _=>(h.2.2.2 v hvm).1) (zB rfl (zJ (k_give 9 rfl (E':=(37,.v (.int .i64 (j:Int)))::(36,.v (.int .i64 (v.k.l.length:Int)))::(35,.v (.slice v.k.A v.k.l.length v.k.c))::(7,.v (.pointer (some ⟨g7,0,none⟩)))::Es ⟨i,ss2,B2,d2⟩) ⟨rfl,rfl,rfl,rfl,rfl,rfl,rfl,rfl,trivial⟩ λg9=>k_objOut 0 rfl (hK11 _ (s_lit (zB rfl (l_op (.v (.slice (some ⟨g9,0,none⟩) 32 32)) trivial rfl rfl rfl (runO_allQ rfl underlying47 rfl rfl) ?_))))))))));refine l_eq 42 (.v (.slice (some ⟨g9,0,none⟩) k.length 32)) rfl (by rw [hkl32]) ?_;refine l_push zY 0 (⟨some ⟨g9,0,none⟩,32,k⟩:Seg) (fe:=eSeg) rfl rfl rfl rfl rfl rfl rfl (eSeg_ok _) (by decide) (by decide) (by show(ss2.length+1)*24<=_;omega) (by show ss2.length<_;omega) (aF _) λB3 d3=>?_;refine zB rfl (zJ (hK10 _ (zD rfl ?_)));refine zX ⟨j+1,ss2++[⟨some ⟨g9,0,none⟩,32,k⟩],B3,d3⟩ ⟨hltj,hM.more (j+1) _ B3 d3 (by rw [htk];simp) (by show 4+70*i+j+1<=4+70*i+(j+1);omega)⟩ (by show v.k.l.length-(j+1)<v.k.l.length-j;omega) ⟨⟨nextI j v.k.l.length hkl hltj,rfl,rfl,rfl,rfl,rfl,rfl,rfl,trivial⟩,trivial,.refl _,λw h _=>⟨h.2.1,λq hq=>?_,h.2.2.2⟩, zU⟩;rcases bO.1 hq with hq|hq
   .exact h.2.2.1 q hq
   .rw [aE.1 hq];exact y_idB hkl32 h.1
  obtain rfl:j=v.k.l.length:=by omega
  rw [dF] at hM;refine s_exit (zS (zS (k_out (hK7 _ (s_lit (zB rfl (l_ldO zY rfl rfl rfl rfl rfl rfl (obj_fact λ_ h _=>h.1) ?_)))))));refine l_call0 [.slice v.U v.more.length v.u] rfl rfl rfl (λ_ _=>by go_simp) rfl rfl (λ_ _=>rfl) (hbytes_S v.more (by omega)) (λ_ h _=>(h.2.2.2 v hvm).2) λgb=>?_;have hbl:(batB v.more).length<=281474976000000:=by have h1:=batB_len huok;omega
  obtain⟨bt,hbt⟩:∃bt,batB v.more=bt:=⟨_,rfl⟩;rw [hbt] at hbl;refine l_eq 49 (.v (.slice (some ⟨gb,0,none⟩) bt.length bt.length)) rfl (by rw [<-hbt];rfl) ?_;refine l_call0 [.slice none ([]:List UInt8).length 0,.slice (some ⟨gb,0,none⟩) bt.length bt.length] rfl rfl rfl (λ_ _=>by go_simp) rfl rfl (λ_ _=>rfl) (wbytes_S [] bt (by show 0+8+bt.length<=_;omega)) (λw h hM=>⟨Rd.nil _ _ _,by rw [<-hbt];exact hM.1⟩) λgc=>?_;rw [cP];refine l_push zY 0 (⟨some ⟨gc,0,none⟩,(be8 bt.length++bt).length,be8 bt.length++bt⟩:Seg) (fe:=eSeg) rfl rfl rfl rfl rfl rfl rfl (eSeg_ok _) (by decide) (by decide) (by show(ss2.length+1)*24<=_;omega) (by show ss2.length<_;omega) (aF _) λB3 d3=>?_;refine zB rfl (zJ (hK4 _ (zD rfl ?_)));refine zX ⟨i+1,ss2++[⟨some ⟨gc,0,none⟩,(be8 bt.length++bt).length,be8 bt.length++bt⟩],B3,d3⟩ ⟨hlt,hM.more (i+1) _ B3 d3 (by rw [hnx,<-hT1,<-hbt];simp [GbD.bytes]) (by show 4+70*i+v.k.l.length+1<=2+70*(i+1);omega)⟩ (by show vs.length-(i+1)<vs.length-i;omega) ⟨⟨nextI i vs.length (by omega) hlt,rfl,rfl,rfl,trivial⟩,trivial,.refl _,λw h hM=>⟨λq hq=>?_,h.2.2.2.2⟩, zU⟩;rcases bO.1 hq with hq|hq
  .exact h.2.2.2.1 q hq
  .rw [aE.1 hq];exact hM.1
 obtain rfl:i=vs.length:=by omega
 have e0:(ss.map Seg.l).flatten=stpB P gs:=by rw [<-layT_all,hgl];exact hL.t
 have hj:=join_S (A:=B) (c:=d) ss (by rw [e0];exact hT);rw [e0] at hj;refine s_exit (zS (zS (k_out (hK2 _ (s_free 0 rfl (zC rfl λK8 hK8=>l_call0 [.slice B ss.length d] rfl rfl rfl own_join rfl rfl (λ_ _=>rfl) hj (λw h _=>⟨h.1,h.2.1⟩) λgb=>zB rfl (zJ (hK8 _ ?_))))))));exact zP (zR zY gb rfl (by decide) rfl rfl rfl (λ_ _ _=>trivial) (λw h=>h.1))
noncomputable def selfB(l:List EntD)(us:List UV):List UInt8:=stpB (PW.cut 256 0 (pairsD l) ((grewD l us).map GrD.id)).bytes (grewD l us)
def self_leads{l:List EntD}{us:List UV}(hl:DirOk l)(hs:SmallD l)(hus:∀u∈us,u.Ok)(hsz:l.length+us.length<=1000) :
  stpG (selfB l us)=grewD l us/\stpE (selfB l us)=0/\leadE (fX 256 (pairsD l)) (fX 256 (pairsD (cG l (us.map udH)))) (selfB l us)=0:=by
 have h:=step_leads (ids:=(grewD l us).map GrD.id) hl hs hus (λg hg=>aU.2 ⟨g,hg,rfl⟩) hsz
 unfold selfB
 exact h
structure StS where
  i:Nat
  ids:List (List UInt8)
def ids_set{gl:List GrV}{i:Nat}{v:GrV}(hv:gl[i]?=some v):(((gl.take i).map GrV.id)++aB (gl.length-i) (aB 32 0)).set i v.id=((gl.take (i+1)).map GrV.id)++aB (gl.length-(i+1)) (aB 32 0):=by
 have hlt:=(aP.1 hv).1;have h1:gl.length-i=(gl.length-(i+1))+1:=by omega
 have h3:((gl.take i).map GrV.id).length=i:=by rw [a6,aV];omega
 rw [h1,List.replicate_succ,iO _ _ (by omega),h3,fK,eH,hv,bS,aR];rfl
theorem astep_S{d:DirV}(hd:d.Ok){A:Option Addr}{c:Nat}{us:List UV}(hus:∀u∈us,u.Ok)(hsz:d.l.length+us.length<=1000)(h12:(grewD d.l us).length<=12) :
  Spec 9 [(eDv d).den,.slice A us.length c] [] (λw=>Ta w/\d.F w/\Rd 129 eU A c us w) (madeN (selfB d.l us)):=by
 have hgr:=growth_S hd (A:=A) (c:=c) hus (by omega) h12;have hsm:=λg=>grew_small hd.small (us:=us) (g:=g);have hft:=grew_fit hd.dir hd.small hus;have hcl:=PW.cut_le 256 (d:=0) (ks:=(grewD d.l us).map GrD.id) (pairs_ok hd.dir);have hpl:(pairsD d.l).length=d.l.length:=a6 ..;have hW:=partT_cut (DirOk.pairs hd.dir).1 (λy hy=>⟨(pairs_ok hd.dir y hy).1,(pairs_ok hd.dir y hy).2⟩) ((grewD d.l us).map GrD.id);have hWg:=hW.right.good
 have hWl:(PW.cut 256 0 (pairsD d.l) ((grewD d.l us).map GrD.id)).bytes.length<=600000:=by have h3:(70+2*256)*(pairsD d.l).length<=(70+2*256)*1000:=lD _ (by omega);omega
 have hT:(selfB d.l us).length<=281474976710656:=by unfold selfB;rw [stpB_len];have h1:=raws_len (gs:=grewD d.l us) λg hg=>raw_len (hft g hg) (hsm g hg).1 (hsm g hg).2;omega
 have hcut:=λB e=>wCut_S (A:=B) (c:=e) (pairsD d.l) d.t ((grewD d.l us).map GrD.id) hd.tree (DirOk.pairs hd.dir).1 (DirOk.pairs hd.dir).2 (by rw [a6];omega) (λx hx=>by obtain⟨g,hg,rfl⟩:=aU.1 hx;exact(hft g hg).id)
 unfold selfB at hT
 unfold selfB
 obtain⟨gs,hgs⟩:∃gs,grewD d.l us=gs:=⟨_,rfl⟩;obtain⟨W,hWe⟩:∃W,PW.cut 256 0 (pairsD d.l) (gs.map GrD.id)=W:=⟨_,rfl⟩
 unfold grwP at hgr
 rw [hgs] at hgr hT h12 hsm hcut hWg hWl;rw [hWe] at hT hcut hWg hWl;rw [hgs,hWe];refine zQ [.p d.parts,.c (.v (.slice A us.length c))] 34 func9 rfl (by rw [ntmps9];rfl) (two_ok d.parts_ok trivial) λb=>?_;refine zA rfl (zC rfl λK1 hK1=>?_);refine l_call0 [(eDv d).den,.slice A us.length c] rfl rfl rfl (λ_ _=>by go_simp) rfl rfl (λ_ _=>rfl) hgr (λ_ h _=>h) λ⟨⟨gl,hgl⟩,X⟩=>?_;refine zB rfl (zJ (hK1 _ ?_))
 have hgll:gl.length=gs.length:=by rw [<-hgl,a6]
 refine zC rfl λK2 hK2=>?_;refine l_makeS zY b.B.heap.size gl.length (aB 32 0) (fe:=eY 32) rfl rfl rfl rfl rfl rfl rfl rfl (eY_ok bM) (by show 32*gl.length<=_;omega) (by omega) (aF _) λB=>?_;refine zB rfl (zJ (hK2 _ (zM λK3 hK3=>zA rfl (zN ?_))))
 let Ls:List LV:=[⟨2,none,33,d.parts⟩]
 let Es:Nat->SE:=λi=>[(17,.v (.int .i64 (i:Int))),(16,.v (.int .i64 (gl.length:Int))),(15,.v (.slice X.1 gl.length X.2)),(6,.v (.slice B gl.length gl.length)),(5,.v (.slice X.1 gl.length X.2)),(2,.a 2 0)]
 let Fs:StS->Env:=λs=>⟨Es s.i,Ls,[OwnS b.B.heap.size 47 32 (eY 32) B gl.length s.ids],λw=>(Rd 34 eGr X.1 X.2 gl w/\∀g∈gl,g.rd w)/\Ta w/\d.F w,λ_=>True⟩
 refine c_weak (e':=Fs ⟨0,aB gl.length (aB 32 0)⟩) ⟨zE rfl, zL rfl rfl, .refl _,λ_ h _=>⟨h.1,h.2.1,h.2.2.1⟩, zU⟩ (s_loop (λs=>gl.length-s.i) Fs (λs=>s.i<=gl.length/\s.ids=((gl.take s.i).map GrV.id)++aB (gl.length-s.i) (aB 32 0)) ?_ ⟨0,aB gl.length (aB 32 0)⟩ ⟨aN _,by simp⟩)
 rintro⟨i,ids⟩ ⟨hi,hids⟩
 dsimp only at hi hids
 refine zA rfl (zM λK6 hK6=>?_);refine zW ((i:Int)<(gl.length:Int)) rfl (λhlt=>?_) (λhge=>?_)
 .have hlt:i<gl.length:=by omega
  obtain⟨v,hv⟩:∃v,gl[i]?=some v:=⟨_,aK hlt⟩;have hil:gl.length=ids.length:=by rw [hids,aA,a6,aV,bM];omega
  refine zO (hK6 _ (zM λK10 hK10=>zN (zC rfl λK11 hK11=>l_elem zY rfl rfl rfl i rfl hv rfl rfl (rd_fact λ_ h _=>h.1.1) (zB rfl (zJ (hK11 _ (s_lit (zB rfl ?_))))))));refine l_place zY 0 v.id i (fe:=eY 32) rfl rfl rfl rfl rfl rfl hil rfl (show i<ids.length by omega) (eY_ok v.h32) ?_;refine zJ (hK10 _ (zD rfl ?_));exact zX ⟨i+1,ids.set i v.id⟩ ⟨hlt,by rw [hids];exact ids_set hv⟩ (by show gl.length-(i+1)<gl.length-i;omega) ⟨⟨nextI i gl.length (by omega) hlt,rfl,rfl,rfl,rfl,rfl,trivial⟩,⟨rfl,rfl,trivial⟩,.refl _,λ_ h _=>h,λ_ h=>h⟩
 obtain rfl:gl.length=i:=by omega
 have hids2:ids=gs.map GrD.id:=by rw [hids,dF,fK,<-hgl,cU];simp
 have hidl:ids.length=gl.length:=by rw [hids2,a6,hgll]
 refine s_exit (zS (zS (k_out (hK3 _ (s_free 0 rfl ?_)))));have hcut2:=hcut B gl.length
 have hlay:=alay_S hWg (by omega) (A:=X.1) (c:=X.2) gl (by omega) (λv hv=>by have:=hsm v.pl (by rw [<-hgl];exact aU.2 ⟨v,hv,rfl⟩);exact this) (by rw [hgl];exact hT)
 rw [hgl] at hlay;rw [<-hids2] at hcut2
 have hWe2:PW.cut 256 0 (pairsD d.l) ids=W:=by rw [hids2];exact hWe
 rw [hidl] at hcut2;refine zC rfl λK8 hK8=>?_;refine l_call0 [(eDv d).den] rfl rfl rfl (λ_ _=>by go_simp) rfl rfl (λ_ _=>rfl) (dtree_S d) (λ_ _ _=>trivial) λ_=>?_;refine zB rfl ?_;refine l_call0 [(eTr d.t 0).den,.slice B gl.length gl.length] rfl rfl rfl (λ_ _=>by go_simp) rfl rfl (λ_ _=>rfl) hcut2 (λ_ h _=>⟨h.2.2.2.2.2.2,h.2.1⟩) λ_=>?_;refine zB rfl ?_;refine l_call0 [(prQ W).den,.slice X.1 gl.length X.2] rfl rfl rfl (λ_ _=>by go_simp) rfl rfl (λ_ _=>rfl) hlay (λ_ h _=>h.2.2.2.1) λgb=>?_;refine zB rfl (zJ (hK8 _ ?_));exact zP (zR zY gb rfl (by decide) rfl rfl rfl (λ_ _ _=>trivial) (λw h=>h.1))
theorem chkE_130{to to':List UInt8}(hne:to'≠to):∀{gs:List GrD} {W:PW} {was:Option (List UInt8)},chkE to W was gs=0->chkE to' W was gs=130
 | [],W,was,h=>by
  have h:(if W.root=to then 0 else 130)=0:=h;show(if W.root=to' then 0 else 130)=130;split at h
  .rename_i hw;rw [if_neg λe=>hne (e.symm.trans hw)]
  .cases h
 | g::gs,W,was,h=>by
  have h:(if oneE W was g=0 then chkE to (PW.put g.pair 0 W) (some g.id) gs else oneE W was g)=0:=h;show(if oneE W was g=0 then chkE to' (PW.put g.pair 0 W) (some g.id) gs else oneE W was g)=130;split at h
  .rename_i h0;rw [if_pos h0];exact chkE_130 hne h
  .rename_i h0;exact absurd h h0
def leadE_130{f to to' b:List UInt8}(h:leadE f to b=0)(hne:to'≠to):leadE f to' b=130:=by
 unfold leadE at h ⊢;by_cases h0:stpE b=0
 .rw [if_pos h0] at h ⊢
  cases hp:PW.parse (apP b) with
  | error e =>
   rw [hp] at h;exact absurd h (parse_err hp)
  | ok W =>
   rw [hp] at h;have h:(if W.root=f then chkE to W none (stpG b) else 130)=0:=h
   show(if W.root=f then chkE to' W none (stpG b) else 130)=130
   by_cases hr:W.root=f
   .rw [if_pos hr] at h ⊢;exact chkE_130 hne h
   .rw [if_neg hr]
 .rw [if_neg h0] at h;exact absurd h h0
theorem one_sum{c:Prop}[Decidable c]{id:List UInt8}:∀{ks:List (List UInt8)},ks.Nodup->(ks.map λk=>if c/\id=k then 1 else 0).sum<=1
 | [],_=>aN _
 | k::ks,h=>by
  obtain⟨h1,h2⟩:=fH.1 h;rw [aZ,fV];by_cases hk:c/\id=k
  .rw [if_pos hk]
   have hz:∀l:List (List UInt8),(∀x∈l,id≠x)->(l.map λk=>if c/\id=k then 1 else 0).sum=0:=λl=>by
    induction l with
    | nil=>exact λ_=>rfl
    | cons x l ih =>
     intro hl
     rw [aZ,fV,if_neg λhh=>hl x (.head _) hh.2,ih λy hy=>hl y (.tail _ hy)]
   rw [hz ks λx hx e=>h1 (by rw [<-hk.2,e];exact hx)];exact aF _
  .rw [if_neg hk,aX];exact one_sum h2
theorem sum_add{α:Type}(f g:α->Nat):∀l:List α,(l.map λx=>f x+g x).sum=(l.map f).sum+(l.map g).sum
 | []=>rfl
 | x::l=>by simp only [aZ,fV,sum_add f g l];omega
theorem more_sum{ks:List (List UInt8)}(hn:ks.Nodup):∀(us:List UV) (l:List EntD),(ks.map λk=>(tookD k l us).length).sum<=us.length
 | [],l=>by
  have:(ks.map λk=>(tookD k l []).length)=ks.map λ_=>0:=rfl;rw [this];clear this hn;induction ks with
  | nil=>exact aF _
  | cons k ks ih=>rwa [aZ,fV,aX]
 | u::us,l=>by
  have h1:=more_sum hn us (fG l (udH u));have h2:=one_sum (c:=okD l (udH u)=true) (id:=u.id) hn;have e:(ks.map λk=>(tookD k l (u::us)).length)=ks.map λk=>(if okD l (udH u)=true/\u.id=k then 1 else 0)+(tookD k (fG l (udH u)) us).length:=dU λk _=>by
   rw [tookD_cons];split
   .rw [aY];omega
   .omega
  rw [e,sum_add,aY];omega
theorem raws_sum{K:Nat}:∀{gs:List GrD},(∀g∈gs,g.Fit)->(∀g∈gs,g.keys.length<=K)->(gs.map λg=>g.raw.bytes).flatten.length<=(56+32*K)*gs.length+136*(gs.map λg=>g.more.length).sum
 | [],_,_=>aN _
 | g::gs,h,hk=>by
  have h1:=raws_sum (K:=K) (gs:=gs) (λx hx=>h x (.tail _ hx)) λx hx=>hk x (.tail _ hx);have h2:=h g (.head _);have h3:=hk g (.head _);have h4:=flat32 h2.keys;have h5:=batB_len λu hu=>(h2.more u hu).ok;have h6:=h2.id;have h7:g.raw.bytes.length=g.id.length+8+g.keys.flatten.length+8+(batB g.more).length:=by unfold GbD.bytes;simp only [aA,be8_len];omega
  have h8:(56+32*K)*(gs.length+1)=(56+32*K)*gs.length+(56+32*K):=Nat.mul_succ _ _;rw [aZ,eK,aA,aZ,fV,aY,h8,h7];omega
def grew_ids{l:List EntD}{us:List UV}(ha:DirOk (cG l (us.map udH))):((grewD l us).map GrD.id).Nodup:=by have h:=grew_sort ha;rw [lQ,pB];exact h.imp λhab=>(n8 hab).symm
theorem grew_sum{l:List EntD}{us:List UV}(ha:DirOk (cG l (us.map udH))):((grewD l us).map λg=>g.more.length).sum<=us.length/\(grewD l us).length<=us.length:=by
 have h1:=more_sum (grew_ids ha) us l;rw [cU] at h1;have e:(grewD l us).map ((λk=>(tookD k l us).length) ∘ GrD.id)=(grewD l us).map λg=>g.more.length:=dU λg hg=>by obtain⟨_,_,h2,_⟩:=grew_mem hg;show(tookD g.id l us).length=_;rw [h2]
 rw [e] at h1;refine⟨h1,bP ?_ h1⟩;have hp:∀gs:List GrD,(∀g∈gs,g.more≠[])->gs.length<=(gs.map λg=>g.more.length).sum:=λgs=>by
  induction gs with
  | nil=>exact λ_=>aF _
  | cons g gs ih =>
   intro h
   have h2:=ih λx hx=>h x (.tail _ hx);have h3:=List.length_pos_iff.2 (h g (.head _));rw [aY,aZ,fV]
   omega
 exact hp _ λg hg=>(grew_mem hg).2.2.2
def self_len{l:List EntD}{us:List UV}{K:Nat}(hl:DirOk l)(hs:SmallD l)(hus:∀u∈us,u.Ok)(hK:∀k,(bV l k).length<=K):(selfB l us).length<=582*l.length+17+(56+32*K)*(grewD l us).length+136*us.length:=by
 have ha:DirOk (cG l (us.map udH)):=hl.apply (us_ok hus);have h1:=raws_sum (K:=K) (grew_fit hl hs hus) λg hg=>by rw [(grew_mem hg).2.1];exact hK g.id
 have h2:=(grew_sum ha).1;have h3:=PW.cut_le 256 (d:=0) (ks:=(grewD l us).map GrD.id) (pairs_ok hl);have h4:(pairsD l).length=l.length:=a6 ..;unfold selfB;rw [stpB_len];have h5:136*((grewD l us).map λg=>g.more.length).sum<=136*us.length:=lD _ h2;omega
end Go.Proofs.YtdinohbahfdphaaGreatDoor
namespace Nums
def tP:Tri:=⟨0,1,1⟩
def tQ:Tri:=⟨bx,bY,1⟩
def uU:gO tP Ed.zero:=by unfold gO tP;rw [lM,gU];exact Ed.Rep.zero dQ
def uV:gO tQ base:=by
 unfold gO tQ;rw [gU];have e:∀u:F,u=u*1:=λu=>by grind only
 exact⟨λh=>mO dQ h.symm,e _,e _⟩
def wG(n:Nat)(hn:n<2^256):gO (mM 256 n tP tQ) (Ed.mul dd n base):=by
 have h:=lV 256 n tP tQ Ed.zero base hn Ed.k7 gQ uU uV
 rwa [Ed.zero_add good] at h
def sV(t:Tri)(zi:Nat):List UInt8:=forced (t.y*zi%p) λy=>forced (t.x*zi%p%2) λo=>bytes 32 (y+57896044618658097711785492504343953926634992332820282019728792003956564819968*o)
def wX{t:Tri}{A:Ed.Pt p}(h:gO t A){zi:Nat}(hz:t.z*zi%p=1):fQ A=sV t zi:=by
 have h1:fof t.z*fof zi=1:=by rw [<-fA,<-gU];exact j5 (by rw [hz];decide)
 have hf:gN (fof t.z)=fof zi:=rF dQ h1;have ha:=h.aff dQ;rw [hf,<-fA,<-fA] at ha;unfold sV;simp only [gT];rw [fQ,oE,<-ha.1,<-ha.2,k8,k8]
end Nums
namespace Go.Proofs.YtdinohbahfdphaaGreatDoor
open Nums
def powK:Nat->Nat->Nat->Nat->Nat
  | 0,_,_,a=>a
  | f+1,b,e,a=>forced (b*b%p) λb2=>forced (if e%2=1 then a*b%p else a) λa2=>powK f b2 (e/2) a2
def keyZ(n:Nat)(t:Tri)(zi:Nat):Option (List UInt8):=if decide (n<2^256)&&decide (t.z*zi%p=1) then some (sV t zi) else none
def keyT(n:Nat)(t:Tri):Option (List UInt8):=forced (powK 255 t.z (p-2) 1) (keyZ n t)
def keyK(seed:List UInt8):Option (List UInt8):=forced (le (mS ((k9 eC 1 seed).take 32))) λn=>keyT n (mM 256 n tP tQ)
def keyZ_ok{n zi:Nat}{t:Tri}{k:List UInt8}(ht:mM 256 n tP tQ=t)(h:keyZ n t zi=some k):fQ (Ed.mul dd n base)=k:=by
 unfold keyZ at h;split at h
 .rename_i hc;rw [aM] at hc;injection h with h;rw [<-h];exact wX (ht▸wG n (of_decide_eq_true hc.1)) (of_decide_eq_true hc.2)
 .cases h
def ab_is{seed:List UInt8}(hs:seed.length=32):le (kV seed)=le (mS ((k9 eC 1 seed).take 32)):=by rw [kV,sgD,m9 1 seed (by decide) (by decide) (by rw [aA,hs];decide +kernel)]
def key_is{seed k:List UInt8}(hs:seed.length=32)(h:keyK seed=some k):gK seed=k:=by rw [keyK,gT] at h;rw [gK,ab_is hs];generalize le (mS ((k9 eC 1 seed).take 32))=n at *;rw [keyT,gT] at h;exact keyZ_ok rfl h
theorem key_all{seed:List UInt8}(hs:seed.length=32)(h:(keyK seed).isSome=true):gK seed=(keyK seed).getD []:=by
 cases hk:keyK seed with
 | none=>rw [hk] at h;cases h
 | some k=>exact key_is hs hk
theorem key_head{seed:List UInt8}{x:UInt8}(hs:seed.length=32)(h:(keyK seed).bind List.head?=some x):(gK seed).head?=some x:=by
 cases hk:keyK seed with
 | none=>rw [hk] at h;cases h
 | some k =>
  rw [hk] at h;rw [key_is hs hk];exact h
end Go.Proofs.YtdinohbahfdphaaGreatDoor
namespace Go.Proofs.YtdinohbahfdphaaGreatDoor
open Go.RowKit Go.IntWalk Nums
def val13:valH [hB 2]=k9 dC 1 ([[2],be8 1,k9 dC 2 ([[3],zH,hB 2]:List (List UInt8)).flatten]:List (List UInt8)).flatten:=by have h1:dH [hB 2]=k9 dC 2 ([[3],zH,hB 2]:List (List UInt8)).flatten:=m9 (s:=dC) 2 _ (by decide) (by decide) (by decide +kernel);unfold valH;rw [h1];exact m9 (s:=dC) 1 _ (by decide) (by decide) (by decide +kernel)
def root13:fX 256 (pairsD [(gK (hB 1),[hB 2])])≠hB 1:=by show jS (gK (hB 1),valH [hB 2])≠hB 1;rw [key_all (seed:=hB 1) rfl (by decide +kernel),val13,jS,m9 (s:=dC) 2 _ (by decide) (by decide) (by decide +kernel)];decide +kernel
theorem first13_S:Spec 7 [] [] Ta (one (.v (.bool true))):=by
 have hm:=hmake_S (seed:=hB 1) (key:=hB 2) 1 rfl rfl;have hsb:signB (mkH (hB 1) 1 (hB 2))=true:=signB_made _ _ _;have hok:(mkH (hB 1) 1 (hB 2)).Ok:=mkH_ok _ _ rfl;have hid:(mkH (hB 1) 1 (hB 2)).id=gK (hB 1):=rfl;have hver:(mkH (hB 1) 1 (hB 2)).ver=1:=rfl;have hkey:(mkH (hB 1) 1 (hB 2)).key=hB 2:=rfl;have hrf:=root13;rw [<-hid] at hrf;generalize mkH (hB 1) 1 (hB 2)=u at *;have hap:cG [] ([u].map udH)=[(u.id,[hB 2])]:=by show fG [] (udH u)=_;rw [step_ok (l:=[]) ⟨hsb,by rw [hver];rfl⟩,hkey];rfl
 have huo:∀y∈[u],y.Ok:=λy hy=>by rw [aE.1 hy];exact hok
 have ha:DirOk (cG [] ([u].map udH)):=DirOk.nil.apply (us_ok huo);have hgl:=(grew_sum ha).2;have hsl:=self_len (K:=0) DirOk.nil zDirV_ok.small huo (λk=>aF _);have hld:=(self_leads (l:=[]) DirOk.nil zDirV_ok.small huo (by show 0+1<=1000;decide)).2.2;have hld:leadE dR (fX 256 (pairsD (cG [] ([u].map udH)))) (selfB [] [u])=0:=hld;rw [hap] at hld;have hld2:=leadE_130 hld hrf.symm;have hsl:(selfB [] [u]).length<=30000:=by have h1:(grewD [] [u]).length<=1:=hgl;have h2:(56+32*0)*(grewD [] [u]).length<=56*1:=lD _ h1;have h3:([]:List EntD).length=0:=rfl;have h4:[u].length=1:=rfl;omega
 have hst:∀A c,Spec 9 [(eDv zDirV).den,.slice A [u].length c] [] (λw=>Ta w/\zDirV.F w/\Rd 129 eU A c [u] w) (madeN (selfB [] [u])):=λA c=>astep_S zDirV_ok (us:=[u]) huo (by show 0+1<=1000;decide) (bP hgl (by show 1<=12;decide));generalize selfB [] [u]=sb at *;refine zQ [] 28 func7 rfl (by rw [ntmps7];rfl) (λ_ h=>by cases h) λb=>?_;refine zA rfl (zC rfl λK1 hK1=>l_buildY [(0,.v (.int .u8 1))] 32 (hB 1) rfl rfl rfl rfl rfl rfl rfl (zB rfl (l_buildY [(0,.v (.int .u8 2))] 32 (hB 2) rfl rfl rfl rfl rfl rfl rfl ?_)));refine l_call0 [.agg (By (hB 1)).toArray,.int .i64 1,.agg (By (hB 2)).toArray] rfl rfl rfl (λ_ _=>by go_simp) rfl rfl (λ_ _=>rfl) hm (λ_ h _=>h) λ_=>?_;refine zB rfl (zJ (hK1 _ (zC rfl λK2 hK2=>?_)));refine l_list zY 0 [u] (fe:=eU) rfl rfl rfl rfl rfl (λ_=>rfl) rfl (by decide) (by decide) (λy hy=>by rw [aE.1 hy];exact eU_ok hok) (aN _) λB=>?_;refine l_free 0 rfl ?_;refine l_call0 [(eDv zDirV).den,.slice B [u].length 1] rfl rfl rfl (λ_ _=>by go_simp) rfl rfl (λ_ _=>rfl) (dapply_S zDirV_ok (us:=[u]) huo (by show 0+1<=1000;decide)) (λw h _=>⟨h.2.2,zDirV_F w,h.1⟩) λd=>?_;refine zB rfl ?_;refine l_pure (d.Ok/\d.l=cG [] ([u].map udH)) (λ_ h _=>⟨h.1.2.1,h.1.2.2.2⟩) λ⟨hd,hl⟩=>?_;rw [hap] at hl;refine zJ (hK2 _ (zC rfl λK3 hK3=>?_));refine l_list zY 0 [u] (fe:=eU) rfl rfl rfl rfl rfl (λ_=>rfl) rfl (by decide) (by decide) (λy hy=>by rw [aE.1 hy];exact eU_ok hok) (aN _) λB2=>?_;refine l_free 0 rfl ?_;refine l_call0 [(eDv zDirV).den,.slice B2 [u].length 1] rfl rfl rfl (λ_ _=>by go_simp) rfl rfl (λ_ _=>rfl) (hst B2 1) (λw h _=>⟨h.2.2.2.2,zDirV_F w,h.1⟩) λgs=>?_;refine zB rfl (zJ (hK3 _ ?_));have hdr:=droot_S hd;rw [hl] at hdr;have hr32:(fX 256 (pairsD [(u.id,[hB 2])])).length=32:=by rw [<-hl,<-hd.tree.root];exact d.t.root_len
 generalize fX 256 (pairsD [(u.id,[hB 2])])=rt at *;have hc1:=acheck_S (f:=dR) (t:=rt) rfl hr32 (A:=some ⟨gs,0,none⟩) (c:=sb.length) sb hsl;have hc2:=acheck_S (f:=dR) (t:=hB 1) rfl rfl (A:=some ⟨gs,0,none⟩) (c:=sb.length) sb hsl;rw [hld] at hc1;rw [hld2] at hc2;refine zC rfl λK4 hK4=>?_;refine l_call0 [(eDv d).den] rfl rfl rfl (λ_ _=>by go_simp) rfl rfl (λ_ _=>rfl) hdr (λ_ h _=>h.2.2.1.1) λ_=>?_;refine zB rfl ?_;refine l_call0 [(eY 32 dR).den,(eY 32 rt).den,.slice (some ⟨gs,0,none⟩) sb.length sb.length] rfl rfl rfl (λ_ _=>by go_simp) rfl rfl (λ_ _=>rfl) hc1 (λw h hM=>⟨h.2.2.2.2.2.2,hM.2.1⟩) λ_=>?_;refine zB rfl (l_is 21 true rfl rfl (zB rfl (l_buildY [(0,.v (.int .u8 1))] 32 (hB 1) rfl rfl rfl rfl rfl rfl rfl (zB rfl ?_))));refine l_call0 [(eY 32 dR).den,(eY 32 (hB 1)).den,.slice (some ⟨gs,0,none⟩) sb.length sb.length] rfl rfl rfl (λ_ _=>by go_simp) rfl rfl (λ_ _=>rfl) hc2 (λw h hM=>⟨h.2.2.2.2.2.2.2,hM.2.2.1⟩) λ_=>?_;refine zB rfl (zJ (hK4 _ ?_));exact zP (k_retD zY () rfl (by decide) rfl rfl trivial rfl (λ_ _ _=>trivial) zU)
noncomputable def idB(k:Nat):List UInt8:=gK (hB2 (bG k) 98)
def hd4:List UInt8:=[201,135,56,54]
theorem head4:∀k:Nat,k<4->(idB k).head?=hd4[k]?
 | 0,_=>key_head rfl (by decide +kernel)
 | 1,_=>key_head rfl (by decide +kernel)
 | 2,_=>key_head rfl (by decide +kernel)
 | 3,_=>key_head rfl (by decide +kernel)
 | k+4,h=>absurd h (by omega)
def hd4_inj:∀j:Nat,j<4->∀k:Nat,k<4->hd4[j]?=hd4[k]?->j=k:=by decide
def idB_inj{j k:Nat}(hj:j<4)(hk:k<4)(h:idB j=idB k):j=k:=by refine hd4_inj j hj k hk ?_;rw [<-head4 j hj,<-head4 k hk,h]
structure SaI(ks ds:List Nat)(us:List UV):Prop where
  lt:∀k∈ks,k<4
  ok:∀u∈us,u.Ok
  took:∀x,tookD x [] us=us.filter λu=>decide (u.id=x)
  ids:us.map UV.id=ks.map idB
  nd:ds.Nodup
  mem:∀k,k∈ds↔k∈ks
def SaI.nil:SaI [] [] []:=⟨λ_ h=>(by cases h),λ_ h=>(by cases h),λ_=>rfl,rfl,List.nodup_nil,λ_=>Iff.rfl⟩
def SaI.len{ks ds:List Nat}{us:List UV}(h:SaI ks ds us):us.length=ks.length:=by
 have:=congrArg lR h.ids
 rwa [a6,a6] at this
theorem filt_count:∀{us:List UV} {ks:List Nat} {k:Nat},us.map UV.id=ks.map idB->(∀j∈ks,j<4)->k<4->(us.filter λu=>decide (u.id=idB k)).length=ks.count k
 | [],[],_,_,_,_=>rfl
 | [],_::_,_,h,_,_=>by cases h
 | _::_,[],_,h,_,_=>by cases h
 | u::us,j::ks,k,h,hl,hk=>by
  rw [aZ,aZ] at h;injection h with h1 h2;have ih:=filt_count h2 (λx hx=>hl x (.tail _ hx)) hk;rw [List.filter_cons,List.count_cons];by_cases e:j=k
  .rw [if_pos (by simp [h1,e]),aY,ih,if_pos (by simp [e])]
  .rw [if_neg (by
    rw [h1,decide_eq_true_eq];exact λh=>e (idB_inj (hl j (.head _)) hk h)),ih,if_neg (by simp [e])]
   rfl
theorem SaI.next{ks ds ds':List Nat}{us:List UV}(h:SaI ks ds us){k:Nat}(hk:k<4){u:UV}(hu:u.Ok)(hid:u.id=idB k)(hs:signB u=true)(hv:u.ver=((ks.count k:Nat):Int)+1)(hd:ds'=if k∈ds then ds else k::ds):SaI (ks++[k]) ds' (us++[u]):=by
 refine⟨λj hj=>?_,λx hx=>?_,λx=>?_,by rw [bS,bS,h.ids];simp [hid],?_,λj=>?_⟩
 .rcases bO.1 hj with hj|hj
  .exact h.lt j hj
  .rw [aE.1 hj];exact hk
 .rcases bO.1 hx with hx|hx
  .exact h.ok x hx
  .rw [aE.1 hx];exact hu
 .have hok:okD (cG [] (us.map udH)) (udH u)=true:=by
   rw [gw_ok];refine⟨hs,?_⟩;rw [h.took,hid,filt_count h.ids h.lt hk,hv];show _=((0:Nat):Int)+_+1;omega
  rw [took_snoc,h.took,List.filter_append];congr 1;by_cases e:u.id=x
  .rw [if_pos ⟨hok,e⟩];simp [e]
  .rw [if_neg λhh=>e hh.2];simp [e]
 .rw [hd]
  split
  .exact h.nd
  .rename_i hn;exact fH.2 ⟨hn,h.nd⟩
 .rw [hd,bO,aE]
  split
  .rename_i hn;rw [h.mem];exact⟨.inl,λhh=>hh.elim id λe=>by rw [e];exact(h.mem k).1 hn⟩
  .rw [aH,h.mem];exact⟨λhh=>hh.elim .inr .inl,λhh=>hh.elim .inr .inl⟩
theorem no_more:∀{us:List UV} {z:List EntD},(∀u∈us,¬okD z (udH u)=true)->cG z (us.map udH)=z/\∀x,tookD x z us=[]
 | [],_,_=>⟨rfl,λ_=>rfl⟩
 | u::us,z,h=>by
  have h0:=h u (.head _);have hs:fG z (udH u)=z:=if_neg h0;obtain⟨h1,h2⟩:=no_more (us:=us) (z:=z) λx hx=>h x (.tail _ hx);refine⟨?_,λx=>?_⟩
  .show cG (fG z (udH u)) (us.map udH)=z;rw [hs,h1]
  .rw [tookD_cons,hs,if_neg λhh=>h0 hh.1,h2]
theorem SaI.again{ks ds:List Nat}{us:List UV}(h:SaI ks ds us):grewD [] (us++us)=grewD [] us/\selfB [] (us++us)=selfB [] us:=by
 have hn:∀u∈us,¬okD (cG [] (us.map udH)) (udH u)=true:=λu hu hok=>by
  have h1:=(gw_ok.1 hok).2;have hm:u∈tookD u.id [] us:=by rw [h.took];exact jZ.2 ⟨hu,by simp⟩
  obtain⟨i,hi⟩:=gP hm;have h2:=took_ver u.id hi;have h3:=(aP.1 hi).1;omega
 obtain⟨h1,h2⟩:=no_more hn;have ht:∀x,tookD x [] (us++us)=tookD x [] us:=λx=>by
  have:∀(vs:List UV) (l:List EntD),tookD x l (vs++us)=tookD x l vs++tookD x (cG l (vs.map udH)) us:=λvs=>by
   induction vs with
   | nil=>exact λ_=>rfl
   | cons v vs ih =>
    intro l
    rw [List.cons_append,tookD_cons,tookD_cons,ih]
    split<;>rfl
  rw [this,h2,bB]
 have hg:grewD [] (us++us)=grewD [] us:=by unfold grewD;rw [bS,pW,h1];exact congrArg (λf=>List.filterMap f _) (funext λe=>by rw [ht])
 refine⟨hg,?_⟩;unfold selfB;rw [hg]
theorem SaI.ids_mem{ks ds:List Nat}{us:List UV}(h:SaI ks ds us)(x:List UInt8):x∈(grewD [] us).map GrD.id↔x∈ds.map idB:=by
 have h1:x∈(grewD [] us).map GrD.id↔tookD x [] us≠[]:=by
  constructor
  .intro hx
   obtain⟨g,hg,rfl⟩:=aU.1 hx;obtain⟨_,_,h3,h4⟩:=grew_mem hg
   rwa [h3] at h4
  .exact λhx=>aU.2 ⟨_,grew_has hx,rfl⟩
 have h2:x∈ds.map idB↔x∈us.map UV.id:=by rw [h.ids,aU,aU];exact⟨λ⟨k,hk,e⟩=>⟨k,(h.mem k).1 hk,e⟩,λ⟨k,hk,e⟩=>⟨k,(h.mem k).2 hk,e⟩⟩
 rw [h1,h2,h.took];constructor
 .intro hn;obtain⟨u,hu⟩:=List.exists_mem_of_ne_nil _ hn;obtain⟨hu1,hu2⟩:=jZ.1 hu;exact aU.2 ⟨u,hu1,by simpa using hu2⟩
 .intro hx hn;obtain⟨u,hu,e⟩:=aU.1 hx;have:u∈us.filter λu=>decide (u.id=x):=jZ.2 ⟨hu,by simp [e]⟩;rw [hn] at this;cases this
theorem one_sumE{id:List UInt8}:∀{ks:List (List UInt8)},ks.Nodup->id∈ks->(ks.map λk=>if id=k then 1 else 0).sum=1
 | [],_,h=>by cases h
 | k::ks,hd,h=>by
  obtain⟨h1,h2⟩:=fH.1 hd;rw [aZ,fV];by_cases hk:id=k
  .rw [if_pos hk]
   have hz:∀l:List (List UInt8),(∀x∈l,id≠x)->(l.map λk=>if id=k then 1 else 0).sum=0:=λl=>by
    induction l with
    | nil=>exact λ_=>rfl
    | cons x l ih =>
     intro hl
     rw [aZ,fV,if_neg λhh=>hl x (.head _) hh,ih λy hy=>hl y (.tail _ hy)]
   rw [hz ks λx hx e=>h1 (by rw [<-hk,e];exact hx)]
  .rw [if_neg hk,aX];exact one_sumE h2 ((aH.1 h).resolve_left hk)
theorem filt_sum{ks:List (List UInt8)}(hn:ks.Nodup):∀{us:List UV},(∀u∈us,u.id∈ks)->(ks.map λk=>(us.filter λu=>decide (u.id=k)).length).sum=us.length
 | [],h=>by
  have:(ks.map λk=>(([]:List UV).filter λu=>decide (u.id=k)).length)=ks.map λ_=>0:=rfl;rw [this];clear this hn h;induction ks with
  | nil=>rfl
  | cons k ks ih=>rw [aZ,fV,aX,ih]
 | u::us,h=>by
  have h1:=filt_sum hn (us:=us) λx hx=>h x (.tail _ hx);have h2:=one_sumE hn (h u (.head _));have e:(ks.map λk=>((u::us).filter λu=>decide (u.id=k)).length)=ks.map λk=>(if u.id=k then 1 else 0)+(us.filter λu=>decide (u.id=k)).length:=dU λk _=>by
   rw [List.filter_cons];by_cases c:u.id=k
   .rw [if_pos (by simp [c]),if_pos c,aY];omega
   .rw [if_neg (by simp [c]),if_neg c,aX]
  rw [e,sum_add,h1,h2,aY];omega
theorem SaI.counts{ks ds:List Nat}{us:List UV}(h:SaI ks ds us):(grewD [] us).length=ds.length/\((grewD [] us).map λg=>g.more.length).sum=us.length:=by
 have ha:DirOk (cG [] (us.map udH)):=DirOk.nil.apply (us_ok h.ok);have hnd:=grew_ids ha;have hdn:(ds.map idB).Nodup:=by rw [lQ,pB];exact(lQ.1 h.nd).imp_of_mem λ{a b} ha hb hne e=>hne (idB_inj (h.lt a ((h.mem a).1 ha)) (h.lt b ((h.mem b).1 hb)) e)
 have h1:=nodup_le hnd λx hx=>(h.ids_mem x).1 hx;have h2:=nodup_le hdn λx hx=>(h.ids_mem x).2 hx;rw [a6,a6] at h1 h2;refine⟨by omega,?_⟩;have h3:=filt_sum hnd (us:=us) λu hu=>(h.ids_mem u.id).2 (by have h4:u.id∈us.map UV.id:=aU.2 ⟨u,hu,rfl⟩;rw [h.ids] at h4;obtain⟨k,hk,e⟩:=aU.1 h4;exact aU.2 ⟨k,(h.mem k).2 hk,e⟩);rw [cU] at h3;rw [<-h3];congr 1;refine dU λg hg=>?_;obtain⟨_,_,h5,_⟩:=grew_mem hg;rw [h5,h.took];rfl
structure SbS where
  ks:List Nat
  ds:List Nat
  us:List UV
  U:KX
  f:Int->Option Int
structure SbI(n:Nat)(s:SbS):Prop where
  i:s.ks.length<=n
  i8:s.ks.length<=8
  sa:SaI s.ks s.ds s.us
  f:∀k:Nat,k<4->(s.f (k:Int)).getD 0=((s.ks.count k:Nat):Int)/\(s.f (k:Int)).isSome=decide (k∈s.ds)
def okI_4{n:Nat}(_:n<4):okI (n:Int):=by show(Lit.int .i64 (n:Int)).wf=true;simp [Lit.wf,IntKind.min,IntKind.max,IntKind.signed,IntKind.bits];omega
theorem SbI.next{n:Nat}{s:SbS}(h:SbI n s)(hn:s.ks.length<n)(h8:s.ks.length<8){k:Nat}(hk:k<4){u:UV}(hu:u.Ok)(hid:u.id=idB k)(hs:signB u=true)(hv:u.ver=((s.ks.count k:Nat):Int)+1)(U:KX):SbI n ⟨s.ks++[k],if k∈s.ds then s.ds else k::s.ds,s.us++[u],U,putF s.f (k:Int) (((s.ks.count k:Nat):Int)+1)⟩:=by
 refine⟨by show(s.ks++[k]).length<=n;rw [aA];exact hn,by show(s.ks++[k]).length<=8;rw [aA];exact h8,h.sa.next hk hu hid hs hv rfl,λj hj=>?_⟩;obtain⟨a1,a2⟩:=h.f j hj;show((putF s.f (k:Int) _) (j:Int)).getD 0=(((s.ks++[k]).count j:Nat):Int)/\((putF s.f (k:Int) _) (j:Int)).isSome=decide (j∈if k∈s.ds then s.ds else k::s.ds);unfold putF;by_cases e:j=k
 .subst e;rw [if_pos rfl];refine⟨by rw [List.count_append];simp,?_⟩;show true=_;split<;>simp_all
 .rw [if_neg (by omega),a1,a2,List.count_append]
  refine⟨by rw [List.count_cons,if_neg (by simp;omega)];simp,?_⟩;split
  .rfl
  .simp [e]
def byte_n(n:Nat)(_:n<256):IntKind.u8.wrap (n:Int)=((bG n).toNat:Int):=by rw [UInt8.toNat_ofNat'];show(n:Int)%256=_;omega
structure ScS where
  j:Nat
  n:Nat
theorem batch13_S{A:Option Addr}{c:Nat}(os:List Int):Spec 6 [.slice A os.length c] [] (λw=>Ta w/\Rd 1 eI A c os w) (one (.v (.bool true))):=by
 refine zQ [.c (.v (.slice A os.length c))] 119 func6 rfl (by rw [ntmps6];rfl) (one_ok trivial) λb=>?_;refine s_pure (os.length<=9223372036854775807) (λw h _=>bP h.2.1 h.2.2.1) λhmax=>?_;refine zA rfl (zM λK0 hK0=>zC rfl λK1 hK1=>?_);refine l_call0 [] rfl rfl rfl (λ_ _=>by go_simp) rfl rfl (λ_ _=>rfl) first13_S (λ_ h _=>h.1) λ_=>?_;refine zB rfl (zJ (hK1 _ (s_no rfl (zO (hK0 _ (zA rfl (zC rfl λK2 hK2=>l_nil0 0 69 129 eU (l_mkG TC okI rfl rfl rfl rfl λm=>zB rfl (zJ (hK2 _ (zM λK hK=>zA rfl (zN ?_))))))))))));let Es:SbS->SE:=λs=>[(21,.v (.int .i64 (s.ks.length:Int))),(20,.v (.int .i64 (os.length:Int))),(19,.v (.slice A os.length c)),(4,.v (.map (some m))),(3,.v (.slice s.U.1 s.us.length s.U.2))];let Rs:SbS->List Res:=λs=>[MapG TC okI m s.ds.length s.f,OwnS 0 69 129 eU s.U.1 s.U.2 s.us];let Ff:World->Prop:=λw=>Ta w/\Rd 1 eI A c os w;let Fs:SbS->Env:=λs=>⟨Es s,[],Rs s,Ff,λ_=>True⟩;have hend:∀s:SbS,SbI os.length s->∀e,Weak e (Fs s)->kS b K 119 e:=by
  rintro⟨ks,ds,us,U,f⟩ hI e hw;obtain⟨hi,hi8,hsa, -⟩:=hI;dsimp only at hi hi8 hsa;have hul:=hsa.len;have hlst:=hsa.counts;obtain⟨hag1,hag2⟩:=hsa.again;have ha:DirOk (cG [] (us.map udH)):=DirOk.nil.apply (us_ok hsa.ok);have hgl:=(grew_sum ha).2;have hsl:=self_len (K:=0) DirOk.nil zDirV_ok.small hsa.ok (λk=>aF _);obtain⟨hG,hE0,hld⟩:=self_leads (l:=[]) DirOk.nil zDirV_ok.small hsa.ok (by show 0+us.length<=1000;omega);have hld:leadE dR (fX 256 (pairsD (cG [] (us.map udH)))) (selfB [] us)=0:=hld;have hsl:(selfB [] us).length<=30000:=by have h2:(56+32*0)*(grewD [] us).length<=56*8:=lD _ (by omega);have h3:([]:List EntD).length=0:=rfl;omega
  have huu:∀u∈us++us,u.Ok:=λu hu=>(bO.1 hu).elim (hsa.ok u) (hsa.ok u);have hst:∀A c,Spec 9 [(eDv zDirV).den,.slice A (us++us).length c] [] (λw=>Ta w/\zDirV.F w/\Rd 129 eU A c (us++us) w) (madeN (selfB [] us)):=λA c=>by
   have h:=astep_S zDirV_ok (A:=A) (c:=c) (us:=us++us) huu (by show 0+(us++us).length<=1000;rw [aA];omega) (by show(grewD [] (us++us)).length<=12;rw [hag1];omega);have e:selfB zDirV.l (us++us)=selfB [] us:=hag2
   rwa [e] at h
  have hap:=λA c=>dapply_S zDirV_ok (A:=A) (c:=c) (us:=us) hsa.ok (by show 0+us.length<=1000;omega);have hgrn:=λA c=>aGrown_S (A:=A) (c:=c) (selfB [] us) (by omega);have hgk:∀g∈grewD [] us,g.keys=[]/\∀(i:Nat) (u:UV),g.more[i]?=some u->u.ver=(i:Int)+1/\u.id=g.id/\u.Ok:=λg hg=>by obtain⟨_,h1,h2,_⟩:=grew_mem hg;refine⟨h1,λi u hu=>?_⟩;rw [h2] at hu;have h3:=took_ver g.id hu;obtain⟨h4,h5,_⟩:=took_in g.id (a8 hu);refine⟨?_,h5,hsa.ok u h4⟩;rw [h3];show((0:Nat):Int)+_+1=_;omega
  rw [<-hG] at hlst hgk hgl;obtain⟨rt,hrt⟩:∃rt,fX 256 (pairsD (cG [] (us.map udH)))=rt:=⟨_,rfl⟩;rw [hrt] at hld;obtain⟨sb,hsbe⟩:∃sb,selfB [] us=sb:=⟨_,rfl⟩;rw [hsbe] at hld hsl hst hgrn hlst hgk hE0 hgl;rw [hE0] at hgrn;refine k_weak hw (hK _ (s_free 1 rfl (zC rfl λK1 hK1=>?_)));refine l_list0 0 eU (e:=69) (sz:=129) rfl rfl rfl rfl (aN _) (λw=>by go_simp) λB0=>?_;refine zB rfl ?_;refine l_appY zY 0 us rfl rfl rfl rfl rfl rfl rfl rfl rfl (rd_fact λw h _=>h.1) (by decide) (by show(0+_)*136<=_;omega) (by show 0+_<=_;omega) (aN _) λB1 b1=>?_;refine zB rfl ?_;refine l_appY zY 0 us rfl rfl rfl rfl rfl rfl rfl rfl rfl (rd_fact λw h _=>h.1) (by decide) (by show(us.length+us.length)*136<=_;omega) (by show us.length+us.length<=_;omega) (aN _) λB2 b2=>?_;refine l_free 0 rfl ?_;refine l_call0 [(eDv zDirV).den,.slice B2 (us++us).length b2] rfl rfl rfl (λ_ _=>by go_simp) rfl rfl (λ_ _=>rfl) (hst B2 b2) (λw h _=>⟨h.2.2.1,zDirV_F w,h.1⟩) λgb=>?_;refine zB rfl (zJ (hK1 _ (zC rfl λK2 hK2=>?_)));refine l_call0 [.slice (some ⟨gb,0,none⟩) sb.length sb.length] rfl rfl rfl (λ_ _=>by go_simp) rfl rfl (λ_ _=>rfl) (hgrn _ _) (λw h hM=>⟨h.2.2.2.1,hM.1⟩) λ⟨⟨vs,hvs⟩,X⟩=>?_;refine zB rfl (zJ (hK2 _ ?_));rw [<-hvs] at hlst hgk hgl;have hvl:vs.length=ds.length:=by rw [<-hlst.1,a6]
  refine zM λK3 hK3=>zC rfl λK4 hK4=>l_is 64 false rfl rfl (zB rfl (l_opV (.v (.int .i64 (ds.length:Int))) trivial rfl rfl rfl (runO_lenA TC_ok (map_own 0 rfl) rfl rfl) (zB rfl ?_)));refine l_is 71 false rfl (decide_eq_false (show ¬((vs.length:Int)≠(ds.length:Int)) by omega)) ?_;refine zB rfl ?_;refine l_call0 [(eDv zDirV).den,.slice U.1 us.length U.2] rfl rfl rfl (λ_ _=>by go_simp) rfl rfl (λ_ _=>rfl) (hap U.1 U.2) (λw h _=>⟨h.2.2.2.2.1,zDirV_F w,h.2.2.2.1⟩) λd2=>?_;refine zB rfl ?_;refine l_pure (d2.Ok/\d2.l=cG [] (us.map udH)) (λ_ h _=>⟨h.1.2.1,h.1.2.2.2⟩) λ⟨hd2,hd2l⟩=>?_;have hdr:=droot_S hd2;rw [hd2l,hrt] at hdr;have hr32:rt.length=32:=by rw [<-hrt,<-hd2l,<-hd2.tree.root];exact d2.t.root_len
  have hck:=acheck_S (f:=dR) (t:=rt) rfl hr32 (A:=some ⟨gb,0,none⟩) (c:=sb.length) sb hsl;rw [hld] at hck;refine l_call0 [(eDv d2).den] rfl rfl rfl (λ_ _=>by go_simp) rfl rfl (λ_ _=>rfl) hdr (λ_ h _=>h.1.1) λ_=>?_;refine zB rfl ?_;refine l_call0 [(eY 32 dR).den,(eY 32 rt).den,.slice (some ⟨gb,0,none⟩) sb.length sb.length] rfl rfl rfl (λ_ _=>by go_simp) rfl rfl (λ_ _=>rfl) hck (λw h hM=>?_) λ_=>?_
  .exact⟨h.2.2.2.2.2.2.1,hM.2.2.2.1⟩
  refine zB rfl (zJ (hK4 _ ?_));refine zW (((0:Nat):Int)≠0) rfl (λh=>absurd rfl h) (λ_=>?_);refine zO (k_drop 0 rfl (hK3 _ (zA rfl (zM λK5 hK5=>zA rfl (zN ?_)))));have hsum:(vs.map λv=>v.more.length).sum=us.length:=by rw [<-hlst.2,cU];rfl
  let Os:Nat->SE:=λn=>[(11,.v (.int .i64 (n:Int))),(82,.v (.int .i64 (vs.length:Int))),(81,.v (.slice X.1 vs.length X.2)),(3,.v (.slice U.1 us.length U.2))];let Of:World->Prop:=λw=>Rd 34 eGr X.1 X.2 vs w/\∀v∈vs,v.rd w;let Gs:ScS->Env:=λs=>⟨(83,.v (.int .i64 (s.j:Int)))::Os s.n,[],[],Of,λ_=>True⟩;refine c_weak (e':=Gs ⟨0,0⟩) ⟨zE rfl, trivial, .refl _,λ_ h _=>h.2.2.2.1, zU⟩ (s_loop (λs=>vs.length-s.j) Gs (λs=>s.j<=vs.length/\s.n=((vs.take s.j).map λv=>v.more.length).sum) ?_ ⟨0,0⟩ ⟨aN _,rfl⟩);rintro⟨j,n⟩ ⟨hj,hn⟩;dsimp only at hj hn;refine zA rfl (zM λK6 hK6=>?_);refine zW ((j:Int)<(vs.length:Int)) rfl (λhlt=>?_) (λhge=>?_)
  .have hlt:j<vs.length:=by omega
   obtain⟨v,hv⟩:∃v,vs[j]?=some v:=⟨_,aK hlt⟩;have hvm:=a8 hv;obtain⟨hk0,hmv⟩:=hgk v.pl (aU.2 ⟨v,hvm,rfl⟩);have hk0:v.k.l=[]:=hk0;have hmv:∀(i:Nat) (u:UV),v.more[i]?=some u->u.ver=(i:Int)+1/\u.id=v.id/\u.Ok:=hmv;have htk:((vs.take (j+1)).map λv=>v.more.length).sum=n+v.more.length:=by rw [eH,hv,bS,List.sum_append,<-hn];simp
   have hle:n+v.more.length<=us.length:=by have h1:=congrArg (λl=>(l.map λv:GrV=>v.more.length).sum) (bX (j+1) vs);simp only [bS,List.sum_append] at h1;omega
   refine zO (hK6 _ (zM λK7 hK7=>zN (zC rfl λK8 hK8=>l_elem zY rfl rfl rfl j rfl hv rfl rfl (rd_fact λ_ h _=>h.1) (zB rfl (zJ (hK8 _ (zM λK9 hK9=>zA rfl (zN ?_))))))));let Ls:List LV:=[⟨13,none,60,v.parts⟩];let Hs:Nat->Env:=λi=>⟨(90,.v (.int .i64 (i:Int)))::(89,.v (.int .i64 (v.more.length:Int)))::(88,.v (.slice v.U v.more.length v.u))::(13,.a 13 0)::(83,.v (.int .i64 (j:Int)))::Os (n+i),Ls,[],Of,λ_=>True⟩;refine c_weak (e':=Hs 0) ⟨zE rfl, zL rfl rfl, .refl _,λ_ h _=>h, zU⟩ (s_loop (λi=>v.more.length-i) Hs (λi=>i<=v.more.length) ?_ 0 (aN _));intro i hi;refine zA rfl (zM λK10 hK10=>?_);refine zW ((i:Int)<(v.more.length:Int)) rfl (λhlti=>?_) (λhgei=>?_)
   .have hlti:i<v.more.length:=by omega
    obtain⟨u,hu⟩:∃u,v.more[i]?=some u:=⟨_,aK hlti⟩;obtain⟨hu1,hu2,huo⟩:=hmv i u hu;have hwi:IntKind.i64.wrap ((i:Int)+1)=(i:Int)+1:=wrapI rfl (by omega) (by omega);refine zO (hK10 _ (zM λK11 hK11=>zN (zC rfl λK12 hK12=>l_elem zY rfl rfl rfl i rfl hu rfl rfl (rd_fact λ_ h _=>(h.2 v hvm).2) (zB rfl (zJ (hK12 _ (zM λK13 hK13=>zC rfl λK14 hK14=>?_)))))));refine l_is 100 false rfl (by rw [hwi];exact decide_eq_false (by omega)) ?_;refine zB rfl ?_;refine l_op (.b (!decide (u.id=v.id))) trivial rfl rfl rfl (run_neqY rfl rfl rfl underlying47 (by kernel_rfl) huo.id v.h32) ?_;refine l_is 105 false rfl (by rw [hu2];simp) ?_;refine zB rfl (zJ (hK14 _ (s_no rfl (zO (hK13 _ (zD rfl (hK11 _ (zD rfl ?_))))))));exact zX (i+1) hlti (by show v.more.length-(i+1)<v.more.length-i;omega) ⟨⟨nextI i v.more.length (by omega) hlti,rfl,rfl,rfl,rfl,congrArg (λz=>some (SV.v (.int .i64 z))) (wrapI (m:=((n+i:Nat):Int)+1) (r:=((n+(i+1):Nat):Int)) (by omega) (by omega) (by omega)),rfl,rfl,rfl,trivial⟩,⟨rfl,rfl,trivial⟩,.refl _,λ_ h _=>h,λ_ h=>h⟩
   obtain rfl:v.more.length=i:=by omega
   refine s_exit (zS (zS (k_out (hK9 _ (zA rfl ?_)))));refine zW ((v.k.l.length:Int)≠0) rfl (λh=>absurd (by rw [hk0];rfl) h) (λ_=>?_);refine zO (hK7 _ (zD rfl ?_));exact zX ⟨j+1,n+v.more.length⟩ ⟨hlt,htk.symm⟩ (by show vs.length-(j+1)<vs.length-j;omega) ⟨⟨nextI j vs.length (by omega) hlt,rfl,rfl,rfl,rfl,trivial⟩,trivial,.refl _,λ_ h _=>h,λ_ h=>h⟩
  obtain rfl:vs.length=j:=by omega
  rw [dF,hsum] at hn;subst hn;refine s_exit (zS (zS (k_out (hK5 _ (zA rfl ?_)))));exact zP (k_retD zY () rfl (by decide) rfl (by show mH true=mH (decide ((us.length:Int)=(us.length:Int)));rw [decide_eq_true rfl]) trivial rfl (λ_ _ _=>trivial) zU)
 refine c_weak (e':=Fs ⟨[],[],[],(none,0),λ_=>none⟩) ⟨zE rfl, trivial, .refl _,λ_ h _=>h.2, zU⟩ (s_loop (λs=>os.length-s.ks.length) Fs (SbI os.length) ?_ ⟨[],[],[],(none,0),λ_=>none⟩ ⟨aN _,by decide,SaI.nil,λk _=>⟨rfl,by simp⟩⟩);rintro⟨ks,ds,us,U,f⟩ hI;obtain⟨hi,hi8,hsa,hff⟩:=id hI;dsimp only at hi hi8 hsa hff;have hul:=hsa.len;refine zA rfl (zM λK5 hK5=>?_);refine zW ((ks.length:Int)<(os.length:Int)) rfl (λhlt=>?_) (λhge=>?_)
 .have hlt:ks.length<os.length:=by omega
  obtain⟨o,ho⟩:∃o,os[ks.length]?=some o:=⟨_,aK hlt⟩;refine zO (hK5 _ (zM λK6 hK6=>zN (zC rfl λK7 hK7=>l_elem zY rfl rfl rfl ks.length rfl ho rfl rfl (rd_fact λ_ h _=>h.2) (zB rfl (zJ (hK7 _ (zM λK8 hK8=>zA rfl ?_)))))));refine zW ((ks.length:Int)>=8) rfl (λh12=>?_) (λh12=>?_)
  .exact s_exit (zS (k_passB rfl (zS (zS (k_out (hend ⟨ks,ds,us,U,f⟩ hI _ ⟨zE rfl, trivial, .refl _,λ_ h _=>h,λ_ h=>h⟩))))))
  have h12:ks.length<8:=by omega
  refine zO (hK8 _ ?_);obtain⟨w4,hw4,_,hww⟩:=wrapU_mod o 4 (by decide) (by decide);obtain⟨hf1,hf2⟩:=hff w4 hw4;obtain⟨cn,hcn⟩:∃cn,ks.count w4=cn:=⟨_,rfl⟩;have hcl:cn<=8:=by rw [<-hcn];exact bP List.count_le_length hi8
  rw [hcn] at hf1;have hw1:IntKind.i64.wrap (((cn:Nat):Int)+1)=((cn:Nat):Int)+1:=wrapI rfl (by omega) (by omega);have hm:=hmake_S (seed:=hB2 (bG w4) 98) (key:=hB (bG ks.length)) (((cn:Nat):Int)+1) rfl rfl;have hsb:signB (mkH (hB2 (bG w4) 98) (((cn:Nat):Int)+1) (hB (bG ks.length)))=true:=(signB_made _ _ _).trans (decide_eq_true (by omega));have hok:(mkH (hB2 (bG w4) 98) (((cn:Nat):Int)+1) (hB (bG ks.length))).Ok:=mkH_ok _ _ rfl;have hid:(mkH (hB2 (bG w4) 98) (((cn:Nat):Int)+1) (hB (bG ks.length))).id=idB w4:=rfl;have hver:(mkH (hB2 (bG w4) 98) (((cn:Nat):Int)+1) (hB (bG ks.length))).ver=((cn:Nat):Int)+1:=rfl;generalize mkH (hB2 (bG w4) 98) (((cn:Nat):Int)+1) (hB (bG ks.length))=u at *;refine zC rfl λK9 hK9=>?_;refine l_num 7 (w4:Int) rfl (by rw [show(IntKind.u64.wrap o).tmod 4=(IntKind.u64.wrap o).tmod ((4:Nat):Int) from rfl,hww]) ?_;refine zJ (hK9 _ (zC rfl λK10 hK10=>l_opV (.q (eI ((f (w4:Int)).getD 0))) trivial rfl rfl rfl (runO_count (map_own 0 rfl) (w4:Int) (okI_4 hw4) rfl rfl rfl) (zB rfl ?_)));refine l_num 35 (((cn:Nat):Int)+1) rfl (by rw [hf1,hw1]) ?_;refine l_updG TC_ok 0 rfl (w4:Int) (((cn:Nat):Int)+1) (okI_4 hw4) rfl rfl rfl rfl rfl rfl (zJ (hK10 _ (s_lit (zB rfl ?_))));refine l_num 38 ((bG w4).toNat:Int) rfl (byte_n w4 (by omega)) ?_;refine l_buildY [(0,.v (.int .u8 ((bG w4).toNat:Int))),(1,.v (.int .u8 98))] 32 (hB2 (bG w4) 98) rfl rfl rfl rfl rfl rfl rfl (zB rfl ?_);refine l_opV (.q (eI (((cn:Nat):Int)+1))) trivial rfl rfl rfl (runO_lookA TC_ok (map_own 0 rfl) (w4:Int) (((cn:Nat):Int)+1) (okI_4 hw4) (by unfold putF;rw [if_pos rfl]) rfl rfl rfl) ?_;refine zB rfl ?_;refine l_num 44 ((bG ks.length).toNat:Int) rfl (byte_n ks.length (by omega)) ?_;refine l_buildY [(0,.v (.int .u8 ((bG ks.length).toNat:Int)))] 32 (hB (bG ks.length)) rfl rfl rfl rfl rfl rfl rfl ?_;refine l_call0 [.agg (By (hB2 (bG w4) 98)).toArray,.int .i64 (((cn:Nat):Int)+1),.agg (By (hB (bG ks.length))).toArray] rfl rfl rfl (λ_ _=>by go_simp) rfl rfl (λ_ _=>rfl) hm (λ_ h _=>h.1) λ_=>?_;refine l_push zY 1 u (fe:=eU) rfl rfl rfl rfl rfl rfl rfl (eU_ok hok) (by decide) (by decide) (by show(us.length+1)*136<=_;omega) (by show us.length<_;omega) (aN _) λU' u'=>?_;refine zB rfl (zJ (hK6 _ (zD rfl ?_)));have hnx:=hI.next hlt h12 hw4 hok hid hsb (by show u.ver=((ks.count w4:Nat):Int)+1;rw [hver,hcn]) (U',u');have hdl:(if (f (w4:Int)).isSome then ds.length else ds.length+1)=(if w4∈ds then ds else w4::ds).length:=by
   rw [hf2];by_cases hd:w4∈ds
   .rw [if_pos (by simp [hd]),if_pos hd]
   .rw [if_neg (by simp [hd]),if_neg hd];rfl
  refine zX _ hnx (by show os.length-(ks++[w4]).length<os.length-ks.length;rw [aA];show os.length-(ks.length+1)<_;omega) ⟨⟨?_,rfl,rfl,rfl,rfl,trivial⟩,trivial,?_,λ_ h _=>h.2,λ_ h=>trivial⟩
  .show some (SV.v (.int .i64 (IntKind.i64.wrap ((ks.length:Int)+1))))=some (SV.v (.int .i64 (((ks++[w4]).length:Nat):Int)));rw [aA];exact nextI ks.length os.length hmax hlt
  .show lG _ [MapG TC okI m (if w4∈ds then ds else w4::ds).length (putF f (w4:Int) (((ks.count w4:Nat):Int)+1)),_];rw [<-hdl,hcn];exact .refl _
 .refine s_exit (zS (zS (k_out (hend ⟨ks,ds,us,U,f⟩ hI _ ⟨zE rfl, trivial, .refl _,λ_ h _=>h,λ_ h=>h⟩))))
end Go.Proofs.YtdinohbahfdphaaGreatDoor
namespace Go.Proofs.YtdinohbahfdphaaGreatDoor
open Go.ChangeShapes Go.WideShapes Go.ChangeAt Go.RowKit
def own:ownKnob prog.godebug=none:=by kernel_rfl
def laidOut:laidOutB prog=true:=by kernel_rfl
section
variable{H:Type}{enc:TypeId×Value->H}{W W':World}
theorem trodAll_below:∀{ts:List TypeId} {vs:List Value} {ds:List (DataW H)} {p:List MemPlace},(∀t∈ts,prog.readableRec t=true/\t<prog.types.size) ->
  DataW.TrodAll enc prog W 0 (λ_=>true) true ts vs ds p->Below W.heap.size W W'->(∀x∈p,x.block<W.heap.size)->DataW.TrodAll enc prog W' 0 (λb=>decide (b<W.heap.size)) true ts vs ds p
 | [],_,_,_,_,h,_,_=>by obtain⟨rfl,rfl,rfl⟩:=trodAll_nil h;exact trodAll_mk0
 | t::ts,_,_,_,hts,h,hb,hlt=>by obtain⟨v,vs',d,ds',p,q,rfl,rfl,rfl,h0,h1⟩:=trodAll_cons h;obtain⟨hr,hz⟩:=hts t (by simp);exact trodAll_cons_mk (Below.trod laidOut hr hz h0 hb (λx hx=>hlt x (by simp [hx]))) (trodAll_below (λu hu=>hts u (by simp [hu])) h1 hb (λx hx=>hlt x (by simp [hx])))
theorem law_post{f:Func}{s:ChangeSpec}{args:Array Value}{ds gs:List (DataW H)}{before:List MemPlace}(hf:f.resultTypes = #[4])(hvars:s.vars=[])
 (hts:∀t∈f.params.toList,prog.readableRec t=true/\t<prog.types.size)
 (hW:DataW.Whole enc prog f.params.toList s.vars false W args.toList ds gs before)(hs:s.fn H (ds++gs)={ results:=[.lit (.bool true)],args:=ds })(hb:Below W.heap.size W W') :
  s.post enc prog f false true false false W args (.bool true) W':=by
 have hW':=hW;obtain⟨p,q,hA,hV,rfl,_,_⟩:=hW;rw [hvars] at hV;obtain⟨rfl,rfl⟩:=trodVars_none hV;have hlt:∀x∈p,x.block<W.heap.size:=λx hx=>hW'.lt x (by simp [hx]);refine⟨ds,[],p++[],[],p,[],hW',?_,?_,?_,hb.frame _,λh=>by cases h⟩
 .rw [hs,hf];exact trodAll_mk1 (shut_bool underlying4 true)
 .rw [hs];exact trodAll_below hts hA hb hlt
 .rw [hs,hvars];rfl
end
def one_of{l:List Value}{i:Nat}{v:Value}(h:(l.drop (i*1)).take 1=[v]):l[i]?=some v:=by
 rw [Nat.mul_one] at h;have h1:((l.drop i).take 1)[0]?=some v:=by rw [h];rfl
 rw [List.getElem?_take,if_pos (by omega),j7] at h1;simpa using h1
end Go.Proofs.YtdinohbahfdphaaGreatDoor
namespace Go.Proofs.YtdinohbahfdphaaGreatDoor
open Go.RowKit Go.IntWalk
open Go.ChangeShapes Go.WideShapes Go.ChangeAt
theorem pick_list{α:Type}(P:Nat->α->Prop):∀n,(∀i,i<n->∃l,P i l)->∃ks:List α,ks.length=n/\∀i l,ks[i]?=some l->P i l
 | 0,_=>⟨[],rfl,λi l h=>by simp at h⟩
 | n+1,h=>by
  obtain⟨ks,hl,hk⟩:=pick_list P n λi hi=>h i (by omega);obtain⟨l,hp⟩:=h n (by omega);refine⟨ks++[l],by simp [hl],λi x hx=>?_⟩;by_cases hi:i<ks.length
  .rw [cR hi] at hx;exact hk i x hx
  .rw [b9 (by omega)] at hx
   have h0:i-ks.length=0:=by
    by_cases e:i-ks.length=0
    .exact e
    .rw [List.getElem?_eq_none (by simp;omega)] at hx;cases hx
   rw [h0] at hx;obtain rfl:l=x:=by simpa using hx
   obtain rfl:i=n:=by omega
   exact hp
theorem open_rd{α H:Type}{enc:TypeId×Value->H}{W:World}{held:Bool}{fuel:Nat}{t e:TypeId}{k:Nat}{fe:α->SQ}{cs:List Value}{x:DataW H×List MemPlace}(ht:prog.underlying t=some (.slice e))(hk:prog.cellsOf e=k)(hk0:0<k)
 (hel:∀n cs x,rP enc prog W 0 (λ_=>true) held n e cs=some x->∃a:α,cs=(fe a).cl/\OkP (fe a).parts1/\(fe a).cl.length=k)
 (h:rP enc prog W 0 (λ_=>true) held fuel t cs=some x) :
  ∃(A:Option Addr) (l:List α) (c:Nat),cs=[.slice A l.length c]/\Rd k fe A c l W:=by
 rcases DataW.trod_slice ht h with⟨rfl,_⟩|⟨a,len,cap,elems,rest,n,rfl,rfl,rfl,_,hl,hm,hlen,hel2,_⟩
 .exact⟨none,[],0,rfl,Rd.nil _ _ _⟩
 .rw [hk] at hel2
  obtain⟨ks,hk1,hk2⟩:=pick_list (λi (y:α)=>(OkP (fe y).parts1/\(fe y).cl.length=k)/\W.cells? 0 (a.add (i*k)) k=some (fe y).cl) len λi hi=>by
   have h0:=hel2 i hi;rw [aK (by omega)] at h0;cases hc:W.cells? 0 (a.add (i*k)) k with
   | none=>rw [hc] at h0;cases h0
   | some cs =>
    rw [hc] at h0;obtain⟨y,rfl,h1⟩:=hel _ _ _ h0;exact⟨y,h1,rfl⟩
  subst hk1;refine⟨some a,ks,cap,rfl,hl,(by unfold maxLen at hm;omega),λe=>(by cases e),λy hy=>?_,λhpos=>?_⟩
  .obtain⟨i,hi,rfl⟩:=List.getElem_of_mem hy;exact(hk2 i _ (aK hi)).1
  have hcell:∀i y,ks[i]?=some y->∀j v,(fe y).cl[j]?=some v->W.cell? (a.add (i*k+j))=some v:=λi y hi j v hj=>by
   obtain⟨⟨_,hkl⟩,hc⟩:=hk2 i y hi;obtain⟨_,_,h3⟩:=World.cells?_some hc;have hjk:j<k:=by have:=(aP.1 hj).1;omega
   have:=h3 j hjk;rw [Addr.add_add,hj] at this;exact this
  have h00:=hk2 0 _ (aK hpos);have hb:=World.cells?_block h00.2 hk0;rw [Nat.zero_mul] at hb;obtain⟨b,o,sp⟩:=a;have hsp0:sp=none:=by
   obtain⟨v,hv⟩:∃v,(fe ks[0]).cl[0]?=some v:=⟨_,aK (by rw [h00.1.2];exact hk0)⟩;have:=hcell 0 _ (aK hpos) 0 v hv;rw [Nat.zero_mul,show(⟨b,o,sp⟩:Addr).add (0+0)=⟨b,o,sp⟩ from rfl,World.cell?] at this;cases sp with
   | none=>rfl
   | some s =>
    exfalso
    dsimp only at this
    split at this
    .simp at this
    .cases this
  subst hsp0;refine⟨b,o,rfl,hb,λi y hi j v hj=>?_⟩;have:=hcell i y hi j v hj;rw [cM] at this
  rwa [Nat.add_assoc,Nat.mul_comm k i]
end Go.Proofs.YtdinohbahfdphaaGreatDoor
namespace Go.Proofs.YtdinohbahfdphaaGreatDoor
open Go.RowKit Go.IntWalk
open Go.ChangeShapes Go.WideShapes Go.ChangeAt
end Go.Proofs.YtdinohbahfdphaaGreatDoor
namespace Go.Proofs.YtdinohbahfdphaaGreatDoor
open Go.ChangeShapes Go.WideShapes Go.ChangeAt Go.RowKit
def cells64:prog.cellsOf 96 = 1:=by kernel_rfl
theorem table_cells{W:World}{nm:String}{g g0 t0 tid n fuel:Nat}{l:List Nat}{datum:DataW Unit}{cs:List Value}{p:List MemPlace}(hg:prog.globalNamed nm=some g)(ht:(prog.globals[g]?).map (·.type)=some tid)(hu:prog.underlying tid=some (.array n 96))
 (hd:datum = .agg (l.map λ(x:Nat)=>.lit (.int .u64 (x:Int))))(hg0:prog.globalNamed nm=some g0)(ht0:(prog.globals[g0]?).map (·.type)=some t0)(hv0:W.var? prog nm=some cs.toArray)(hd0:rP (λ_=>()) prog W 0 (λ_=>true) false fuel t0 cs=some (datum,p)) :
  ∀i,i<n->W.cell? ⟨g,i,none⟩=some (.int .u64 (l[i]! : Nat)):=by
 obtain rfl:=bL (hg.symm.trans hg0);obtain rfl:=bL (ht.symm.trans ht0);obtain⟨xs,m1,rfl,hx1,hlen,hn5,hel⟩:=DataW.trod_array hu hd0;have hx2:=congrArg Prod.fst hx1;rw [hd] at hx2
 injection hx2 with hx2
 intro i hi
 have h0:=hel i hi;rw [cells64] at h0;obtain⟨x,hxi⟩:∃x,xs[i]?=some x:=⟨xs[i]'(by omega),aK (by omega)⟩;rw [hxi] at h0;obtain⟨n',e1,e2,_⟩:=DataW.trod_int underlying96 h0
 have hll:l.length=n:=by have:=congrArg lR hx2;simp only [a6] at this;omega
 have h3:(l.map λ(x:Nat)=>(DataW.lit (.int .u64 (x:Int)):DataW Unit))[i]?=(xs.map (·.1))[i]?:=by rw [hx2]
 rw [cQ,cQ,hxi,aK (by omega)] at h3;simp only [bN,a9] at h3;rw [e2] at h3
 have hn:n'=((l[i]! : Nat):Int):=by rw [getElem!_pos l i (by omega)];injection h3 with h3;injection h3 with _ h3;exact h3.symm
 subst hn;have hcell:=World.var?_cell hg hv0 i;rw [hcell];have:=one_of e1
 simpa using this
end Go.Proofs.YtdinohbahfdphaaGreatDoor
namespace Go.Proofs.YtdinohbahfdphaaGreatDoor
open Go.ChangeShapes Go.WideShapes Go.ChangeAt Go.RowKit Nums
def laid3:List (String×DataW Unit):=[("witan/field.twice",Rows.laid_witan_field_twice),("witan/sha.starts",Rows.laid_witan_sha_starts),("witan/sha.steps",Rows.laid_witan_sha_steps)]
def door_met(os:Os)(args:Array Value):laidMetH prog laid3 ((World.doorLaid prog 400 os).forCall (λ_ _=>0) ⟨#[],args,[]⟩).memory :=
 laidMetH_of_parts3 (fuel:=8) (laidMet_of_run' 8 (by kernel_rfl) (by kernel_rfl)) (by kernel_rfl) (by kernel_rfl)
theorem of_laid{W:World}(h:laidMetH prog laid3 W):Ta W:=by rw [MakeChecks.laidMetH_plain _ _ _ (by kernel_rfl)] at h;obtain⟨ps,⟨g0,t0,cs0,f0,p0,q0,hg0,ht0,hv0,hd0,⟨g1,t1,cs1,f1,p1,q1,hg1,ht1,hv1,hd1,⟨g2,t2,cs2,f2,p2,q2,hg2,ht2,hv2,hd2,_,_⟩,_⟩,_⟩,_,_⟩:=h;have c0:=table_cells (l:=twl) (n:=5) (g:=3) (tid:=245) (by kernel_rfl) (by kernel_rfl) underlying245 (by kernel_rfl) hg0 ht0 hv0 hd0;have c1:=table_cells (l:=sqs) (n:=8) (g:=1) (tid:=284) (by kernel_rfl) (by kernel_rfl) underlying284 (by kernel_rfl) hg1 ht1 hv1 hd1;have c2:=table_cells (l:=cbs) (n:=80) (g:=2) (tid:=317) (by kernel_rfl) (by kernel_rfl) underlying317 (by kernel_rfl) hg2 ht2 hv2 hd2;exact⟨⟨c0,mI W ⟨3,0,none⟩ (c0 0 (by omega))⟩,⟨⟨c2,mI W ⟨2,0,none⟩ (c2 0 (by omega))⟩,c1,mI W ⟨1,0,none⟩ (c1 0 (by omega))⟩⟩
end Go.Proofs.YtdinohbahfdphaaGreatDoor
namespace Go.Proofs.YtdinohbahfdphaaGreatDoor
open Go.RowKit Go.IntWalk
open Go.ChangeShapes Go.WideShapes Go.ChangeAt
def int_cellsT{H:Type}{enc:TypeId×Value->H}{W:World}{held:Bool}(n:Nat)(cs:List Value)(x:DataW H×List MemPlace)(h:rP enc prog W 0 (λ_=>true) held n 3 cs=some x) :
  ∃a:Int,cs=(eI a).cl/\OkP (eI a).parts1/\(eI a).cl.length=1:=by
 obtain⟨m,e,_⟩:=DataW.trod_int underlying3 h;exact⟨m,e,eI_ok m⟩
end Go.Proofs.YtdinohbahfdphaaGreatDoor
