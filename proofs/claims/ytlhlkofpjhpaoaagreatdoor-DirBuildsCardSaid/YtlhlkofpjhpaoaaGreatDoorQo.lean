import Derived.Test.YtlhlkofpjhpaoaaGreatDoorQn
set_option maxRecDepth 100000
set_option maxHeartbeats 2000000
open Array renaming length_toList->bA,toList_append->dB
open Go.Result renaming andThen_ok->aB
open Go.Sem renaming run_bind->aF,run_pure->aG
open Go.Value renaming int->cC
open List renaming length_append->aC,mem_singleton->aE,mem_cons->aJ,getElem?_eq_getElem->aP,length_take->aY,mem_of_getElem?->a6,append_assoc->a7,length_singleton->a9,length_cons->bB,getElem?_eq_some_iff->bC,take_of_length_le->bH,append_nil->bJ,length_set->bR,eq_nil_of_length_eq_zero->bV,getElem?_append_right->cD,length_drop->eK,drop_of_length_le->eO,set_append_right->gA,nil_append->gI,filter->gU,filter_append->kG,length_nil->kR,mem_or_eq_of_mem_set->qU
open Nat renaming le_refl->aH,zero_le->aQ,mod_eq_of_lt->aW,zero_add->aX,beq->bM,min_eq_left->cA,add_zero->dT,sub_self->gP,add_sub_cancel_left->g6,mul_add->kP,not_lt_zero->n7
open UInt8 renaming ofNat->bD,toNat_ofNat'->iE
namespace Go.Proofs.YtlhlkofpjhpaoaaGreatDoor
open Go.RowKit Go.IntWalk Nums
theorem run_ldEl{α:Type}{P:Program}{T:List TyR}{N:Nat}{E:SE}{o:Oper}{x:Operand}{t:TypeId}{k' c j off g a:Nat}{fe:α->SQ}{l:List α}{y:α}{q:SQ}{L:List LV}{R:List Res}{F M:World->Prop}(hT:OkT P T)(ho:o.op = .load t x)(hx:evS E x=some (.v (.pointer (some ⟨g,a+k'*j+off,none⟩))))(hi:l[j]?=some y)(hl:loadS T (fe y).parts1 t off=some q)(hok:OkP (fe y).parts1)(h:∀G S w,View G S L R F M w->Rd k' fe (some ⟨g,a,none⟩) c l w) :
  ∀(G:Nat->Nat) (S:Nat->Prop) (ac:Act) (w:World),Fr N (denE G E) ac->View G S L R F M w->(execOp ac.eval o).run P w = .ok (.value ((SV.q q).den G)) w:=λG S ac w ha hv=>by
 have e1:=ha.eval (evS_ok hx);obtain⟨b',o',e,_,hr⟩:=(h G S w hv).2.2.2.2 (Nat.lt_of_le_of_lt (aQ _) (bC.1 hi).1)
 injection e with e
 injection e with e2 e3
 subst e2 e3;have h13:=(loadS_at hT hok hl).2 (w:=w) (g:=g) (base:=a+k'*j) (by rw [<-SQ.cl_parts hok];exact hr j y hi)
 unfold execOp
 simp only [ho,e1,SV.den,SQ.den,SC.den,h13,aF,aG,aB]
def tyK:Nat->TypeId
  | 0=>154
  | 1=>160
  | 2=>167
  | _=>156
def zK:Nat->List Pt
  | 0=>[]
  | 1=>[.agg 32 (By dF).toArray,.agg 32 (By dF).toArray,.agg 32 (By dF).toArray]
  | 2=>[.agg 32 (By dF).toArray,.agg 2 #[.nilIface,.nilIface]]
  | _=>[.agg 32 (By dF).toArray]
theorem zK_ok(k:Nat):OkP (zK k):=by
 match k with
 | 0=>exact okPB_ok (by kernel_rfl)
 | 1=>exact okPB_ok (by kernel_rfl)
 | 2=>exact okPB_ok (by kernel_rfl)
 | _+3=>exact okPB_ok (by show okPB [.agg 32 (By dF).toArray]=true;kernel_rfl)
def PW.asK(W:PW)(k:Nat):List Pt:=match bM W.kind k with
  | true=>W.ps
  | false=>zK k
theorem PW.asK_ok{W:PW}(h:W.Good)(k:Nat):OkP (W.asK k):=by
 unfold PW.asK
 split
 ·exact PW.ps_ok h
 ·exact zK_ok k
theorem ty_kind(W:PW):W.ty=tyK W.kind:=by cases W<;>rfl
theorem zero_K:∀k,k<4->(Tryz.prog.info? (tyK k)).map (·.zero)=some (some (SQ.p (zK k)).den)
 | 0,_=>by show(Tryz.prog.info? 154).map (·.zero)=some (some (SQ.p []).den);kernel_rfl
 | 1,_=>by show(Tryz.prog.info? 160).map (·.zero)=some (some (SQ.p (zK 1)).den);kernel_rfl
 | 2,_=>by show(Tryz.prog.info? 167).map (·.zero)=some (some (SQ.p (zK 2)).den);kernel_rfl
 | 3,_=>by show(Tryz.prog.info? 156).map (·.zero)=some (some (SQ.p (zK 3)).den);kernel_rfl
 | k+4,h=>absurd h (by omega)
theorem under_K:∀k,k<4->∃d,Tryz.prog.underlying (tyK k)=some d/\isI d=false
 | 0,_=>⟨_,Tryz.underlying154,rfl⟩
 | 1,_=>⟨_,Tryz.underlying160,rfl⟩
 | 2,_=>⟨_,Tryz.underlying167,rfl⟩
 | 3,_=>⟨_,Tryz.underlying156,rfl⟩
 | k+4,h=>absurd h (by omega)
theorem tyK_inj:∀i j,i<4->j<4->tyK i=tyK j->i=j:=by
 have h:∀i:Fin 4,∀j:Fin 4,tyK i.1=tyK j.1->i.1=j.1:=by decide +kernel
 exact λi j hi hj=>h ⟨i,hi⟩ ⟨j,hj⟩
theorem kind_lt(W:PW):W.kind<4:=by cases W<;>simp [PW.kind]
section
variable{b:Base}{ops:Array Oper}{Q:Exit->Act->World->Prop}{N:Nat}{E:SE}{L:List LV}{R:List Res}{F M:World->Prop}{o:Oper}{rest:List Oper}{j:Nat}{x:Operand}{ti:TypeId}
theorem l_kind(k:Nat){W:PW}(hW:W.Good)(h4:k<4)(hg:o.guard=none)(hd:o.dst=some j)(hj:Nat.blt j N=true)(ho:o.op = .typeAssert x ti (tyK k) true)(hx:evS E x=some (.v W.val))
 (hn:lS Tryz.prog b ops Q N rest ⟨(j,.t [.p (W.asK k),.c (.v (.bool (bM W.kind k)))])::E,L,R,F,M⟩):lS Tryz.prog b ops Q N (o::rest) ⟨E,L,R,F,M⟩:=by
 obtain⟨d,hu,hi⟩:=under_K k h4;refine l_op (.t [.p (W.asK k),.c (.v (.bool (bM W.kind k)))]) (λy hy=>?_) hg hd hj ?_ hn
 ·rcases aJ.1 hy with rfl|hy
  ·exact PW.asK_ok hW k
  ·rw [aE.1 hy];exact trivial
 ·unfold PW.asK
  by_cases e:W.kind=k
  ·have e2:bM W.kind k=true:=by rw [e];exact Nat.beq_refl k
   rw [e2];exact run_asYes ho hu hi (by rw [hx,W.val_eq,ty_kind,e]) rfl
  ·have e2:bM W.kind k=false:=by
    cases h:bM W.kind k with
    | true=>exact absurd (Nat.eq_of_beq_eq_true h) e
    | false=>rfl
   rw [e2];exact run_asNo ho hu hi (by rw [hx,W.val_eq]) (λh=>e (tyK_inj _ _ (kind_lt W) h4 (by rw [<-ty_kind,h]))) (zero_K k h4)
end
theorem wrap_u8(d:Nat):IntKind.u8.wrap (((d%256:Nat):Int)+1)=(((d+1)%256:Nat):Int):=by
 unfold IntKind.wrap
 simp [IntKind.bits,IntKind.signed]
def tellR(u:List UInt8×Bool×Bool):RV:=.t [eY 32 u.1,.c (.v (.bool u.2.1)),.c (.v (.int .i64 (if u.2.2 then 100 else 0)))]
theorem own_wget:Own 62:=λ_ _=>by go_simp
theorem wget_S{k:List UInt8}(hk:k.length=32)(w:PW)(hr:w.Right []):Spec 62 [w.val,(eY 32 k).den] [] (λ_=>True) (one (tellR (PW.tell k (PW.find k 0 w)))):=by
 refine spec_S [.c (.v w.val),eY 32 k] 37 Tryz.func62 rfl (by rw [Tryz.ntmps62];rfl) (two_ok trivial (eY_ok hk).1) λb=>?_;generalize hres:PW.tell k (PW.find k 0 w)=res;refine s_auto TY_ok rfl ?_;refine s_auto TY_ok rfl ?_;refine s_block ?_
 let F:PW×List Nat->Env:=λ⟨W,way⟩=>⟨[(0,.v W.val),(3,.a 3 0),(4,.a 4 0),(7,.v (.int .u8 ((way.length%256:Nat):Int)))],[⟨4,none,45,[.agg 32 (By dF).toArray]⟩,⟨3,none,45,[.agg 32 (By k).toArray]⟩],[],λ_=>True,λ_=>True⟩
 refine c_weak (e':=F (w,[])) ⟨⟨rfl,rfl,rfl,rfl,trivial⟩,⟨rfl,rfl,rfl,rfl,trivial⟩,.refl _,λ_ _ _=>trivial,λ_ _=>trivial⟩ (s_loop (λy=>256-y.2.length) F (λy=>y.1.Right y.2/\PW.tell k (PW.find k y.2.length y.1)=res) ?_ (w,[]) ⟨hr,hres⟩)
 rintro⟨W,way⟩ ⟨hW,hres⟩
 dsimp only at hW hres
 refine s_seq λK hK=>?_;refine s_block ?_;refine s_seq λK1 hK1=>?_;refine s_auto TY_ok rfl ?_;refine s_block ?_;refine s_regA TY_ok rfl λK2 hK2=>?_;refine l_kind 2 hW.good (by decide) rfl rfl rfl rfl rfl ?_;refine l_autoS TY_ok rfl ?_;refine s_end (hK2 _ ?_)
 cases W with
 | inner x y =>
  obtain⟨hlt,hx,hy,_⟩:=hW;refine s_yes rfl ?_;refine s_auto TY_ok rfl ?_;refine s_seq λK3 hK3=>?_;refine s_lit ?_;refine l_autoS TY_ok rfl ?_;obtain⟨hca,hcb⟩:=inner_cell (a:=x) (b:=y);have e256:way.length%256=way.length:=aW hlt;refine l_num 18 (way.length:Int) rfl (by rw [e256]) ?_;refine l_call0 [(eY 32 k).den,.int .u8 (way.length:Int)] rfl rfl rfl own_wbit rfl rfl (λ_ _=>rfl) (wbit_S hk way.length hlt) (λ_ _ _=>trivial) λ_=>?_;refine l_autoS TY_ok rfl ?_;have hb2:=kO k way.length
  by_cases hb:cQ k way.length=0
  ·refine l_num 19 0 rfl (by rw [hb];rfl) ?_
   refine l_op (.a 8 (0+32+1*0)) trivial rfl rfl rfl (runO_ixA 0 rfl Tryz.underlying165 rfl rfl rfl (by decide)) ?_;refine l_opV (.v x.val) trivial rfl rfl rfl (runO_ldA _ rfl rfl rfl hca Tryz.underlying89 rfl) ?_;refine l_autoS TY_ok rfl ?_;refine s_end (hK3 _ (s_exit (k_passB rfl (k_pass (k_out (hK _ ?_))))));refine s_autoE TY_ok rfl ?_;exact k_next (x,way++[0]) ⟨hx,by rw [<-hres,aC,a9];show _=PW.tell k (if cQ k way.length=0 then _ else _);rw [if_pos hb]⟩ (by rw [aC,a9];show 256-(way.length+1)<256-way.length;omega) ⟨⟨rfl,rfl,rfl,congrArg some (congrArg SV.v (congrArg (cC .u8) (by rw [aC,a9];exact wrap_u8 way.length))),trivial⟩,⟨rfl,rfl,rfl,rfl,trivial⟩,.refl _,λ_ _ _=>trivial,λ_ _=>trivial⟩
  ·refine l_num 19 1 rfl (by rw [show cQ k way.length=1 by omega];rfl) ?_
   refine l_op (.a 8 (0+32+1*1)) trivial rfl rfl rfl (runO_ixA 1 rfl Tryz.underlying165 rfl rfl rfl (by decide)) ?_;refine l_opV (.v y.val) trivial rfl rfl rfl (runO_ldA _ rfl rfl rfl hcb Tryz.underlying89 rfl) ?_;refine l_autoS TY_ok rfl ?_;refine s_end (hK3 _ (s_exit (k_passB rfl (k_pass (k_out (hK _ ?_))))));refine s_autoE TY_ok rfl ?_;exact k_next (y,way++[1]) ⟨hy,by rw [<-hres,aC,a9];show _=PW.tell k (if cQ k way.length=0 then _ else _);rw [if_neg hb]⟩ (by rw [aC,a9];show 256-(way.length+1)<256-way.length;omega) ⟨⟨rfl,rfl,rfl,congrArg some (congrArg SV.v (congrArg (cC .u8) (by rw [aC,a9];exact wrap_u8 way.length))),trivial⟩,⟨rfl,rfl,rfl,rfl,trivial⟩,.refl _,λ_ _ _=>trivial,λ_ _=>trivial⟩
 | empty =>
  refine s_no rfl ?_;refine s_regA TY_ok rfl λK4 hK4=>?_;refine l_kind (W:=.empty) 1 hW.good (by decide) rfl rfl rfl rfl rfl ?_;refine l_autoS TY_ok rfl ?_;refine s_end (hK4 _ ?_);refine s_no rfl ?_;refine s_regA TY_ok rfl λK5 hK5=>?_;refine l_kind (W:=.empty) 3 hW.good (by decide) rfl rfl rfl rfl rfl ?_;refine l_autoS TY_ok rfl ?_;refine s_end (hK5 _ ?_);refine s_no rfl ?_;refine s_skip (hK1 _ ?_);refine s_auto TY_ok rfl ?_;exact s_ret (k_ret TY_ok () rfl (by decide) rfl (by rw [<-hres];rfl) rfl (λ_ _ _=>trivial) (λ_ _=>trivial))
 | leaf p =>
  have hp:OkT2 p:=hW.good;refine s_no rfl ?_;refine s_regA TY_ok rfl λK4 hK4=>?_;refine l_kind (W:=.leaf p) 1 hW.good (by decide) rfl rfl rfl rfl rfl ?_;refine l_autoS TY_ok rfl ?_;refine s_end (hK4 _ ?_);refine s_yes rfl ?_;refine s_auto TY_ok rfl ?_;refine s_regA TY_ok rfl λK6 hK6=>?_;refine l_op (.b (decide (p.1=k))) trivial rfl rfl rfl (run_eqY rfl rfl rfl Tryz.underlying45 (by kernel_rfl) hp.1 hk) ?_;refine s_end (hK6 _ ?_);refine s_ifD (p.1=k) rfl (λhe=>?_) (λhe=>?_)
  ·refine s_auto TY_ok rfl ?_
   exact s_ret (k_ret TY_ok () rfl (by decide) rfl (by rw [<-hres];show tellR (if p.1=k then _ else _)=_;rw [if_pos he];rfl) rfl (λ_ _ _=>trivial) (λ_ _=>trivial))
  ·refine s_skip (hK1 _ ?_)
   refine s_auto TY_ok rfl ?_;exact s_ret (k_ret TY_ok () rfl (by decide) rfl (by rw [<-hres];show tellR (if p.1=k then _ else _)=_;rw [if_neg he];rfl) rfl (λ_ _ _=>trivial) (λ_ _=>trivial))
 | hid h =>
  refine s_no rfl ?_;refine s_regA TY_ok rfl λK4 hK4=>?_;refine l_kind (W:=.hid h) 1 hW.good (by decide) rfl rfl rfl rfl rfl ?_;refine l_autoS TY_ok rfl ?_;refine s_end (hK4 _ ?_);refine s_no rfl ?_;refine s_regA TY_ok rfl λK5 hK5=>?_;refine l_kind (W:=.hid h) 3 hW.good (by decide) rfl rfl rfl rfl rfl ?_;refine l_autoS TY_ok rfl ?_;refine s_end (hK5 _ ?_);refine s_yes rfl ?_;refine s_auto TY_ok rfl ?_;refine s_auto TY_ok rfl ?_;exact s_ret (k_ret TY_ok () rfl (by decide) rfl (by rw [<-hres];rfl) rfl (λ_ _ _=>trivial) (λ_ _=>trivial))
theorem PW.tell_len{k:List UInt8}:∀{d:Nat} {w:PW},w.Good->(PW.tell k (PW.find k d w)).1.length=32
 | _,.empty,_=>rfl
 | _,.leaf p,h=>by
  show(if p.1=k then(p.2,true,false) else(dF,false,false)).1.length=32
  split
  ·exact h.2
  ·rfl
 | _,.hid _,_=>rfl
 | d,.inner a b,h=>by
  show(PW.tell k (if cQ k d=0 then PW.find k (d+1) a else PW.find k (d+1) b)).1.length=32
  split
  ·exact PW.tell_len h.1
  ·exact PW.tell_len h.2
theorem tellR_ok{u:List UInt8×Bool×Bool}(h:u.1.length=32):(tellR u).sv.Ok:=λx hx=>by
 simp only [aJ,List.not_mem_nil,or_false] at hx
 rcases hx with rfl|rfl|rfl
 ·exact(eY_ok h).1
 ·exact trivial
 ·exact trivial
theorem own_wGet:Own 41:=λ_ _=>by go_simp
theorem wGet_S{k:List UInt8}(hk:k.length=32)(w:PW)(hr:w.Right []):Spec 41 [(prQ w).den,(eY 32 k).den] [] (λ_=>True) (one (tellR (PW.tell k (PW.find k 0 w)))):=by
 refine spec_S [prQ w,eY 32 k] 14 Tryz.func41 rfl (by rw [Tryz.ntmps41];rfl) (two_ok (prQ_ok w) (eY_ok hk).1) λb=>?_;have hget:=wget_S hk w hr;have hl:=PW.tell_len (k:=k) (d:=0) hr.good;generalize PW.tell k (PW.find k 0 w)=res at *;refine s_auto TY_ok rfl ?_;refine s_regD 7 (by decide) (by kernel_rfl) (by kernel_rfl) λK1 hK1 G S w0 hst=>?_;refine g_autoS TY_ok hst rfl ?_;refine g_callS (F':=λ_=>True) hst [(prQ w).den] rfl rfl rfl own_wnode rfl rfl (λ_=>rfl) (wnode_S w) trivial (λ_ _ _ _=>trivial) ?_;refine g_autoS TY_ok hst rfl ?_;refine g_callS (F':=λ_=>True) (r:=tellR res) hst [w.val,(eY 32 k).den] rfl rfl rfl own_wget rfl rfl (λ_=>rfl) hget ?_ (λ_ _ _ _=>trivial) ?_
 ·exact tellR_ok hl
 refine g_autoS TY_ok hst rfl ?_;refine g_endS hst ?_;refine l_autoS TY_ok rfl ?_;refine s_end (hK1 _ ?_);exact s_ret (k_ret TY_ok () rfl (by decide) rfl rfl rfl (λ_ _ _=>trivial) (λ_ _=>trivial))
theorem built_sides(t1 t2:TypeId)(v1 v2:Value):Tryz.prog.built 165 [(0,.iface t1 v1),(1,.iface t2 v2)]=some #[.iface t1 v1,.iface t2 v2]:=by kernel_rfl
theorem run_sides{N:Nat}{E:SE}{o:Oper}{x y:Operand}{X Y:PW}(ho:o.op = .build 165 #[(0,x),(1,y)])(hx:evS E x=some (.v X.val))(hy:evS E y=some (.v Y.val)) :
  ∀(G:Nat->Nat) (a:Act) (w:World),Fr N (denE G E) a->(execOp a.eval o).run Tryz.prog w = .ok (.value ((SV.p (sdW X Y)).den G)) w:=λG a w ha=>by
 have h1:a.eval x = .iface X.ty (SQ.p X.ps).den:=by rw [<-X.val_eq];exact ha.eval (evS_ok hx)
 have h2:a.eval y = .iface Y.ty (SQ.p Y.ps).den:=by rw [<-Y.val_eq];exact ha.eval (evS_ok hy)
 unfold execOp
 have h:Tryz.prog.built 165 (Array.map (λx:Nat×Operand=>(x.1,a.eval x.2)) #[(0,x),(1,y)]).toList=some #[.iface X.ty (SQ.p X.ps).den,.iface Y.ty (SQ.p Y.ps).den]:=by
  rw [Array.toList_map]
  show Tryz.prog.built 165 [(0,a.eval x),(1,a.eval y)]=_
  rw [h1,h2];exact built_sides _ _ _ _
 simp only [ho,aF,run_build w 165 _ _ h,aB,aG];rw [<-X.val_eq,<-Y.val_eq]
 rfl
structure RSw where
  A:Option Addr
  c:Nat
  l:List UInt8
  e:Nat
namespace RSw
def ps(s:RSw):List Pt:=[.one (.v (.slice s.A s.l.length s.c)),.one (.v (.int .i64 (s.e:Int)))]
def rd(s:RSw)(w:World):Prop:=Rd 1 eB s.A s.c s.l w
instance{s:RSw}:Pst s.rd:=⟨λ_ _ h hb=>Rd.later h hb⟩
def fail(s:RSw)(x:Nat):RSw:=⟨s.A,s.c,s.l,if s.e=0 then x else s.e⟩
def cut(s:RSw)(n:Nat):RSw:=⟨cutA s.A s.c n,s.c-n,s.l.drop n,s.e⟩
theorem rd_cut{s:RSw}{n:Nat}{w:World}(h:s.rd w)(hn:n<=s.l.length):(s.cut n).rd w:=Rd.part h hn
theorem fail_e{s:RSw}{x:Nat}(h:s.e≠0):s.fail x=s:=by
 unfold fail
 rw [if_neg h]
theorem fail_0{s:RSw}{x:Nat}(h:s.e=0):s.fail x=⟨s.A,s.c,s.l,x⟩:=by
 unfold fail
 rw [if_pos h]
end RSw
abbrev RdQ(g:Nat)(s:RSw):Res:=ObjS g 125 s.ps
abbrev ptV(g:Nat):Value:=.pointer (some ⟨g,0,none⟩)
theorem own_wfails:Own 61:=λ_ _=>by go_simp
theorem own_wtake:Own 118:=λ_ _=>by go_simp
theorem own_wkind:Own 80:=λ_ _=>by go_simp
theorem own_whash:Own 83:=λ_ _=>by go_simp
theorem wfails_S(g:Nat)(s:RSw)(x:Nat):Spec 61 [ptV g,.int .i64 (x:Int)] [RdQ g s] (λ_=>True) { ret:=λ_:Unit=>.t [],own:=λ_=>[RdQ g (s.fail x)] }:=by
 refine spec_S [.c (.v (ptV g)),.c (.v (.int .i64 (x:Int)))] 13 Tryz.func61 rfl (by rw [Tryz.ntmps61];rfl) (two_ok trivial trivial) λb=>?_;refine s_regA TY_ok rfl λK hK=>?_;refine l_ldO TY_ok rfl rfl rfl rfl rfl rfl (obj_own 0 rfl) ?_;refine l_autoS TY_ok rfl ?_;refine s_end (hK _ ?_);refine s_ifD ((s.e:Int)=0) rfl (λh0=>?_) (λh0=>?_)
 ·refine s_lit ?_
  refine l_autoS TY_ok rfl ?_;refine l_stO TY_ok 0 rfl rfl rfl rfl rfl rfl rfl ?_;exact s_end (k_ret TY_ok () rfl (by decide) rfl rfl (by rw [RSw.fail_0 (by omega)];rfl) (λ_ _ _=>trivial) (λ_ _=>trivial))
 ·exact s_skip (k_ret TY_ok () rfl (by decide) rfl rfl (by rw [RSw.fail_e (by omega)]) (λ_ _ _=>trivial) (λ_ _=>trivial))
def RSw.can(s:RSw)(n:Nat):Prop:=s.e=0/\n<=s.l.length
theorem wtake_yes(g:Nat)(s:RSw)(n:Nat)(h:s.can n):Spec 118 [ptV g,.int .i64 (n:Int)] [RdQ g s] s.rd { ret:=λ_:Unit=>.v (.slice s.A n s.c),own:=λ_=>[RdQ g (s.cut n)] }:=by
 obtain⟨A,c,l,e⟩:=s;obtain⟨he,hn⟩:=h
 dsimp only at he hn
 subst he;refine spec_S [.c (.v (ptV g)),.c (.v (.int .i64 (n:Int)))] 36 Tryz.func118 rfl (by rw [Tryz.ntmps118];rfl) (two_ok trivial trivial) λb=>?_;refine s_pure (l.length<=c/\(A=none->c=0)) (λw hw _=>⟨hw.1,hw.2.2.1⟩) λ⟨hlc,hA⟩=>?_;refine s_auto TY_ok rfl ?_;refine s_seq λK hK=>?_;refine s_regA TY_ok rfl λK1 hK1=>?_;refine l_ldO TY_ok rfl rfl rfl rfl rfl rfl (obj_own 0 rfl) ?_;refine l_autoS TY_ok rfl ?_;refine s_end (hK1 _ ?_);refine s_ifD ((l.length:Int)<(n:Int)) rfl (λh0=>absurd h0 (by omega)) (λ_=>?_);refine s_skip (hK _ ?_);refine s_seq λK2 hK2=>?_;refine s_regA TY_ok rfl λK3 hK3=>?_;refine l_ldO TY_ok rfl rfl rfl rfl rfl rfl (obj_own 0 rfl) ?_;refine l_autoS TY_ok rfl ?_;refine s_end (hK3 _ ?_);refine s_ifD (((0:Nat):Int)≠0) rfl (λh0=>absurd rfl h0) (λ_=>?_);refine s_skip (hK2 _ ?_);refine s_regA TY_ok rfl λK4 hK4=>?_;refine l_ldO TY_ok rfl rfl rfl rfl rfl rfl (obj_own 0 rfl) ?_;refine l_autoS TY_ok rfl ?_;refine l_op (.v (.slice A n c)) trivial rfl rfl rfl (run_cutHi (sz:=1) (by kernel_rfl) (by omega) hA rfl Tryz.underlying51 rfl rfl) ?_;refine l_autoS TY_ok rfl ?_;refine s_end (hK4 _ ?_);refine s_regA TY_ok rfl λK5 hK5=>?_;refine l_ldO TY_ok rfl rfl rfl rfl rfl rfl (obj_own 0 rfl) ?_;refine l_autoS TY_ok rfl ?_;refine l_op (.v (.slice (cutA A c n) (l.length-n) (c-n))) trivial rfl rfl rfl (run_cutLo hn hlc hA rfl rfl rfl) ?_;refine l_autoS TY_ok rfl ?_;refine l_stO TY_ok 0 rfl rfl rfl rfl rfl rfl rfl ?_;refine s_end (hK5 _ ?_);refine s_auto TY_ok rfl ?_;exact s_ret (k_ret TY_ok () rfl (by decide) rfl rfl (by show [ObjS g _ [.one (.v (.slice (cutA A c n) (l.drop n).length (c-n))),_]]=_;rw [eK];rfl) (λ_ _ _=>trivial) (λ_ _=>trivial))
theorem wtake_no(g:Nat)(s:RSw)(n:Nat)(h:¬s.can n):Spec 118 [ptV g,.int .i64 (n:Int)] [RdQ g s] (λ_=>True) { ret:=λ_:Unit=>.v (.slice none 0 0),own:=λ_=>[RdQ g (s.fail 10)] }:=by
 refine spec_S [.c (.v (ptV g)),.c (.v (.int .i64 (n:Int)))] 36 Tryz.func118 rfl (by rw [Tryz.ntmps118];rfl) (two_ok trivial trivial) λb=>?_;refine s_auto TY_ok rfl ?_;refine s_seq λK hK=>?_;refine s_regA TY_ok rfl λK1 hK1=>?_;refine l_ldO TY_ok rfl rfl rfl rfl rfl rfl (obj_own 0 rfl) ?_;refine l_autoS TY_ok rfl ?_;refine s_end (hK1 _ ?_)
 have hne:(s.fail 10).e≠0:=by
  show(if s.e=0 then 10 else s.e)≠0
  split
  ·decide
  ·assumption
 have hrest:∀en,Weak en ⟨[(0,.v (ptV g)),(4,.v (.slice none 0 0))],[],[RdQ g (s.fail 10)],λ_=>True,λ_=>True⟩->kS b K 36 en:=by
  intro en hw
  refine k_weak hw (hK _ ?_);refine s_seq λK2 hK2=>?_;refine s_regA TY_ok rfl λK3 hK3=>?_;refine l_ldO TY_ok rfl rfl rfl rfl rfl rfl (obj_own 0 rfl) ?_;refine l_autoS TY_ok rfl ?_;refine s_end (hK3 _ ?_);refine s_ifD (((s.fail 10).e:Int)≠0) rfl (λh0=>?_) (λh0=>absurd (by omega) h0);refine s_auto TY_ok rfl ?_;exact s_ret (k_ret TY_ok () rfl (by decide) rfl rfl rfl (λ_ _ _=>trivial) (λ_ _=>trivial))
 refine s_ifD ((s.l.length:Int)<(n:Int)) rfl (λh0=>?_) (λh0=>?_)
 ·refine s_lit ?_
  refine l_autoS TY_ok rfl ?_;refine l_R ([RdQ g s]++[]) rfl ?_;refine l_callA [ptV g,.int .i64 10] rfl rfl rfl own_wfails rfl rfl (λ_ _=>rfl) (wfails_S g s 10) (λ_ _ _=>trivial) λ_=>?_;exact s_end (hrest _ ⟨⟨rfl,rfl,trivial⟩,trivial,.refl _,λ_ _ _=>trivial,λ_ _=>trivial⟩)
 ·have he:s.e≠0:=λe=>h ⟨e,by omega⟩
  exact s_skip (hrest _ ⟨⟨rfl,rfl,trivial⟩,trivial,by rw [RSw.fail_e he],λ_ _ _=>trivial,λ_ _=>trivial⟩)
theorem RSw.can_cons{s:RSw}(h:s.can 1):∃x r,s.l=x::r:=by
 obtain⟨_,h⟩:=h
 cases hl:s.l with
 | nil=>rw [hl] at h;exact absurd h (by decide)
 | cons x r=>exact⟨x,r,rfl⟩
theorem wkind_yes(g:Nat)(s:RSw){x:UInt8}{r:List UInt8}(h:s.can 1)(hx:s.l=x::r):Spec 80 [ptV g] [RdQ g s] s.rd { ret:=λ_:Unit=>.v (.int .u8 (x.toNat:Int)),own:=λ_=>[RdQ g (s.cut 1)] }:=by
 refine spec_S [.c (.v (ptV g))] 10 Tryz.func80 rfl (by rw [Tryz.ntmps80];rfl) (one_ok trivial) λb=>?_;refine s_auto TY_ok rfl ?_;refine s_auto TY_ok rfl ?_;refine s_seq λK hK=>?_;refine s_anyP [0,1] 3 1 (λ_=>True) (by kernel_rfl) rfl (λ_ _ _=>trivial) ?_;refine p_frontO (.s 3 0 1 1) trivial 0 (by kernel_rfl) rfl rfl rfl rfl rfl (runO_all rfl Tryz.underlying210 rfl rfl) ?_;refine p_frontS (L0:=[]) TY_ok 1 (by kernel_rfl) rfl rfl rfl rfl rfl rfl (λ_ h=>by cases h) (λ_ _ _ h=>by cases h) ?_;refine p_step 2 (by kernel_rfl) rfl λK1 hK1=>?_;refine l_R ([RdQ g s]++[]) rfl ?_;refine l_callA [ptV g,.int .i64 1] rfl rfl rfl own_wtake rfl rfl (λ_ _=>rfl) (wtake_yes g s 1 h) (λ_ h _=>h) λ_=>?_;refine s_end (hK1 _ (λ_ _ _=>trivial) ?_);refine p_tail [3] (by kernel_rfl) rfl ?_;refine l_copyV (A:=s.A) (c:=s.c) (z:=[0]) (l:=[x]) rfl rfl rfl rfl rfl rfl rfl rfl (aH 1) (rd_fact λw h _=>?_) ?_
 ·have h2:s.rd w:=h.2
  have:=h2.take 1;rw [hx] at this;exact this
 refine s_end (hK _ ?_);refine s_regA TY_ok rfl λK2 hK2=>?_;refine l_op (.a 3 (0+1*0)) trivial rfl rfl rfl (runO_ixA 0 rfl Tryz.underlying210 rfl rfl rfl (by decide)) ?_;refine l_opV (.v (.int .u8 (x.toNat:Int))) trivial rfl rfl rfl (runO_ldA _ rfl rfl rfl rfl Tryz.underlying5 rfl) ?_;refine l_autoS TY_ok rfl ?_;refine s_end (hK2 _ ?_);exact s_ret (k_ret TY_ok () rfl (by decide) rfl rfl rfl (λ_ _ _=>trivial) (λ_ _=>trivial))
theorem wkind_no(g:Nat)(s:RSw)(h:¬s.can 1):Spec 80 [ptV g] [RdQ g s] (λ_=>True) { ret:=λ_:Unit=>.v (.int .u8 0),own:=λ_=>[RdQ g (s.fail 10)] }:=by
 refine spec_S [.c (.v (ptV g))] 10 Tryz.func80 rfl (by rw [Tryz.ntmps80];rfl) (one_ok trivial) λb=>?_;refine s_auto TY_ok rfl ?_;refine s_auto TY_ok rfl ?_;refine s_seq λK hK=>?_;refine s_anyP [0,1] 3 1 (λ_=>True) (by kernel_rfl) rfl (λ_ _ _=>trivial) ?_;refine p_frontO (.s 3 0 1 1) trivial 0 (by kernel_rfl) rfl rfl rfl rfl rfl (runO_all rfl Tryz.underlying210 rfl rfl) ?_;refine p_frontS (L0:=[]) TY_ok 1 (by kernel_rfl) rfl rfl rfl rfl rfl rfl (λ_ h=>by cases h) (λ_ _ _ h=>by cases h) ?_;refine p_step 2 (by kernel_rfl) rfl λK1 hK1=>?_;refine l_R ([RdQ g s]++[]) rfl ?_;refine l_callA [ptV g,.int .i64 1] rfl rfl rfl own_wtake rfl rfl (λ_ _=>rfl) (wtake_no g s 1 h) (λ_ _ _=>trivial) λ_=>?_;refine s_end (hK1 _ (λ_ _ _=>trivial) ?_);refine p_tail [3] (by kernel_rfl) rfl ?_;refine l_copyV (A:=none) (c:=0) (z:=[0]) (l:=[]) rfl rfl rfl rfl rfl rfl rfl rfl (by decide) (rd_fact λw _ _=>Rd.nil _ _ _) ?_;refine s_end (hK _ ?_);refine s_regA TY_ok rfl λK2 hK2=>?_;refine l_op (.a 3 (0+1*0)) trivial rfl rfl rfl (runO_ixA 0 rfl Tryz.underlying210 rfl rfl rfl (by decide)) ?_;refine l_opV (.v (.int .u8 0)) trivial rfl rfl rfl (runO_ldA _ rfl rfl rfl rfl Tryz.underlying5 rfl) ?_;refine l_autoS TY_ok rfl ?_;refine s_end (hK2 _ ?_);exact s_ret (k_ret TY_ok () rfl (by decide) rfl rfl rfl (λ_ _ _=>trivial) (λ_ _=>trivial))
theorem whash_yes(g:Nat)(s:RSw)(h:s.can 32):Spec 83 [ptV g] [RdQ g s] s.rd { ret:=λ_:Unit=>.q (eY 32 (s.l.take 32)),own:=λ_=>[RdQ g (s.cut 32)] }:=by
 refine spec_S [.c (.v (ptV g))] 9 Tryz.func83 rfl (by rw [Tryz.ntmps83];rfl) (one_ok trivial) λb=>?_
 have hl:(s.l.take 32).length=32:=by rw [aY];have:=h.2;omega
 refine s_auto TY_ok rfl ?_;refine s_auto TY_ok rfl ?_;refine s_seq λK hK=>?_;refine s_anyP [0,1] 3 1 (λ_=>True) (by kernel_rfl) rfl (λ_ _ _=>trivial) ?_;refine p_frontO (.s 3 0 32 32) trivial 0 (by kernel_rfl) rfl rfl rfl rfl rfl (runO_all rfl Tryz.underlying45 rfl rfl) ?_;refine p_frontS (L0:=[]) TY_ok 1 (by kernel_rfl) rfl rfl rfl rfl rfl rfl (λ_ h=>by cases h) (λ_ _ _ h=>by cases h) ?_;refine p_step 2 (by kernel_rfl) rfl λK1 hK1=>?_;refine l_R ([RdQ g s]++[]) rfl ?_;refine l_callA [ptV g,.int .i64 32] rfl rfl rfl own_wtake rfl rfl (λ_ _=>rfl) (wtake_yes g s 32 h) (λ_ h _=>h) λ_=>?_;refine s_end (hK1 _ (λ_ _ _=>trivial) ?_);refine p_tail [3] (by kernel_rfl) rfl ?_;refine l_copyV (A:=s.A) (c:=s.c) (z:=dF) (l:=s.l.take 32) rfl rfl rfl rfl rfl (by rw [hl];rfl) rfl rfl (by rw [hl];exact aH _) (rd_fact λw h _=>?_) ?_
 ·have h2:s.rd w:=h.2
  exact h2.take 32
 rw [hl,show dF.drop 32=[] from rfl,bJ];refine s_end (hK _ ?_);refine s_auto TY_ok rfl ?_;exact s_ret (k_ret TY_ok () rfl (by decide) rfl rfl rfl (λ_ _ _=>trivial) (λ_ _=>trivial))
theorem whash_no(g:Nat)(s:RSw)(h:¬s.can 32):Spec 83 [ptV g] [RdQ g s] (λ_=>True) { ret:=λ_:Unit=>.q (eY 32 dF),own:=λ_=>[RdQ g (s.fail 10)] }:=by
 refine spec_S [.c (.v (ptV g))] 9 Tryz.func83 rfl (by rw [Tryz.ntmps83];rfl) (one_ok trivial) λb=>?_;refine s_auto TY_ok rfl ?_;refine s_auto TY_ok rfl ?_;refine s_seq λK hK=>?_;refine s_anyP [0,1] 3 1 (λ_=>True) (by kernel_rfl) rfl (λ_ _ _=>trivial) ?_;refine p_frontO (.s 3 0 32 32) trivial 0 (by kernel_rfl) rfl rfl rfl rfl rfl (runO_all rfl Tryz.underlying45 rfl rfl) ?_;refine p_frontS (L0:=[]) TY_ok 1 (by kernel_rfl) rfl rfl rfl rfl rfl rfl (λ_ h=>by cases h) (λ_ _ _ h=>by cases h) ?_;refine p_step 2 (by kernel_rfl) rfl λK1 hK1=>?_;refine l_R ([RdQ g s]++[]) rfl ?_;refine l_callA [ptV g,.int .i64 32] rfl rfl rfl own_wtake rfl rfl (λ_ _=>rfl) (wtake_no g s 32 h) (λ_ _ _=>trivial) λ_=>?_;refine s_end (hK1 _ (λ_ _ _=>trivial) ?_);refine p_tail [3] (by kernel_rfl) rfl ?_;refine l_copyV (A:=none) (c:=0) (z:=dF) (l:=[]) rfl rfl rfl rfl rfl rfl rfl rfl (by decide) (rd_fact λw _ _=>Rd.nil _ _ _) ?_;refine s_end (hK _ ?_);refine s_auto TY_ok rfl ?_;exact s_ret (k_ret TY_ok () rfl (by decide) rfl rfl rfl (λ_ _ _=>trivial) (λ_ _=>trivial))
end Go.Proofs.YtlhlkofpjhpaoaaGreatDoor
namespace Go.Proofs.YtlhlkofpjhpaoaaGreatDoor
open Go.RowKit Go.IntWalk Nums
theorem PW.cut_le:∀(n:Nat) {d:Nat} {l:List PairT} {ks:List (List UInt8)},(∀p∈l,OkT2 p)->(PW.cut n d l ks).bytes.length<=(70+2*n)*l.length+1
 | n,d,[],_,_=>by
  cases n<;>exact Nat.le_add_left _ _
 | n,d,p::l,[],_=>by
  have e:(PW.cut n d (p::l) []).bytes.length=33:=by
   cases n<;>(show(eX _ _).length+1=33;rw [rootT_len])
  rw [e,bB,Nat.mul_succ]
  omega
 | n,d,[p],k::ks,h=>by
  have hp:=h p List.mem_cons_self
  have e:(PW.cut n d [p] (k::ks)).bytes.length=65:=by
   cases n<;>(show(1::(p.1++p.2)).length=65;rw [bB,aC,hp.1,hp.2])
  rw [e]
  show 65<=(70+2*n)*1+1
  omega
 | 0,d,p::q::l,k::ks,_=>by
  show 1<=_
  omega
 | n+1,d,p::q::l,k::ks,h=>by
  have h1:=cut_le n (d:=d+1) (l:=b6 d (p::q::l)) (ks:=PW.keyL d (k::ks)) λx hx=>h x (eC.1 hx).1;have h2:=cut_le n (d:=d+1) (l:=bI d (p::q::l)) (ks:=PW.keyR d (k::ks)) λx hx=>h x (dP.1 hx).1;have h3:=PW.halves d (p::q::l)
  show(2::((PW.cut n (d+1) (b6 d (p::q::l)) (PW.keyL d (k::ks))).bytes++(PW.cut n (d+1) (bI d (p::q::l)) (PW.keyR d (k::ks))).bytes)).length<=_
  rw [bB,aC,<-h3]
  have h4:2<=(b6 d (p::q::l)).length+(bI d (p::q::l)).length:=by rw [h3];simp
  generalize (b6 d (p::q::l)).length=a at *;generalize (bI d (p::q::l)).length=b at *
  have e:(70+2*(n+1))*(a+b)=(70+2*n)*a+(70+2*n)*b+2*(a+b):=by
   rw [show 70+2*(n+1)=(70+2*n)+2 by omega,Nat.add_mul,kP]
  rw [e]
  omega
section
variable{α:Type}{fe:α->SQ}{l:List α}{P:Program}{T:List TyR}{b:Base}{ops:Array Oper}{Q:Exit->Act->World->Prop}{N:Nat}{E:SE}{L:List LV}{R:List Res}{F M:World->Prop}{o:Oper}{rest:List Oper}{k:Nat}{t e:TypeId}{x z:Operand}{lo c sz g:Nat}
theorem l_stFd{q:SQ}(i j off n:Nat)(u u':α)(hi:R[i]?=some (OwnS lo e sz fe (some ⟨g,0,none⟩) c l))(hg:o.guard=none)(hd:o.dst=none)(ho:o.op = .store t x z)(hx:evS E x=some (.v (.pointer (some ⟨g,sz*j+off,none⟩))))(hz:evS E z=some (.q q))(hj:l[j]?=some u)(ht:(P.info? t).map (·.size)=some n)(hn:q.cl.length=n)(hone:∀v∈q.cl,v.oneCell'=true)
 (hcl:(fe u').cl=(fe u).cl.take off++q.cl++(fe u).cl.drop (off+n))(hfit:off+n<=sz)(hok':OkP (fe u').parts1/\(fe u').cl.length=sz)
 (hc:lS P b ops Q N rest ⟨E,L,R.set i (OwnS lo e sz fe (some ⟨g,0,none⟩) c (l.set j u')),F,M⟩):lS P b ops Q N (o::rest) ⟨E,L,R,F,M⟩:=λa w ⟨G,S,f1,f2,f3⟩=>by
 obtain⟨S1,⟨hokl,hrow,hS1⟩,hput⟩:=f3.put hi
 rcases hrow.2 with⟨h6,h7⟩|⟨g',cap,cur,hv,hb,hg',hnc,hmx,hcs,htk⟩
 ·injection h6 with h6
  cases h6
 injection hv with v1 _ v2
 injection v1 with v1
 injection v1 with v1
 subst v1;have hB:Blk w g e cur:=hg';have e1:a.eval x = .pointer (some ⟨g,sz*j+off,none⟩):=f1.eval (evS_ok hx);have e2:a.eval z=q.den:=f1.eval (evS_ok hz);obtain⟨B,Z,s1,s2,s3⟩:=flatF_split hokl hj;have hul:=(hokl u (a6 hj)).2
 have hfl:(flatF fe l).length=B.length+(sz+Z.length):=by rw [s1,aC,aC,hul]
 have hmc:sz*j+off+n<=cur.size:=by
  have h1:(flatF fe l).length<=cur.size:=by
   rw [<-htk,aY,<-bA];exact Nat.min_le_right _ _
  omega
 have hqs:q.den.cells.size=n:=by rw [<-hn];exact(bA).symm
 have hst:=run_store_part (P:=P) (t:=t) (v:=q.den) (off:=sz*j+off) hB (by rw [ht,hqs]) (by rw [hqs];exact hmc) hone;rw [hqs] at hst;have hB':=hB.row (cur.toList.take (sz*j+off)++q.den.cells.toList++cur.toList.drop (sz*j+off+n)).toArray
 have hok2:OkF sz fe (l.set j u'):=λy hy=>by
  rcases qU hy with h|rfl
  ·exact hokl y h
  ·exact hok'
 have hll:(l.set j u').length=l.length:=bR
 have hnew:flatF fe (l.set j u')=(flatF fe l).take (sz*j+off)++q.cl++(flatF fe l).drop (sz*j+off+n):=by
  rw [s3,s1,hcl,<-s2]
  have t1:(B++((fe u).cl++Z)).take (B.length+off)=B++(fe u).cl.take off:=by
   rw [List.take_append,bH (by omega),g6,List.take_append_of_le_length (by omega)]
  have t2:(B++((fe u).cl++Z)).drop (B.length+off+n)=(fe u).cl.drop (off+n)++Z:=by
   rw [List.drop_append,eO (by omega),gI,show B.length+off+n-B.length=off+n by omega,List.drop_append_of_le_length (by omega)]
  rw [t1,t2];simp only [a7]
 obtain⟨S'',h12⟩:=hput (OwnS lo e sz fe (some ⟨g,0,none⟩) c (l.set j u')) (w.setRow g (cur.toList.take (sz*j+off)++q.den.cells.toList++cur.toList.drop (sz*j+off+n)).toArray) S1 ((Chg.row w g _).mono λk _ hk=>(hS1 k).2 (by rw [hk];rfl))
  ⟨hok2,⟨by rw [flatF_len hok2],.inr ⟨g,cap,_,by rw [hll,v2],hb,hB',by rw [hll];exact hnc,hmx,by
   have h1:cur.toList.length=cur.size:=bA
   have h2:q.den.cells.toList.length=n:=by rw [bA,hqs]
   rw [List.size_toArray,aC,aC,aY,eK,h2,h1,<-hcs]
   omega,by
   have h1:cur.toList.length=cur.size:=bA
   have h2:q.den.cells.toList.length=n:=by rw [bA,hqs]
   have h3:l.length*sz=(flatF fe l).length:=(flatF_len hokl).symm;rw [hll,hnew,h3];rw [h3] at htk
   show List.take _ (cur.toList.take (sz*j+off)++q.den.cells.toList++cur.toList.drop (sz*j+off+n))=_
   rw [List.take_append,bH (by rw [aC,aY,h2];omega),aC,aY,h2,cA (by omega)]
   conv=>rhs;rw [<-htk]
   rw [List.take_take,cA (by omega),List.drop_take]
   rfl⟩⟩,hS1⟩ (λk hk _=>hk)
 refine wpl_skip (w':=w.setRow g (cur.toList.take (sz*j+off)++q.den.cells.toList++cur.toList.drop (sz*j+off+n)).toArray) (oneS hg) (by
  unfold execOp
  simp only [ho,e1,e2,hst,aF,aG,aB]) ?_
 rw [hd];exact hc _ _ ⟨G,S'',f1,f2,h12⟩
end
theorem By_setH(l:List UInt8)(i:Nat)(y:UInt8):By (l.set i y)=(By l).set i (.int .u8 (y.toNat:Int)):=List.map_set
def WayB(wy:List UInt8)(way:List Nat):Prop:=wy.length=32/\way.length<=256/\(∀i,i<way.length->cQ wy i=way[i]!)/\∀i,way.length<=i->i<256->cQ wy i=0
def plQ(wy:List UInt8)(d:Nat):SQ:=.p [.agg 32 (By wy).toArray,.one (.v (.int .i64 (d:Int)))]
theorem plQ_ok{wy:List UInt8}(h:wy.length=32)(d:Nat):(plQ wy d).Ok:=λp hp=>by
 rcases aJ.1 hp with rfl|hp
 ·exact agg_ok h
 ·rw [aE.1 hp]
  exact⟨trivial,rfl,rfl⟩
theorem bitT_zero(i:Nat):cQ dF i=0:=by
 unfold cQ
 have:(dF[i/8]!)=0:=by
  by_cases h:i/8<32
  ·rw [getElem!_pos dF (i/8) h]
   show(List.replicate 32 (0:UInt8))[i/8]=0
   exact List.getElem_replicate ..
  ·rw [getElem!_neg dF (i/8) (by show ¬i/8<32;exact h)]
   rfl
 rw [this]
 simp
theorem WayB.nil:WayB dF []:=⟨rfl,aQ _,λ_ h=>absurd h (n7 _),λi _ _=>bitT_zero i⟩
theorem or_bit:∀k:Nat,k<256->∀j:Nat,j<8->∀b:Nat,b<2->k/2^j%2=0->bits .or .u8 (k:Int) ((b*2^j:Nat):Int)=((k+b*2^j:Nat):Int):=by
 have key:∀k:Nat,k<256->∀j:Nat,j<8->∀b:Nat,b<2->k/2^j%2=0->bits .or .u8 (k:Int) ((b*2^j:Nat):Int)=((k+b*2^j:Nat):Int):=by decide +kernel
 exact key
theorem set_bit:∀k:Nat,k<256->∀j:Nat,j<8->∀b:Nat,b<2->k/2^j%2=0->k+b*2^j<256/\∀i,i<8->(k+b*2^j)/2^i%2=if i=j then b else k/2^i%2:=by
 decide +kernel
def wayS(wy:List UInt8)(d b:Nat):List UInt8:=wy.set (d/8) (bD ((wy[d/8]!).toNat+b*2^(7-d%8)))
theorem bitT_set{wy:List UInt8}(hl:wy.length=32){d b:Nat}(hd:d<256)(hb:b<2)(h0:cQ wy d=0):(wayS wy d b).length=32/\∀i,i<256->cQ (wayS wy d b) i=if i=d then b else cQ wy i:=by
 refine⟨by rw [wayS,bR];exact hl,λi hi=>?_⟩;have hk:=(wy[d/8]!).toNat_lt;obtain⟨h1,h2⟩:=set_bit _ hk (7-d%8) (by omega) b hb h0
 unfold wayS cQ
 by_cases e:i/8=d/8
 ·rw [e,getElem!_pos _ (d/8) (by rw [bR];omega),List.getElem_set_self,iE,(aW h1:(_+b*2^(7-d%8))%2^8=_),h2 (7-i%8) (by omega)]
  by_cases e2:i=d
  ·rw [if_pos e2,if_pos (by rw [e2])]
  ·rw [if_neg e2,if_neg (by omega)]
 ·rw [if_neg (λh=>e (by rw [h])),getElem!_pos _ (i/8) (by rw [bR];omega),List.getElem_set_ne (by omega),<-getElem!_pos wy (i/8) (by omega)]
theorem WayB.more{wy:List UInt8}{way:List Nat}(h:WayB wy way)(hlt:way.length<256){b:Nat}(hb:b<2):WayB (wayS wy way.length b) (way++[b]):=by
 obtain⟨h1,h2,h3,h4⟩:=h;obtain⟨k1,k2⟩:=bitT_set h1 hlt hb (h4 _ (aH _) hlt)
 have elen:(way++[b]).length=way.length+1:=by rw [aC,a9]
 refine⟨k1,by rw [elen];exact hlt,λi hi=>?_,λi hi hi2=>?_⟩
 ·rw [elen] at hi
  rw [k2 i (by omega)]
  by_cases e:i=way.length
  ·subst e
   rw [if_pos rfl,getElem!_pos _ _ (by rw [elen];omega),List.getElem_append_right (aH _)]
   simp
  ·rw [if_neg e,h3 i (by omega),getElem!_pos way i (by omega),getElem!_pos _ i (by rw [elen];omega),List.getElem_append_left (by omega)]
 ·rw [elen] at hi
  rw [k2 i hi2,if_neg (by omega),h4 i (by omega) hi2]
section
variable{N:Nat}{E:SE}{o:Oper}{x y:Operand}{t':TypeId}
theorem run_shlW{m n:Nat}(hn:n<=7)(hm:m*2^n<256)(ho:o.op = .binOp .shl 5 x y t')(hx:evS E x=some (.v (.int .u8 (m:Int))))(hy:evS E y=some (.v (.int .i64 (n:Int)))) :
  ∀(G:Nat->Nat) (a:Act) (w:World),Fr N (denE G E) a->(execOp a.eval o).run Tryz.prog w = .ok (.value ((SV.v (.int .u8 ((m*2^n:Nat):Int))).den G)) w:=λG a w ha=>by
 have h1:a.eval x = .int .u8 (m:Int):=ha.eval (evS_ok hx);have h2:a.eval y = .int .i64 (n:Int):=ha.eval (evS_ok hy)
 unfold execOp
 simp only [ho,h1,h2]
 go_simp
 have h4:0<=((m*2^n:Nat):Int):=Int.natCast_nonneg _;have h5:((m*2^n:Nat):Int)<256:=Int.ofNat_lt.2 hm;rw [Int.natCast_mul,Int.natCast_pow] at h4 h5;exact congrArg (cC .u8) (wrapB rfl h4 h5)
theorem run_or8{m n:Int}(ho:o.op = .binOp .or 5 x y t')(hx:evS E x=some (.v (.int .u8 m)))(hy:evS E y=some (.v (.int .u8 n))) :
  ∀(G:Nat->Nat) (a:Act) (w:World),Fr N (denE G E) a->(execOp a.eval o).run Tryz.prog w = .ok (.value ((SV.v (.int .u8 (bits .or .u8 m n))).den G)) w:=λG a w ha=>by
 have h1:a.eval x = .int .u8 m:=ha.eval (evS_ok hx);have h2:a.eval y = .int .u8 n:=ha.eval (evS_ok hy)
 unfold execOp
 simp only [ho,h1,h2]
 go_simp
 rfl
end
theorem pl_at{wy:List UInt8}(h:wy.length=32){s:SC}{j:Nat}(hj:j<32):(catP [.agg 32 (By wy).toArray,.one s])[j]?=some (.int .u8 ((wy[j]!).toNat:Int)):=by
 have h2:=row32 h
 show((By wy).toArray ++ #[s.den])[j]?=_
 rw [Array.getElem?_append_left (by omega)];exact By_get (by omega)
theorem pl_set{wy:List UInt8}{s:SC}{j:Nat}(y:UInt8)(hj:j<wy.length):(catP [.agg 32 (By (wy.set j y)).toArray,.one s]).toList=(catP [.agg 32 (By wy).toArray,.one s]).toList.set j (.int .u8 (y.toNat:Int)):=by
 show((By (wy.set j y)).toArray ++ #[s.den]).toList=((By wy).toArray ++ #[s.den]).toList.set j _
 rw [dB,dB,List.set_append_left _ _ (by rw [By_len];exact hj),By_setH]
theorem own_wside:Own 121:=λ_ _=>by go_simp
theorem own_wleads:Own 120:=λ_ _=>by go_simp
theorem own_wleast:Own 122:=λ_ _=>by go_simp
theorem wside_S{wy:List UInt8}{way:List Nat}(h:WayB wy way)(hlt:way.length<256){b:Nat}(hb:b<2):Spec 121 [(plQ wy way.length).den,.int .u8 (b:Int)] [] (λ_=>True) (one (.q (plQ (wayS wy way.length b) (way.length+1)))):=by
 obtain⟨h1,h2,h3,h4⟩:=h;have hz:=h4 _ (aH _) hlt;obtain⟨d,hd⟩:∃d,way.length=d:=⟨_,rfl⟩;rw [hd] at hlt hz ⊢;clear h2 h3 h4;refine spec_S [plQ wy d,.c (.v (.int .u8 (b:Int)))] 25 Tryz.func121 rfl (by rw [Tryz.ntmps121];rfl) (two_ok (plQ_ok h1 d) trivial) λbb=>?_;have hk:=(wy[d/8]!).toNat_lt;have hkz:(wy[d/8]!).toNat/2^(7-d%8)%2=0:=hz;have hsb:=(set_bit _ hk (7-d%8) (by omega) b hb hkz).1;have hor:=or_bit _ hk (7-d%8) (by omega) b hb hkz
 have hsh:b*2^(7-d%8)<256:=by omega
 have hw:(bD ((wy[d/8]!).toNat+b*2^(7-d%8))).toNat=(wy[d/8]!).toNat+b*2^(7-d%8):=by rw [iE];exact aW hsb
 have hws:wayS wy d b=wy.set (d/8) (bD ((wy[d/8]!).toNat+b*2^(7-d%8))):=rfl;have hat:=pl_at h1 (s:=.v (.int .i64 (d:Int))) (j:=d/8) (by omega)
 have hwl:(wayS wy d b).length=32:=by rw [hws,bR];exact h1
 have hset:=pl_set (wy:=wy) (s:=.v (.int .i64 (d:Int))) (j:=d/8) (bD ((wy[d/8]!).toNat+b*2^(7-d%8))) (by omega);rw [<-hws,hw] at hset;generalize (wy[d/8]!).toNat=k at *;generalize wayS wy d b=wy' at *;refine s_auto TY_ok rfl ?_;refine s_regD 14 (by decide) (by kernel_rfl) (by kernel_rfl) λK1 hK1 G S w0 hst=>?_;refine g_autoS TY_ok hst rfl ?_;refine g_num 7 ((d/8:Nat):Int) rfl (wrapQ d 8 (by omega)) ?_;refine g_autoS TY_ok hst rfl ?_;refine g_opS (.a 2 (0+0+1*(d/8))) trivial rfl rfl rfl (runO_ixA (d/8) rfl Tryz.underlying45 rfl rfl rfl (by omega)) ?_;refine g_opV hst (.v (.int .u8 (k:Int))) trivial rfl rfl rfl (runO_ldA _ rfl rfl rfl (by simpa using hat) Tryz.underlying5 rfl) ?_;refine g_autoS TY_ok hst rfl ?_;refine g_num 15 ((7-d%8:Nat):Int) rfl (wrapI (by rw [Int.tmod_eq_emod_of_nonneg (by omega)];omega) (by omega) (by omega)) ?_;refine g_opS (.v (.int .u8 ((b*2^(7-d%8):Nat):Int))) trivial rfl rfl rfl (run_shlW (by omega) hsh rfl rfl rfl) ?_;refine g_opS (.v (.int .u8 (bits .or .u8 (k:Int) ((b*2^(7-d%8):Nat):Int)))) trivial rfl rfl rfl (run_or8 rfl rfl rfl) ?_;refine g_num 17 ((k+b*2^(7-d%8):Nat):Int) rfl hor ?_;refine g_autoS TY_ok hst rfl ?_;refine g_endS hst ?_;refine l_op (.a 2 (0+0+1*(d/8))) trivial rfl rfl rfl (runO_ixA (d/8) rfl Tryz.underlying45 rfl rfl rfl (by omega)) ?_
 refine l_stA [.agg 32 (By wy').toArray,.one (.v (.int .i64 (d:Int)))] rfl rfl rfl rfl rfl rfl rfl rfl rfl (by
  have e:=OkP.size (plQ_ok h1 d)
  show _<(catP [.agg 32 (By wy).toArray,.one (.v (.int .i64 (d:Int)))]).size
  rw [e]
  show 0+0+1*(d/8)<33
  omega) (plQ_ok hwl d) (by simpa using hset) ?_
 refine s_end (hK1 _ ?_);refine s_auto TY_ok rfl ?_;refine s_auto TY_ok rfl ?_;exact s_ret (k_ret TY_ok () rfl (by decide) rfl (congrArg (λz:Int=>RV.q (.p [.agg 32 (By wy').toArray,.one (.v (.int .i64 z))])) (wrapI (m:=(d:Int)+1) (r:=((d+1:Nat):Int)) rfl (by omega) (by omega)).symm) rfl (λ_ _ _=>trivial) (λ_ _=>trivial))
theorem wrap_byte{i:Nat}(h:i<256):IntKind.u8.wrap (i:Int)=(i:Int):=wrapB rfl (Int.natCast_nonneg _) (by omega)
theorem wleads_S{wy k:List UInt8}{way:List Nat}(h:WayB wy way)(hk:k.length=32):Spec 120 [(plQ wy way.length).den,(eY 32 k).den] [] (λ_=>True) (one (.v (.bool (decide (Leads way k))))):=by
 obtain⟨h1,h2,h3, -⟩:=h;refine spec_S [plQ wy way.length,eY 32 k] 22 Tryz.func120 rfl (by rw [Tryz.ntmps120];rfl) (two_ok (plQ_ok h1 _) (eY_ok hk).1) λb=>?_;refine s_auto TY_ok rfl ?_;refine s_seq λK hK=>?_;refine s_auto TY_ok rfl ?_;refine s_block ?_
 let F:Nat->Env:=λi=>⟨[(8,.v (.int .i64 (i:Int))),(7,.v (.int .i64 (way.length:Int))),(3,.a 3 0),(2,.a 2 0)],[⟨3,none,45,[.agg 32 (By k).toArray]⟩,⟨2,none,128,[.agg 32 (By wy).toArray,.one (.v (.int .i64 (way.length:Int)))]⟩],[],λ_=>True,λ_=>True⟩
 refine c_weak (e':=F 0) ⟨⟨rfl,rfl,rfl,rfl,trivial⟩,⟨rfl,rfl,rfl,rfl,trivial⟩,.refl _,λ_ _ _=>trivial,λ_ _=>trivial⟩ (s_loop (λi=>way.length-i) F (λi=>i<=way.length/\∀j,j<i->cQ k j=way[j]!) ?_ 0 ⟨aQ _,λ_ h=>absurd h (n7 _)⟩)
 rintro i ⟨hi,ht⟩
 refine s_auto TY_ok rfl ?_;refine s_seq λK1 hK1=>?_;refine s_ifD ((i:Int)<(way.length:Int)) rfl (λhlt=>?_) (λhge=>?_)
 ·have hil:i<way.length:=by omega
  have hi256:i<256:=by omega
  refine s_skip (hK1 _ ?_);refine s_seq λK2 hK2=>?_;refine s_block ?_;refine s_auto TY_ok rfl ?_;refine s_regD 10 (by decide) (by kernel_rfl) (by kernel_rfl) λK3 hK3 G S w0 hst=>?_;refine g_autoS TY_ok hst rfl ?_;refine g_num 13 (i:Int) rfl (wrap_byte hi256) ?_;refine g_callS (F':=λ_=>True) hst [(eY 32 k).den,.int .u8 (i:Int)] rfl rfl rfl own_wbit rfl rfl (λ_=>rfl) (wbit_S hk i hi256) trivial (λ_ _ _ _=>trivial) ?_;refine g_autoS TY_ok hst rfl ?_;refine g_num 18 (i:Int) rfl (wrap_byte hi256) ?_;refine g_callS (F':=λ_=>True) hst [(eY 32 wy).den,.int .u8 (i:Int)] rfl rfl rfl own_wbit rfl rfl (λ_=>rfl) (wbit_S h1 i hi256) trivial (λ_ _ _ _=>trivial) ?_;refine g_autoS TY_ok hst rfl ?_;refine g_endS hst ?_;refine s_end (hK3 _ ?_);have hwi:=h3 i hil;refine s_ifD (((cQ k i:Nat):Int)≠((cQ wy i:Nat):Int)) rfl (λhne=>?_) (λhe=>?_)
  ·refine s_auto TY_ok rfl ?_
   exact s_ret (k_ret TY_ok () rfl (by decide) rfl (congrArg (λt=>RV.v (.bool t)) (decide_eq_false λhl=>hne (by rw [hl i hil,hwi]))) rfl (λ_ _ _=>trivial) (λ_ _=>trivial))
  ·refine s_skip (hK2 _ ?_)
   refine s_autoE TY_ok rfl ?_
   exact k_next (i+1) ⟨hil,λj hj=>by
    by_cases e:j=i
    ·subst e
     rw [<-hwi]
     omega
    ·exact ht j (by omega)⟩ (by show way.length-(i+1)<way.length-i;omega) ⟨⟨congrArg some (congrArg SV.v (congrArg (cC .i64) (wrapI rfl (by omega) (by omega)))),rfl,rfl,rfl,trivial⟩,⟨rfl,rfl,rfl,rfl,trivial⟩,.refl _,λ_ _ _=>trivial,λ_ _=>trivial⟩
 ·refine s_exit (k_pass (k_pass (k_out ?_)))
  refine hK _ ?_;refine s_auto TY_ok rfl ?_;exact s_ret (k_ret TY_ok () rfl (by decide) rfl (congrArg (λt=>RV.v (.bool t)) (decide_eq_true λj hj=>ht j (by omega))) rfl (λ_ _ _=>trivial) (λ_ _=>trivial))
theorem wleast_S{w:PW}(h:w.Good):Spec 122 [w.val] [] (λ_=>True) (one (.v (.int .i64 ((min w.kind 2:Nat):Int)))):=by
 refine spec_S [.c (.v w.val)] 10 Tryz.func122 rfl (by rw [Tryz.ntmps122];rfl) (one_ok trivial) λb=>?_;refine s_auto TY_ok rfl ?_;refine s_seq λK hK=>?_;refine s_auto TY_ok rfl ?_;refine s_block ?_;refine s_regA TY_ok rfl λK1 hK1=>?_;refine l_kind 0 h (by decide) rfl rfl rfl rfl rfl ?_;refine l_autoS TY_ok rfl ?_;refine s_end (hK1 _ ?_)
 cases w with
 | empty =>
  refine s_yes rfl ?_;refine s_auto TY_ok rfl ?_;exact s_ret (k_ret TY_ok () rfl (by decide) rfl rfl rfl (λ_ _ _=>trivial) (λ_ _=>trivial))
 | leaf p =>
  refine s_no rfl ?_;refine s_regA TY_ok rfl λK2 hK2=>?_;refine l_kind (W:=.leaf p) 1 h (by decide) rfl rfl rfl rfl rfl ?_;refine l_autoS TY_ok rfl ?_;refine s_end (hK2 _ ?_);refine s_yes rfl ?_;refine s_auto TY_ok rfl ?_;exact s_ret (k_ret TY_ok () rfl (by decide) rfl rfl rfl (λ_ _ _=>trivial) (λ_ _=>trivial))
 | inner x y =>
  refine s_no rfl ?_;refine s_regA TY_ok rfl λK2 hK2=>?_;refine l_kind (W:=.inner x y) 1 h (by decide) rfl rfl rfl rfl rfl ?_;refine l_autoS TY_ok rfl ?_;refine s_end (hK2 _ ?_);refine s_no rfl ?_;refine s_skip (hK _ ?_);refine s_auto TY_ok rfl ?_;exact s_ret (k_ret TY_ok () rfl (by decide) rfl rfl rfl (λ_ _ _=>trivial) (λ_ _=>trivial))
 | hid l =>
  refine s_no rfl ?_;refine s_regA TY_ok rfl λK2 hK2=>?_;refine l_kind (W:=.hid l) 1 h (by decide) rfl rfl rfl rfl rfl ?_;refine l_autoS TY_ok rfl ?_;refine s_end (hK2 _ ?_);refine s_no rfl ?_;refine s_skip (hK _ ?_);refine s_auto TY_ok rfl ?_;exact s_ret (k_ret TY_ok () rfl (by decide) rfl rfl rfl (λ_ _ _=>trivial) (λ_ _=>trivial))
instance{s:RSw}{n:Nat}:Decidable (s.can n):=inferInstanceAs (Decidable (s.e=0/\n<=s.l.length))
def RSw.go(s:RSw)(n:Nat):RSw:=if s.can n then s.cut n else s.fail 10
def RSw.hv(s:RSw):List UInt8:=if s.can 32 then s.l.take 32 else dF
theorem RSw.go_rd{s:RSw}{n:Nat}{w:World}(h:s.rd w):(s.go n).rd w:=by
 unfold RSw.go
 split
 ·rename_i hc
  exact RSw.rd_cut h hc.2
 ·exact h
theorem RSw.hv_len(s:RSw):s.hv.length=32:=by
 unfold RSw.hv
 split
 ·rename_i hc
  rw [aY,cA hc.2]
 ·rfl
theorem whash_S(g:Nat)(s:RSw):Spec 83 [ptV g] [RdQ g s] s.rd { ret:=λ_:Unit=>.q (eY 32 s.hv),own:=λ_=>[RdQ g (s.go 32)] }:=by
 unfold RSw.hv RSw.go
 by_cases h:s.can 32
 ·rw [if_pos h,if_pos h]
  exact whash_yes g s h
 ·rw [if_neg h,if_neg h]
  exact(whash_no g s h).imp λ_ _=>trivial
abbrev ResP:=Except Nat (PW×List UInt8)
def Out(r:ResP)(x:PW×RSw):Prop:=x.1.Good/\match r with
  | .ok (w,l)=>x.1=w/\x.2.l=l/\x.2.e=0
  | .error e=>x.2.e=e/\e≠0
def rdR(n:Nat)(way:List Nat)(s:RSw):ResP:=if s.e=0 then PW.read n way s.l else .error s.e
def readLeaf(way:List Nat)(b:List UInt8):ResP:=if b.length<64 then .error 10 else if Leads way (b.take 32) then .ok (.leaf (b.take 32,(b.drop 32).take 32),b.drop 64) else .error 13
def readIn(n:Nat)(way:List Nat)(b:List UInt8):ResP:=match n with
  | 0=>.error 13
  | n+1=>match PW.read n (way++[0]) b with
    | .error e=>.error e
    | .ok (l,b1)=>match PW.read n (way++[1]) b1 with
      | .error e=>.error e
      | .ok (r,b2)=>if PW.bad l r then .error 13 else .ok (.inner l r,b2)
def readHid(b:List UInt8):ResP:=if b.length<32 then .error 10 else .ok (.hid (b.take 32),b.drop 32)
theorem read_cons(n:Nat)(way:List Nat)(x:UInt8)(b:List UInt8):PW.read n way (x::b)=if x=0 then .ok (.empty,b) else if x=1 then readLeaf way b else if x=2 then readIn n way b else if x=3 then readHid b else .error 13:=by
 unfold readLeaf readIn readHid
 cases n<;>(conv=>lhs;unfold PW.read)<;>rfl
theorem read_nil(n:Nat)(way:List Nat):PW.read n way [] = .error 10:=by
 cases n<;>unfold PW.read<;>rfl
abbrev rnPost(g:Nat)(r:ResP):Post { x:PW×RSw // Out r x }:={ ret:=λx=>.v x.1.1.val,own:=λx=>[RdQ g x.1.2],p:=λx=>x.1.2.rd }
theorem own_wrleaf:Own 81:=λ_ _=>by go_simp
theorem own_wrinner:Own 82:=λ_ _=>by go_simp
theorem own_wrnode:Own 60:=λ_ _=>by go_simp
theorem leaf_out{s:RSw}{way:List Nat}(h0:s.e=0):Out (readLeaf way s.l) (.leaf (s.hv,(s.go 32).hv),if Leads way s.hv then(s.go 32).go 32 else((s.go 32).go 32).fail 13):=by
 refine⟨⟨s.hv_len,(s.go 32).hv_len⟩,?_⟩
 unfold readLeaf
 by_cases h1:s.can 32
 ·have e1:s.hv=s.l.take 32:=if_pos h1
  have e2:s.go 32=s.cut 32:=if_pos h1;rw [e2,e1]
  by_cases h2:s.l.length<64
  ·rw [if_pos h2]
   have hc:¬(s.cut 32).can 32:=λh=>by
    have:=h.2;rw [RSw.cut,eK] at this
    omega
   have e3:(s.cut 32).go 32=(s.cut 32).fail 10:=if_neg hc;rw [e3]
   have e4:((s.cut 32).fail 10).e=10:=by rw [RSw.fail_0 (show(s.cut 32).e=0 from h0)]
   rw [RSw.fail_e (s:=(s.cut 32).fail 10) (by rw [e4];decide),ite_self];exact⟨e4,by decide⟩
  ·rw [if_neg h2]
   have hc:(s.cut 32).can 32:=⟨h0,by rw [RSw.cut,eK];omega⟩;have e3:(s.cut 32).go 32=(s.cut 32).cut 32:=if_pos hc;have e5:(s.cut 32).hv=(s.l.drop 32).take 32:=if_pos hc;rw [e3,e5]
   by_cases h3:Leads way (s.l.take 32)
   ·rw [if_pos h3,if_pos h3]
    exact⟨rfl,by show(s.l.drop 32).drop 32=_;rw [List.drop_drop],h0⟩
   ·rw [if_neg h3,if_neg h3]
    exact⟨by rw [RSw.fail_0 (show((s.cut 32).cut 32).e=0 from h0)],by decide⟩
 ·have h2:s.l.length<64:=by
   have:¬32<=s.l.length:=λh=>h1 ⟨h0,h⟩
   omega
  rw [if_pos h2];have e2:s.go 32=s.fail 10:=if_neg h1
  have e4:(s.fail 10).e=10:=by rw [RSw.fail_0 h0]
  rw [e2]
  have e3:(s.fail 10).go 32=s.fail 10:=by
   have:(s.fail 10).go 32=(s.fail 10).fail 10:=if_neg λh=>by rw [h.1] at e4;cases e4
   rw [this,RSw.fail_e (by rw [e4];decide)]
  rw [e3,RSw.fail_e (s:=s.fail 10) (x:=13) (by rw [e4];decide),ite_self];exact⟨e4,by decide⟩
theorem wrleaf_S(g:Nat)(s:RSw){wy:List UInt8}{way:List Nat}(h:WayB wy way)(h0:s.e=0):Spec 81 [ptV g,(plQ wy way.length).den] [RdQ g s] (λw=>s.rd w/\Tsh w) (rnPost g (readLeaf way s.l)):=by
 refine spec_S [.c (.v (ptV g)),plQ wy way.length] 20 Tryz.func81 rfl (by rw [Tryz.ntmps81];rfl) (two_ok trivial (plQ_ok h.1 _)) λb=>?_;have hout:=leaf_out (way:=way) h0;have hl1:=s.hv_len;have hl2:=(s.go 32).hv_len;have hq:OkT2 (s.hv,(s.go 32).hv):=⟨hl1,hl2⟩;have hrd:∀w,s.rd w->((s.go 32).go 32).rd w:=λw hw=>RSw.go_rd (RSw.go_rd hw);have hrd1:∀w,s.rd w->(s.go 32).rd w:=λw hw=>RSw.go_rd hw;have hh1:=whash_S g s;have hh2:=whash_S g (s.go 32);generalize hs2:(s.go 32).go 32=s2 at *;generalize hs1:s.go 32=s1 at *;generalize hk1:s.hv=k1 at *;generalize hk2:s1.hv=k2 at *;have hlf:=wleafOf_S hq;refine s_auto TY_ok rfl ?_;refine s_regA TY_ok rfl λK hK=>?_;refine l_R ([RdQ g s]++[]) rfl ?_;refine l_callA [ptV g] rfl rfl rfl own_whash rfl rfl (λ_ _=>rfl) hh1 (λ_ h _=>h.1) λ_=>?_;refine l_autoS TY_ok rfl ?_;refine l_R ([RdQ g s1]++[]) rfl ?_;refine l_callA [ptV g] rfl rfl rfl own_whash rfl rfl (λ_ _=>rfl) hh2 (λw h _=>hrd1 w h.2.1) λ_=>?_;refine l_call0 [(eY 32 k1).den,(eY 32 k2).den] rfl rfl rfl own_wleafOf rfl rfl (λ_ _=>rfl) hlf (λ_ h _=>h.2.2.2) λ_=>?_;refine l_autoS TY_ok rfl ?_;refine s_end (hK _ ?_);refine s_seq λK1 hK1=>?_;refine s_regA TY_ok rfl λK2 hK2=>?_;refine l_call0 [(plQ wy way.length).den,(eY 32 k1).den] rfl rfl rfl own_wleads rfl rfl (λ_ _=>rfl) (wleads_S h hl1) (λ_ _ _=>trivial) λ_=>?_
 have hrest:∀s3,Out (readLeaf way s.l) (.leaf (k1,k2),s3)->(∀w,s.rd w->s3.rd w)->∀en,Weak en ⟨[(5,.a 5 0)],[⟨5,none,160,(PW.leaf (k1,k2)).ps⟩],[RdQ g s3],s.rd,λ_=>True⟩->kS b K1 20 en:=by
  intro s3 ho hr en hw
  refine k_weak hw (hK1 _ ?_);refine s_regA TY_ok rfl λK3 hK3=>?_;refine l_op (.v (PW.leaf (k1,k2)).val) trivial rfl rfl rfl (run_mkI (q:=.p (PW.leaf (k1,k2)).ps) rfl Tryz.underlying160 rfl rfl) ?_;refine l_autoS TY_ok rfl ?_;refine s_end (hK3 _ ?_);exact s_ret (k_ret TY_ok ⟨(.leaf (k1,k2),s3),ho⟩ rfl (by decide) rfl rfl rfl (λw h _=>hr w h) (λ_ _=>trivial))
 by_cases hlead:Leads way k1
 ·rw [if_pos hlead] at hout
  refine l_eq 14 (.v (.bool true)) rfl (congrArg (λt=>SV.v (.bool t)) (decide_eq_true hlead)) ?_;refine l_autoS TY_ok rfl ?_;refine s_end (hK2 _ ?_);refine s_no rfl ?_;exact s_skip (hrest s2 hout hrd _ ⟨⟨rfl,trivial⟩,⟨rfl,rfl,trivial⟩,.refl _,λ_ h _=>h.2.2.2.2.1,λ_ _=>trivial⟩)
 ·rw [if_neg hlead] at hout
  refine l_eq 14 (.v (.bool false)) rfl (congrArg (λt=>SV.v (.bool t)) (decide_eq_false hlead)) ?_;refine l_autoS TY_ok rfl ?_;refine s_end (hK2 _ ?_);refine s_yes rfl ?_;refine s_lit ?_;refine l_autoS TY_ok rfl ?_;refine l_R ([RdQ g s2]++[]) rfl ?_;refine l_callA [ptV g,.int .i64 13] rfl rfl rfl own_wfails rfl rfl (λ_ _=>rfl) (wfails_S g s2 13) (λ_ _ _=>trivial) λ_=>?_;exact s_end (hrest (s2.fail 13) hout hrd _ ⟨⟨rfl,trivial⟩,⟨rfl,rfl,trivial⟩,.refl _,λ_ h _=>h.2.2.2.2.2.1,λ_ _=>trivial⟩)
def NodeS(n:Nat):Prop:=∀(way:List Nat) (wy:List UInt8) (s:RSw) (g:Nat),n+way.length=256->WayB wy way->Spec 60 [ptV g,(plQ wy way.length).den] [RdQ g s] (λw=>s.rd w/\Tsh w) (rnPost g (rdR n way s))
theorem bad_least(a b:PW):PW.bad a b=decide (min a.kind 2+min b.kind 2<2):=by
 unfold PW.bad
 have h1:=kind_lt a;have h2:=kind_lt b;generalize a.kind=x at *;generalize b.kind=y at *
 have key:∀x,x<4->∀y,y<4->((x==0&&y==0)||(x==0&&y==1)||(x==1&&y==0))=decide (min x 2+min y 2<2):=by decide
 exact key x h1 y h2
theorem in_out{m:Nat}{way:List Nat}{s s1 s2:RSw}{x y:PW}(h0:s.e=0)(h1:Out (rdR m (way++[0]) s) (x,s1))(h2:Out (rdR m (way++[1]) s1) (y,s2)):Out (readIn (m+1) way s.l) (.inner x y,if PW.bad x y then s2.fail 13 else s2):=by
 obtain⟨g1,h1⟩:=h1;obtain⟨g2,h2⟩:=h2;refine⟨⟨g1,g2⟩,?_⟩
 unfold rdR at h1 h2
 rw [if_pos h0] at h1
 unfold readIn
 dsimp only
 cases hr:PW.read m (way++[0]) s.l with
 | error e =>
  rw [hr] at h1;obtain⟨k1,k2⟩:=h1
  dsimp only at k1
  rw [if_neg (by rw [k1];exact k2)] at h2;obtain⟨k3,_⟩:=h2
  dsimp only at k3
  rw [RSw.fail_e (by rw [k3,k1];exact k2),ite_self];exact⟨by rw [k3,k1],k2⟩
 | ok u =>
  obtain⟨l,b1⟩:=u;rw [hr] at h1;obtain⟨k1,k2,k3⟩:=h1
  dsimp only at k1 k2 k3
  subst k1 k2;rw [if_pos k3] at h2
  dsimp only
  cases hr2:PW.read m (way++[1]) s1.l with
  | error e =>
   rw [hr2] at h2;obtain⟨k4,k5⟩:=h2
   dsimp only at k4
   rw [RSw.fail_e (by rw [k4];exact k5),ite_self];exact⟨k4,k5⟩
  | ok u =>
   obtain⟨r,b2⟩:=u;rw [hr2] at h2;obtain⟨k4,k5,k6⟩:=h2
   dsimp only at k4 k5 k6
   subst k4 k5
   dsimp only
   cases hb:PW.bad x y with
   | true =>
    rw [if_pos rfl,if_pos rfl,RSw.fail_0 k6];exact⟨rfl,by decide⟩
   | false =>
    rw [if_neg (by decide),if_neg (by decide)];exact⟨rfl,rfl,k6⟩
theorem wrinner_S(n:Nat)(ih:∀m,n=m+1->NodeS m)(g:Nat)(s:RSw){wy:List UInt8}{way:List Nat}(hn:n+way.length=256)(h:WayB wy way)(h0:s.e=0):Spec 82 [ptV g,(plQ wy way.length).den] [RdQ g s] (λw=>s.rd w/\Tsh w) (rnPost g (readIn n way s.l)):=by
 have hwl:=h.1;refine spec_S [.c (.v (ptV g)),plQ wy way.length] 39 Tryz.func82 rfl (by rw [Tryz.ntmps82];rfl) (two_ok trivial (plQ_ok hwl _)) λb=>?_;refine s_auto TY_ok rfl ?_;refine s_seq λK hK=>?_;refine s_auto TY_ok rfl ?_;refine s_ifD ((way.length:Int)=256) rfl (λh256=>?_) (λh256=>?_)
 ·obtain rfl:n=0:=by omega
  refine s_regA TY_ok rfl λK1 hK1=>?_;refine l_R ([RdQ g s]++[]) rfl ?_;refine l_callA [ptV g,.int .i64 13] rfl rfl rfl own_wfails rfl rfl (λ_ _=>rfl) (wfails_S g s 13) (λ_ _ _=>trivial) λ_=>?_;refine s_end (hK1 _ ?_);refine s_regA TY_ok rfl λK2 hK2=>?_;refine l_op (.v PW.empty.val) trivial rfl rfl rfl (run_mkI rfl Tryz.underlying154 rfl rfl) ?_;refine l_autoS TY_ok rfl ?_;refine s_end (hK2 _ ?_);exact s_ret (k_ret TY_ok ⟨(.empty,s.fail 13),trivial,by rw [RSw.fail_0 h0],by decide⟩ rfl (by decide) rfl rfl rfl (λ_ h _=>h.2.1) (λ_ _=>trivial))
 refine s_skip (hK _ ?_)
 have hlt:way.length<256:=by have:=h.2.1;omega
 obtain⟨m,rfl⟩:∃m,n=m+1:=⟨n-1,by omega⟩;have ihm:=ih m rfl;clear ih;obtain⟨d,hd⟩:∃d,way.length=d:=⟨_,rfl⟩;have ih0:=λs g=>ihm (way++[0]) (wayS wy d 0) s g (by rw [aC,a9];omega) (hd▸h.more hlt (by decide));have ih1:=λs g=>ihm (way++[1]) (wayS wy d 1) s g (by rw [aC,a9];omega) (hd▸h.more hlt (by decide));have hs0:=wside_S h hlt (b:=0) (by decide);have hs1:=wside_S h hlt (b:=1) (by decide);simp only [aC,a9,hd] at ih0 ih1 hs0 hs1;rw [hd];refine s_auto TY_ok rfl ?_;refine s_seq λK1 hK1=>?_;refine s_auto TY_ok rfl ?_;refine s_block ?_
 let F:Nat×Value×Value×RSw->Env:=λ⟨i,v0,v1,s'⟩=>⟨[(14,.v (.int .i64 (i:Int))),(0,.v (ptV g)),(3,.a 3 0),(5,.a 5 0)],[⟨5,none,165,[.agg 2 #[v0,v1]]⟩,⟨3,none,128,[.agg 32 (By wy).toArray,.one (.v (.int .i64 (d:Int)))]⟩],[RdQ g s'],λw=>s'.rd w/\Tsh w,λ_=>True⟩
 refine c_weak (e':=F (0,.nilIface,.nilIface,s)) ⟨⟨rfl,rfl,rfl,rfl,trivial⟩,⟨rfl,rfl,rfl,rfl,trivial⟩,.refl _,λ_ h _=>h,λ_ _=>trivial⟩ (s_loop (λy=>2-y.1) F (λy=>(y.1=0/\y.2.1 = .nilIface/\y.2.2.1 = .nilIface/\y.2.2.2=s)\/(y.1=1/\∃x,Out (rdR m (way++[0]) s) (x,y.2.2.2)/\y.2.1=x.val/\y.2.2.1 = .nilIface)\/(y.1=2/\∃x s1 z,Out (rdR m (way++[0]) s) (x,s1)/\Out (rdR m (way++[1]) s1) (z,y.2.2.2)/\y.2.1=x.val/\y.2.2.1=z.val)) ?_ (0,.nilIface,.nilIface,s) (.inl ⟨rfl,rfl,rfl,rfl⟩))
 rintro⟨i,v0,v1,s'⟩ hI
 dsimp only at hI
 refine s_auto TY_ok rfl ?_;refine s_seq λK2 hK2=>?_
 rcases hI with⟨rfl,rfl,rfl,hs'⟩|⟨rfl,x,hx,rfl,rfl⟩|⟨rfl,x,s1,z,hx,hz,rfl,rfl⟩
 ·obtain rfl:=hs'.symm
  refine s_ifD (((0:Nat):Int)<2) rfl (λ_=>?_) (λh=>absurd (by decide) h);refine s_skip (hK2 _ ?_);refine s_seq λK3 hK3=>?_;refine s_block ?_;refine s_auto TY_ok rfl ?_;refine s_lit ?_;refine l_autoS TY_ok rfl ?_;refine l_num 21 0 rfl (by decide) ?_;refine l_call0 [(plQ wy d).den,.int .u8 0] rfl rfl rfl own_wside rfl rfl (λ_ _=>rfl) hs0 (λ_ _ _=>trivial) λ_=>?_;refine l_R ([RdQ g s]++[]) rfl ?_;refine l_callA [ptV g,(plQ (wayS wy d 0) (d+1)).den] rfl rfl rfl own_wrnode rfl rfl (λ_ _=>rfl) (ih0 s g) (λ_ h _=>h.2) λu=>?_;obtain⟨⟨x,s1⟩,hx⟩:=u;refine l_op (.a 5 (0+1*0)) trivial rfl rfl rfl (runO_ixA 0 rfl Tryz.underlying165 rfl rfl rfl (by decide)) ?_
  refine l_stA [.agg 2 #[x.val,.nilIface]] rfl rfl rfl rfl rfl rfl rfl (PW.val_cells _) (PW.val_one _) (show _<2 by decide) (λp hp=>by
   rw [aE.1 hp];refine⟨rfl,λv hv=>?_⟩
   rcases aJ.1 hv with rfl|hv
   ·exact x.val_one
   ·rw [aE.1 hv];rfl) rfl ?_
  refine s_end (hK3 _ ?_);refine s_autoE TY_ok rfl ?_;exact k_next (1,x.val,.nilIface,s1) (.inr (.inl ⟨rfl,x,hx,rfl,rfl⟩)) (by show 2-1<2-0;decide) ⟨⟨rfl,rfl,rfl,rfl,trivial⟩,⟨rfl,rfl,rfl,rfl,trivial⟩,.refl _,λ_ h _=>⟨h.1,h.2.2.2⟩,λ_ _=>trivial⟩
 ·revert hx
  generalize s'=s1
  intro hx
  refine s_ifD (((1:Nat):Int)<2) rfl (λ_=>?_) (λh=>absurd (by decide) h);refine s_skip (hK2 _ ?_);refine s_seq λK3 hK3=>?_;refine s_block ?_;refine s_auto TY_ok rfl ?_;refine s_lit ?_;refine l_autoS TY_ok rfl ?_;refine l_num 21 1 rfl (by decide) ?_;refine l_call0 [(plQ wy d).den,.int .u8 1] rfl rfl rfl own_wside rfl rfl (λ_ _=>rfl) hs1 (λ_ _ _=>trivial) λ_=>?_;refine l_R ([RdQ g s1]++[]) rfl ?_;refine l_callA [ptV g,(plQ (wayS wy d 1) (d+1)).den] rfl rfl rfl own_wrnode rfl rfl (λ_ _=>rfl) (ih1 s1 g) (λ_ h _=>h.2) λu=>?_;obtain⟨⟨z,s2⟩,hz⟩:=u;refine l_op (.a 5 (0+1*1)) trivial rfl rfl rfl (runO_ixA 1 rfl Tryz.underlying165 rfl rfl rfl (by decide)) ?_;refine l_stA (sdW x z) rfl rfl rfl rfl rfl rfl rfl (PW.val_cells _) (PW.val_one _) (show _<2 by decide) (sdW_ok x z) rfl ?_;refine s_end (hK3 _ ?_);refine s_autoE TY_ok rfl ?_;exact k_next (2,x.val,z.val,s2) (.inr (.inr ⟨rfl,x,s1,z,hx,hz,rfl,rfl⟩)) (by show 2-2<2-1;decide) ⟨⟨rfl,rfl,rfl,rfl,trivial⟩,⟨rfl,rfl,rfl,rfl,trivial⟩,.refl _,λ_ h _=>⟨h.1,h.2.2.2⟩,λ_ _=>trivial⟩
 ·refine s_ifD (((2:Nat):Int)<2) rfl (λh=>absurd h (by decide)) (λ_=>?_)
  refine s_exit (k_pass (k_pass (k_out ?_)));refine hK1 _ ?_;have hout:=in_out h0 hx hz;have hgx:=hx.1;have hgz:=hz.1;refine s_seq λK3 hK3=>?_;refine s_regD 8 (by decide) (by kernel_rfl) (by kernel_rfl) λK4 hK4 G S w0 hst=>?_;refine g_opS (.a 5 (0+1*0)) trivial rfl rfl rfl (runO_ixA 0 rfl Tryz.underlying165 rfl rfl rfl (by decide)) ?_;refine g_opV hst (.v x.val) trivial rfl rfl rfl (runO_ldA _ rfl rfl rfl rfl Tryz.underlying89 rfl) ?_;refine g_callS (F':=λ_=>True) hst [x.val] rfl rfl rfl own_wleast rfl rfl (λ_=>rfl) (wleast_S hgx) trivial (λ_ _ _ _=>trivial) ?_;refine g_opS (.a 5 (0+1*1)) trivial rfl rfl rfl (runO_ixA 1 rfl Tryz.underlying165 rfl rfl rfl (by decide)) ?_;refine g_opV hst (.v z.val) trivial rfl rfl rfl (runO_ldA _ rfl rfl rfl rfl Tryz.underlying89 rfl) ?_;refine g_callS (F':=λ_=>True) hst [z.val] rfl rfl rfl own_wleast rfl rfl (λ_=>rfl) (wleast_S hgz) trivial (λ_ _ _ _=>trivial) ?_;refine g_autoS TY_ok hst rfl ?_;refine g_endS hst ?_;have hk1:=kind_lt x;have hk2:=kind_lt z;have hb:=bad_least x z;refine l_is 33 (PW.bad x z) rfl ?_ ?_
  ·have e:IntKind.i64.wrap (((min x.kind 2:Nat):Int)+((min z.kind 2:Nat):Int))=((min x.kind 2+min z.kind 2:Nat):Int):=wrapI (by omega) (by omega) (by omega)
   rw [hb,e];exact decide_eq_decide.2 (by omega)
  refine s_end (hK4 _ ?_)
  have hrest:∀s3,Out (readIn (m+1) way s.l) (.inner x z,s3)->s3.rd=s'.rd->∀en,Weak en ⟨[(5,.a 5 0)],[⟨5,none,165,sdW x z⟩],[RdQ g s3],λw=>s'.rd w/\Tsh w,λ_=>True⟩->kS b K3 39 en:=by
   intro s3 ho hr en hw
   refine k_weak hw (hK3 _ ?_);refine s_regA TY_ok rfl λK5 hK5=>?_;refine l_call0 [(SQ.p (sdW x z)).den] rfl rfl rfl own_winnerOf rfl rfl (λ_ _=>rfl) (winnerOf_S hgx hgz) (λ_ h _=>h.2) λ_=>?_;refine l_op (.v (PW.inner x z).val) trivial rfl rfl rfl (run_mkI (q:=.p (PW.inner x z).ps) rfl Tryz.underlying167 rfl rfl) ?_;refine l_autoS TY_ok rfl ?_;refine s_end (hK5 _ ?_);exact s_ret (k_ret TY_ok ⟨(.inner x z,s3),ho⟩ rfl (by decide) rfl rfl rfl (λw h _=>by show s3.rd w;rw [hr];exact h.2.1) (λ_ _=>trivial))
  cases hbb:PW.bad x z with
  | true =>
   rw [hbb,if_pos rfl] at hout;refine s_yes rfl ?_;refine s_lit ?_;refine l_autoS TY_ok rfl ?_;refine l_R ([RdQ g s']++[]) rfl ?_;refine l_callA [ptV g,.int .i64 13] rfl rfl rfl own_wfails rfl rfl (λ_ _=>rfl) (wfails_S g s' 13) (λ_ _ _=>trivial) λ_=>?_;exact s_end (hrest (s'.fail 13) hout rfl _ ⟨⟨rfl,trivial⟩,⟨rfl,rfl,trivial⟩,.refl _,λ_ h _=>h.2,λ_ _=>trivial⟩)
  | false =>
   rw [hbb,if_neg (by decide)] at hout;refine s_no rfl ?_;exact s_skip (hrest s' hout rfl _ ⟨⟨rfl,trivial⟩,⟨rfl,rfl,trivial⟩,.refl _,λ_ h _=>h,λ_ _=>trivial⟩)
theorem u8_eq{x:UInt8}{k:Nat}(hk:k<256):((x.toNat:Nat):Int)=(k:Int)↔x=bD k:=by
 constructor
 ·intro h
  apply UInt8.toNat_inj.1
  rw [iE,aW hk]
  omega
 ·intro h
  rw [h,iE,aW hk]
theorem wrnode_S:∀n,NodeS n:=by
 intro n
 induction n using Nat.strongRecOn with
 | ind n ih =>
 intro way wy s g hn h
 have hwl:=h.1;refine spec_S [.c (.v (ptV g)),plQ wy way.length] 31 Tryz.func60 rfl (by rw [Tryz.ntmps60];rfl) (two_ok trivial (plQ_ok hwl _)) λb=>?_;refine s_auto TY_ok rfl ?_;refine s_seq λK hK=>?_;refine s_regA TY_ok rfl λK1 hK1=>?_;refine l_R ([RdQ g s]++[]) rfl ?_
 by_cases hc:s.can 1
 ·obtain⟨x,r,hx⟩:=RSw.can_cons hc
  have hr:rdR n way s=PW.read n way (x::r):=by rw [rdR,if_pos hc.1,hx]
  have hl:(s.cut 1).l=r:=by show s.l.drop 1=r;rw [hx];rfl
  have h0:(s.cut 1).e=0:=hc.1;have hrd:∀w,s.rd w->(s.cut 1).rd w:=λw hw=>RSw.rd_cut hw hc.2;refine l_callA [ptV g] rfl rfl rfl own_wkind rfl rfl (λ_ _=>rfl) (wkind_yes g s hc hx) (λ_ h _=>h.1) λ_=>?_;refine s_end (hK1 _ ?_);rw [hr,read_cons];generalize s.cut 1=s1 at *;subst hl;refine s_block ?_;refine s_auto TY_ok rfl ?_;refine s_ifD ((x.toNat:Int)=0) rfl (λe0=>?_) (λe0=>?_)
  ·have e:x=0:=(u8_eq (k:=0) (by decide)).1 e0
   refine s_regA TY_ok rfl λK2 hK2=>?_;refine l_op (.v PW.empty.val) trivial rfl rfl rfl (run_mkI rfl Tryz.underlying154 rfl rfl) ?_;refine l_autoS TY_ok rfl ?_;refine s_end (hK2 _ ?_);exact s_ret (k_ret TY_ok ⟨(.empty,s1),by rw [if_pos e];exact⟨trivial,rfl,rfl,h0⟩⟩ rfl (by decide) rfl rfl rfl (λw h _=>hrd w h.2.1) (λ_ _=>trivial))
  have e0:x≠0:=λe=>e0 ((u8_eq (k:=0) (by decide)).2 e);rw [if_neg e0];refine s_auto TY_ok rfl ?_;refine s_ifD ((x.toNat:Int)=1) rfl (λe1=>?_) (λe1=>?_)
  ·have e:x=1:=(u8_eq (k:=1) (by decide)).1 e1
   rw [if_pos e];refine s_regA TY_ok rfl λK2 hK2=>?_;refine l_R ([RdQ g s1]++[]) rfl ?_;refine l_callA [ptV g,(plQ wy way.length).den] rfl rfl rfl own_wrleaf rfl rfl (λ_ _=>rfl) (wrleaf_S g s1 h h0) (λw h _=>⟨hrd w h.2.1,h.2.2⟩) λu=>?_;refine l_autoS TY_ok rfl ?_;refine s_end (hK2 _ ?_);exact s_ret (k_ret TY_ok u rfl (by decide) rfl rfl rfl (λw h _=>h.1) (λ_ _=>trivial))
  have e1:x≠1:=λe=>e1 ((u8_eq (k:=1) (by decide)).2 e);rw [if_neg e1];refine s_auto TY_ok rfl ?_;refine s_ifD ((x.toNat:Int)=2) rfl (λe2=>?_) (λe2=>?_)
  ·have e:x=2:=(u8_eq (k:=2) (by decide)).1 e2
   rw [if_pos e];refine s_regA TY_ok rfl λK2 hK2=>?_;refine l_R ([RdQ g s1]++[]) rfl ?_;refine l_callA [ptV g,(plQ wy way.length).den] rfl rfl rfl own_wrinner rfl rfl (λ_ _=>rfl) (wrinner_S n (λm hm=>ih m (by omega)) g s1 hn h h0) (λw h _=>⟨hrd w h.2.1,h.2.2⟩) λu=>?_;refine l_autoS TY_ok rfl ?_;refine s_end (hK2 _ ?_);exact s_ret (k_ret TY_ok u rfl (by decide) rfl rfl rfl (λw h _=>h.1) (λ_ _=>trivial))
  have e2:x≠2:=λe=>e2 ((u8_eq (k:=2) (by decide)).2 e);rw [if_neg e2];refine s_auto TY_ok rfl ?_;refine s_ifD ((x.toNat:Int)=3) rfl (λe3=>?_) (λe3=>?_)
  ·have e:x=3:=(u8_eq (k:=3) (by decide)).1 e3
   rw [if_pos e];refine s_regA TY_ok rfl λK2 hK2=>?_;refine l_R ([RdQ g s1]++[]) rfl ?_;have hh:=whash_S g s1
   have ho:Out (readHid s1.l) (.hid s1.hv,s1.go 32):=by
    refine⟨s1.hv_len,?_⟩
    unfold readHid RSw.hv RSw.go
    by_cases h32:s1.can 32
    ·rw [if_neg (by have:=h32.2;omega),if_pos h32,if_pos h32]
     exact⟨rfl,rfl,h0⟩
    ·have:s1.l.length<32:=by
      have:¬32<=s1.l.length:=λh=>h32 ⟨h0,h⟩
      omega
     rw [if_pos this,if_neg h32,if_neg h32,RSw.fail_0 h0];exact⟨rfl,by decide⟩
   have hrd2:∀w,s1.rd w->(s1.go 32).rd w:=λw hw=>RSw.go_rd hw;generalize s1.go 32=s2 at *;have hgl:=s1.hv_len;generalize s1.hv=hv at *;refine l_callA [ptV g] rfl rfl rfl own_whash rfl rfl (λ_ _=>rfl) hh (λw h _=>hrd w h.2.1) λ_=>?_;refine l_autoS TY_ok rfl ?_;refine l_op (.v (PW.hid hv).val) trivial rfl rfl rfl (run_mkI (q:=.p (PW.hid hv).ps) rfl Tryz.underlying156 rfl rfl) ?_;refine l_autoS TY_ok rfl ?_;refine s_end (hK2 _ ?_);exact s_ret (k_ret TY_ok ⟨(.hid hv,s2),ho⟩ rfl (by decide) rfl rfl rfl (λw h _=>hrd2 w (hrd w h.2.2.1)) (λ_ _=>trivial))
  have e3:x≠3:=λe=>e3 ((u8_eq (k:=3) (by decide)).2 e);rw [if_neg e3];refine s_skip (hK _ ?_);refine s_regA TY_ok rfl λK2 hK2=>?_;refine l_R ([RdQ g s1]++[]) rfl ?_;refine l_callA [ptV g,.int .i64 13] rfl rfl rfl own_wfails rfl rfl (λ_ _=>rfl) (wfails_S g s1 13) (λ_ _ _=>trivial) λ_=>?_;refine s_end (hK2 _ ?_);refine s_regA TY_ok rfl λK3 hK3=>?_;refine l_op (.v PW.empty.val) trivial rfl rfl rfl (run_mkI rfl Tryz.underlying154 rfl rfl) ?_;refine l_autoS TY_ok rfl ?_;refine s_end (hK3 _ ?_);exact s_ret (k_ret TY_ok ⟨(.empty,s1.fail 13),by rw [hr,read_cons,if_neg e0,if_neg e1,if_neg e2,if_neg e3];exact⟨trivial,by rw [RSw.fail_0 h0],by decide⟩⟩ rfl (by decide) rfl rfl rfl (λw h _=>hrd w h.2.2.1) (λ_ _=>trivial))
 ·have ho:Out (rdR n way s) (.empty,s.fail 10):=by
   refine⟨trivial,?_⟩
   unfold rdR
   by_cases h0:s.e=0
   ·have hl:s.l=[]:=by
     cases hl:s.l with
     | nil=>rfl
     | cons x r=>exact absurd (show s.can 1 from⟨h0,by rw [hl];simp⟩) hc
    rw [if_pos h0,hl,read_nil,RSw.fail_0 h0];exact⟨rfl,by decide⟩
   ·rw [if_neg h0,RSw.fail_e h0]
    exact⟨rfl,h0⟩
  refine l_callA [ptV g] rfl rfl rfl own_wkind rfl rfl (λ_ _=>rfl) (wkind_no g s hc) (λ_ _ _=>trivial) λ_=>?_;refine s_end (hK1 _ ?_);refine s_block ?_;refine s_auto TY_ok rfl ?_;refine s_ifD ((0:Int)=0) rfl (λ_=>?_) (λh=>absurd rfl h);refine s_regA TY_ok rfl λK2 hK2=>?_;refine l_op (.v PW.empty.val) trivial rfl rfl rfl (run_mkI rfl Tryz.underlying154 rfl rfl) ?_;refine l_autoS TY_ok rfl ?_;refine s_end (hK2 _ ?_);exact s_ret (k_ret TY_ok ⟨(.empty,s.fail 10),ho⟩ rfl (by decide) rfl rfl rfl (λw h _=>h.2.1) (λ_ _=>trivial))
def parseR(r:Except Nat PW):RV:=match r with
  | .ok w=>.t [prQ w,.c (.v (.int .i64 0))]
  | .error e=>.t [prQ .empty,.c (.v (.int .i64 (e:Int)))]
def RSw.last(s:RSw):RSw:=if 0<s.l.length then s.fail 11 else s
theorem parse_out{A:Option Addr}{c:Nat}{b:List UInt8}{w:PW}{s:RSw}(h:Out (rdR 256 [] ⟨A,c,b,0⟩) (w,s)):(s.last.e=0->PW.parse b = .ok w)/\(s.last.e≠0->PW.parse b = .error s.last.e):=by
 obtain⟨_,h⟩:=h;rw [rdR,if_pos rfl] at h
 unfold PW.parse
 dsimp only at h
 cases hr:PW.read 256 [] b with
 | error e =>
  rw [hr] at h;obtain⟨h1,h2⟩:=h
  have e1:s.last=s:=by
   unfold RSw.last
   rw [RSw.fail_e (by rw [h1];exact h2),ite_self]
  rw [e1,h1];exact⟨λh=>absurd h h2,λ_=>rfl⟩
 | ok u =>
  obtain⟨x,r⟩:=u;rw [hr] at h;obtain⟨h1,h2,h3⟩:=h
  unfold RSw.last
  rw [h2]
  cases r with
  | nil =>
   rw [if_neg (by decide)];exact⟨λ_=>by rw [h1],λh=>absurd h3 h⟩
  | cons y r =>
   rw [if_pos (by simp),RSw.fail_0 h3];exact⟨λh=>absurd (show(11:Nat)=0 from h) (by decide),λ_=>rfl⟩
theorem own_wParse:Own 39:=λ_ _=>by go_simp
theorem wParse_S{A:Option Addr}{c:Nat}(B:List UInt8):Spec 39 [.slice A B.length c] [] (λw=>Rd 1 eB A c B w/\Tsh w) (one (parseR (PW.parse B))):=by
 refine spec_S [.c (.v (.slice A B.length c))] 23 Tryz.func39 rfl (by rw [Tryz.ntmps39];rfl) (one_ok trivial) λb=>?_;have hnode:=λg=>wrnode_S 256 [] dF ⟨A,c,B,0⟩ g rfl WayB.nil;replace hnode:∀g,Spec 60 [ptV g,(plQ dF 0).den] [RdQ g ⟨A,c,B,0⟩] (λw=>Rd 1 eB A c B w/\Tsh w) (rnPost g (rdR 256 [] ⟨A,c,B,0⟩)):=hnode;refine s_auto TY_ok rfl ?_;refine s_regA TY_ok rfl λK hK=>?_;refine s_end ?_;refine k_give 4 (E':=[(2,.a 2 0)]) rfl ⟨rfl,trivial⟩ λg=>hK _ ?_;refine s_regA TY_ok rfl λK1 hK1=>?_;refine l_R ([RdQ g ⟨A,c,B,0⟩]++[]) rfl ?_;refine l_callA [ptV g,(plQ dF 0).den] rfl rfl rfl own_wrnode rfl rfl (λ_ _=>rfl) (hnode g) (λ_ h _=>h) λu=>?_;obtain⟨⟨w,s⟩,hu⟩:=u;obtain⟨hp0,hp1⟩:=parse_out hu;refine l_autoS TY_ok rfl ?_;refine s_end (hK1 _ ?_);refine s_keep [2,4,5] [2] rfl rfl ?_;refine s_seq λK2 hK2=>?_;refine s_regA TY_ok rfl λK3 hK3=>?_;refine l_ldO TY_ok rfl rfl rfl rfl rfl rfl (obj_own 0 rfl) ?_;refine l_autoS TY_ok rfl ?_;refine s_end (hK3 _ ?_)
 have hrest:∀s3:RSw,s3=s.last->∀en,Weak en ⟨[(2,.a 2 0),(4,.v (ptV g)),(5,.v w.val)],[⟨2,none,91,[.one (.v .nilIface)]⟩],[RdQ g s3],λ_=>True,λ_=>True⟩->kS b K2 23 en:=by
  intro s3 hs3 en hw
  rw [<-hs3] at hp0 hp1;refine k_weak hw (hK2 _ ?_);refine s_seq λK4 hK4=>?_;refine s_regA TY_ok rfl λK5 hK5=>?_;refine l_ldO TY_ok rfl rfl rfl rfl rfl rfl (obj_own 0 rfl) ?_;refine l_autoS TY_ok rfl ?_;refine s_end (hK5 _ ?_);refine s_ifD ((s3.e:Int)≠0) rfl (λhe=>?_) (λhe=>?_)
  ·have he:s3.e≠0:=λh=>he (by rw [h];rfl)
   have hok:OkP s3.ps:=λp hp=>by
    rcases aJ.1 hp with rfl|hp
    ·exact⟨trivial,rfl,rfl⟩
    ·rw [aE.1 hp];exact⟨trivial,rfl,rfl⟩
   refine s_seq λK6 hK6=>?_;have hinv:∀{E':SE} {L':List LV} {F' M':World->Prop},∀a w,St b 23 ⟨E',L',[RdQ g s3],F',M'⟩ a w->ObjF g 125 s3.ps w:=λa w ⟨G,S,_,_,h3⟩=>obj_own 0 rfl G S w h3.view;refine s_anyP [0,1,2] 4 1 (ObjF g 125 s3.ps) (by kernel_rfl) rfl hinv ?_;refine p_frontS (L0:=[]) TY_ok 0 (by kernel_rfl) rfl rfl rfl rfl rfl rfl (λ_ h=>by cases h) (λ_ _ _ h=>by cases h) ?_;refine p_frontS (L0:=[]) TY_ok 1 (by kernel_rfl) rfl rfl rfl rfl rfl rfl (λ_ h=>by cases h) (λ_ _ _ h=>by cases h) ?_;refine p_ldO TY_ok 2 (by kernel_rfl) rfl rfl rfl rfl rfl rfl rfl hok (λ_ h=>h) ?_;refine p_step 3 (by kernel_rfl) rfl λK7 hK7=>?_;refine l_autoS TY_ok rfl ?_;refine s_end (hK7 _ hinv ?_);refine p_tail [4] (by kernel_rfl) rfl ?_;refine l_autoS TY_ok rfl ?_;refine s_end (hK6 _ ?_);refine s_ret (k_drop 0 rfl ?_);exact k_ret TY_ok () rfl (by decide) rfl (by show parseR (PW.parse B)=_;rw [hp1 he];rfl) rfl (λ_ _ _=>trivial) (λ_ _=>trivial)
  ·have he:s3.e=0:=by omega
   refine s_skip (hK4 _ ?_);refine s_regA TY_ok rfl λK6 hK6=>?_;refine l_call0 [w.val] rfl rfl rfl own_wpart rfl rfl (λ_ _=>rfl) (wpart_S w) (λ_ _ _=>trivial) λ_=>?_;refine l_autoS TY_ok rfl ?_;refine s_end (hK6 _ ?_);refine s_ret (k_drop 0 rfl ?_);exact k_ret TY_ok () rfl (by decide) rfl (by show parseR (PW.parse B)=_;rw [hp0 he];rfl) rfl (λ_ _ _=>trivial) (λ_ _=>trivial)
 refine s_ifD ((s.l.length:Int)>0) rfl (λh0=>?_) (λh0=>?_)
 ·refine s_lit ?_
  refine l_R ([RdQ g s]++[]) rfl ?_;refine l_callA [ptV g,.int .i64 11] rfl rfl rfl own_wfails rfl rfl (λ_ _=>rfl) (wfails_S g s 11) (λ_ _ _=>trivial) λ_=>?_;exact s_end (hrest (s.fail 11) (by rw [RSw.last,if_pos (by omega)]) _ ⟨⟨rfl,rfl,rfl,trivial⟩,⟨rfl,rfl,trivial⟩,.refl _,λ_ _ _=>trivial,λ_ _=>trivial⟩)
 ·exact s_skip (hrest s (by rw [RSw.last,if_neg (by omega)]) _ ⟨⟨rfl,rfl,rfl,trivial⟩,⟨rfl,rfl,trivial⟩,.refl _,λ_ _ _=>trivial,λ_ _=>trivial⟩)
section
variable{N:Nat}{E:SE}{o:Oper}{x y:Operand}{t t':TypeId}
def cutK(k:Nat)(A:Option Addr)(c n:Nat):Option Addr:=if c=n then A else A.map (·.add (k*n))
theorem run_cutLoK{A:Option Addr}{n c j sz:Nat}{e:TypeId}(he:(Tryz.prog.info? e).map (·.size)=some sz)(hj:j<=n)(hc:n<=c)(hA:A=none->c=0)(ho:o.op = .slice t x (some y) none none)(hu:Tryz.prog.underlying t=some (.slice e))(hx:evS E x=some (.v (.slice A n c)))(hy:evS E y=some (.v (.int .i64 (j:Int)))) :
  ∀(G:Nat->Nat) (a:Act) (w:World),Fr N (denE G E) a->(execOp a.eval o).run Tryz.prog w = .ok (.value ((SV.v (.slice (cutK sz A c j) (n-j) (c-j))).den G)) w:=λG a w ha=>by
 have h1:a.eval x = .slice A n c:=ha.eval (evS_ok hx);have h2:a.eval y = .int .i64 (j:Int):=ha.eval (evS_ok hy)
 have h3:(j:Int)<=(n:Int):=by omega
 have h4:(0:Int)<=(j:Int):=by omega
 have h5:(n:Int)<=(c:Int):=by omega
 have h6:=run_sizeOf he w
 unfold execOp
 simp only [ho];generalize a.eval=ρ at *;simp only [Option.map,h1,h2]
 show _=Result.ok (Next.value (.slice (cutK sz A c j) (n-j) (c-j))) w
 cases A with
 | none =>
  obtain rfl:c=0:=hA rfl
  obtain rfl:n=0:=by omega
  obtain rfl:j=0:=by omega
  go_simp
  rfl
 | some ad =>
  unfold cutK
  by_cases e:c=j
  ·rw [if_pos e]
   go_simp
  ·rw [if_neg e]
   go_simp
   rw [Nat.mul_comm]
theorem run_eqNilS{A:Option Addr}{n c:Nat}{e:TypeId}(ho:o.op = .binOp .eql t x (.const (.slice none 0 0)) t')(hu:Tryz.prog.underlying t=some (.slice e))(hx:evS E x=some (.v (.slice A n c))) :
  ∀(G:Nat->Nat) (a:Act) (w:World),Fr N (denE G E) a->(execOp a.eval o).run Tryz.prog w = .ok (.value ((SV.v (.bool A.isNone)).den G)) w:=λG a w ha=>by
 have h1:a.eval x = .slice A n c:=ha.eval (evS_ok hx);have h3:=run_equal_slice_nil (P:=Tryz.prog) w t e A n c hu
 unfold execOp
 have h4:(eqGuard .eql t x (.const (.slice none 0 0)) (.slice A n c) (.slice none 0 0)).run Tryz.prog w = .ok () w:=rfl;simp only [ho,h1,show a.eval (.const (.slice none 0 0)) = .slice none 0 0 from rfl,aF,h4,aB,binOp,h3,aG]
 rfl
end
theorem Rd.sub{α:Type}{k c c' g:Nat}{fe:α->SQ}{P l Z:List α}{w:World}(h:Rd k fe (some ⟨g,0,none⟩) c (P++l++Z) w)(hc:l.length<=c')(hm:c'<=9223372036854775807):Rd k fe (some ⟨g,k*P.length,none⟩) c' l w:=by
 obtain⟨h1,h2,h3,h4,h5⟩:=h;refine⟨hc,hm,λe=>(by cases e),λx hx=>h4 x (by simp [hx]),λh0=>?_⟩;obtain⟨b,o,e,hb,hr⟩:=h5 (by rw [aC,aC];omega)
 injection e with e
 injection e with e1 e2
 subst e1 e2;refine⟨g,k*P.length,rfl,hb,λi x hx=>?_⟩
 have:=hr (P.length+i) x (by
  rw [a7,cD (by omega),g6,List.getElem?_append_left (bC.1 hx).1]
  exact hx)
 rwa [aX,kP] at this
abbrev KyS(A:Option Addr)(c:Nat)(l:List (List UInt8)):Res:=OwnS 0 45 32 (eY 32) A c l
theorem own_wclone:Own 31:=λ_ _=>by go_simp
theorem own_wparted:Own 78:=λ_ _=>by go_simp
theorem wclone_S{A:Option Addr}{c:Nat}(l:List (List UInt8))(hl:l.length<=1000000):Spec 31 [.slice A l.length c] [] (Rd 32 (eY 32) A c l) { ret:=λx:PX=>.v (.slice x.1 l.length x.2),own:=λx=>[KyS x.1 x.2 l] }:=by
 refine spec_S [.c (.v (.slice A l.length c))] 8 Tryz.func31 rfl (by rw [Tryz.ntmps31];rfl) (one_ok trivial) λb=>?_;refine s_pure (l.length<=c/\(A=none->c=0)) (λw hw _=>⟨hw.1,hw.2.2.1⟩) λ⟨hlc,hA⟩=>?_;refine s_auto TY_ok rfl ?_;refine s_seq λK hK=>?_;refine s_regA TY_ok rfl λK1 hK1=>?_;refine l_op (.v (.bool A.isNone)) trivial rfl rfl rfl (run_eqNilS rfl Tryz.underlying43 rfl) ?_;refine s_end (hK1 _ ?_)
 cases A with
 | none =>
  obtain rfl:c=0:=hA rfl;obtain rfl:l=[]:=bV (by omega);refine s_yes rfl ?_;refine s_nil0 0 45 32 (eY 32) ?_;refine s_auto TY_ok rfl ?_;exact s_ret (k_ret TY_ok (none,0) rfl (by decide) rfl rfl rfl (λ_ _ _=>trivial) (λ_ _=>trivial))
 | some ad =>
  refine s_no rfl ?_;refine s_skip (hK _ ?_);refine s_regA TY_ok rfl λK2 hK2=>?_;refine l_list0 (e:=45) (sz:=32) 0 (eY 32) rfl rfl rfl rfl (aQ _) (λw=>by go_simp) λB=>?_;refine l_autoS TY_ok rfl ?_;refine l_appY TY_ok 0 l rfl rfl rfl rfl rfl rfl rfl rfl rfl (rd_fact λ_ h _=>h) (by decide) (by show(0+l.length)*32<=_;omega) (by show 0+l.length<=_;omega) (aQ _) λA1 c1=>?_;refine l_autoS TY_ok rfl ?_;refine s_end (hK2 _ ?_);exact s_ret (k_ret TY_ok (A1,c1) rfl (by decide) rfl rfl rfl (λ_ _ _=>trivial) (λ_ _=>trivial))
structure KeyAt(A A':Option Addr)(c' i n:Nat):Prop where
  le:n<=c'
  max:c'<=9223372036854775807
  nil:A'=none->c'=0
  at_:0<n->∃g,A=some ⟨g,0,none⟩/\A'=some ⟨g,32*i,none⟩
theorem KeyAt.left{A A':Option Addr}{c' i n m:Nat}(h:KeyAt A A' c' i n)(hm:m<=n):KeyAt A A' c' i m:=⟨Nat.le_trans hm h.le,h.max,h.nil,λh0=>h.at_ (by omega)⟩
theorem KeyAt.right{A A':Option Addr}{c' i n m:Nat}(h:KeyAt A A' c' i n)(hm:m<=n):KeyAt A (cutK 32 A' c' m) (c'-m) (i+m) (n-m):=by
 have hle:=h.le;refine⟨by omega,by have:=h.max;omega,λe=>?_,λh0=>?_⟩
 ·unfold cutK at e
  by_cases e2:c'=m
  ·omega
  ·rw [if_neg e2] at e
   cases A' with
   | none=>have:=h.nil rfl;omega
   | some ad=>cases e
 ·obtain⟨g,e1,e2⟩:=h.at_ (by omega)
  refine⟨g,e1,?_⟩
  unfold cutK
  rw [if_neg (by omega),e2]
  show some (Addr.add ⟨g,32*i,none⟩ (32*m))=_
  simp [Addr.add,kP]
def rotK:List (List UInt8)->List (List UInt8)
  | []=>[]
  | z::t=>t++[z]
theorem rot_perm:∀l,(rotK l).Perm l
 | []=>.refl _
 | z::t=>List.perm_append_singleton z t
theorem rot_len(l:List (List UInt8)):(rotK l).length=l.length:=(rot_perm l).length_eq
def hdKey(zs:List (List UInt8))(k:List UInt8):List UInt8:=match zs with
  | []=>k
  | z::_=>z
theorem hdKey_at{P ys zs r Z:List (List UInt8)}{k:List UInt8}:(P++(ys++zs++k::r)++Z)[P.length+ys.length]?=some (hdKey zs k):=by
 have e:P++(ys++zs++k::r)++Z=(P++ys)++(zs++(k::(r++Z))):=by simp
 rw [e,cD (by rw [aC];omega),aC,gP]
 cases zs<;>rfl
theorem swap_list{P ys zs r Z:List (List UInt8)}{k:List UInt8}:((P++(ys++zs++k::r)++Z).set (P.length+(ys.length+zs.length)) (hdKey zs k)).set (P.length+ys.length) k=P++((ys++[k])++rotK zs++r)++Z:=by
 cases zs with
 | nil =>
  have e:P++(ys++[]++k::r)++Z=(P++ys)++(k::(r++Z)):=by simp
  rw [e,kR,dT,gA _ _ (by rw [aC];omega),aC,gP]
  show((P++ys)++(k::(r++Z))).set (P.length+ys.length) k=_
  rw [gA _ _ (by rw [aC];omega),aC,gP]
  simp [rotK]
 | cons z t =>
  have e:P++(ys++z::t++k::r)++Z=(P++ys++z::t)++(k::(r++Z)):=by simp
  have el:(P++ys++z::t).length=P.length+(ys.length+(z::t).length):=by rw [aC,aC];omega
  rw [e,gA _ _ (by rw [el];exact aH _),el,gP]
  show((P++ys++z::t)++(z::(r++Z))).set (P.length+ys.length) k=_
  have e2:(P++ys++z::t)++(z::(r++Z))=(P++ys)++(z::(t++(z::(r++Z)))):=by simp
  rw [e2,gA _ _ (by rw [aC];omega),aC,gP]
  simp [rotK]
def Parted(d:Nat)(ks:List (List UInt8))(x:List (List UInt8)×List (List UInt8)):Prop:=x.1.Perm (PW.keyL d ks)/\x.2.Perm (PW.keyR d ks)
theorem Parted.perm{d:Nat}{ks:List (List UInt8)}{x:List (List UInt8)×List (List UInt8)}(h:Parted d ks x):(x.1++x.2).Perm ks:=(h.1.append h.2).trans (List.filter_append_perm (λk=>cQ k d==0) ks)
theorem Parted.len{d:Nat}{ks:List (List UInt8)}{x:List (List UInt8)×List (List UInt8)}(h:Parted d ks x):x.1.length+x.2.length=ks.length:=by
 rw [<-aC];exact h.perm.length_eq
theorem Parted.zero{d:Nat}{ks ys zs:List (List UInt8)}{k:List UInt8}(h:Parted d ks (ys,zs))(hb:cQ k d=0):Parted d (ks++[k]) (ys++[k],rotK zs):=by
 constructor
 ·show(ys++[k]).Perm (gU _ _)
  rw [kG]
  have e:gU (λk=>cQ k d==0) [k]=[k]:=by simp [hb]
  rw [e];exact h.1.append_right _
 ·show(rotK zs).Perm (gU _ _)
  rw [kG]
  have e:gU (λk=>cQ k d != 0) [k]=[]:=by simp [hb]
  rw [e,bJ];exact(rot_perm zs).trans h.2
theorem Parted.one{d:Nat}{ks ys zs:List (List UInt8)}{k:List UInt8}(h:Parted d ks (ys,zs))(hb:cQ k d≠0):Parted d (ks++[k]) (ys,zs++[k]):=by
 constructor
 ·show ys.Perm (gU _ _)
  rw [kG]
  have e:gU (λk=>cQ k d==0) [k]=[]:=by simp [hb]
  rw [e,bJ];exact h.1
 ·show(zs++[k]).Perm (gU _ _)
  rw [kG]
  have e:gU (λk=>cQ k d != 0) [k]=[k]:=by simp [hb]
  rw [e];exact h.2.append_right _
theorem wparted_S{A A':Option Addr}{c c':Nat}(P ks Z:List (List UInt8))(d:Nat)(hd:d<256)(hat:KeyAt A A' c' P.length ks.length)(hks:∀k∈ks,k.length=32):Spec 78 [.slice A' ks.length c',.int .u8 (d:Int)] [KyS A c (P++ks++Z)] (λ_=>True)
  { ret:=λx:{ x // Parted d ks x }=>.t [.c (.v (.slice A' x.1.1.length c')),.c (.v (.slice (cutK 32 A' c' x.1.1.length) x.1.2.length (c'-x.1.1.length)))],own:=λx=>[KyS A c (P++(x.1.1++x.1.2)++Z)] }:=by
 refine spec_S [.c (.v (.slice A' ks.length c')),.c (.v (.int .u8 (d:Int)))] 40 Tryz.func78 rfl (by rw [Tryz.ntmps78];rfl) (two_ok trivial trivial) λb=>?_;have hle:=hat.le;have hmax:=hat.max;have hnil:=hat.nil;refine s_auto TY_ok rfl ?_;refine s_auto TY_ok rfl ?_;refine s_seq λK hK=>?_;refine s_auto TY_ok rfl ?_;refine s_block ?_
 let F:List (List UInt8)×List (List UInt8)×List (List UInt8)->Env:=λ⟨ys,zs,r⟩=>⟨[(11,.v (.int .i64 ((ys.length+zs.length:Nat):Int))),(10,.v (.int .i64 (ks.length:Int))),(9,.v (.slice A' ks.length c')),(0,.v (.slice A' ks.length c')),(1,.v (.int .u8 (d:Int))),(6,.v (.int .i64 (ys.length:Int)))],[],[KyS A c (P++(ys++zs++r)++Z)],λ_=>True,λ_=>True⟩
 refine c_weak (e':=F ([],[],ks)) ⟨⟨rfl,rfl,rfl,rfl,rfl,rfl,trivial⟩,trivial,.refl _,λ_ _ _=>trivial,λ_ _=>trivial⟩ (s_loop (λy=>y.2.2.length) F (λy=>∃done,ks=done++y.2.2/\Parted d done (y.1,y.2.1)) ?_ ([],[],ks) ⟨[],rfl,.refl _,.refl _⟩)
 rintro⟨ys,zs,r⟩ ⟨done,hdone,hpt⟩
 dsimp only at hdone hpt
 have hlen:=hpt.len
 have hkl:ks.length=done.length+r.length:=by rw [hdone,aC]
 dsimp only at hlen
 refine s_auto TY_ok rfl ?_;refine s_seq λK1 hK1=>?_;refine s_ifD (((ys.length+zs.length:Nat):Int)<(ks.length:Int)) rfl (λhlt=>?_) (λhge=>?_)
 ·cases r with
  | nil=>rw [kR] at hkl;omega
  | cons k r =>
  rw [bB] at hkl;have hk:k.length=32:=hks k (by rw [hdone];simp);obtain⟨g,rfl,rfl⟩:=hat.at_ (by omega);have hok:∀G S w,View G S [] [KyS (some ⟨g,0,none⟩) c (P++(ys++zs++k::r)++Z)] (λ_=>True) (λ_=>True) w->Rd 32 (eY 32) (some ⟨g,32*P.length,none⟩) c' (ys++zs++k::r) w:=λG S w hv=>(rd_own 0 rfl G S w hv).sub (by simp;omega) hmax
  have hn1:(ys++zs++k::r).length=ks.length:=by simp;omega
  refine s_skip (hK1 _ ?_);refine s_seq λK2 hK2=>?_;refine s_block ?_;refine s_regA TY_ok rfl λK3 hK3=>?_;refine l_elem (l:=ys++zs++k::r) TY_ok rfl rfl rfl (ys.length+zs.length) rfl (by rw [cD (by rw [aC];exact aH _),aC,gP];rfl) hn1.symm rfl hok ?_;refine l_autoS TY_ok rfl ?_;refine s_end (hK3 _ ?_);refine s_regA TY_ok rfl λK4 hK4=>?_;refine l_call0 [(eY 32 k).den,.int .u8 (d:Int)] rfl rfl rfl own_wbit rfl rfl (λ_ _=>rfl) (wbit_S hk d hd) (λ_ _ _=>trivial) λ_=>?_;refine l_autoS TY_ok rfl ?_;refine s_end (hK4 _ ?_)
  have hdone2:ks=(done++[k])++r:=by rw [hdone];simp
  have hzs:zs.length<=9223372036854775807:=by omega
  refine s_ifD (((cQ k d:Nat):Int)=0) rfl (λhb=>?_) (λhb=>?_)
  ·have hb:cQ k d=0:=by omega
   refine s_own 0 rfl λhokF _ _=>?_;obtain⟨hh1,hh2⟩:=hokF _ (a6 (hdKey_at (P:=P) (ys:=ys) (zs:=zs) (r:=r) (Z:=Z) (k:=k)));have hkF:=eY_ok (n:=32) hk;have hhat:=hdKey_at (P:=[]) (ys:=ys) (zs:=zs) (r:=r) (Z:=[]) (k:=k);rw [gI,bJ,kR,aX] at hhat;have hswap:=swap_list (P:=P) (ys:=ys) (zs:=zs) (r:=r) (Z:=Z) (k:=k)
   have hlx:(P++(ys++zs++k::r)++Z).length=P.length+(ys.length+zs.length+(1+r.length))+Z.length:=by simp;omega
   obtain⟨u1,hu1⟩:∃u,(P++(ys++zs++k::r)++Z)[P.length+(ys.length+zs.length)]?=some u:=⟨_,aP (by omega)⟩;obtain⟨u2,hu2⟩:∃u,((P++(ys++zs++k::r)++Z).set (P.length+(ys.length+zs.length)) (hdKey zs k))[P.length+ys.length]?=some u:=⟨_,aP (by rw [bR];omega)⟩;have hc1:=(hokF _ (a6 hu1)).2
   have hc2:(eY 32 u2).cl.length=32:=by
    rcases qU (a6 hu2) with h|rfl
    ·exact(hokF _ h).2
    ·exact hh2
   generalize hdKey zs k=hd at *;generalize hxs:P++(ys++zs++k::r)++Z=xs at *;refine s_keep [0,1,6,7,8,9,10,11] [8] rfl rfl ?_;refine s_locs λG=>?_;have hsub:∀u∈([⟨8,some (G 8),45,[.agg 32 (By k).toArray]⟩]:List LV),u∈withG G [⟨8,none,45,[.agg 32 (By k).toArray]⟩]/\u.g.isSome=true:=λu hu=>⟨hu,by rw [aE.1 hu];rfl⟩;refine s_seq λK5 hK5=>?_;refine s_anyP [0,1,2,3,4,5,6,8] 11 2 (InvL [⟨8,some (G 8),45,[.agg 32 (By k).toArray]⟩]) (by kernel_rfl) rfl (inv_of hsub) ?_;refine p_frontS TY_ok 0 (by kernel_rfl) rfl rfl rfl rfl rfl rfl (λx hx=>(hsub x hx).1) (λ_ h=>h) ?_;refine p_frontS TY_ok 1 (by kernel_rfl) rfl rfl rfl rfl rfl rfl (λx hx=>(hsub x hx).1) (λ_ h=>h) ?_;refine p_frontS TY_ok 2 (by kernel_rfl) rfl rfl rfl rfl rfl rfl (λx hx=>(hsub x hx).1) (λ_ h=>h) ?_;refine p_frontS TY_ok 3 (by kernel_rfl) rfl rfl rfl rfl rfl rfl (λx hx=>(hsub x hx).1) (λ_ h=>h) ?_;refine p_frontS TY_ok 4 (by kernel_rfl) rfl rfl rfl rfl rfl rfl (λx hx=>(hsub x hx).1) (λ_ h=>h) ?_;refine p_frontS TY_ok 5 (by kernel_rfl) rfl rfl rfl rfl rfl rfl (λx hx=>(hsub x hx).1) (λ_ h=>h) ?_;refine p_frontO (.v (.pointer (some ⟨g,32*P.length+32*ys.length,none⟩))) trivial 6 (by kernel_rfl) rfl rfl rfl rfl rfl (runO_ixS ys.length rfl Tryz.underlying43 (by kernel_rfl) rfl rfl (by omega)) ?_;refine p_frontS TY_ok 8 (by kernel_rfl) rfl rfl rfl rfl rfl rfl (λx hx=>(hsub x hx).1) (λ_ h=>h) ?_;refine p_step 7 (by kernel_rfl) rfl λK6 hK6=>?_;refine l_opV (.q (eY 32 hd)) hh1 rfl rfl rfl (run_ldEl (k':=32) (c:=c') (j:=ys.length) (off:=0) (g:=g) (a:=32*P.length) (fe:=eY 32) (l:=ys++zs++k::r) (y:=hd) TY_ok rfl rfl hhat rfl hh1 λG' S' w hv=>(rd_own (lo:=0) (e:=45) (k:=32) (fe:=eY 32) (A:=some ⟨g,0,none⟩) (c:=c) (l:=P++(ys++zs++k::r)++Z) 0 (by rw [hxs];rfl) G' S' w hv).sub (by rw [hn1];exact hle) hmax) ?_;refine s_end (hK6 _ (inv_of hsub) ?_);refine p_step 9 (by kernel_rfl) rfl λK7 hK7=>?_;refine l_op (.v (.pointer (some ⟨g,32*P.length+32*(ys.length+zs.length),none⟩))) trivial rfl rfl rfl (runO_ixS (ys.length+zs.length) rfl Tryz.underlying43 (by kernel_rfl) rfl rfl (by omega)) ?_;refine s_end (hK7 _ (inv_of hsub) ?_);refine p_step 10 (by kernel_rfl) rfl λK8 hK8=>?_;refine l_eq 29 (.v (.pointer (some ⟨g,32*(P.length+(ys.length+zs.length))+0,none⟩))) rfl (by rw [kP 32 P.length,dT]) ?_;refine l_stFd 0 (P.length+(ys.length+zs.length)) 0 32 u1 hd rfl rfl rfl rfl rfl rfl hu1 (by kernel_rfl) hh2 (SQ.cl_one hh1) (by rw [eO (by rw [hc1];exact aH _)];simp) (by decide) ⟨hh1,hh2⟩ ?_;refine s_end (hK8 _ (inv_of hsub) ?_);refine p_tail [11,12] (by kernel_rfl) rfl ?_;refine l_op (.v (.pointer (some ⟨g,32*P.length+32*ys.length,none⟩))) trivial rfl rfl rfl (runO_ixS ys.length rfl Tryz.underlying43 (by kernel_rfl) rfl rfl (by omega)) ?_
   refine l_eq 30 (.v (.pointer (some ⟨g,32*(P.length+ys.length)+0,none⟩))) rfl (by rw [kP 32 P.length,dT]) ?_;refine l_stFd 0 (P.length+ys.length) 0 32 u2 k rfl rfl rfl rfl rfl rfl hu2 (by kernel_rfl) hkF.2 (SQ.cl_one hkF.1) (by rw [eO (by rw [hc2];exact aH _)];simp;rfl) (by decide) hkF ?_;refine s_end (hK5 _ ?_);refine s_autoE TY_ok rfl (hK2 _ ?_);refine s_autoE TY_ok rfl ?_;have hrl:=rot_len zs;exact k_next (ys++[k],rotK zs,r) ⟨done++[k],hdone2,hpt.zero hb⟩ (by show r.length<(k::r).length;simp) ⟨⟨congrArg some (congrArg SV.v (congrArg (cC .i64) (wrapI (by simp;omega) (by omega) (by simp;omega)))),rfl,rfl,rfl,rfl,congrArg some (congrArg SV.v (congrArg (cC .i64) (wrapI (by simp) (by omega) (by simp;omega)))),trivial⟩,trivial,.of_eq (congrArg (λx=>[KyS (some ⟨g,0,none⟩) c x]) hswap),λ_ _ _=>trivial,λ_ _=>trivial⟩
  ·have hb:cQ k d≠0:=by omega
   refine s_skip (hK2 _ ?_);refine s_autoE TY_ok rfl ?_;exact k_next (ys,zs++[k],r) ⟨done++[k],hdone2,hpt.one hb⟩ (by show r.length<(k::r).length;simp) ⟨⟨congrArg some (congrArg SV.v (congrArg (cC .i64) (wrapI (by simp;omega) (by omega) (by simp;omega)))),rfl,rfl,rfl,rfl,rfl,trivial⟩,trivial,.of_eq (congrArg (λx=>[KyS (some ⟨g,0,none⟩) c x]) (by simp:P++(ys++zs++k::r)++Z=P++(ys++(zs++[k])++r)++Z)),λ_ _ _=>trivial,λ_ _=>trivial⟩
 ·refine s_exit (k_pass (k_pass (k_out ?_)))
  refine hK _ ?_;obtain rfl:r=[]:=bV (by omega)
  have e2:ks.length-ys.length=zs.length:=by rw [hkl,kR];omega
  have hpt2:Parted d ks (ys,zs):=by rw [hdone,bJ];exact hpt
  have hyl:ys.length<=ks.length:=by omega
  refine s_regD 8 (by decide) (by kernel_rfl) (by kernel_rfl) λK4 hK4 G S w0 hst=>?_;refine g_autoS TY_ok hst rfl ?_;refine g_opS (.v (.slice A' ys.length c')) trivial rfl rfl rfl (run_cutHi (sz:=32) (by kernel_rfl) (by omega) hnil rfl Tryz.underlying43 rfl rfl) ?_;refine g_autoS TY_ok hst rfl ?_;refine g_opS (.v (.slice (cutK 32 A' c' ys.length) (ks.length-ys.length) (c'-ys.length))) trivial rfl rfl rfl (run_cutLoK (sz:=32) (by kernel_rfl) hyl hle hnil rfl Tryz.underlying43 rfl rfl) ?_;refine g_autoS TY_ok hst rfl ?_;refine g_endS hst ?_;refine s_end (hK4 _ ?_);refine s_ret (k_ret TY_ok ⟨(ys,zs),hpt2⟩ rfl (by decide) rfl (by rw [e2];rfl) (by show [KyS A c (P++(ys++zs)++Z)]=[KyS A c (P++(ys++zs++[])++Z)];rw [bJ]) (λ_ _ _=>trivial) (λ_ _=>trivial))
end Go.Proofs.YtlhlkofpjhpaoaaGreatDoor
