import Derived.Test.YtlhlkofpjhpaoaaGreatDoorMo
set_option maxRecDepth 100000
set_option maxHeartbeats 2000000
open Array renaming length_toList->a9,toList_append->dI,getElem?_append_right->qS
open Go.Op renaming equalIn->cC
open Go.Result renaming andThen_ok->aD
open Go.Sem renaming run_bind->aG,run_pure->aH
open Go.Value renaming int->bM
open List renaming length_append->aB,mem_singleton->aE,mem_cons->aL,mem_cons_self->aP,size_toArray->aT,length_take->aU,length_singleton->bB,length_cons->bD,take_of_length_le->bG,length_set->bQ,length_drop->dC
open Nat renaming le_refl->aF,zero_le->aI,blt->aQ,mod_eq_of_lt->aY,beq->bN,min_eq_left->cM,not_lt_zero->oN
open UInt8 renaming ofNat->bK,toNat_ofNat'->mK
namespace Go.Proofs.YtlhlkofpjhpaoaaGreatDoor
open Go.RowKit Go.IntWalk Nums
section
variable{b:Base}{ops:Array Oper}{Q:Exit->Act->World->Prop}{N:Nat}{E:SE}{L:List LV}{R R' own:List Res}{F M F':World->Prop}{o:Oper}{rest:List Oper}{k:Nat}{α:Type}{post:Post α}{f:FuncId}{x:Operand}{name:String}{xs:Array Operand}{ats:Array TypeId}{svs:List SV}{G:Nat->Nat}{S:Nat->Prop}{w0:World}{Z:Act->Prop}{W:PW}
theorem l_callW(args:List Value)(hg:o.guard=none)(hd:o.dst=some k)(hk:aQ k N=true)(hf:Own f)(ho:o.op = .call { callee:=.invoke x name,args:=xs,argTypes:=ats })(hx0:evS E x=some (.v W.val))(hm:ownM Tryz.prog W.ty name f=true)(hx:evSs E xs.toList=some svs)
 (ha:∀G:Nat->Nat,(∀x∈L,∀g,x.g=some g->G x.j=g)->svs.map (SV.den G)=args)(hs:Spec f ((SQ.p W.ps).den::args) own F' post)(hF:∀w,F w->M w->F' w)
 (hn:∀x,lS Tryz.prog b ops Q N rest ⟨(k,(post.ret x).sv)::E,L,post.own x++R',λw=>post.p x w/\F w,λw=>post.n x w/\M w⟩):lS Tryz.prog b ops Q N (o::rest) ⟨E,L,own++R',F,M⟩ :=
 l_callI args hg hd hk hf ho (by rw [hx0,W.val_eq]) hm hx ha hs hF hn
theorem n_callW{r:RV}(hst:StW b G S L R F M w0)(args:List Value)(hg:o.guard=none)(hd:o.dst=some k)(hk:aQ k N=true)(hf:Own f)(ho:o.op = .call { callee:=.invoke x name,args:=xs,argTypes:=ats })(hx0:evS E x=some (.v W.val))(hm:ownM Tryz.prog W.ty name f=true)(hx:evSs E xs.toList=some svs)
 (ha:svs.map (SV.den G)=args)(hs:Spec f ((SQ.p W.ps).den::args) [] (λ_=>True) (one r))(hr:r.sv.Ok)
 (hn:nS Tryz.prog ops N w0 Z G rest ((k,r.sv)::E)):nS Tryz.prog ops N w0 Z G (o::rest) E:=by
 refine n_f hst r.sv hr (λC0 Q' _ hQ=>λa ha'=>?_) hn;rw [RV.sv_den] at hQ;refine b_call1 (f:=f) (args:=((SQ.p W.ps).den::args).toArray) (v:=r.den) (by simp [Region.wanted,hg]) (λw _=>(hs w (λ_=>False) (λ_=>False) (λ_ h=>h) (λ_ h=>h.elim) zU).mono λ_ _ ⟨_,_,h1,_,h2,_⟩=>⟨h1,h2.up λ_ _ h=>h⟩) (λw=>?_) (by rw [hd];exact hQ _ (ha'.put hk _))
 have h0:a.eval x = .iface W.ty (SQ.p W.ps).den:=by rw [<-W.val_eq];exact ha'.eval (evS_ok hx0)
 have h1:=run_callI hf hm ho h0 w;rw [map_eval (args:=(svs.map (SV.den G)).toArray) (ha'.evals _ _ (by rw [evSs_ok hx])),ha,show #[(SQ.p W.ps).den]++args.toArray=((SQ.p W.ps).den::args).toArray by simp] at h1;exact h1
end
def lfQ(p:PairT):SQ:=.p (PW.leaf p).ps
theorem wleafOf_S{p:PairT}(hp:OkT2 p):Spec 119 [(eY 32 p.1).den,(eY 32 p.2).den] [] Tsh (one (.q (lfQ p))):=by
 refine zQ [eY 32 p.1,eY 32 p.2] 13 Tryz.func119 rfl (by rw [Tryz.ntmps119];rfl) (two_ok (eY_ok hp.1).1 (eY_ok hp.2).1) λb=>?_;refine zA rfl ?_;refine s_regH 8 (by decide) (by kernel_rfl) (by kernel_rfl) λK hK G S w0 hst=>?_;refine h_lit zY [(0:UInt8)] rfl rfl rfl rfl rfl rfl (λ_=>rfl) rfl (by decide) (by decide) λB=>?_;refine h_op hst (.s 2 0 32 32) trivial rfl rfl rfl rfl (runO_all rfl Tryz.underlying45 rfl rfl) ?_;refine h_op hst (.s 3 0 32 32) trivial rfl rfl rfl rfl (runO_all rfl Tryz.underlying45 rfl rfl) ?_;refine h_parts [.slice (some ⟨B,0,none⟩) 1 1,(SV.s 2 0 32 32).den G,(SV.s 3 0 32 32).den G] [[0],p.1,p.2] hst rfl rfl rfl rfl rfl rfl rfl (by decide) (by decide) (λw hw hu=>?_) λA=>?_
 ·have h2:Rd 1 eB (some ⟨B,0,none⟩) 1 [0] w:=hu 0 _ rfl (by kernel_rfl)
  exact⟨h2.sb,sb_var (j:=2) rfl hp.1 (by decide) G S w hw,sb_var (j:=3) rfl hp.2 (by decide) G S w hw,trivial⟩
 refine h_call (r:=.q (eY 32 (g6 p))) hst [.slice (some ⟨A,0,none⟩) 3 3] rfl rfl rfl rfl own_tsum rfl rfl (λ_=>rfl) (eY_ok (n:=32) (digest256_len _)).1 (λw hw hu=>?_) ?_
 ·have hA:PT w (some ⟨A,0,none⟩) [[0],p.1,p.2]:=hu 3 _ rfl (by kernel_rfl)
  have hr2:=sum256_f (some ⟨A,0,none⟩) [[0],p.1,p.2] 3 w hw.fact hA (by simp) (by simp)
  have e:g6 p=cE bJ [[0],p.1,p.2].flatten:=by simp [g6]
  show Calls Tryz.prog _ _ w λe w'=>e = .returned (.agg (By (g6 p)).toArray)/\_
  rw [e];exact hr2
 refine zV hst rfl ?_;refine h_end hst ?_;refine zB rfl (zJ (hK _ ?_));exact zP (zR zY () rfl (by decide) rfl rfl rfl (λ_ _ _=>trivial) zU)
theorem winnerOf_S{x y:PW}(hx:x.Good)(hy:y.Good):Spec 123 [.agg #[x.val,y.val]] [] Tsh (one (.q (.p (PW.inner x y).ps))):=by
 refine zQ [.p (sdW x y)] 18 Tryz.func123 rfl (by rw [Tryz.ntmps123];rfl) (one_ok (sdW_ok x y)) λb=>?_;have hx32:=hx.root_len;have hy32:=hy.root_len
 have sz:∀l:List UInt8,l.length=32->(By l).toArray.size=32:=λl h=>by rw [aT,By_len,h]
 refine zA rfl ?_;refine s_new 6 [⟨3,45,(By dJ).toArray⟩,⟨4,45,(By dJ).toArray⟩] (by decide) rfl ⟨⟨rfl,rfl,rfl,rfl,rfl⟩,⟨rfl,rfl,rfl,rfl,rfl⟩,trivial⟩ (by kernel_rfl) (by kernel_rfl) (by kernel_rfl) λK hK G S w0 hst=>?_;refine n_op hst (.a 1 (0+1*0)) trivial rfl rfl rfl (runO_ixA 0 rfl Tryz.underlying165 rfl rfl rfl (by decide)) ?_;refine n_opV hst (.v x.val) trivial rfl rfl rfl (runO_ldA _ rfl rfl rfl rfl Tryz.underlying89 rfl) ?_;refine n_callW hst [] rfl rfl rfl (own_wroot x) rfl rfl (has_root x) rfl rfl (wroot_S hx) (eY_ok hx32).1 ?_;refine n_op hst (.a 1 (0+1*1)) trivial rfl rfl rfl (runO_ixA 1 rfl Tryz.underlying165 rfl rfl rfl (by decide)) ?_;refine n_opV hst (.v y.val) trivial rfl rfl rfl (runO_ldA _ rfl rfl rfl rfl Tryz.underlying89 rfl) ?_;refine n_callW hst [] rfl rfl rfl (own_wroot y) rfl rfl (has_root y) rfl rfl (wroot_S hy) (eY_ok hy32).1 ?_;refine n_new hst [⟨3,none,45,[.agg 32 (By x.root).toArray]⟩,⟨4,none,45,[.agg 32 (By y.root).toArray]⟩] [(By dJ).toArray,(By dJ).toArray] [.tmp 7,.tmp 10] rfl rfl rfl (λu hu=>?_) ⟨rfl,rfl,trivial⟩ rfl ⟨⟨rfl,rfl,rfl⟩,⟨rfl,rfl,rfl⟩,rfl⟩ ⟨⟨rfl,?_,?_,By_one _⟩,⟨rfl,?_,?_,By_one _⟩,trivial⟩ ?_
 ·rcases aL.1 hu with rfl|hu
  ·exact(eY_ok hx32).1
  ·rw [aE.1 hu]
   exact(eY_ok hy32).1
 ·exact(sz dJ rfl).trans (sz _ hx32).symm
 ·show _=some (By x.root).toArray.size
  rw [sz _ hx32]
  rfl
 ·exact(sz dJ rfl).trans (sz _ hy32).symm
 ·show _=some (By y.root).toArray.size
  rw [sz _ hy32]
  rfl
 refine zJ (hK _ ?_);refine s_keep [1,2,3,4] [1,2,3,4] rfl rfl ?_;refine s_regH 7 (by decide) (by kernel_rfl) (by kernel_rfl) λK hK G S w0 hst=>?_;refine h_lit zY [(1:UInt8)] rfl rfl rfl rfl rfl rfl (λ_=>rfl) rfl (by decide) (by decide) λB=>?_;refine h_op hst (.s 3 0 32 32) trivial rfl rfl rfl rfl (runO_all rfl Tryz.underlying45 rfl rfl) ?_;refine h_op hst (.s 4 0 32 32) trivial rfl rfl rfl rfl (runO_all rfl Tryz.underlying45 rfl rfl) ?_;refine h_parts [.slice (some ⟨B,0,none⟩) 1 1,(SV.s 3 0 32 32).den G,(SV.s 4 0 32 32).den G] [[1],x.root,y.root] hst rfl rfl rfl rfl rfl rfl rfl (by decide) (by decide) (λw hw hu=>?_) λA=>?_
 ·have h2:Rd 1 eB (some ⟨B,0,none⟩) 1 [1] w:=hu 0 _ rfl (by kernel_rfl)
  exact⟨h2.sb,sb_var (j:=3) rfl hx32 (by decide) G S w hw,sb_var (j:=4) rfl hy32 (by decide) G S w hw,trivial⟩
 refine h_call (r:=.q (eY 32 (fF x.root y.root))) hst [.slice (some ⟨A,0,none⟩) 3 3] rfl rfl rfl rfl own_tsum rfl rfl (λ_=>rfl) (eY_ok (n:=32) (digest256_len _)).1 (λw hw hu=>?_) ?_
 ·have hA:PT w (some ⟨A,0,none⟩) [[1],x.root,y.root]:=hu 3 _ rfl (by kernel_rfl)
  have hr2:=sum256_f (some ⟨A,0,none⟩) [[1],x.root,y.root] 3 w hw.fact hA (by simp) (by simp)
  have e:fF x.root y.root=cE bJ [[1],x.root,y.root].flatten:=by simp [fF]
  show Calls Tryz.prog _ _ w λe w'=>e = .returned (.agg (By (fF x.root y.root)).toArray)/\_
  rw [e];exact hr2
 refine zV hst rfl ?_;refine h_end hst ?_;refine zB rfl (zJ (hK _ ?_));exact zP (zR zY () rfl (by decide) rfl rfl rfl (λ_ _ _=>trivial) zU)
section
variable{N:Nat}{E:SE}{o:Oper}{x:Operand}{W:PW}
theorem run_nilI(ho:o.op = .nilCheck x)(hx:evS E x=some (.v W.val)) :
  ∀(G:Nat->Nat) (a:Act) (w:World),Fr N (denE G E) a->(execOp a.eval o).run Tryz.prog w = .ok (.value ((SV.v W.val).den G)) w:=λG a w ha=>by
 have h1:a.eval x=W.val:=ha.eval (evS_ok hx)
 unfold execOp
 rw [ho]
 dsimp only
 rw [h1,W.val_eq]
 rfl
end
theorem row32{l:List UInt8}(h:l.length=32):(By l).toArray.size=32:=by rw [aT,By_len,h]
theorem inner_cell{a b:PW}:(catP (PW.inner a b).ps)[32]?=some a.val/\(catP (PW.inner a b).ps)[33]?=some b.val:=by
 have h:=row32 (l:=fF a.root b.root) (digest256_len _)
 show((By (fF a.root b.root)).toArray ++ #[a.val,b.val])[32]?=_/\((By (fF a.root b.root)).toArray ++ #[a.val,b.val])[33]?=_
 rw [qS (by omega),qS (by omega),h];exact⟨rfl,rfl⟩
def PW.layF:PW->FuncId
  | .empty=>202
  | .leaf _=>206
  | .inner _ _=>208
  | .hid _=>204
theorem own_wlay(w:PW):Own w.layF:=by
 cases w
 ·exact λ_ _=>by unfold PW.layF;go_simp
 ·exact λ_ _=>by unfold PW.layF;go_simp
 ·exact λ_ _=>by unfold PW.layF;go_simp
 ·exact λ_ _=>by unfold PW.layF;go_simp
theorem has_lay(w:PW):ownM Tryz.prog w.ty "witan/witness.lay" w.layF=true:=by
 cases w
 ·show ownM Tryz.prog 154 "witan/witness.lay" 202 = true
  kernel_rfl
 ·show ownM Tryz.prog 160 "witan/witness.lay" 206 = true
  kernel_rfl
 ·show ownM Tryz.prog 167 "witan/witness.lay" 208 = true
  kernel_rfl
 ·show ownM Tryz.prog 156 "witan/witness.lay" 204 = true
  kernel_rfl
abbrev outO(l:List UInt8):Post PX:={ ret:=λx=>.v (.slice x.1 l.length x.2),own:=λx=>[OwnS 0 5 1 eB x.1 x.2 l] }
theorem wlay_S:∀(w:PW),w.Good->∀(A:Option Addr) (c:Nat) (l:List UInt8),l.length+w.bytes.length<=1000000->Spec w.layF [(SQ.p w.ps).den,.slice A l.length c] [OwnS 0 5 1 eB A c l] (λ_=>True) (outO (l++w.bytes)):=by
 intro w
 induction w with
 | empty =>
  intro hg A c l hl
  refine zQ [.p [],.c (.v (.slice A l.length c))] 8 Tryz.func202 rfl (by rw [Tryz.ntmps202];rfl) (two_ok (PW.ps_ok hg) trivial) λb=>?_;have hl:l.length+1<=1000000:=hl;refine zA rfl (zC rfl λK hK=>?_);refine l_push zY 0 (0:UInt8) rfl rfl rfl rfl rfl rfl rfl (okF_B [0] 0 aP) (by decide) (by decide) (by show(l.length+1)*1<=_;omega) (by omega) (aI _) λA1 c1=>?_;refine zB rfl (zJ (hK _ ?_));exact zP (zR zY (A1,c1) rfl (by decide) rfl rfl rfl (λ_ _ _=>trivial) zU)
 | leaf p =>
  intro hg A c l hl
  have hp:OkT2 p:=hg
  have e:l++(PW.leaf p).bytes=l++[1]++p.1++p.2:=by simp [PW.bytes]
  have hl:l.length+(1+64)<=1000000:=by
   have:(PW.leaf p).bytes.length=1+64:=by simp [PW.bytes,hp.1,hp.2]
   omega
  rw [e];refine zQ [.p (PW.leaf p).ps,.c (.v (.slice A l.length c))] 14 Tryz.func206 rfl (by rw [Tryz.ntmps206];rfl) (two_ok (PW.ps_ok hg) trivial) λb=>?_;refine zA rfl (zM λK hK=>?_);refine s_anyP [0,3,4,6,7] 8 2 (λ_=>True) (by kernel_rfl) rfl (λ_ _ _=>trivial) ?_;refine p_frontS (L0:=[]) zY 0 (by kernel_rfl) rfl rfl rfl rfl rfl rfl (λ_ h=>by cases h) (λ_ _ _ h=>by cases h) ?_;refine p_frontS (L0:=[]) zY 3 (by kernel_rfl) rfl rfl rfl rfl rfl rfl (λ_ h=>by cases h) (λ_ _ _ h=>by cases h) ?_;refine p_frontO (.s 2 32 32 32) trivial 4 (by kernel_rfl) rfl rfl rfl rfl rfl (runO_all rfl Tryz.underlying45 rfl rfl) ?_;refine p_frontS (L0:=[]) zY 6 (by kernel_rfl) rfl rfl rfl rfl rfl rfl (λ_ h=>by cases h) (λ_ _ _ h=>by cases h) ?_;refine p_frontO (.s 2 64 32 32) trivial 7 (by kernel_rfl) rfl rfl rfl rfl rfl (runO_all rfl Tryz.underlying45 rfl rfl) ?_;refine p_step 1 (by kernel_rfl) rfl λK1 hK1=>?_;refine l_list zY 0 [(1:UInt8)] rfl rfl rfl rfl rfl (λ_=>rfl) rfl (by decide) (by decide) (okF_B _) (aI _) λB=>?_;refine l_free 0 rfl ?_;refine zJ (hK1 _ (λ_ _ _=>trivial) ?_);refine p_step 2 (by kernel_rfl) rfl λK2 hK2=>?_;refine l_appY zY 0 [(1:UInt8)] rfl rfl rfl rfl rfl rfl rfl rfl rfl (rd_fact λ_ h _=>h.1) (by decide) (by show(l.length+1)*1<=_;omega) (by show l.length+1<=_;omega) (aI _) λA1 c1=>?_;refine zJ (hK2 _ (λ_ _ _=>trivial) ?_);refine p_step 5 (by kernel_rfl) rfl λK3 hK3=>?_;refine l_appZ (A2':=λG=>some ⟨G 2,32,none⟩) (c2:=32) zY 0 p.1 rfl rfl rfl rfl rfl rfl rfl (λ_=>by rw [hp.1];rfl) rfl rfl (rd_part (PW.leaf p).ps rfl rfl hp.1 (by decide)) (by decide) (by simp [hp.1];omega) (by simp [hp.1];omega) (aI _) λA2 c2=>?_;refine zJ (hK3 _ (λ_ _ _=>trivial) ?_);refine p_tail [8,9] (by kernel_rfl) rfl ?_;refine l_appZ (A2':=λG=>some ⟨G 2,64,none⟩) (c2:=32) zY 0 p.2 rfl rfl rfl rfl rfl rfl rfl (λ_=>by rw [hp.2];rfl) rfl rfl (rd_part (PW.leaf p).ps rfl rfl hp.2 (by decide)) (by decide) (by simp [hp.1,hp.2];omega) (by simp [hp.1,hp.2];omega) (aI _) λA3 c3=>?_;refine zB rfl (zJ (hK _ ?_));exact zP (zR zY (A3,c3) rfl (by decide) rfl rfl rfl (λ_ _ _=>trivial) zU)
 | hid h =>
  intro hg A c l hl
  have hp:h.length=32:=hg
  have e:l++(PW.hid h).bytes=l++[3]++h:=by simp [PW.bytes]
  have hl:l.length+(1+32)<=1000000:=by
   have:(PW.hid h).bytes.length=1+32:=by simp [PW.bytes,hp]
   omega
  rw [e];refine zQ [.p (PW.hid h).ps,.c (.v (.slice A l.length c))] 11 Tryz.func204 rfl (by rw [Tryz.ntmps204];rfl) (two_ok (PW.ps_ok hg) trivial) λb=>?_;refine zA rfl (zM λK hK=>?_);refine s_anyP [0,3,4] 5 2 (λ_=>True) (by kernel_rfl) rfl (λ_ _ _=>trivial) ?_;refine p_frontS (L0:=[]) zY 0 (by kernel_rfl) rfl rfl rfl rfl rfl rfl (λ_ h=>by cases h) (λ_ _ _ h=>by cases h) ?_;refine p_frontS (L0:=[]) zY 3 (by kernel_rfl) rfl rfl rfl rfl rfl rfl (λ_ h=>by cases h) (λ_ _ _ h=>by cases h) ?_;refine p_frontO (.s 2 0 32 32) trivial 4 (by kernel_rfl) rfl rfl rfl rfl rfl (runO_all rfl Tryz.underlying45 rfl rfl) ?_;refine p_step 1 (by kernel_rfl) rfl λK1 hK1=>?_;refine l_list zY 0 [(3:UInt8)] rfl rfl rfl rfl rfl (λ_=>rfl) rfl (by decide) (by decide) (okF_B _) (aI _) λB=>?_;refine l_free 0 rfl ?_;refine zJ (hK1 _ (λ_ _ _=>trivial) ?_);refine p_step 2 (by kernel_rfl) rfl λK2 hK2=>?_;refine l_appY zY 0 [(3:UInt8)] rfl rfl rfl rfl rfl rfl rfl rfl rfl (rd_fact λ_ h _=>h.1) (by decide) (by show(l.length+1)*1<=_;omega) (by show l.length+1<=_;omega) (aI _) λA1 c1=>?_;refine zJ (hK2 _ (λ_ _ _=>trivial) ?_);refine p_tail [5,6] (by kernel_rfl) rfl ?_;refine l_appZ (A2':=λG=>some ⟨G 2,0,none⟩) (c2:=32) zY 0 h rfl rfl rfl rfl rfl rfl rfl (λ_=>by rw [hp];rfl) rfl rfl (rd_part (PW.hid h).ps rfl rfl hp (by decide)) (by decide) (by simp [hp];omega) (by simp [hp];omega) (aI _) λA3 c3=>?_;refine zB rfl (zJ (hK _ ?_));exact zP (zR zY (A3,c3) rfl (by decide) rfl rfl rfl (λ_ _ _=>trivial) zU)
 | inner x y ihx ihy =>
  intro hg A c l hl
  have e:l++(PW.inner x y).bytes=l++[2]++x.bytes++y.bytes:=by simp [PW.bytes]
  have hl:l.length+(1+x.bytes.length+y.bytes.length)<=1000000:=by
   have:(PW.inner x y).bytes.length=1+x.bytes.length+y.bytes.length:=by simp [PW.bytes];omega
   omega
  rw [e];refine zQ [.p (PW.inner x y).ps,.c (.v (.slice A l.length c))] 20 Tryz.func208 rfl (by rw [Tryz.ntmps208];rfl) (two_ok (PW.ps_ok hg) trivial) λb=>?_;have hpo:=PW.ps_ok hg;obtain⟨hca,hcb⟩:=inner_cell (a:=x) (b:=y);generalize hps:(PW.inner x y).ps=ps at *;refine zA rfl ?_;refine s_locs λG=>?_;have hsub:∀u∈([⟨2,some (G 2),167,ps⟩]:List LV),u∈withG G [⟨2,none,167,ps⟩]/\u.g.isSome=true:=λu hu=>⟨hu,by rw [aE.1 hu];rfl⟩;refine zM λK hK=>?_;refine s_anyP [0,1,2,3,4,5,6,9,10,12,13] 14 2 (InvL [⟨2,some (G 2),167,ps⟩]) (by kernel_rfl) rfl (inv_of hsub) ?_;refine p_frontS zY 0 (by kernel_rfl) rfl rfl rfl rfl rfl rfl (λx hx=>(hsub x hx).1) (λ_ h=>h) ?_;refine p_frontO (.a 2 (0+32+1*1)) trivial 1 (by kernel_rfl) rfl rfl rfl rfl rfl (runO_ixA 1 rfl Tryz.underlying165 rfl rfl rfl (by decide)) ?_;refine p_frontA (.v y.val) trivial 2 (by kernel_rfl) rfl rfl rfl rfl rfl (λx hx=>(hsub x hx).1) (λ_ h=>h) (runO_ldL _ rfl rfl rfl hcb Tryz.underlying89 rfl) ?_;refine p_frontS zY 3 (by kernel_rfl) rfl rfl rfl rfl rfl rfl (λx hx=>(hsub x hx).1) (λ_ h=>h) ?_;refine p_frontO (.a 2 (0+32+1*0)) trivial 4 (by kernel_rfl) rfl rfl rfl rfl rfl (runO_ixA 0 rfl Tryz.underlying165 rfl rfl rfl (by decide)) ?_;refine p_frontA (.v x.val) trivial 5 (by kernel_rfl) rfl rfl rfl rfl rfl (λx hx=>(hsub x hx).1) (λ_ h=>h) (runO_ldL _ rfl rfl rfl hca Tryz.underlying89 rfl) ?_;refine p_frontS zY 6 (by kernel_rfl) rfl rfl rfl rfl rfl rfl (λx hx=>(hsub x hx).1) (λ_ h=>h) ?_;refine p_frontO (.v x.val) trivial 9 (by kernel_rfl) rfl rfl rfl rfl rfl (run_nilI rfl rfl) ?_;refine p_frontS zY 10 (by kernel_rfl) rfl rfl rfl rfl rfl rfl (λx hx=>(hsub x hx).1) (λ_ h=>h) ?_;refine p_frontO (.v y.val) trivial 12 (by kernel_rfl) rfl rfl rfl rfl rfl (run_nilI rfl rfl) ?_;refine p_frontS zY 13 (by kernel_rfl) rfl rfl rfl rfl rfl rfl (λx hx=>(hsub x hx).1) (λ_ h=>h) ?_;refine p_step 7 (by kernel_rfl) rfl λK1 hK1=>?_;refine l_list zY 0 [(2:UInt8)] rfl rfl rfl rfl rfl (λ_=>rfl) rfl (by decide) (by decide) (okF_B _) (aI _) λB=>?_;refine l_free 0 rfl ?_;refine zJ (hK1 _ (inv_of hsub) ?_);refine p_step 8 (by kernel_rfl) rfl λK2 hK2=>?_;refine l_appY zY 0 [(2:UInt8)] rfl rfl rfl rfl rfl rfl rfl rfl rfl (rd_fact λ_ h _=>h.1) (by decide) (by show(l.length+1)*1<=_;omega) (by show l.length+1<=_;omega) (aI _) λA1 c1=>?_;refine zJ (hK2 _ (inv_of hsub) ?_);refine p_step 11 (by kernel_rfl) rfl λK3 hK3=>?_;refine l_R ([OwnS 0 5 1 eB A1 c1 (l++[2])]++[]) rfl ?_;have hspx:=ihx hg.1 A1 c1 (l++[2]) (by rw [aB,bB];omega)
  refine l_callW (W:=x) (own:=[OwnS 0 5 1 eB A1 c1 (l++[2])]) (R':=[]) (post:=outO (l++[2]++x.bytes)) (F':=λ_=>True) (f:=x.layF) [.slice A1 (l++[2]).length c1] rfl rfl rfl (own_wlay x) rfl rfl (has_lay x) rfl (λ_ _=>rfl) ?_ ?_ ?_
  ·exact hspx
  ·exact λ_ _ _=>trivial
  rintro⟨A2,c2⟩
  refine zJ (hK3 _ (inv_of hsub) ?_);refine p_tail [14,15] (by kernel_rfl) rfl ?_;refine l_R ([OwnS 0 5 1 eB A2 c2 (l++[2]++x.bytes)]++[]) rfl ?_;have hspy:=ihy hg.2 A2 c2 (l++[2]++x.bytes) (by rw [aB,aB,bB];omega);refine l_callW (W:=y) (own:=[OwnS 0 5 1 eB A2 c2 (l++[2]++x.bytes)]) (R':=[]) (post:=outO (l++[2]++x.bytes++y.bytes)) (F':=λ_=>True) (f:=y.layF) [.slice A2 (l++[2]++x.bytes).length c2] rfl rfl rfl (own_wlay y) rfl rfl (has_lay y) rfl (λ_ _=>rfl) ?_ ?_ ?_
  ·exact hspy
  ·exact λ_ _ _=>trivial
  rintro⟨A3,c3⟩
  refine zB rfl (zJ (hK _ ?_));exact zP (zR zY (A3,c3) rfl (by decide) rfl rfl rfl (λ_ _ _=>trivial) zU)
section
variable{P:Program}{ti a b:TypeId}{ms:Array (String×TypeId)}{v u:Value}{w:World}
theorem equalI_ne(d:Nat)(hi:P.underlying ti=some (.interface ms))(hne:a≠b):(cC (d+1) ti (.iface a v) (.iface b u)).run P w = .ok false w:=by
 rw [cC];simp only [aG,run_underlying hi,aD,if_pos hne,aH]
theorem equalI_eq(d:Nat){i:TypeInfo}(hi:P.underlying ti=some (.interface ms))(hinfo:P.info? a=some i)(hc:i.comparable=true):(cC (d+1) ti (.iface a v) (.iface a u)).run P w=(cC d a v u).run P w:=by
 rw [cC]
 simp [run_underlying hi,typeInfo,hinfo,hc]
theorem eq_iface{r:Bool}(hne:(cC 10000 ti (.iface a v) (.iface b u)).run P w = .ok r w):(binOp .eql ti (.iface a v) (.iface b u)).run P w = .ok (.bool r) w:=by
 simp only [binOp]
 simp [Op.equal,Op.maxDepth,hne]
theorem guard_iface{op:BinOp}{x y:Operand}:(eqGuard op ti x y (.iface a v) (.iface b u)).run P w = .ok () w:=by
 cases op<;>simp [eqGuard]
end
theorem fields_empty:Tryz.prog.underlying 154 = some (.struct (Tryz.prog.fieldsOf 154))/\(Tryz.prog.fieldsOf 154).toList=[]:=by
 unfold Program.fieldsOf
 rw [Tryz.underlying154];exact⟨rfl,rfl⟩
theorem comparable_empty:(Tryz.prog.info? 154).map (·.comparable)=some true:=by kernel_rfl
theorem stood_empty:Tryz.prog.stoodInHeld 154 = false:=by kernel_rfl
def PW.isE:PW->Bool
  | .empty=>true
  | _=>false
section
variable{N:Nat}{E:SE}{o:Oper}{x y:Operand}{t':TypeId}{W:PW}
theorem run_isE(ho:o.op = .binOp .eql 89 x y t')(hx:evS E x=some (.v W.val))(hy:evS E y=some (.v PW.empty.val)) :
  ∀(G:Nat->Nat) (a:Act) (w:World),Fr N (denE G E) a->(execOp a.eval o).run Tryz.prog w = .ok (.value ((SV.v (.bool W.isE)).den G)) w:=λG a w ha=>by
 have h1:a.eval x = .iface W.ty (SQ.p W.ps).den:=by rw [<-W.val_eq];exact ha.eval (evS_ok hx)
 have h2:a.eval y = .iface 154 (.agg #[]):=ha.eval (evS_ok hy);obtain⟨i,hi,hc⟩:=Option.map_eq_some_iff.1 comparable_empty
 have key:(cC 10000 89 (.iface W.ty (SQ.p W.ps).den) (.iface 154 (.agg #[]))).run Tryz.prog w = .ok W.isE w:=by
  cases W with
  | empty =>
   show(cC (9999+1) 89 (.iface 154 (.agg #[])) (.iface 154 (.agg #[]))).run Tryz.prog w = .ok true w
   rw [equalI_eq 9999 Tryz.underlying89 hi hc,run_equalIn_struct w 9998 _ _ _ fields_empty.1 stood_empty,fields_empty.2,Op.eqFields,aH]
  | leaf=>exact equalI_ne 9999 Tryz.underlying89 (by show(160 : Nat) ≠ 154;decide)
  | inner=>exact equalI_ne 9999 Tryz.underlying89 (by show(167 : Nat) ≠ 154;decide)
  | hid=>exact equalI_ne 9999 Tryz.underlying89 (by show(156 : Nat) ≠ 154;decide)
 unfold execOp
 simp only [ho,h1,h2,aG,guard_iface,aD,eq_iface key,aH]
 rfl
end
def PW.top:PW->Value
  | .empty=>.nilIface
  | w=>w.val
theorem PW.top_ok(w:PW):w.top.oneCell'=true/\w.top.cells = #[w.top]:=by cases w<;>exact⟨rfl,rfl⟩
def prQ(w:PW):SQ:=.p [.one (.v w.top)]
theorem prQ_ok(w:PW):(prQ w).Ok:=λp hp=>by
 rw [aE.1 hp];exact⟨trivial,w.top_ok⟩
theorem wpart_S(w:PW):Spec 55 [w.val] [] (λ_=>True) (one (.q (prQ w))):=by
 refine zQ [.c (.v w.val)] 10 Tryz.func55 rfl (by rw [Tryz.ntmps55];rfl) (one_ok trivial) λb=>?_;refine zA rfl (zM λK hK=>?_);refine zC rfl λK1 hK1=>?_;refine l_op (.v PW.empty.val) trivial rfl rfl rfl (run_mkI rfl Tryz.underlying154 rfl rfl) ?_;refine l_op (.v (.bool w.isE)) trivial rfl rfl rfl (run_isE rfl rfl rfl) ?_;refine zJ (hK1 _ ?_)
 cases w with
 | empty =>
  refine s_yes rfl ?_;refine zA rfl ?_;exact zP (zR zY () rfl (by decide) rfl rfl rfl (λ_ _ _=>trivial) zU)
 | leaf =>
  refine s_no rfl ?_;refine zO (hK _ (zA rfl ?_));exact zP (zR zY () rfl (by decide) rfl rfl rfl (λ_ _ _=>trivial) zU)
 | inner =>
  refine s_no rfl ?_;refine zO (hK _ (zA rfl ?_));exact zP (zR zY () rfl (by decide) rfl rfl rfl (λ_ _ _=>trivial) zU)
 | hid =>
  refine s_no rfl ?_;refine zO (hK _ (zA rfl ?_));exact zP (zR zY () rfl (by decide) rfl rfl rfl (λ_ _ _=>trivial) zU)
theorem wnode_S(w:PW):Spec 57 [(prQ w).den] [] (λ_=>True) (one (.v w.val)):=by
 refine zQ [prQ w] 10 Tryz.func57 rfl (by rw [Tryz.ntmps57];rfl) (one_ok (prQ_ok w)) λb=>?_;refine zA rfl (zM λK hK=>?_)
 cases w with
 | empty =>
  refine zC rfl λK1 hK1=>?_;refine l_op (.v (.bool true)) trivial rfl rfl rfl (run_eqNilN _ Tryz.underlying89 rfl rfl) ?_;refine zJ (hK1 _ ?_);refine s_yes rfl ?_;refine zC rfl λK2 hK2=>?_;refine l_op (.v PW.empty.val) trivial rfl rfl rfl (run_mkI rfl Tryz.underlying154 rfl rfl) ?_;refine zB rfl (zJ (hK2 _ ?_));exact zP (zR zY () rfl (by decide) rfl rfl rfl (λ_ _ _=>trivial) zU)
 | leaf p =>
  refine zC rfl λK1 hK1=>?_;refine l_op (.v (.bool false)) trivial rfl rfl rfl (run_eqNilI _ Tryz.underlying89 rfl rfl) ?_;refine zJ (hK1 _ ?_);refine s_no rfl ?_;refine zO (hK _ (zA rfl ?_));exact zP (zR zY () rfl (by decide) rfl rfl rfl (λ_ _ _=>trivial) zU)
 | inner x y =>
  refine zC rfl λK1 hK1=>?_;refine l_op (.v (.bool false)) trivial rfl rfl rfl (run_eqNilI _ Tryz.underlying89 rfl rfl) ?_;refine zJ (hK1 _ ?_);refine s_no rfl ?_;refine zO (hK _ (zA rfl ?_));exact zP (zR zY () rfl (by decide) rfl rfl rfl (λ_ _ _=>trivial) zU)
 | hid h =>
  refine zC rfl λK1 hK1=>?_;refine l_op (.v (.bool false)) trivial rfl rfl rfl (run_eqNilI _ Tryz.underlying89 rfl rfl) ?_;refine zJ (hK1 _ ?_);refine s_no rfl ?_;refine zO (hK _ (zA rfl ?_));exact zP (zR zY () rfl (by decide) rfl rfl rfl (λ_ _ _=>trivial) zU)
theorem wRoot_S{w:PW}(h:w.Good):Spec 40 [(prQ w).den] [] (λ_=>True) (one (.q (eY 32 w.root))):=by
 refine zQ [prQ w] 6 Tryz.func40 rfl (by rw [Tryz.ntmps40];rfl) (one_ok (prQ_ok w)) λb=>?_;refine zA rfl (zC rfl λK hK=>?_);refine l_call0 [(prQ w).den] rfl rfl rfl (λ_ _=>by go_simp) rfl rfl (λ_ _=>rfl) (wnode_S w) (λ_ _ _=>trivial) λ_=>?_;have hr:=wroot_S h;refine l_R ([]++[]) rfl ?_;refine l_callW (W:=w) (own:=[]) (R':=[]) (post:=one (.q (eY 32 w.root))) (F':=λ_=>True) (f:=w.rootF) [] rfl rfl rfl (own_wroot w) rfl rfl (has_root w) rfl (λ_ _=>rfl) ?_ ?_ ?_
 ·exact hr
 ·exact λ_ _ _=>trivial
 intro _
 refine zB rfl (zJ (hK _ ?_));exact zP (zR zY () rfl (by decide) rfl rfl rfl (λ_ _ _=>trivial) zU)
theorem wBytes_S{w:PW}(h:w.Good)(hl:w.bytes.length<=1000000):Spec 35 [(prQ w).den] [] (λ_=>True) (outO w.bytes):=by
 refine zQ [prQ w] 6 Tryz.func35 rfl (by rw [Tryz.ntmps35];rfl) (one_ok (prQ_ok w)) λb=>?_;refine zA rfl (zC rfl λK hK=>?_);refine l_call0 [(prQ w).den] rfl rfl rfl (λ_ _=>by go_simp) rfl rfl (λ_ _=>rfl) (wnode_S w) (λ_ _ _=>trivial) λ_=>?_;have hr:=wlay_S w h none 0 [] (by simpa using hl);refine l_nil0 0 5 1 eB ?_;refine l_R ([OwnS 0 5 1 eB none 0 []]++[]) rfl ?_;refine l_callW (W:=w) (own:=[OwnS 0 5 1 eB none 0 []]) (R':=[]) (post:=outO w.bytes) (F':=λ_=>True) (f:=w.layF) [.slice none 0 0] rfl rfl rfl (own_wlay w) rfl rfl (has_lay w) rfl (λ_ _=>rfl) ?_ ?_ ?_
 ·exact hr
 ·exact λ_ _ _=>trivial
 rintro⟨A,c⟩
 refine zB rfl (zJ (hK _ ?_));exact zP (zR zY (A,c) rfl (by decide) rfl rfl rfl (λ_ _ _=>trivial) zU)
theorem run_ldEl{α:Type}{P:Program}{T:List TyR}{N:Nat}{E:SE}{o:Oper}{x:Operand}{t:TypeId}{k' c j off g a:Nat}{fe:α->SQ}{l:List α}{y:α}{q:SQ}{L:List LV}{R:List Res}{F M:World->Prop}(hT:OkT P T)(ho:o.op = .load t x)(hx:evS E x=some (.v (.pointer (some ⟨g,a+k'*j+off,none⟩))))(hi:l[j]?=some y)(hl:loadS T (fe y).parts1 t off=some q)(hok:OkP (fe y).parts1)(h:∀G S w,View G S L R F M w->Rd k' fe (some ⟨g,a,none⟩) c l w) :
  ∀(G:Nat->Nat) (S:Nat->Prop) (ac:Act) (w:World),Fr N (denE G E) ac->View G S L R F M w->(execOp ac.eval o).run P w = .ok (.value ((SV.q q).den G)) w:=λG S ac w ha hv=>by
 have e1:=ha.eval (evS_ok hx);obtain⟨b',o',e,_,hr⟩:=(h G S w hv).2.2.2.2 (Nat.lt_of_le_of_lt (aI _) (List.getElem?_eq_some_iff.1 hi).1)
 injection e with e
 injection e with e2 e3
 subst e2 e3;have h13:=(loadS_at hT hok hl).2 (w:=w) (g:=g) (base:=a+k'*j) (by rw [<-SQ.cl_parts hok];exact hr j y hi)
 unfold execOp
 simp only [ho,e1,SV.den,SQ.den,SC.den,h13,aG,aH,aD]
def tyK:Nat->TypeId
  | 0=>154
  | 1=>160
  | 2=>167
  | _=>156
def zK:Nat->List Pt
  | 0=>[]
  | 1=>[.agg 32 (By dJ).toArray,.agg 32 (By dJ).toArray,.agg 32 (By dJ).toArray]
  | 2=>[.agg 32 (By dJ).toArray,.agg 2 #[.nilIface,.nilIface]]
  | _=>[.agg 32 (By dJ).toArray]
theorem zK_ok(k:Nat):OkP (zK k):=by
 match k with
 | 0=>exact okPB_ok (by kernel_rfl)
 | 1=>exact okPB_ok (by kernel_rfl)
 | 2=>exact okPB_ok (by kernel_rfl)
 | _+3=>exact okPB_ok (by show okPB [.agg 32 (By dJ).toArray]=true;kernel_rfl)
def PW.asK(W:PW)(k:Nat):List Pt:=match bN W.kind k with
  | true=>W.ps
  | false=>zK k
theorem PW.asK_ok{W:PW}(h:W.Good)(k:Nat):OkP (W.asK k):=by
 unfold PW.asK
 split
 ·exact PW.ps_ok h
 ·exact zK_ok k
theorem ty_kind(W:PW):W.ty=tyK W.kind:=by cases W<;>rfl
theorem zero_K:∀k,k<4->(Tryz.prog.info? (tyK k)).map (·.zero)=some (some (SQ.p (zK k)).den)
 | 0,_=>by show(Tryz.prog.info? 154).map (·.zero)=some (some (SQ.p []).den);kernel_rfl
 | 1,_=>by show(Tryz.prog.info? 160).map (·.zero)=some (some (SQ.p (zK 1)).den);kernel_rfl
 | 2,_=>by show(Tryz.prog.info? 167).map (·.zero)=some (some (SQ.p (zK 2)).den);kernel_rfl
 | 3,_=>by show(Tryz.prog.info? 156).map (·.zero)=some (some (SQ.p (zK 3)).den);kernel_rfl
 | k+4,h=>absurd h (by omega)
theorem under_K:∀k,k<4->∃d,Tryz.prog.underlying (tyK k)=some d/\isI d=false
 | 0,_=>⟨_,Tryz.underlying154,rfl⟩
 | 1,_=>⟨_,Tryz.underlying160,rfl⟩
 | 2,_=>⟨_,Tryz.underlying167,rfl⟩
 | 3,_=>⟨_,Tryz.underlying156,rfl⟩
 | k+4,h=>absurd h (by omega)
theorem tyK_inj:∀i j,i<4->j<4->tyK i=tyK j->i=j:=by
 have h:∀i:Fin 4,∀j:Fin 4,tyK i.1=tyK j.1->i.1=j.1:=by decide +kernel
 exact λi j hi hj=>h ⟨i,hi⟩ ⟨j,hj⟩
theorem kind_lt(W:PW):W.kind<4:=by cases W<;>simp [PW.kind]
section
variable{b:Base}{ops:Array Oper}{Q:Exit->Act->World->Prop}{N:Nat}{E:SE}{L:List LV}{R:List Res}{F M:World->Prop}{o:Oper}{rest:List Oper}{j:Nat}{x:Operand}{ti:TypeId}
theorem l_kind(k:Nat){W:PW}(hW:W.Good)(h4:k<4)(hg:o.guard=none)(hd:o.dst=some j)(hj:aQ j N=true)(ho:o.op = .typeAssert x ti (tyK k) true)(hx:evS E x=some (.v W.val))
 (hn:lS Tryz.prog b ops Q N rest ⟨(j,.t [.p (W.asK k),.c (.v (.bool (bN W.kind k)))])::E,L,R,F,M⟩):lS Tryz.prog b ops Q N (o::rest) ⟨E,L,R,F,M⟩:=by
 obtain⟨d,hu,hi⟩:=under_K k h4;refine l_op (.t [.p (W.asK k),.c (.v (.bool (bN W.kind k)))]) (λy hy=>?_) hg hd hj ?_ hn
 ·rcases aL.1 hy with rfl|hy
  ·exact PW.asK_ok hW k
  ·rw [aE.1 hy];exact trivial
 ·unfold PW.asK
  by_cases e:W.kind=k
  ·have e2:bN W.kind k=true:=by rw [e];exact Nat.beq_refl k
   rw [e2];exact run_asYes ho hu hi (by rw [hx,W.val_eq,ty_kind,e]) rfl
  ·have e2:bN W.kind k=false:=by
    cases h:bN W.kind k with
    | true=>exact absurd (Nat.eq_of_beq_eq_true h) e
    | false=>rfl
   rw [e2];exact run_asNo ho hu hi (by rw [hx,W.val_eq]) (λh=>e (tyK_inj _ _ (kind_lt W) h4 (by rw [<-ty_kind,h]))) (zero_K k h4)
end
theorem wrap_u8(d:Nat):IntKind.u8.wrap (((d%256:Nat):Int)+1)=(((d+1)%256:Nat):Int):=by
 unfold IntKind.wrap
 simp [IntKind.bits,IntKind.signed]
def tellR(u:List UInt8×Bool×Bool):RV:=.t [eY 32 u.1,.c (.v (.bool u.2.1)),.c (.v (.int .i64 (if u.2.2 then 100 else 0)))]
theorem wget_S{k:List UInt8}(hk:k.length=32)(w:PW)(hr:w.Right []):Spec 62 [w.val,(eY 32 k).den] [] (λ_=>True) (one (tellR (PW.tell k (PW.find k 0 w)))):=by
 refine zQ [.c (.v w.val),eY 32 k] 37 Tryz.func62 rfl (by rw [Tryz.ntmps62];rfl) (two_ok trivial (eY_ok hk).1) λb=>?_;generalize hres:PW.tell k (PW.find k 0 w)=res;refine zA rfl (zA rfl ?_);refine zN ?_
 let F:PW×List Nat->Env:=λ⟨W,way⟩=>⟨[(0,.v W.val),(3,.a 3 0),(4,.a 4 0),(7,.v (.int .u8 ((way.length%256:Nat):Int)))],[⟨4,none,45,[.agg 32 (By dJ).toArray]⟩,⟨3,none,45,[.agg 32 (By k).toArray]⟩],[],λ_=>True,λ_=>True⟩
 refine c_weak (e':=F (w,[])) ⟨zE rfl, zL rfl rfl, .refl _,λ_ _ _=>trivial, zU⟩ (s_loop (λy=>256-y.2.length) F (λy=>y.1.Right y.2/\PW.tell k (PW.find k y.2.length y.1)=res) ?_ (w,[]) ⟨hr,hres⟩)
 rintro⟨W,way⟩ ⟨hW,hres⟩
 dsimp only at hW hres
 refine zM λK hK=>?_;refine zN (zM λK1 hK1=>?_);refine zA rfl (zN ?_);refine zC rfl λK2 hK2=>?_;refine l_kind 2 hW.good (by decide) rfl rfl rfl rfl rfl ?_;refine zB rfl (zJ (hK2 _ ?_))
 cases W with
 | inner x y =>
  obtain⟨hlt,hx,hy,_⟩:=hW;refine s_yes rfl ?_;refine zA rfl (zM λK3 hK3=>?_);refine s_lit (zB rfl ?_);obtain⟨hca,hcb⟩:=inner_cell (a:=x) (b:=y);have e256:way.length%256=way.length:=aY hlt;refine l_num 18 (way.length:Int) rfl (by rw [e256]) ?_;refine l_call0 [(eY 32 k).den,.int .u8 (way.length:Int)] rfl rfl rfl own_wbit rfl rfl (λ_ _=>rfl) (wbit_S hk way.length hlt) (λ_ _ _=>trivial) λ_=>?_;refine zB rfl ?_;have hb2:=lA k way.length
  by_cases hb:cK k way.length=0
  ·refine l_num 19 0 rfl (by rw [hb];rfl) ?_
   refine l_op (.a 8 (0+32+1*0)) trivial rfl rfl rfl (runO_ixA 0 rfl Tryz.underlying165 rfl rfl rfl (by decide)) ?_;refine l_opV (.v x.val) trivial rfl rfl rfl (runO_ldA _ rfl rfl rfl hca Tryz.underlying89 rfl) ?_;refine zB rfl ?_;refine zJ (hK3 _ (s_exit (k_passB rfl (zS (k_out (hK _ ?_))))));refine zD rfl ?_;exact zX (x,way++[0]) ⟨hx,by rw [<-hres,aB,bB];show _=PW.tell k (if cK k way.length=0 then _ else _);rw [if_pos hb]⟩ (by rw [aB,bB];show 256-(way.length+1)<256-way.length;omega) ⟨⟨rfl,rfl,rfl,congrArg some (congrArg SV.v (congrArg (bM .u8) (by rw [aB,bB];exact wrap_u8 way.length))),trivial⟩,zL rfl rfl, .refl _,λ_ _ _=>trivial, zU⟩
  ·refine l_num 19 1 rfl (by rw [show cK k way.length=1 by omega];rfl) ?_
   refine l_op (.a 8 (0+32+1*1)) trivial rfl rfl rfl (runO_ixA 1 rfl Tryz.underlying165 rfl rfl rfl (by decide)) ?_;refine l_opV (.v y.val) trivial rfl rfl rfl (runO_ldA _ rfl rfl rfl hcb Tryz.underlying89 rfl) ?_;refine zB rfl ?_;refine zJ (hK3 _ (s_exit (k_passB rfl (zS (k_out (hK _ ?_))))));refine zD rfl ?_;exact zX (y,way++[1]) ⟨hy,by rw [<-hres,aB,bB];show _=PW.tell k (if cK k way.length=0 then _ else _);rw [if_neg hb]⟩ (by rw [aB,bB];show 256-(way.length+1)<256-way.length;omega) ⟨⟨rfl,rfl,rfl,congrArg some (congrArg SV.v (congrArg (bM .u8) (by rw [aB,bB];exact wrap_u8 way.length))),trivial⟩,zL rfl rfl, .refl _,λ_ _ _=>trivial, zU⟩
 | empty =>
  refine s_no rfl ?_;refine zC rfl λK4 hK4=>?_;refine l_kind (W:=.empty) 1 hW.good (by decide) rfl rfl rfl rfl rfl ?_;refine zB rfl (zJ (hK4 _ ?_));refine s_no rfl ?_;refine zC rfl λK5 hK5=>?_;refine l_kind (W:=.empty) 3 hW.good (by decide) rfl rfl rfl rfl rfl ?_;refine zB rfl (zJ (hK5 _ ?_));refine s_no rfl ?_;refine zO (hK1 _ (zA rfl ?_));exact zP (zR zY () rfl (by decide) rfl (by rw [<-hres];rfl) rfl (λ_ _ _=>trivial) zU)
 | leaf p =>
  have hp:OkT2 p:=hW.good;refine s_no rfl ?_;refine zC rfl λK4 hK4=>?_;refine l_kind (W:=.leaf p) 1 hW.good (by decide) rfl rfl rfl rfl rfl ?_;refine zB rfl (zJ (hK4 _ ?_));refine s_yes rfl ?_;refine zA rfl (zC rfl λK6 hK6=>?_);refine l_op (.b (decide (p.1=k))) trivial rfl rfl rfl (run_eqY rfl rfl rfl Tryz.underlying45 (by kernel_rfl) hp.1 hk) ?_;refine zJ (hK6 _ ?_);refine zW (p.1=k) rfl (λhe=>?_) (λhe=>?_)
  ·refine zA rfl ?_
   exact zP (zR zY () rfl (by decide) rfl (by rw [<-hres];show tellR (if p.1=k then _ else _)=_;rw [if_pos he];rfl) rfl (λ_ _ _=>trivial) zU)
  ·refine zO (hK1 _ ?_)
   refine zA rfl ?_;exact zP (zR zY () rfl (by decide) rfl (by rw [<-hres];show tellR (if p.1=k then _ else _)=_;rw [if_neg he];rfl) rfl (λ_ _ _=>trivial) zU)
 | hid h =>
  refine s_no rfl ?_;refine zC rfl λK4 hK4=>?_;refine l_kind (W:=.hid h) 1 hW.good (by decide) rfl rfl rfl rfl rfl ?_;refine zB rfl (zJ (hK4 _ ?_));refine s_no rfl ?_;refine zC rfl λK5 hK5=>?_;refine l_kind (W:=.hid h) 3 hW.good (by decide) rfl rfl rfl rfl rfl ?_;refine zB rfl (zJ (hK5 _ ?_));refine s_yes rfl ?_;refine zA rfl (zA rfl ?_);exact zP (zR zY () rfl (by decide) rfl (by rw [<-hres];rfl) rfl (λ_ _ _=>trivial) zU)
theorem PW.tell_len{k:List UInt8}:∀{d:Nat} {w:PW},w.Good->(PW.tell k (PW.find k d w)).1.length=32
 | _,.empty,_=>rfl
 | _,.leaf p,h=>by
  show(if p.1=k then(p.2,true,false) else(dJ,false,false)).1.length=32
  split
  ·exact h.2
  ·rfl
 | _,.hid _,_=>rfl
 | d,.inner a b,h=>by
  show(PW.tell k (if cK k d=0 then PW.find k (d+1) a else PW.find k (d+1) b)).1.length=32
  split
  ·exact PW.tell_len h.1
  ·exact PW.tell_len h.2
theorem tellR_ok{u:List UInt8×Bool×Bool}(h:u.1.length=32):(tellR u).sv.Ok:=λx hx=>by
 simp only [aL,List.not_mem_nil,or_false] at hx
 rcases hx with rfl|rfl|rfl
 ·exact(eY_ok h).1
 ·exact trivial
 ·exact trivial
theorem wGet_S{k:List UInt8}(hk:k.length=32)(w:PW)(hr:w.Right []):Spec 41 [(prQ w).den,(eY 32 k).den] [] (λ_=>True) (one (tellR (PW.tell k (PW.find k 0 w)))):=by
 refine zQ [prQ w,eY 32 k] 14 Tryz.func41 rfl (by rw [Tryz.ntmps41];rfl) (two_ok (prQ_ok w) (eY_ok hk).1) λb=>?_;have hget:=wget_S hk w hr;have hl:=PW.tell_len (k:=k) (d:=0) hr.good;generalize PW.tell k (PW.find k 0 w)=res at *;refine zA rfl ?_;refine s_regD 7 (by decide) (by kernel_rfl) (by kernel_rfl) λK1 hK1 G S w0 hst=>?_;refine g_autoS zY hst rfl ?_;refine g_callS (F':=λ_=>True) hst [(prQ w).den] rfl rfl rfl (λ_ _=>by go_simp) rfl rfl (λ_=>rfl) (wnode_S w) trivial (λ_ _ _ _=>trivial) ?_;refine g_autoS zY hst rfl ?_;refine g_callS (F':=λ_=>True) (r:=tellR res) hst [w.val,(eY 32 k).den] rfl rfl rfl (λ_ _=>by go_simp) rfl rfl (λ_=>rfl) hget ?_ (λ_ _ _ _=>trivial) ?_
 ·exact tellR_ok hl
 refine g_autoS zY hst rfl ?_;refine g_endS hst ?_;refine zB rfl (zJ (hK1 _ ?_));exact zP (zR zY () rfl (by decide) rfl rfl rfl (λ_ _ _=>trivial) zU)
theorem built_sides(t1 t2:TypeId)(v1 v2:Value):Tryz.prog.built 165 [(0,.iface t1 v1),(1,.iface t2 v2)]=some #[.iface t1 v1,.iface t2 v2]:=by kernel_rfl
theorem run_sides{N:Nat}{E:SE}{o:Oper}{x y:Operand}{X Y:PW}(ho:o.op = .build 165 #[(0,x),(1,y)])(hx:evS E x=some (.v X.val))(hy:evS E y=some (.v Y.val)) :
  ∀(G:Nat->Nat) (a:Act) (w:World),Fr N (denE G E) a->(execOp a.eval o).run Tryz.prog w = .ok (.value ((SV.p (sdW X Y)).den G)) w:=λG a w ha=>by
 have h1:a.eval x = .iface X.ty (SQ.p X.ps).den:=by rw [<-X.val_eq];exact ha.eval (evS_ok hx)
 have h2:a.eval y = .iface Y.ty (SQ.p Y.ps).den:=by rw [<-Y.val_eq];exact ha.eval (evS_ok hy)
 unfold execOp
 have h:Tryz.prog.built 165 (Array.map (λx:Nat×Operand=>(x.1,a.eval x.2)) #[(0,x),(1,y)]).toList=some #[.iface X.ty (SQ.p X.ps).den,.iface Y.ty (SQ.p Y.ps).den]:=by
  rw [Array.toList_map]
  show Tryz.prog.built 165 [(0,a.eval x),(1,a.eval y)]=_
  rw [h1,h2];exact built_sides _ _ _ _
 simp only [ho,aG,run_build w 165 _ _ h,aD,aH];rw [<-X.val_eq,<-Y.val_eq]
 rfl
structure RSw where
  A:Option Addr
  c:Nat
  l:List UInt8
  e:Nat
namespace RSw
def ps(s:RSw):List Pt:=[.one (.v (.slice s.A s.l.length s.c)),.one (.v (.int .i64 (s.e:Int)))]
def rd(s:RSw)(w:World):Prop:=Rd 1 eB s.A s.c s.l w
instance{s:RSw}:Pst s.rd:=⟨λ_ _ h hb=>Rd.later h hb⟩
def fail(s:RSw)(x:Nat):RSw:=⟨s.A,s.c,s.l,if s.e=0 then x else s.e⟩
def cut(s:RSw)(n:Nat):RSw:=⟨cutA s.A s.c n,s.c-n,s.l.drop n,s.e⟩
theorem rd_cut{s:RSw}{n:Nat}{w:World}(h:s.rd w)(hn:n<=s.l.length):(s.cut n).rd w:=Rd.part h hn
theorem fail_e{s:RSw}{x:Nat}(h:s.e≠0):s.fail x=s:=by
 unfold fail
 rw [if_neg h]
theorem fail_0{s:RSw}{x:Nat}(h:s.e=0):s.fail x=⟨s.A,s.c,s.l,x⟩:=by
 unfold fail
 rw [if_pos h]
end RSw
abbrev RdQ(g:Nat)(s:RSw):Res:=ObjS g 125 s.ps
abbrev ptV(g:Nat):Value:=.pointer (some ⟨g,0,none⟩)
theorem own_wfails:Own 61:=λ_ _=>by go_simp
theorem wfails_S(g:Nat)(s:RSw)(x:Nat):Spec 61 [ptV g,.int .i64 (x:Int)] [RdQ g s] (λ_=>True) { ret:=λ_:Unit=>.t [],own:=λ_=>[RdQ g (s.fail x)] }:=by
 refine zQ [.c (.v (ptV g)),.c (.v (.int .i64 (x:Int)))] 13 Tryz.func61 rfl (by rw [Tryz.ntmps61];rfl) (two_ok trivial trivial) λb=>?_;refine zC rfl λK hK=>?_;refine l_ldO zY rfl rfl rfl rfl rfl rfl (obj_own 0 rfl) ?_;refine zB rfl (zJ (hK _ ?_));refine zW ((s.e:Int)=0) rfl (λh0=>?_) (λh0=>?_)
 ·refine s_lit ?_
  refine zB rfl ?_;refine l_stO zY 0 rfl rfl rfl rfl rfl rfl rfl ?_;exact zJ (zR zY () rfl (by decide) rfl rfl (by rw [RSw.fail_0 (by omega)];rfl) (λ_ _ _=>trivial) zU)
 ·exact zO (zR zY () rfl (by decide) rfl rfl (by rw [RSw.fail_e (by omega)]) (λ_ _ _=>trivial) zU)
def RSw.can(s:RSw)(n:Nat):Prop:=s.e=0/\n<=s.l.length
theorem wtake_yes(g:Nat)(s:RSw)(n:Nat)(h:s.can n):Spec 118 [ptV g,.int .i64 (n:Int)] [RdQ g s] s.rd { ret:=λ_:Unit=>.v (.slice s.A n s.c),own:=λ_=>[RdQ g (s.cut n)] }:=by
 obtain⟨A,c,l,e⟩:=s;obtain⟨he,hn⟩:=h
 dsimp only at he hn
 subst he;refine zQ [.c (.v (ptV g)),.c (.v (.int .i64 (n:Int)))] 36 Tryz.func118 rfl (by rw [Tryz.ntmps118];rfl) (two_ok trivial trivial) λb=>?_;refine s_pure (l.length<=c/\(A=none->c=0)) (λw hw _=>⟨hw.1,hw.2.2.1⟩) λ⟨hlc,hA⟩=>?_;refine zA rfl (zM λK hK=>?_);refine zC rfl λK1 hK1=>?_;refine l_ldO zY rfl rfl rfl rfl rfl rfl (obj_own 0 rfl) ?_;refine zB rfl (zJ (hK1 _ ?_));refine zW ((l.length:Int)<(n:Int)) rfl (λh0=>absurd h0 (by omega)) (λ_=>?_);refine zO (hK _ (zM λK2 hK2=>?_));refine zC rfl λK3 hK3=>?_;refine l_ldO zY rfl rfl rfl rfl rfl rfl (obj_own 0 rfl) ?_;refine zB rfl (zJ (hK3 _ ?_));refine zW (((0:Nat):Int)≠0) rfl (λh0=>absurd rfl h0) (λ_=>?_);refine zO (hK2 _ (zC rfl λK4 hK4=>?_));refine l_ldO zY rfl rfl rfl rfl rfl rfl (obj_own 0 rfl) ?_;refine zB rfl ?_;refine l_op (.v (.slice A n c)) trivial rfl rfl rfl (run_cutHi (sz:=1) (by kernel_rfl) (by omega) hA rfl Tryz.underlying51 rfl rfl) ?_;refine zB rfl (zJ (hK4 _ ?_));refine zC rfl λK5 hK5=>?_;refine l_ldO zY rfl rfl rfl rfl rfl rfl (obj_own 0 rfl) ?_;refine zB rfl ?_;refine l_op (.v (.slice (cutA A c n) (l.length-n) (c-n))) trivial rfl rfl rfl (run_cutLo hn hlc hA rfl rfl rfl) ?_;refine zB rfl ?_;refine l_stO zY 0 rfl rfl rfl rfl rfl rfl rfl ?_;refine zJ (hK5 _ (zA rfl ?_));exact zP (zR zY () rfl (by decide) rfl rfl (by show [ObjS g _ [.one (.v (.slice (cutA A c n) (l.drop n).length (c-n))),_]]=_;rw [dC];rfl) (λ_ _ _=>trivial) zU)
theorem wtake_no(g:Nat)(s:RSw)(n:Nat)(h:¬s.can n):Spec 118 [ptV g,.int .i64 (n:Int)] [RdQ g s] (λ_=>True) { ret:=λ_:Unit=>.v (.slice none 0 0),own:=λ_=>[RdQ g (s.fail 10)] }:=by
 refine zQ [.c (.v (ptV g)),.c (.v (.int .i64 (n:Int)))] 36 Tryz.func118 rfl (by rw [Tryz.ntmps118];rfl) (two_ok trivial trivial) λb=>?_;refine zA rfl (zM λK hK=>?_);refine zC rfl λK1 hK1=>?_;refine l_ldO zY rfl rfl rfl rfl rfl rfl (obj_own 0 rfl) ?_;refine zB rfl (zJ (hK1 _ ?_))
 have hne:(s.fail 10).e≠0:=by
  show(if s.e=0 then 10 else s.e)≠0
  split
  ·decide
  ·assumption
 have hrest:∀en,Weak en ⟨[(0,.v (ptV g)),(4,.v (.slice none 0 0))],[],[RdQ g (s.fail 10)],λ_=>True,λ_=>True⟩->kS b K 36 en:=by
  intro en hw
  refine k_weak hw (hK _ ?_);refine zM λK2 hK2=>?_;refine zC rfl λK3 hK3=>?_;refine l_ldO zY rfl rfl rfl rfl rfl rfl (obj_own 0 rfl) ?_;refine zB rfl (zJ (hK3 _ ?_));refine zW (((s.fail 10).e:Int)≠0) rfl (λh0=>?_) (λh0=>absurd (by omega) h0);refine zA rfl ?_;exact zP (zR zY () rfl (by decide) rfl rfl rfl (λ_ _ _=>trivial) zU)
 refine zW ((s.l.length:Int)<(n:Int)) rfl (λh0=>?_) (λh0=>?_)
 ·refine s_lit ?_
  refine zB rfl ?_;refine l_R ([RdQ g s]++[]) rfl ?_;refine l_callA [ptV g,.int .i64 10] rfl rfl rfl own_wfails rfl rfl (λ_ _=>rfl) (wfails_S g s 10) (λ_ _ _=>trivial) λ_=>?_;exact zJ (hrest _ ⟨zE rfl, trivial, .refl _,λ_ _ _=>trivial, zU⟩)
 ·have he:s.e≠0:=λe=>h ⟨e,by omega⟩
  exact zO (hrest _ ⟨⟨rfl,rfl,trivial⟩,trivial,by rw [RSw.fail_e he],λ_ _ _=>trivial, zU⟩)
theorem RSw.can_cons{s:RSw}(h:s.can 1):∃x r,s.l=x::r:=by
 obtain⟨_,h⟩:=h
 cases hl:s.l with
 | nil=>rw [hl] at h;exact absurd h (by decide)
 | cons x r=>exact⟨x,r,rfl⟩
theorem wkind_yes(g:Nat)(s:RSw){x:UInt8}{r:List UInt8}(h:s.can 1)(hx:s.l=x::r):Spec 80 [ptV g] [RdQ g s] s.rd { ret:=λ_:Unit=>.v (.int .u8 (x.toNat:Int)),own:=λ_=>[RdQ g (s.cut 1)] }:=by
 refine zQ [.c (.v (ptV g))] 10 Tryz.func80 rfl (by rw [Tryz.ntmps80];rfl) (one_ok trivial) λb=>?_;refine zA rfl (zA rfl ?_);refine zM λK hK=>?_;refine s_anyP [0,1] 3 1 (λ_=>True) (by kernel_rfl) rfl (λ_ _ _=>trivial) ?_;refine p_frontO (.s 3 0 1 1) trivial 0 (by kernel_rfl) rfl rfl rfl rfl rfl (runO_all rfl Tryz.underlying210 rfl rfl) ?_;refine p_frontS (L0:=[]) zY 1 (by kernel_rfl) rfl rfl rfl rfl rfl rfl (λ_ h=>by cases h) (λ_ _ _ h=>by cases h) ?_;refine p_step 2 (by kernel_rfl) rfl λK1 hK1=>?_;refine l_R ([RdQ g s]++[]) rfl ?_;refine l_callA [ptV g,.int .i64 1] rfl rfl rfl (λ_ _=>by go_simp) rfl rfl (λ_ _=>rfl) (wtake_yes g s 1 h) (λ_ h _=>h) λ_=>?_;refine zJ (hK1 _ (λ_ _ _=>trivial) ?_);refine p_tail [3] (by kernel_rfl) rfl ?_;refine l_copyV (A:=s.A) (c:=s.c) (z:=[0]) (l:=[x]) rfl rfl rfl rfl rfl rfl rfl rfl (aF 1) (rd_fact λw h _=>?_) ?_
 ·have h2:s.rd w:=h.2
  have:=h2.take 1;rw [hx] at this;exact this
 refine zJ (hK _ (zC rfl λK2 hK2=>?_));refine l_op (.a 3 (0+1*0)) trivial rfl rfl rfl (runO_ixA 0 rfl Tryz.underlying210 rfl rfl rfl (by decide)) ?_;refine l_opV (.v (.int .u8 (x.toNat:Int))) trivial rfl rfl rfl (runO_ldA _ rfl rfl rfl rfl Tryz.underlying5 rfl) ?_;refine zB rfl (zJ (hK2 _ ?_));exact zP (zR zY () rfl (by decide) rfl rfl rfl (λ_ _ _=>trivial) zU)
theorem wkind_no(g:Nat)(s:RSw)(h:¬s.can 1):Spec 80 [ptV g] [RdQ g s] (λ_=>True) { ret:=λ_:Unit=>.v (.int .u8 0),own:=λ_=>[RdQ g (s.fail 10)] }:=by
 refine zQ [.c (.v (ptV g))] 10 Tryz.func80 rfl (by rw [Tryz.ntmps80];rfl) (one_ok trivial) λb=>?_;refine zA rfl (zA rfl ?_);refine zM λK hK=>?_;refine s_anyP [0,1] 3 1 (λ_=>True) (by kernel_rfl) rfl (λ_ _ _=>trivial) ?_;refine p_frontO (.s 3 0 1 1) trivial 0 (by kernel_rfl) rfl rfl rfl rfl rfl (runO_all rfl Tryz.underlying210 rfl rfl) ?_;refine p_frontS (L0:=[]) zY 1 (by kernel_rfl) rfl rfl rfl rfl rfl rfl (λ_ h=>by cases h) (λ_ _ _ h=>by cases h) ?_;refine p_step 2 (by kernel_rfl) rfl λK1 hK1=>?_;refine l_R ([RdQ g s]++[]) rfl ?_;refine l_callA [ptV g,.int .i64 1] rfl rfl rfl (λ_ _=>by go_simp) rfl rfl (λ_ _=>rfl) (wtake_no g s 1 h) (λ_ _ _=>trivial) λ_=>?_;refine zJ (hK1 _ (λ_ _ _=>trivial) ?_);refine p_tail [3] (by kernel_rfl) rfl ?_;refine l_copyV (A:=none) (c:=0) (z:=[0]) (l:=[]) rfl rfl rfl rfl rfl rfl rfl rfl (by decide) (rd_fact λw _ _=>Rd.nil _ _ _) ?_;refine zJ (hK _ (zC rfl λK2 hK2=>?_));refine l_op (.a 3 (0+1*0)) trivial rfl rfl rfl (runO_ixA 0 rfl Tryz.underlying210 rfl rfl rfl (by decide)) ?_;refine l_opV (.v (.int .u8 0)) trivial rfl rfl rfl (runO_ldA _ rfl rfl rfl rfl Tryz.underlying5 rfl) ?_;refine zB rfl (zJ (hK2 _ ?_));exact zP (zR zY () rfl (by decide) rfl rfl rfl (λ_ _ _=>trivial) zU)
theorem whash_yes(g:Nat)(s:RSw)(h:s.can 32):Spec 83 [ptV g] [RdQ g s] s.rd { ret:=λ_:Unit=>.q (eY 32 (s.l.take 32)),own:=λ_=>[RdQ g (s.cut 32)] }:=by
 refine zQ [.c (.v (ptV g))] 9 Tryz.func83 rfl (by rw [Tryz.ntmps83];rfl) (one_ok trivial) λb=>?_
 have hl:(s.l.take 32).length=32:=by rw [aU];have:=h.2;omega
 refine zA rfl (zA rfl ?_);refine zM λK hK=>?_;refine s_anyP [0,1] 3 1 (λ_=>True) (by kernel_rfl) rfl (λ_ _ _=>trivial) ?_;refine p_frontO (.s 3 0 32 32) trivial 0 (by kernel_rfl) rfl rfl rfl rfl rfl (runO_all rfl Tryz.underlying45 rfl rfl) ?_;refine p_frontS (L0:=[]) zY 1 (by kernel_rfl) rfl rfl rfl rfl rfl rfl (λ_ h=>by cases h) (λ_ _ _ h=>by cases h) ?_;refine p_step 2 (by kernel_rfl) rfl λK1 hK1=>?_;refine l_R ([RdQ g s]++[]) rfl ?_;refine l_callA [ptV g,.int .i64 32] rfl rfl rfl (λ_ _=>by go_simp) rfl rfl (λ_ _=>rfl) (wtake_yes g s 32 h) (λ_ h _=>h) λ_=>?_;refine zJ (hK1 _ (λ_ _ _=>trivial) ?_);refine p_tail [3] (by kernel_rfl) rfl ?_;refine l_copyV (A:=s.A) (c:=s.c) (z:=dJ) (l:=s.l.take 32) rfl rfl rfl rfl rfl (by rw [hl];rfl) rfl rfl (by rw [hl];exact aF _) (rd_fact λw h _=>?_) ?_
 ·have h2:s.rd w:=h.2
  exact h2.take 32
 rw [hl,show dJ.drop 32=[] from rfl,List.append_nil];refine zJ (hK _ (zA rfl ?_));exact zP (zR zY () rfl (by decide) rfl rfl rfl (λ_ _ _=>trivial) zU)
theorem whash_no(g:Nat)(s:RSw)(h:¬s.can 32):Spec 83 [ptV g] [RdQ g s] (λ_=>True) { ret:=λ_:Unit=>.q (eY 32 dJ),own:=λ_=>[RdQ g (s.fail 10)] }:=by
 refine zQ [.c (.v (ptV g))] 9 Tryz.func83 rfl (by rw [Tryz.ntmps83];rfl) (one_ok trivial) λb=>?_;refine zA rfl (zA rfl ?_);refine zM λK hK=>?_;refine s_anyP [0,1] 3 1 (λ_=>True) (by kernel_rfl) rfl (λ_ _ _=>trivial) ?_;refine p_frontO (.s 3 0 32 32) trivial 0 (by kernel_rfl) rfl rfl rfl rfl rfl (runO_all rfl Tryz.underlying45 rfl rfl) ?_;refine p_frontS (L0:=[]) zY 1 (by kernel_rfl) rfl rfl rfl rfl rfl rfl (λ_ h=>by cases h) (λ_ _ _ h=>by cases h) ?_;refine p_step 2 (by kernel_rfl) rfl λK1 hK1=>?_;refine l_R ([RdQ g s]++[]) rfl ?_;refine l_callA [ptV g,.int .i64 32] rfl rfl rfl (λ_ _=>by go_simp) rfl rfl (λ_ _=>rfl) (wtake_no g s 32 h) (λ_ _ _=>trivial) λ_=>?_;refine zJ (hK1 _ (λ_ _ _=>trivial) ?_);refine p_tail [3] (by kernel_rfl) rfl ?_;refine l_copyV (A:=none) (c:=0) (z:=dJ) (l:=[]) rfl rfl rfl rfl rfl rfl rfl rfl (by decide) (rd_fact λw _ _=>Rd.nil _ _ _) ?_;refine zJ (hK _ (zA rfl ?_));exact zP (zR zY () rfl (by decide) rfl rfl rfl (λ_ _ _=>trivial) zU)
end Go.Proofs.YtlhlkofpjhpaoaaGreatDoor
namespace Go.Proofs.YtlhlkofpjhpaoaaGreatDoor
open Go.RowKit Go.IntWalk Nums
theorem PW.cut_le:∀(n:Nat) {d:Nat} {l:List PairT} {ks:List (List UInt8)},(∀p∈l,OkT2 p)->(PW.cut n d l ks).bytes.length<=(70+2*n)*l.length+1
 | n,d,[],_,_=>by
  cases n<;>exact Nat.le_add_left _ _
 | n,d,p::l,[],_=>by
  have e:(PW.cut n d (p::l) []).bytes.length=33:=by
   cases n<;>(show(dX _ _).length+1=33;rw [rootT_len])
  rw [e,bD,Nat.mul_succ]
  omega
 | n,d,[p],k::ks,h=>by
  have hp:=h p aP
  have e:(PW.cut n d [p] (k::ks)).bytes.length=65:=by
   cases n<;>(show(1::(p.1++p.2)).length=65;rw [bD,aB,hp.1,hp.2])
  rw [e]
  show 65<=(70+2*n)*1+1
  omega
 | 0,d,p::q::l,k::ks,_=>by
  show 1<=_
  omega
 | n+1,d,p::q::l,k::ks,h=>by
  have h1:=cut_le n (d:=d+1) (l:=bS d (p::q::l)) (ks:=PW.keyL d (k::ks)) λx hx=>h x (fG.1 hx).1;have h2:=cut_le n (d:=d+1) (l:=bC d (p::q::l)) (ks:=PW.keyR d (k::ks)) λx hx=>h x (eF.1 hx).1;have h3:=PW.halves d (p::q::l)
  show(2::((PW.cut n (d+1) (bS d (p::q::l)) (PW.keyL d (k::ks))).bytes++(PW.cut n (d+1) (bC d (p::q::l)) (PW.keyR d (k::ks))).bytes)).length<=_
  rw [bD,aB,<-h3]
  have h4:2<=(bS d (p::q::l)).length+(bC d (p::q::l)).length:=by rw [h3];simp
  generalize (bS d (p::q::l)).length=a at *;generalize (bC d (p::q::l)).length=b at *
  have e:(70+2*(n+1))*(a+b)=(70+2*n)*a+(70+2*n)*b+2*(a+b):=by
   rw [show 70+2*(n+1)=(70+2*n)+2 by omega,Nat.add_mul,Nat.mul_add]
  rw [e]
  omega
section
variable{α:Type}{fe:α->SQ}{l:List α}{P:Program}{T:List TyR}{b:Base}{ops:Array Oper}{Q:Exit->Act->World->Prop}{N:Nat}{E:SE}{L:List LV}{R:List Res}{F M:World->Prop}{o:Oper}{rest:List Oper}{k:Nat}{t e:TypeId}{x z:Operand}{lo c sz g:Nat}
theorem l_stFd{q:SQ}(i j off n:Nat)(u u':α)(hi:R[i]?=some (OwnS lo e sz fe (some ⟨g,0,none⟩) c l))(hg:o.guard=none)(hd:o.dst=none)(ho:o.op = .store t x z)(hx:evS E x=some (.v (.pointer (some ⟨g,sz*j+off,none⟩))))(hz:evS E z=some (.q q))(hj:l[j]?=some u)(ht:(P.info? t).map (·.size)=some n)(hn:q.cl.length=n)(hone:∀v∈q.cl,v.oneCell'=true)
 (hcl:(fe u').cl=(fe u).cl.take off++q.cl++(fe u).cl.drop (off+n))(hfit:off+n<=sz)(hok':OkP (fe u').parts1/\(fe u').cl.length=sz)
 (hc:lS P b ops Q N rest ⟨E,L,R.set i (OwnS lo e sz fe (some ⟨g,0,none⟩) c (l.set j u')),F,M⟩):lS P b ops Q N (o::rest) ⟨E,L,R,F,M⟩:=λa w ⟨G,S,f1,f2,f3⟩=>by
 obtain⟨S1,⟨hokl,hrow,hS1⟩,hput⟩:=f3.put hi
 rcases hrow.2 with⟨h6,h7⟩|⟨g',cap,cur,hv,hb,hg',hnc,hmx,hcs,htk⟩
 ·injection h6 with h6
  cases h6
 injection hv with v1 _ v2
 injection v1 with v1
 injection v1 with v1
 subst v1;have hB:Blk w g e cur:=hg';have e1:a.eval x = .pointer (some ⟨g,sz*j+off,none⟩):=f1.eval (evS_ok hx);have e2:a.eval z=q.den:=f1.eval (evS_ok hz);obtain⟨B,Z,s1,s2,s3⟩:=flatF_split hokl hj;have hul:=(hokl u (List.mem_of_getElem? hj)).2
 have hfl:(flatF fe l).length=B.length+(sz+Z.length):=by rw [s1,aB,aB,hul]
 have hmc:sz*j+off+n<=cur.size:=by
  have h1:(flatF fe l).length<=cur.size:=by
   rw [<-htk,aU,<-a9];exact Nat.min_le_right _ _
  omega
 have hqs:q.den.cells.size=n:=by rw [<-hn];exact(a9).symm
 have hst:=run_store_part (P:=P) (t:=t) (v:=q.den) (off:=sz*j+off) hB (by rw [ht,hqs]) (by rw [hqs];exact hmc) hone;rw [hqs] at hst;have hB':=hB.row (cur.toList.take (sz*j+off)++q.den.cells.toList++cur.toList.drop (sz*j+off+n)).toArray
 have hok2:OkF sz fe (l.set j u'):=λy hy=>by
  rcases List.mem_or_eq_of_mem_set hy with h|rfl
  ·exact hokl y h
  ·exact hok'
 have hll:(l.set j u').length=l.length:=bQ
 have hnew:flatF fe (l.set j u')=(flatF fe l).take (sz*j+off)++q.cl++(flatF fe l).drop (sz*j+off+n):=by
  rw [s3,s1,hcl,<-s2]
  have t1:(B++((fe u).cl++Z)).take (B.length+off)=B++(fe u).cl.take off:=by
   rw [List.take_append,bG (by omega),Nat.add_sub_cancel_left,List.take_append_of_le_length (by omega)]
  have t2:(B++((fe u).cl++Z)).drop (B.length+off+n)=(fe u).cl.drop (off+n)++Z:=by
   rw [List.drop_append,List.drop_of_length_le (by omega),List.nil_append,show B.length+off+n-B.length=off+n by omega,List.drop_append_of_le_length (by omega)]
  rw [t1,t2];simp only [List.append_assoc]
 obtain⟨S'',h12⟩:=hput (OwnS lo e sz fe (some ⟨g,0,none⟩) c (l.set j u')) (w.setRow g (cur.toList.take (sz*j+off)++q.den.cells.toList++cur.toList.drop (sz*j+off+n)).toArray) S1 ((Chg.row w g _).mono λk _ hk=>(hS1 k).2 (by rw [hk];rfl))
  ⟨hok2,⟨by rw [flatF_len hok2],.inr ⟨g,cap,_,by rw [hll,v2],hb,hB',by rw [hll];exact hnc,hmx,by
   have h1:cur.toList.length=cur.size:=a9
   have h2:q.den.cells.toList.length=n:=by rw [a9,hqs]
   rw [aT,aB,aB,aU,dC,h2,h1,<-hcs]
   omega,by
   have h1:cur.toList.length=cur.size:=a9
   have h2:q.den.cells.toList.length=n:=by rw [a9,hqs]
   have h3:l.length*sz=(flatF fe l).length:=(flatF_len hokl).symm;rw [hll,hnew,h3];rw [h3] at htk
   show List.take _ (cur.toList.take (sz*j+off)++q.den.cells.toList++cur.toList.drop (sz*j+off+n))=_
   rw [List.take_append,bG (by rw [aB,aU,h2];omega),aB,aU,h2,cM (by omega)]
   conv=>rhs;rw [<-htk]
   rw [List.take_take,cM (by omega),List.drop_take]
   rfl⟩⟩,hS1⟩ (λk hk _=>hk)
 refine wpl_skip (w':=w.setRow g (cur.toList.take (sz*j+off)++q.den.cells.toList++cur.toList.drop (sz*j+off+n)).toArray) (oneS hg) (by
  unfold execOp
  simp only [ho,e1,e2,hst,aG,aH,aD]) ?_
 rw [hd];exact hc _ _ ⟨G,S'',f1,f2,h12⟩
end
theorem By_setH(l:List UInt8)(i:Nat)(y:UInt8):By (l.set i y)=(By l).set i (.int .u8 (y.toNat:Int)):=List.map_set
def WayB(wy:List UInt8)(way:List Nat):Prop:=wy.length=32/\way.length<=256/\(∀i,i<way.length->cK wy i=way[i]!)/\∀i,way.length<=i->i<256->cK wy i=0
def plQ(wy:List UInt8)(d:Nat):SQ:=.p [.agg 32 (By wy).toArray,.one (.v (.int .i64 (d:Int)))]
theorem plQ_ok{wy:List UInt8}(h:wy.length=32)(d:Nat):(plQ wy d).Ok:=λp hp=>by
 rcases aL.1 hp with rfl|hp
 ·exact agg_ok h
 ·rw [aE.1 hp]
  exact⟨trivial,rfl,rfl⟩
theorem bitT_zero(i:Nat):cK dJ i=0:=by
 unfold cK
 have:(dJ[i/8]!)=0:=by
  by_cases h:i/8<32
  ·rw [getElem!_pos dJ (i/8) h]
   show(List.replicate 32 (0:UInt8))[i/8]=0
   exact List.getElem_replicate ..
  ·rw [getElem!_neg dJ (i/8) (by show ¬i/8<32;exact h)]
   rfl
 rw [this]
 simp
theorem WayB.nil:WayB dJ []:=⟨rfl,aI _,λ_ h=>absurd h (oN _),λi _ _=>bitT_zero i⟩
theorem or_bit:∀k:Nat,k<256->∀j:Nat,j<8->∀b:Nat,b<2->k/2^j%2=0->bits .or .u8 (k:Int) ((b*2^j:Nat):Int)=((k+b*2^j:Nat):Int):=by
 have key:∀k:Nat,k<256->∀j:Nat,j<8->∀b:Nat,b<2->k/2^j%2=0->bits .or .u8 (k:Int) ((b*2^j:Nat):Int)=((k+b*2^j:Nat):Int):=by decide +kernel
 exact key
theorem set_bit:∀k:Nat,k<256->∀j:Nat,j<8->∀b:Nat,b<2->k/2^j%2=0->k+b*2^j<256/\∀i,i<8->(k+b*2^j)/2^i%2=if i=j then b else k/2^i%2:=by
 decide +kernel
def wayS(wy:List UInt8)(d b:Nat):List UInt8:=wy.set (d/8) (bK ((wy[d/8]!).toNat+b*2^(7-d%8)))
theorem bitT_set{wy:List UInt8}(hl:wy.length=32){d b:Nat}(hd:d<256)(hb:b<2)(h0:cK wy d=0):(wayS wy d b).length=32/\∀i,i<256->cK (wayS wy d b) i=if i=d then b else cK wy i:=by
 refine⟨by rw [wayS,bQ];exact hl,λi hi=>?_⟩;have hk:=(wy[d/8]!).toNat_lt;obtain⟨h1,h2⟩:=set_bit _ hk (7-d%8) (by omega) b hb h0
 unfold wayS cK
 by_cases e:i/8=d/8
 ·rw [e,getElem!_pos _ (d/8) (by rw [bQ];omega),List.getElem_set_self,mK,(aY h1:(_+b*2^(7-d%8))%2^8=_),h2 (7-i%8) (by omega)]
  by_cases e2:i=d
  ·rw [if_pos e2,if_pos (by rw [e2])]
  ·rw [if_neg e2,if_neg (by omega)]
 ·rw [if_neg (λh=>e (by rw [h])),getElem!_pos _ (i/8) (by rw [bQ];omega),List.getElem_set_ne (by omega),<-getElem!_pos wy (i/8) (by omega)]
theorem WayB.more{wy:List UInt8}{way:List Nat}(h:WayB wy way)(hlt:way.length<256){b:Nat}(hb:b<2):WayB (wayS wy way.length b) (way++[b]):=by
 obtain⟨h1,h2,h3,h4⟩:=h;obtain⟨k1,k2⟩:=bitT_set h1 hlt hb (h4 _ (aF _) hlt)
 have elen:(way++[b]).length=way.length+1:=by rw [aB,bB]
 refine⟨k1,by rw [elen];exact hlt,λi hi=>?_,λi hi hi2=>?_⟩
 ·rw [elen] at hi
  rw [k2 i (by omega)]
  by_cases e:i=way.length
  ·subst e
   rw [if_pos rfl,getElem!_pos _ _ (by rw [elen];omega),List.getElem_append_right (aF _)]
   simp
  ·rw [if_neg e,h3 i (by omega),getElem!_pos way i (by omega),getElem!_pos _ i (by rw [elen];omega),List.getElem_append_left (by omega)]
 ·rw [elen] at hi
  rw [k2 i hi2,if_neg (by omega),h4 i (by omega) hi2]
section
variable{N:Nat}{E:SE}{o:Oper}{x y:Operand}{t':TypeId}
theorem run_shlW{m n:Nat}(hn:n<=7)(hm:m*2^n<256)(ho:o.op = .binOp .shl 5 x y t')(hx:evS E x=some (.v (.int .u8 (m:Int))))(hy:evS E y=some (.v (.int .i64 (n:Int)))) :
  ∀(G:Nat->Nat) (a:Act) (w:World),Fr N (denE G E) a->(execOp a.eval o).run Tryz.prog w = .ok (.value ((SV.v (.int .u8 ((m*2^n:Nat):Int))).den G)) w:=λG a w ha=>by
 have h1:a.eval x = .int .u8 (m:Int):=ha.eval (evS_ok hx);have h2:a.eval y = .int .i64 (n:Int):=ha.eval (evS_ok hy)
 unfold execOp
 simp only [ho,h1,h2]
 go_simp
 have h4:0<=((m*2^n:Nat):Int):=Int.natCast_nonneg _;have h5:((m*2^n:Nat):Int)<256:=Int.ofNat_lt.2 hm;rw [Int.natCast_mul,Int.natCast_pow] at h4 h5;exact congrArg (bM .u8) (wrapB rfl h4 h5)
theorem run_or8{m n:Int}(ho:o.op = .binOp .or 5 x y t')(hx:evS E x=some (.v (.int .u8 m)))(hy:evS E y=some (.v (.int .u8 n))) :
  ∀(G:Nat->Nat) (a:Act) (w:World),Fr N (denE G E) a->(execOp a.eval o).run Tryz.prog w = .ok (.value ((SV.v (.int .u8 (bits .or .u8 m n))).den G)) w:=λG a w ha=>by
 have h1:a.eval x = .int .u8 m:=ha.eval (evS_ok hx);have h2:a.eval y = .int .u8 n:=ha.eval (evS_ok hy)
 unfold execOp
 simp only [ho,h1,h2]
 go_simp
 rfl
end
theorem pl_at{wy:List UInt8}(h:wy.length=32){s:SC}{j:Nat}(hj:j<32):(catP [.agg 32 (By wy).toArray,.one s])[j]?=some (.int .u8 ((wy[j]!).toNat:Int)):=by
 have h2:=row32 h
 show((By wy).toArray ++ #[s.den])[j]?=_
 rw [Array.getElem?_append_left (by omega)];exact By_get (by omega)
theorem pl_set{wy:List UInt8}{s:SC}{j:Nat}(y:UInt8)(hj:j<wy.length):(catP [.agg 32 (By (wy.set j y)).toArray,.one s]).toList=(catP [.agg 32 (By wy).toArray,.one s]).toList.set j (.int .u8 (y.toNat:Int)):=by
 show((By (wy.set j y)).toArray ++ #[s.den]).toList=((By wy).toArray ++ #[s.den]).toList.set j _
 rw [dI,dI,List.set_append_left _ _ (by rw [By_len];exact hj),By_setH]
theorem wside_S{wy:List UInt8}{way:List Nat}(h:WayB wy way)(hlt:way.length<256){b:Nat}(hb:b<2):Spec 121 [(plQ wy way.length).den,.int .u8 (b:Int)] [] (λ_=>True) (one (.q (plQ (wayS wy way.length b) (way.length+1)))):=by
 obtain⟨h1,h2,h3,h4⟩:=h;have hz:=h4 _ (aF _) hlt;obtain⟨d,hd⟩:∃d,way.length=d:=⟨_,rfl⟩;rw [hd] at hlt hz ⊢;clear h2 h3 h4;refine zQ [plQ wy d,.c (.v (.int .u8 (b:Int)))] 25 Tryz.func121 rfl (by rw [Tryz.ntmps121];rfl) (two_ok (plQ_ok h1 d) trivial) λbb=>?_;have hk:=(wy[d/8]!).toNat_lt;have hkz:(wy[d/8]!).toNat/2^(7-d%8)%2=0:=hz;have hsb:=(set_bit _ hk (7-d%8) (by omega) b hb hkz).1;have hor:=or_bit _ hk (7-d%8) (by omega) b hb hkz
 have hsh:b*2^(7-d%8)<256:=by omega
 have hw:(bK ((wy[d/8]!).toNat+b*2^(7-d%8))).toNat=(wy[d/8]!).toNat+b*2^(7-d%8):=by rw [mK];exact aY hsb
 have hws:wayS wy d b=wy.set (d/8) (bK ((wy[d/8]!).toNat+b*2^(7-d%8))):=rfl;have hat:=pl_at h1 (s:=.v (.int .i64 (d:Int))) (j:=d/8) (by omega)
 have hwl:(wayS wy d b).length=32:=by rw [hws,bQ];exact h1
 have hset:=pl_set (wy:=wy) (s:=.v (.int .i64 (d:Int))) (j:=d/8) (bK ((wy[d/8]!).toNat+b*2^(7-d%8))) (by omega);rw [<-hws,hw] at hset;generalize (wy[d/8]!).toNat=k at *;generalize wayS wy d b=wy' at *;refine zA rfl ?_;refine s_regD 14 (by decide) (by kernel_rfl) (by kernel_rfl) λK1 hK1 G S w0 hst=>?_;refine g_autoS zY hst rfl ?_;refine g_num 7 ((d/8:Nat):Int) rfl (wrapQ d 8 (by omega)) ?_;refine g_autoS zY hst rfl ?_;refine g_opS (.a 2 (0+0+1*(d/8))) trivial rfl rfl rfl (runO_ixA (d/8) rfl Tryz.underlying45 rfl rfl rfl (by omega)) ?_;refine g_opV hst (.v (.int .u8 (k:Int))) trivial rfl rfl rfl (runO_ldA _ rfl rfl rfl (by simpa using hat) Tryz.underlying5 rfl) ?_;refine g_autoS zY hst rfl ?_;refine g_num 15 ((7-d%8:Nat):Int) rfl (wrapI (by rw [Int.tmod_eq_emod_of_nonneg (by omega)];omega) (by omega) (by omega)) ?_;refine g_opS (.v (.int .u8 ((b*2^(7-d%8):Nat):Int))) trivial rfl rfl rfl (run_shlW (by omega) hsh rfl rfl rfl) ?_;refine g_opS (.v (.int .u8 (bits .or .u8 (k:Int) ((b*2^(7-d%8):Nat):Int)))) trivial rfl rfl rfl (run_or8 rfl rfl rfl) ?_;refine g_num 17 ((k+b*2^(7-d%8):Nat):Int) rfl hor ?_;refine g_autoS zY hst rfl ?_;refine g_endS hst ?_;refine l_op (.a 2 (0+0+1*(d/8))) trivial rfl rfl rfl (runO_ixA (d/8) rfl Tryz.underlying45 rfl rfl rfl (by omega)) ?_
 refine l_stA [.agg 32 (By wy').toArray,.one (.v (.int .i64 (d:Int)))] rfl rfl rfl rfl rfl rfl rfl rfl rfl (by
  have e:=OkP.size (plQ_ok h1 d)
  show _<(catP [.agg 32 (By wy).toArray,.one (.v (.int .i64 (d:Int)))]).size
  rw [e]
  show 0+0+1*(d/8)<33
  omega) (plQ_ok hwl d) (by simpa using hset) ?_
 refine zJ (hK1 _ ?_);refine zA rfl (zA rfl ?_);exact zP (zR zY () rfl (by decide) rfl (congrArg (λz:Int=>RV.q (.p [.agg 32 (By wy').toArray,.one (.v (.int .i64 z))])) (wrapI (m:=(d:Int)+1) (r:=((d+1:Nat):Int)) rfl (by omega) (by omega)).symm) rfl (λ_ _ _=>trivial) zU)
theorem wrap_byte{i:Nat}(h:i<256):IntKind.u8.wrap (i:Int)=(i:Int):=wrapB rfl (Int.natCast_nonneg _) (by omega)
theorem wleads_S{wy k:List UInt8}{way:List Nat}(h:WayB wy way)(hk:k.length=32):Spec 120 [(plQ wy way.length).den,(eY 32 k).den] [] (λ_=>True) (one (.v (.bool (decide (Leads way k))))):=by
 obtain⟨h1,h2,h3, -⟩:=h;refine zQ [plQ wy way.length,eY 32 k] 22 Tryz.func120 rfl (by rw [Tryz.ntmps120];rfl) (two_ok (plQ_ok h1 _) (eY_ok hk).1) λb=>?_;refine zA rfl (zM λK hK=>?_);refine zA rfl (zN ?_)
 let F:Nat->Env:=λi=>⟨[(8,.v (.int .i64 (i:Int))),(7,.v (.int .i64 (way.length:Int))),(3,.a 3 0),(2,.a 2 0)],[⟨3,none,45,[.agg 32 (By k).toArray]⟩,⟨2,none,128,[.agg 32 (By wy).toArray,.one (.v (.int .i64 (way.length:Int)))]⟩],[],λ_=>True,λ_=>True⟩
 refine c_weak (e':=F 0) ⟨zE rfl, zL rfl rfl, .refl _,λ_ _ _=>trivial, zU⟩ (s_loop (λi=>way.length-i) F (λi=>i<=way.length/\∀j,j<i->cK k j=way[j]!) ?_ 0 ⟨aI _,λ_ h=>absurd h (oN _)⟩)
 rintro i ⟨hi,ht⟩
 refine zA rfl (zM λK1 hK1=>?_);refine zW ((i:Int)<(way.length:Int)) rfl (λhlt=>?_) (λhge=>?_)
 ·have hil:i<way.length:=by omega
  have hi256:i<256:=by omega
  refine zO (hK1 _ (zM λK2 hK2=>?_));refine zN (zA rfl ?_);refine s_regD 10 (by decide) (by kernel_rfl) (by kernel_rfl) λK3 hK3 G S w0 hst=>?_;refine g_autoS zY hst rfl ?_;refine g_num 13 (i:Int) rfl (wrap_byte hi256) ?_;refine g_callS (F':=λ_=>True) hst [(eY 32 k).den,.int .u8 (i:Int)] rfl rfl rfl own_wbit rfl rfl (λ_=>rfl) (wbit_S hk i hi256) trivial (λ_ _ _ _=>trivial) ?_;refine g_autoS zY hst rfl ?_;refine g_num 18 (i:Int) rfl (wrap_byte hi256) ?_;refine g_callS (F':=λ_=>True) hst [(eY 32 wy).den,.int .u8 (i:Int)] rfl rfl rfl own_wbit rfl rfl (λ_=>rfl) (wbit_S h1 i hi256) trivial (λ_ _ _ _=>trivial) ?_;refine g_autoS zY hst rfl ?_;refine g_endS hst ?_;refine zJ (hK3 _ ?_);have hwi:=h3 i hil;refine zW (((cK k i:Nat):Int)≠((cK wy i:Nat):Int)) rfl (λhne=>?_) (λhe=>?_)
  ·refine zA rfl ?_
   exact zP (zR zY () rfl (by decide) rfl (congrArg (λt=>RV.v (.bool t)) (decide_eq_false λhl=>hne (by rw [hl i hil,hwi]))) rfl (λ_ _ _=>trivial) zU)
  ·refine zO (hK2 _ ?_)
   refine zD rfl ?_
   exact zX (i+1) ⟨hil,λj hj=>by
    by_cases e:j=i
    ·subst e
     rw [<-hwi]
     omega
    ·exact ht j (by omega)⟩ (by show way.length-(i+1)<way.length-i;omega) ⟨⟨congrArg some (congrArg SV.v (congrArg (bM .i64) (wrapI rfl (by omega) (by omega)))),rfl,rfl,rfl,trivial⟩,zL rfl rfl, .refl _,λ_ _ _=>trivial, zU⟩
 ·refine s_exit (zS (zS (k_out ?_)))
  refine hK _ ?_;refine zA rfl ?_;exact zP (zR zY () rfl (by decide) rfl (congrArg (λt=>RV.v (.bool t)) (decide_eq_true λj hj=>ht j (by omega))) rfl (λ_ _ _=>trivial) zU)
theorem wleast_S{w:PW}(h:w.Good):Spec 122 [w.val] [] (λ_=>True) (one (.v (.int .i64 ((min w.kind 2:Nat):Int)))):=by
 refine zQ [.c (.v w.val)] 10 Tryz.func122 rfl (by rw [Tryz.ntmps122];rfl) (one_ok trivial) λb=>?_;refine zA rfl (zM λK hK=>?_);refine zA rfl (zN ?_);refine zC rfl λK1 hK1=>?_;refine l_kind 0 h (by decide) rfl rfl rfl rfl rfl ?_;refine zB rfl (zJ (hK1 _ ?_))
 cases w with
 | empty =>
  refine s_yes rfl ?_;refine zA rfl ?_;exact zP (zR zY () rfl (by decide) rfl rfl rfl (λ_ _ _=>trivial) zU)
 | leaf p =>
  refine s_no rfl ?_;refine zC rfl λK2 hK2=>?_;refine l_kind (W:=.leaf p) 1 h (by decide) rfl rfl rfl rfl rfl ?_;refine zB rfl (zJ (hK2 _ ?_));refine s_yes rfl ?_;refine zA rfl ?_;exact zP (zR zY () rfl (by decide) rfl rfl rfl (λ_ _ _=>trivial) zU)
 | inner x y =>
  refine s_no rfl ?_;refine zC rfl λK2 hK2=>?_;refine l_kind (W:=.inner x y) 1 h (by decide) rfl rfl rfl rfl rfl ?_;refine zB rfl (zJ (hK2 _ ?_));refine s_no rfl ?_;refine zO (hK _ (zA rfl ?_));exact zP (zR zY () rfl (by decide) rfl rfl rfl (λ_ _ _=>trivial) zU)
 | hid l =>
  refine s_no rfl ?_;refine zC rfl λK2 hK2=>?_;refine l_kind (W:=.hid l) 1 h (by decide) rfl rfl rfl rfl rfl ?_;refine zB rfl (zJ (hK2 _ ?_));refine s_no rfl ?_;refine zO (hK _ (zA rfl ?_));exact zP (zR zY () rfl (by decide) rfl rfl rfl (λ_ _ _=>trivial) zU)
instance{s:RSw}{n:Nat}:Decidable (s.can n):=inferInstanceAs (Decidable (s.e=0/\n<=s.l.length))
def RSw.go(s:RSw)(n:Nat):RSw:=if s.can n then s.cut n else s.fail 10
def RSw.hv(s:RSw):List UInt8:=if s.can 32 then s.l.take 32 else dJ
theorem RSw.go_rd{s:RSw}{n:Nat}{w:World}(h:s.rd w):(s.go n).rd w:=by
 unfold RSw.go
 split
 ·rename_i hc
  exact RSw.rd_cut h hc.2
 ·exact h
theorem RSw.hv_len(s:RSw):s.hv.length=32:=by
 unfold RSw.hv
 split
 ·rename_i hc
  rw [aU,cM hc.2]
 ·rfl
theorem whash_S(g:Nat)(s:RSw):Spec 83 [ptV g] [RdQ g s] s.rd { ret:=λ_:Unit=>.q (eY 32 s.hv),own:=λ_=>[RdQ g (s.go 32)] }:=by
 unfold RSw.hv RSw.go
 by_cases h:s.can 32
 ·rw [if_pos h,if_pos h]
  exact whash_yes g s h
 ·rw [if_neg h,if_neg h]
  exact(whash_no g s h).imp λ_ _=>trivial
abbrev ResP:=Except Nat (PW×List UInt8)
def Out(r:ResP)(x:PW×RSw):Prop:=x.1.Good/\match r with
  | .ok (w,l)=>x.1=w/\x.2.l=l/\x.2.e=0
  | .error e=>x.2.e=e/\e≠0
def rdR(n:Nat)(way:List Nat)(s:RSw):ResP:=if s.e=0 then PW.read n way s.l else .error s.e
def readLeaf(way:List Nat)(b:List UInt8):ResP:=if b.length<64 then .error 10 else if Leads way (b.take 32) then .ok (.leaf (b.take 32,(b.drop 32).take 32),b.drop 64) else .error 13
def readIn(n:Nat)(way:List Nat)(b:List UInt8):ResP:=match n with
  | 0=>.error 13
  | n+1=>match PW.read n (way++[0]) b with
    | .error e=>.error e
    | .ok (l,b1)=>match PW.read n (way++[1]) b1 with
      | .error e=>.error e
      | .ok (r,b2)=>if PW.bad l r then .error 13 else .ok (.inner l r,b2)
def readHid(b:List UInt8):ResP:=if b.length<32 then .error 10 else .ok (.hid (b.take 32),b.drop 32)
theorem read_cons(n:Nat)(way:List Nat)(x:UInt8)(b:List UInt8):PW.read n way (x::b)=if x=0 then .ok (.empty,b) else if x=1 then readLeaf way b else if x=2 then readIn n way b else if x=3 then readHid b else .error 13:=by
 unfold readLeaf readIn readHid
 cases n<;>(conv=>lhs;unfold PW.read)<;>rfl
theorem read_nil(n:Nat)(way:List Nat):PW.read n way [] = .error 10:=by
 cases n<;>unfold PW.read<;>rfl
abbrev rnPost(g:Nat)(r:ResP):Post { x:PW×RSw // Out r x }:={ ret:=λx=>.v x.1.1.val,own:=λx=>[RdQ g x.1.2],p:=λx=>x.1.2.rd }
theorem leaf_out{s:RSw}{way:List Nat}(h0:s.e=0):Out (readLeaf way s.l) (.leaf (s.hv,(s.go 32).hv),if Leads way s.hv then(s.go 32).go 32 else((s.go 32).go 32).fail 13):=by
 refine⟨⟨s.hv_len,(s.go 32).hv_len⟩,?_⟩
 unfold readLeaf
 by_cases h1:s.can 32
 ·have e1:s.hv=s.l.take 32:=if_pos h1
  have e2:s.go 32=s.cut 32:=if_pos h1;rw [e2,e1]
  by_cases h2:s.l.length<64
  ·rw [if_pos h2]
   have hc:¬(s.cut 32).can 32:=λh=>by
    have:=h.2;rw [RSw.cut,dC] at this
    omega
   have e3:(s.cut 32).go 32=(s.cut 32).fail 10:=if_neg hc;rw [e3]
   have e4:((s.cut 32).fail 10).e=10:=by rw [RSw.fail_0 (show(s.cut 32).e=0 from h0)]
   rw [RSw.fail_e (s:=(s.cut 32).fail 10) (by rw [e4];decide),ite_self];exact⟨e4,by decide⟩
  ·rw [if_neg h2]
   have hc:(s.cut 32).can 32:=⟨h0,by rw [RSw.cut,dC];omega⟩;have e3:(s.cut 32).go 32=(s.cut 32).cut 32:=if_pos hc;have e5:(s.cut 32).hv=(s.l.drop 32).take 32:=if_pos hc;rw [e3,e5]
   by_cases h3:Leads way (s.l.take 32)
   ·rw [if_pos h3,if_pos h3]
    exact⟨rfl,by show(s.l.drop 32).drop 32=_;rw [List.drop_drop],h0⟩
   ·rw [if_neg h3,if_neg h3]
    exact⟨by rw [RSw.fail_0 (show((s.cut 32).cut 32).e=0 from h0)],by decide⟩
 ·have h2:s.l.length<64:=by
   have:¬32<=s.l.length:=λh=>h1 ⟨h0,h⟩
   omega
  rw [if_pos h2];have e2:s.go 32=s.fail 10:=if_neg h1
  have e4:(s.fail 10).e=10:=by rw [RSw.fail_0 h0]
  rw [e2]
  have e3:(s.fail 10).go 32=s.fail 10:=by
   have:(s.fail 10).go 32=(s.fail 10).fail 10:=if_neg λh=>by rw [h.1] at e4;cases e4
   rw [this,RSw.fail_e (by rw [e4];decide)]
  rw [e3,RSw.fail_e (s:=s.fail 10) (x:=13) (by rw [e4];decide),ite_self];exact⟨e4,by decide⟩
theorem wrleaf_S(g:Nat)(s:RSw){wy:List UInt8}{way:List Nat}(h:WayB wy way)(h0:s.e=0):Spec 81 [ptV g,(plQ wy way.length).den] [RdQ g s] (λw=>s.rd w/\Tsh w) (rnPost g (readLeaf way s.l)):=by
 refine zQ [.c (.v (ptV g)),plQ wy way.length] 20 Tryz.func81 rfl (by rw [Tryz.ntmps81];rfl) (two_ok trivial (plQ_ok h.1 _)) λb=>?_;have hout:=leaf_out (way:=way) h0;have hl1:=s.hv_len;have hl2:=(s.go 32).hv_len;have hq:OkT2 (s.hv,(s.go 32).hv):=⟨hl1,hl2⟩;have hrd:∀w,s.rd w->((s.go 32).go 32).rd w:=λw hw=>RSw.go_rd (RSw.go_rd hw);have hrd1:∀w,s.rd w->(s.go 32).rd w:=λw hw=>RSw.go_rd hw;have hh1:=whash_S g s;have hh2:=whash_S g (s.go 32);generalize hs2:(s.go 32).go 32=s2 at *;generalize hs1:s.go 32=s1 at *;generalize hk1:s.hv=k1 at *;generalize hk2:s1.hv=k2 at *;have hlf:=wleafOf_S hq;refine zA rfl (zC rfl λK hK=>?_);refine l_R ([RdQ g s]++[]) rfl ?_;refine l_callA [ptV g] rfl rfl rfl (λ_ _=>by go_simp) rfl rfl (λ_ _=>rfl) hh1 (λ_ h _=>h.1) λ_=>?_;refine zB rfl ?_;refine l_R ([RdQ g s1]++[]) rfl ?_;refine l_callA [ptV g] rfl rfl rfl (λ_ _=>by go_simp) rfl rfl (λ_ _=>rfl) hh2 (λw h _=>hrd1 w h.2.1) λ_=>?_;refine l_call0 [(eY 32 k1).den,(eY 32 k2).den] rfl rfl rfl (λ_ _=>by go_simp) rfl rfl (λ_ _=>rfl) hlf (λ_ h _=>h.2.2.2) λ_=>?_;refine zB rfl (zJ (hK _ ?_));refine zM λK1 hK1=>?_;refine zC rfl λK2 hK2=>?_;refine l_call0 [(plQ wy way.length).den,(eY 32 k1).den] rfl rfl rfl (λ_ _=>by go_simp) rfl rfl (λ_ _=>rfl) (wleads_S h hl1) (λ_ _ _=>trivial) λ_=>?_
 have hrest:∀s3,Out (readLeaf way s.l) (.leaf (k1,k2),s3)->(∀w,s.rd w->s3.rd w)->∀en,Weak en ⟨[(5,.a 5 0)],[⟨5,none,160,(PW.leaf (k1,k2)).ps⟩],[RdQ g s3],s.rd,λ_=>True⟩->kS b K1 20 en:=by
  intro s3 ho hr en hw
  refine k_weak hw (hK1 _ ?_);refine zC rfl λK3 hK3=>?_;refine l_op (.v (PW.leaf (k1,k2)).val) trivial rfl rfl rfl (run_mkI (q:=.p (PW.leaf (k1,k2)).ps) rfl Tryz.underlying160 rfl rfl) ?_;refine zB rfl (zJ (hK3 _ ?_));exact zP (zR zY ⟨(.leaf (k1,k2),s3),ho⟩ rfl (by decide) rfl rfl rfl (λw h _=>hr w h) zU)
 by_cases hlead:Leads way k1
 ·rw [if_pos hlead] at hout
  refine l_eq 14 (.v (.bool true)) rfl (congrArg (λt=>SV.v (.bool t)) (decide_eq_true hlead)) ?_;refine zB rfl (zJ (hK2 _ ?_));refine s_no rfl ?_;exact zO (hrest s2 hout hrd _ ⟨zE rfl, zL rfl rfl, .refl _,λ_ h _=>h.2.2.2.2.1, zU⟩)
 ·rw [if_neg hlead] at hout
  refine l_eq 14 (.v (.bool false)) rfl (congrArg (λt=>SV.v (.bool t)) (decide_eq_false hlead)) ?_;refine zB rfl (zJ (hK2 _ ?_));refine s_yes rfl ?_;refine s_lit (zB rfl ?_);refine l_R ([RdQ g s2]++[]) rfl ?_;refine l_callA [ptV g,.int .i64 13] rfl rfl rfl own_wfails rfl rfl (λ_ _=>rfl) (wfails_S g s2 13) (λ_ _ _=>trivial) λ_=>?_;exact zJ (hrest (s2.fail 13) hout hrd _ ⟨zE rfl, zL rfl rfl, .refl _,λ_ h _=>h.2.2.2.2.2.1, zU⟩)
def NodeS(n:Nat):Prop:=∀(way:List Nat) (wy:List UInt8) (s:RSw) (g:Nat),n+way.length=256->WayB wy way->Spec 60 [ptV g,(plQ wy way.length).den] [RdQ g s] (λw=>s.rd w/\Tsh w) (rnPost g (rdR n way s))
theorem bad_least(a b:PW):PW.bad a b=decide (min a.kind 2+min b.kind 2<2):=by
 unfold PW.bad
 have h1:=kind_lt a;have h2:=kind_lt b;generalize a.kind=x at *;generalize b.kind=y at *
 have key:∀x,x<4->∀y,y<4->((x==0&&y==0)||(x==0&&y==1)||(x==1&&y==0))=decide (min x 2+min y 2<2):=by decide
 exact key x h1 y h2
theorem in_out{m:Nat}{way:List Nat}{s s1 s2:RSw}{x y:PW}(h0:s.e=0)(h1:Out (rdR m (way++[0]) s) (x,s1))(h2:Out (rdR m (way++[1]) s1) (y,s2)):Out (readIn (m+1) way s.l) (.inner x y,if PW.bad x y then s2.fail 13 else s2):=by
 obtain⟨g1,h1⟩:=h1;obtain⟨g2,h2⟩:=h2;refine⟨⟨g1,g2⟩,?_⟩
 unfold rdR at h1 h2
 rw [if_pos h0] at h1
 unfold readIn
 dsimp only
 cases hr:PW.read m (way++[0]) s.l with
 | error e =>
  rw [hr] at h1;obtain⟨k1,k2⟩:=h1
  dsimp only at k1
  rw [if_neg (by rw [k1];exact k2)] at h2;obtain⟨k3,_⟩:=h2
  dsimp only at k3
  rw [RSw.fail_e (by rw [k3,k1];exact k2),ite_self];exact⟨by rw [k3,k1],k2⟩
 | ok u =>
  obtain⟨l,b1⟩:=u;rw [hr] at h1;obtain⟨k1,k2,k3⟩:=h1
  dsimp only at k1 k2 k3
  subst k1 k2;rw [if_pos k3] at h2
  dsimp only
  cases hr2:PW.read m (way++[1]) s1.l with
  | error e =>
   rw [hr2] at h2;obtain⟨k4,k5⟩:=h2
   dsimp only at k4
   rw [RSw.fail_e (by rw [k4];exact k5),ite_self];exact⟨k4,k5⟩
  | ok u =>
   obtain⟨r,b2⟩:=u;rw [hr2] at h2;obtain⟨k4,k5,k6⟩:=h2
   dsimp only at k4 k5 k6
   subst k4 k5
   dsimp only
   cases hb:PW.bad x y with
   | true =>
    rw [if_pos rfl,if_pos rfl,RSw.fail_0 k6];exact⟨rfl,by decide⟩
   | false =>
    rw [if_neg (by decide),if_neg (by decide)];exact⟨rfl,rfl,k6⟩
theorem wrinner_S(n:Nat)(ih:∀m,n=m+1->NodeS m)(g:Nat)(s:RSw){wy:List UInt8}{way:List Nat}(hn:n+way.length=256)(h:WayB wy way)(h0:s.e=0):Spec 82 [ptV g,(plQ wy way.length).den] [RdQ g s] (λw=>s.rd w/\Tsh w) (rnPost g (readIn n way s.l)):=by
 have hwl:=h.1;refine zQ [.c (.v (ptV g)),plQ wy way.length] 39 Tryz.func82 rfl (by rw [Tryz.ntmps82];rfl) (two_ok trivial (plQ_ok hwl _)) λb=>?_;refine zA rfl (zM λK hK=>?_);refine zA rfl ?_;refine zW ((way.length:Int)=256) rfl (λh256=>?_) (λh256=>?_)
 ·obtain rfl:n=0:=by omega
  refine zC rfl λK1 hK1=>?_;refine l_R ([RdQ g s]++[]) rfl ?_;refine l_callA [ptV g,.int .i64 13] rfl rfl rfl own_wfails rfl rfl (λ_ _=>rfl) (wfails_S g s 13) (λ_ _ _=>trivial) λ_=>?_;refine zJ (hK1 _ (zC rfl λK2 hK2=>?_));refine l_op (.v PW.empty.val) trivial rfl rfl rfl (run_mkI rfl Tryz.underlying154 rfl rfl) ?_;refine zB rfl (zJ (hK2 _ ?_));exact zP (zR zY ⟨(.empty,s.fail 13),trivial,by rw [RSw.fail_0 h0],by decide⟩ rfl (by decide) rfl rfl rfl (λ_ h _=>h.2.1) zU)
 refine zO (hK _ ?_)
 have hlt:way.length<256:=by have:=h.2.1;omega
 obtain⟨m,rfl⟩:∃m,n=m+1:=⟨n-1,by omega⟩;have ihm:=ih m rfl;clear ih;obtain⟨d,hd⟩:∃d,way.length=d:=⟨_,rfl⟩;have ih0:=λs g=>ihm (way++[0]) (wayS wy d 0) s g (by rw [aB,bB];omega) (hd▸h.more hlt (by decide));have ih1:=λs g=>ihm (way++[1]) (wayS wy d 1) s g (by rw [aB,bB];omega) (hd▸h.more hlt (by decide));have hs0:=wside_S h hlt (b:=0) (by decide);have hs1:=wside_S h hlt (b:=1) (by decide);simp only [aB,bB,hd] at ih0 ih1 hs0 hs1;rw [hd];refine zA rfl (zM λK1 hK1=>?_);refine zA rfl (zN ?_)
 let F:Nat×Value×Value×RSw->Env:=λ⟨i,v0,v1,s'⟩=>⟨[(14,.v (.int .i64 (i:Int))),(0,.v (ptV g)),(3,.a 3 0),(5,.a 5 0)],[⟨5,none,165,[.agg 2 #[v0,v1]]⟩,⟨3,none,128,[.agg 32 (By wy).toArray,.one (.v (.int .i64 (d:Int)))]⟩],[RdQ g s'],λw=>s'.rd w/\Tsh w,λ_=>True⟩
 refine c_weak (e':=F (0,.nilIface,.nilIface,s)) ⟨zE rfl, zL rfl rfl, .refl _,λ_ h _=>h, zU⟩ (s_loop (λy=>2-y.1) F (λy=>(y.1=0/\y.2.1 = .nilIface/\y.2.2.1 = .nilIface/\y.2.2.2=s)\/(y.1=1/\∃x,Out (rdR m (way++[0]) s) (x,y.2.2.2)/\y.2.1=x.val/\y.2.2.1 = .nilIface)\/(y.1=2/\∃x s1 z,Out (rdR m (way++[0]) s) (x,s1)/\Out (rdR m (way++[1]) s1) (z,y.2.2.2)/\y.2.1=x.val/\y.2.2.1=z.val)) ?_ (0,.nilIface,.nilIface,s) (.inl ⟨rfl,rfl,rfl,rfl⟩))
 rintro⟨i,v0,v1,s'⟩ hI
 dsimp only at hI
 refine zA rfl (zM λK2 hK2=>?_)
 rcases hI with⟨rfl,rfl,rfl,hs'⟩|⟨rfl,x,hx,rfl,rfl⟩|⟨rfl,x,s1,z,hx,hz,rfl,rfl⟩
 ·obtain rfl:=hs'.symm
  refine zW (((0:Nat):Int)<2) rfl (λ_=>?_) (λh=>absurd (by decide) h);refine zO (hK2 _ (zM λK3 hK3=>?_));refine zN (zA rfl ?_);refine s_lit (zB rfl ?_);refine l_num 21 0 rfl (by decide) ?_;refine l_call0 [(plQ wy d).den,.int .u8 0] rfl rfl rfl (λ_ _=>by go_simp) rfl rfl (λ_ _=>rfl) hs0 (λ_ _ _=>trivial) λ_=>?_;refine l_R ([RdQ g s]++[]) rfl ?_;refine l_callA [ptV g,(plQ (wayS wy d 0) (d+1)).den] rfl rfl rfl (λ_ _=>by go_simp) rfl rfl (λ_ _=>rfl) (ih0 s g) (λ_ h _=>h.2) λu=>?_;obtain⟨⟨x,s1⟩,hx⟩:=u;refine l_op (.a 5 (0+1*0)) trivial rfl rfl rfl (runO_ixA 0 rfl Tryz.underlying165 rfl rfl rfl (by decide)) ?_
  refine l_stA [.agg 2 #[x.val,.nilIface]] rfl rfl rfl rfl rfl rfl rfl (PW.val_cells _) (PW.val_one _) (show _<2 by decide) (λp hp=>by
   rw [aE.1 hp];refine⟨rfl,λv hv=>?_⟩
   rcases aL.1 hv with rfl|hv
   ·exact x.val_one
   ·rw [aE.1 hv];rfl) rfl ?_
  refine zJ (hK3 _ ?_);refine zD rfl ?_;exact zX (1,x.val,.nilIface,s1) (.inr (.inl ⟨rfl,x,hx,rfl,rfl⟩)) (by show 2-1<2-0;decide) ⟨zE rfl, zL rfl rfl, .refl _,λ_ h _=>⟨h.1,h.2.2.2⟩, zU⟩
 ·revert hx
  generalize s'=s1
  intro hx
  refine zW (((1:Nat):Int)<2) rfl (λ_=>?_) (λh=>absurd (by decide) h);refine zO (hK2 _ (zM λK3 hK3=>?_));refine zN (zA rfl ?_);refine s_lit (zB rfl ?_);refine l_num 21 1 rfl (by decide) ?_;refine l_call0 [(plQ wy d).den,.int .u8 1] rfl rfl rfl (λ_ _=>by go_simp) rfl rfl (λ_ _=>rfl) hs1 (λ_ _ _=>trivial) λ_=>?_;refine l_R ([RdQ g s1]++[]) rfl ?_;refine l_callA [ptV g,(plQ (wayS wy d 1) (d+1)).den] rfl rfl rfl (λ_ _=>by go_simp) rfl rfl (λ_ _=>rfl) (ih1 s1 g) (λ_ h _=>h.2) λu=>?_;obtain⟨⟨z,s2⟩,hz⟩:=u;refine l_op (.a 5 (0+1*1)) trivial rfl rfl rfl (runO_ixA 1 rfl Tryz.underlying165 rfl rfl rfl (by decide)) ?_;refine l_stA (sdW x z) rfl rfl rfl rfl rfl rfl rfl (PW.val_cells _) (PW.val_one _) (show _<2 by decide) (sdW_ok x z) rfl ?_;refine zJ (hK3 _ ?_);refine zD rfl ?_;exact zX (2,x.val,z.val,s2) (.inr (.inr ⟨rfl,x,s1,z,hx,hz,rfl,rfl⟩)) (by show 2-2<2-1;decide) ⟨zE rfl, zL rfl rfl, .refl _,λ_ h _=>⟨h.1,h.2.2.2⟩, zU⟩
 ·refine zW (((2:Nat):Int)<2) rfl (λh=>absurd h (by decide)) (λ_=>?_)
  refine s_exit (zS (zS (k_out ?_)));refine hK1 _ ?_;have hout:=in_out h0 hx hz;have hgx:=hx.1;have hgz:=hz.1;refine zM λK3 hK3=>?_;refine s_regD 8 (by decide) (by kernel_rfl) (by kernel_rfl) λK4 hK4 G S w0 hst=>?_;refine g_opS (.a 5 (0+1*0)) trivial rfl rfl rfl (runO_ixA 0 rfl Tryz.underlying165 rfl rfl rfl (by decide)) ?_;refine g_opV hst (.v x.val) trivial rfl rfl rfl (runO_ldA _ rfl rfl rfl rfl Tryz.underlying89 rfl) ?_;refine g_callS (F':=λ_=>True) hst [x.val] rfl rfl rfl (λ_ _=>by go_simp) rfl rfl (λ_=>rfl) (wleast_S hgx) trivial (λ_ _ _ _=>trivial) ?_;refine g_opS (.a 5 (0+1*1)) trivial rfl rfl rfl (runO_ixA 1 rfl Tryz.underlying165 rfl rfl rfl (by decide)) ?_;refine g_opV hst (.v z.val) trivial rfl rfl rfl (runO_ldA _ rfl rfl rfl rfl Tryz.underlying89 rfl) ?_;refine g_callS (F':=λ_=>True) hst [z.val] rfl rfl rfl (λ_ _=>by go_simp) rfl rfl (λ_=>rfl) (wleast_S hgz) trivial (λ_ _ _ _=>trivial) ?_;refine g_autoS zY hst rfl ?_;refine g_endS hst ?_;have hk1:=kind_lt x;have hk2:=kind_lt z;have hb:=bad_least x z;refine l_is 33 (PW.bad x z) rfl ?_ ?_
  ·have e:IntKind.i64.wrap (((min x.kind 2:Nat):Int)+((min z.kind 2:Nat):Int))=((min x.kind 2+min z.kind 2:Nat):Int):=wrapI (by omega) (by omega) (by omega)
   rw [hb,e];exact decide_eq_decide.2 (by omega)
  refine zJ (hK4 _ ?_)
  have hrest:∀s3,Out (readIn (m+1) way s.l) (.inner x z,s3)->s3.rd=s'.rd->∀en,Weak en ⟨[(5,.a 5 0)],[⟨5,none,165,sdW x z⟩],[RdQ g s3],λw=>s'.rd w/\Tsh w,λ_=>True⟩->kS b K3 39 en:=by
   intro s3 ho hr en hw
   refine k_weak hw (hK3 _ ?_);refine zC rfl λK5 hK5=>?_;refine l_call0 [(SQ.p (sdW x z)).den] rfl rfl rfl (λ_ _=>by go_simp) rfl rfl (λ_ _=>rfl) (winnerOf_S hgx hgz) (λ_ h _=>h.2) λ_=>?_;refine l_op (.v (PW.inner x z).val) trivial rfl rfl rfl (run_mkI (q:=.p (PW.inner x z).ps) rfl Tryz.underlying167 rfl rfl) ?_;refine zB rfl (zJ (hK5 _ ?_));exact zP (zR zY ⟨(.inner x z,s3),ho⟩ rfl (by decide) rfl rfl rfl (λw h _=>by show s3.rd w;rw [hr];exact h.2.1) zU)
  cases hbb:PW.bad x z with
  | true =>
   rw [hbb,if_pos rfl] at hout;refine s_yes rfl ?_;refine s_lit (zB rfl ?_);refine l_R ([RdQ g s']++[]) rfl ?_;refine l_callA [ptV g,.int .i64 13] rfl rfl rfl own_wfails rfl rfl (λ_ _=>rfl) (wfails_S g s' 13) (λ_ _ _=>trivial) λ_=>?_;exact zJ (hrest (s'.fail 13) hout rfl _ ⟨zE rfl, zL rfl rfl, .refl _,λ_ h _=>h.2, zU⟩)
  | false =>
   rw [hbb,if_neg (by decide)] at hout;refine s_no rfl ?_;exact zO (hrest s' hout rfl _ ⟨zE rfl, zL rfl rfl, .refl _,λ_ h _=>h, zU⟩)
end Go.Proofs.YtlhlkofpjhpaoaaGreatDoor
