import Derived.Test.YtlhlkofpjhpaoaaGreatDoorMp
import Derived.Test.YtlhlkofpjhpaoaaGreatDoorMo
import Derived.Test.YtlhlkofpjhpaoaaGreatDoorMm
import Derived.Test.YtlhlkofpjhpaoaaGreatDoorMj
import Derived.Test.YtlhlkofpjhpaoaaGreatDoorMh
import Derived.Test.YtlhlkofpjhpaoaaGreatDoorMi
set_option maxRecDepth 100000
set_option maxHeartbeats 2000000
open Go.Value renaming int->bM
open List renaming length_append->aB,mem_singleton->aE,getElem?_eq_getElem->aK,mem_cons->aL,mem_of_getElem?->aR,length_cons->bD,length_map->bO,mem_map->bP,append_nil->bT,eq_nil_of_length_eq_zero->bV,getElem?_append_right->cG,map_append->fC,set_append_right->fS,drop_of_length_le->gW,filter->iG,filter_append->kR,length_nil->lC,length_pos_iff->nT,perm_middle->pO
open Nat renaming le_refl->aF,zero_le->aI,mod_eq_of_lt->aY,zero_add->aZ,le_trans->b8,add_zero->eX,sub_self->g9,not_lt_zero->oN,mul_add->pL
open UInt8 renaming toNat_ofNat'->mK
namespace Go.Proofs.YtlhlkofpjhpaoaaGreatDoor
open Go.RowKit Go.IntWalk Nums
theorem u8_eq{x:UInt8}{k:Nat}(hk:k<256):((x.toNat:Nat):Int)=(k:Int)↔x=UInt8.ofNat k:=by
 constructor
 ·intro h
  apply UInt8.toNat_inj.1
  rw [mK,aY hk]
  omega
 ·intro h
  rw [h,mK,aY hk]
theorem wrnode_S:∀n,NodeS n:=by
 intro n
 induction n using Nat.strongRecOn with
 | ind n ih =>
 intro way wy s g hn h
 have hwl:=h.1;refine zQ [.c (.v (ptV g)),plQ wy way.length] 31 Tryz.func60 rfl (by rw [Tryz.ntmps60];rfl) (two_ok trivial (plQ_ok hwl _)) λb=>?_;refine zA rfl (zM λK hK=>?_);refine zC rfl λK1 hK1=>?_;refine l_R ([RdQ g s]++[]) rfl ?_
 by_cases hc:s.can 1
 ·obtain⟨x,r,hx⟩:=RSw.can_cons hc
  have hr:rdR n way s=PW.read n way (x::r):=by rw [rdR,if_pos hc.1,hx]
  have hl:(s.cut 1).l=r:=by show s.l.drop 1=r;rw [hx];rfl
  have h0:(s.cut 1).e=0:=hc.1;have hrd:∀w,s.rd w->(s.cut 1).rd w:=λw hw=>RSw.rd_cut hw hc.2;refine l_callA [ptV g] rfl rfl rfl (λ_ _=>by go_simp) rfl rfl (λ_ _=>rfl) (wkind_yes g s hc hx) (λ_ h _=>h.1) λ_=>?_;refine zJ (hK1 _ ?_);rw [hr,read_cons];generalize s.cut 1=s1 at *;subst hl;refine zN (zA rfl ?_);refine zW ((x.toNat:Int)=0) rfl (λe0=>?_) (λe0=>?_)
  ·have e:x=0:=(u8_eq (k:=0) (by decide)).1 e0
   refine zC rfl λK2 hK2=>?_;refine l_op (.v PW.empty.val) trivial rfl rfl rfl (run_mkI rfl Tryz.underlying154 rfl rfl) ?_;refine zB rfl (zJ (hK2 _ ?_));exact zP (zR zY ⟨(.empty,s1),by rw [if_pos e];exact⟨trivial,rfl,rfl,h0⟩⟩ rfl (by decide) rfl rfl rfl (λw h _=>hrd w h.2.1) zU)
  have e0:x≠0:=λe=>e0 ((u8_eq (k:=0) (by decide)).2 e);rw [if_neg e0];refine zA rfl ?_;refine zW ((x.toNat:Int)=1) rfl (λe1=>?_) (λe1=>?_)
  ·have e:x=1:=(u8_eq (k:=1) (by decide)).1 e1
   rw [if_pos e];refine zC rfl λK2 hK2=>?_;refine l_R ([RdQ g s1]++[]) rfl ?_;refine l_callA [ptV g,(plQ wy way.length).den] rfl rfl rfl (λ_ _=>by go_simp) rfl rfl (λ_ _=>rfl) (wrleaf_S g s1 h h0) (λw h _=>⟨hrd w h.2.1,h.2.2⟩) λu=>?_;refine zB rfl (zJ (hK2 _ ?_));exact zP (zR zY u rfl (by decide) rfl rfl rfl (λw h _=>h.1) zU)
  have e1:x≠1:=λe=>e1 ((u8_eq (k:=1) (by decide)).2 e);rw [if_neg e1];refine zA rfl ?_;refine zW ((x.toNat:Int)=2) rfl (λe2=>?_) (λe2=>?_)
  ·have e:x=2:=(u8_eq (k:=2) (by decide)).1 e2
   rw [if_pos e];refine zC rfl λK2 hK2=>?_;refine l_R ([RdQ g s1]++[]) rfl ?_;refine l_callA [ptV g,(plQ wy way.length).den] rfl rfl rfl (λ_ _=>by go_simp) rfl rfl (λ_ _=>rfl) (wrinner_S n (λm hm=>ih m (by omega)) g s1 hn h h0) (λw h _=>⟨hrd w h.2.1,h.2.2⟩) λu=>?_;refine zB rfl (zJ (hK2 _ ?_));exact zP (zR zY u rfl (by decide) rfl rfl rfl (λw h _=>h.1) zU)
  have e2:x≠2:=λe=>e2 ((u8_eq (k:=2) (by decide)).2 e);rw [if_neg e2];refine zA rfl ?_;refine zW ((x.toNat:Int)=3) rfl (λe3=>?_) (λe3=>?_)
  ·have e:x=3:=(u8_eq (k:=3) (by decide)).1 e3
   rw [if_pos e];refine zC rfl λK2 hK2=>?_;refine l_R ([RdQ g s1]++[]) rfl ?_;have hh:=whash_S g s1
   have ho:Out (readHid s1.l) (.hid s1.hv,s1.go 32):=by
    refine⟨s1.hv_len,?_⟩
    unfold readHid RSw.hv RSw.go
    by_cases h32:s1.can 32
    ·rw [if_neg (by have:=h32.2;omega),if_pos h32,if_pos h32]
     exact⟨rfl,rfl,h0⟩
    ·have:s1.l.length<32:=by
      have:¬32<=s1.l.length:=λh=>h32 ⟨h0,h⟩
      omega
     rw [if_pos this,if_neg h32,if_neg h32,RSw.fail_0 h0];exact⟨rfl,by decide⟩
   have hrd2:∀w,s1.rd w->(s1.go 32).rd w:=λw hw=>RSw.go_rd hw;generalize s1.go 32=s2 at *;have hgl:=s1.hv_len;generalize s1.hv=hv at *;refine l_callA [ptV g] rfl rfl rfl (λ_ _=>by go_simp) rfl rfl (λ_ _=>rfl) hh (λw h _=>hrd w h.2.1) λ_=>?_;refine zB rfl ?_;refine l_op (.v (PW.hid hv).val) trivial rfl rfl rfl (run_mkI (q:=.p (PW.hid hv).ps) rfl Tryz.underlying156 rfl rfl) ?_;refine zB rfl (zJ (hK2 _ ?_));exact zP (zR zY ⟨(.hid hv,s2),ho⟩ rfl (by decide) rfl rfl rfl (λw h _=>hrd2 w (hrd w h.2.2.1)) zU)
  have e3:x≠3:=λe=>e3 ((u8_eq (k:=3) (by decide)).2 e);rw [if_neg e3];refine zO (hK _ (zC rfl λK2 hK2=>?_));refine l_R ([RdQ g s1]++[]) rfl ?_;refine l_callA [ptV g,.int .i64 13] rfl rfl rfl own_wfails rfl rfl (λ_ _=>rfl) (wfails_S g s1 13) (λ_ _ _=>trivial) λ_=>?_;refine zJ (hK2 _ (zC rfl λK3 hK3=>?_));refine l_op (.v PW.empty.val) trivial rfl rfl rfl (run_mkI rfl Tryz.underlying154 rfl rfl) ?_;refine zB rfl (zJ (hK3 _ ?_));exact zP (zR zY ⟨(.empty,s1.fail 13),by rw [hr,read_cons,if_neg e0,if_neg e1,if_neg e2,if_neg e3];exact⟨trivial,by rw [RSw.fail_0 h0],by decide⟩⟩ rfl (by decide) rfl rfl rfl (λw h _=>hrd w h.2.2.1) zU)
 ·have ho:Out (rdR n way s) (.empty,s.fail 10):=by
   refine⟨trivial,?_⟩
   unfold rdR
   by_cases h0:s.e=0
   ·have hl:s.l=[]:=by
     cases hl:s.l with
     | nil=>rfl
     | cons x r=>exact absurd (show s.can 1 from⟨h0,by rw [hl];simp⟩) hc
    rw [if_pos h0,hl,read_nil,RSw.fail_0 h0];exact⟨rfl,by decide⟩
   ·rw [if_neg h0,RSw.fail_e h0]
    exact⟨rfl,h0⟩
  refine l_callA [ptV g] rfl rfl rfl (λ_ _=>by go_simp) rfl rfl (λ_ _=>rfl) (wkind_no g s hc) (λ_ _ _=>trivial) λ_=>?_;refine zJ (hK1 _ ?_);refine zN (zA rfl ?_);refine zW ((0:Int)=0) rfl (λ_=>?_) (λh=>absurd rfl h);refine zC rfl λK2 hK2=>?_;refine l_op (.v PW.empty.val) trivial rfl rfl rfl (run_mkI rfl Tryz.underlying154 rfl rfl) ?_;refine zB rfl (zJ (hK2 _ ?_));exact zP (zR zY ⟨(.empty,s.fail 10),ho⟩ rfl (by decide) rfl rfl rfl (λw h _=>h.2.1) zU)
def parseR(r:Except Nat PW):RV:=match r with
  | .ok w=>.t [prQ w,.c (.v (.int .i64 0))]
  | .error e=>.t [prQ .empty,.c (.v (.int .i64 (e:Int)))]
def RSw.last(s:RSw):RSw:=if 0<s.l.length then s.fail 11 else s
theorem parse_out{A:Option Addr}{c:Nat}{b:List UInt8}{w:PW}{s:RSw}(h:Out (rdR 256 [] ⟨A,c,b,0⟩) (w,s)):(s.last.e=0->PW.parse b = .ok w)/\(s.last.e≠0->PW.parse b = .error s.last.e):=by
 obtain⟨_,h⟩:=h;rw [rdR,if_pos rfl] at h
 unfold PW.parse
 dsimp only at h
 cases hr:PW.read 256 [] b with
 | error e =>
  rw [hr] at h;obtain⟨h1,h2⟩:=h
  have e1:s.last=s:=by
   unfold RSw.last
   rw [RSw.fail_e (by rw [h1];exact h2),ite_self]
  rw [e1,h1];exact⟨λh=>absurd h h2,λ_=>rfl⟩
 | ok u =>
  obtain⟨x,r⟩:=u;rw [hr] at h;obtain⟨h1,h2,h3⟩:=h
  unfold RSw.last
  rw [h2]
  cases r with
  | nil =>
   rw [if_neg (by decide)];exact⟨λ_=>by rw [h1],λh=>absurd h3 h⟩
  | cons y r =>
   rw [if_pos (by simp),RSw.fail_0 h3];exact⟨λh=>absurd (show(11:Nat)=0 from h) (by decide),λ_=>rfl⟩
theorem wParse_S{A:Option Addr}{c:Nat}(B:List UInt8):Spec 39 [.slice A B.length c] [] (λw=>Rd 1 eB A c B w/\Tsh w) (one (parseR (PW.parse B))):=by
 refine zQ [.c (.v (.slice A B.length c))] 23 Tryz.func39 rfl (by rw [Tryz.ntmps39];rfl) (one_ok trivial) λb=>?_;have hnode:=λg=>wrnode_S 256 [] dJ ⟨A,c,B,0⟩ g rfl WayB.nil;replace hnode:∀g,Spec 60 [ptV g,(plQ dJ 0).den] [RdQ g ⟨A,c,B,0⟩] (λw=>Rd 1 eB A c B w/\Tsh w) (rnPost g (rdR 256 [] ⟨A,c,B,0⟩)):=hnode;refine zA rfl (zC rfl λK hK=>?_);refine zJ ?_;refine k_give 4 (E':=[(2,.a 2 0)]) rfl ⟨rfl,trivial⟩ λg=>hK _ ?_;refine zC rfl λK1 hK1=>?_;refine l_R ([RdQ g ⟨A,c,B,0⟩]++[]) rfl ?_;refine l_callA [ptV g,(plQ dJ 0).den] rfl rfl rfl (λ_ _=>by go_simp) rfl rfl (λ_ _=>rfl) (hnode g) (λ_ h _=>h) λu=>?_;obtain⟨⟨w,s⟩,hu⟩:=u;obtain⟨hp0,hp1⟩:=parse_out hu;refine zB rfl (zJ (hK1 _ ?_));refine s_keep [2,4,5] [2] rfl rfl ?_;refine zM λK2 hK2=>?_;refine zC rfl λK3 hK3=>?_;refine l_ldO zY rfl rfl rfl rfl rfl rfl (obj_own 0 rfl) ?_;refine zB rfl (zJ (hK3 _ ?_))
 have hrest:∀s3:RSw,s3=s.last->∀en,Weak en ⟨[(2,.a 2 0),(4,.v (ptV g)),(5,.v w.val)],[⟨2,none,91,[.one (.v .nilIface)]⟩],[RdQ g s3],λ_=>True,λ_=>True⟩->kS b K2 23 en:=by
  intro s3 hs3 en hw
  rw [<-hs3] at hp0 hp1;refine k_weak hw (hK2 _ ?_);refine zM λK4 hK4=>?_;refine zC rfl λK5 hK5=>?_;refine l_ldO zY rfl rfl rfl rfl rfl rfl (obj_own 0 rfl) ?_;refine zB rfl (zJ (hK5 _ ?_));refine zW ((s3.e:Int)≠0) rfl (λhe=>?_) (λhe=>?_)
  ·have he:s3.e≠0:=λh=>he (by rw [h];rfl)
   have hok:OkP s3.ps:=λp hp=>by
    rcases aL.1 hp with rfl|hp
    ·exact⟨trivial,rfl,rfl⟩
    ·rw [aE.1 hp];exact⟨trivial,rfl,rfl⟩
   refine zM λK6 hK6=>?_;have hinv:∀{E':SE} {L':List LV} {F' M':World->Prop},∀a w,St b 23 ⟨E',L',[RdQ g s3],F',M'⟩ a w->ObjF g 125 s3.ps w:=λa w ⟨G,S,_,_,h3⟩=>obj_own 0 rfl G S w h3.view;refine s_anyP [0,1,2] 4 1 (ObjF g 125 s3.ps) (by kernel_rfl) rfl hinv ?_;refine p_frontS (L0:=[]) zY 0 (by kernel_rfl) rfl rfl rfl rfl rfl rfl (λ_ h=>by cases h) (λ_ _ _ h=>by cases h) ?_;refine p_frontS (L0:=[]) zY 1 (by kernel_rfl) rfl rfl rfl rfl rfl rfl (λ_ h=>by cases h) (λ_ _ _ h=>by cases h) ?_;refine p_ldO zY 2 (by kernel_rfl) rfl rfl rfl rfl rfl rfl rfl hok (λ_ h=>h) ?_;refine p_step 3 (by kernel_rfl) rfl λK7 hK7=>?_;refine zB rfl ?_;refine zJ (hK7 _ hinv ?_);refine p_tail [4] (by kernel_rfl) rfl ?_;refine zB rfl (zJ (hK6 _ ?_));refine zP (k_drop 0 rfl ?_);exact zR zY () rfl (by decide) rfl (by show parseR (PW.parse B)=_;rw [hp1 he];rfl) rfl (λ_ _ _=>trivial) zU
  ·have he:s3.e=0:=by omega
   refine zO (hK4 _ (zC rfl λK6 hK6=>?_));refine l_call0 [w.val] rfl rfl rfl (λ_ _=>by go_simp) rfl rfl (λ_ _=>rfl) (wpart_S w) (λ_ _ _=>trivial) λ_=>?_;refine zB rfl (zJ (hK6 _ ?_));refine zP (k_drop 0 rfl ?_);exact zR zY () rfl (by decide) rfl (by show parseR (PW.parse B)=_;rw [hp0 he];rfl) rfl (λ_ _ _=>trivial) zU
 refine zW ((s.l.length:Int)>0) rfl (λh0=>?_) (λh0=>?_)
 ·refine s_lit ?_
  refine l_R ([RdQ g s]++[]) rfl ?_;refine l_callA [ptV g,.int .i64 11] rfl rfl rfl own_wfails rfl rfl (λ_ _=>rfl) (wfails_S g s 11) (λ_ _ _=>trivial) λ_=>?_;exact zJ (hrest (s.fail 11) (by rw [RSw.last,if_pos (by omega)]) _ ⟨zE rfl, zL rfl rfl, .refl _,λ_ _ _=>trivial, zU⟩)
 ·exact zO (hrest s (by rw [RSw.last,if_neg (by omega)]) _ ⟨zE rfl, zL rfl rfl, .refl _,λ_ _ _=>trivial, zU⟩)
section
variable{N:Nat}{E:SE}{o:Oper}{x y:Operand}{t t':TypeId}
def cutK(k:Nat)(A:Option Addr)(c n:Nat):Option Addr:=if c=n then A else A.map (·.add (k*n))
theorem run_cutLoK{A:Option Addr}{n c j sz:Nat}{e:TypeId}(he:(Tryz.prog.info? e).map (·.size)=some sz)(hj:j<=n)(hc:n<=c)(hA:A=none->c=0)(ho:o.op = .slice t x (some y) none none)(hu:Tryz.prog.underlying t=some (.slice e))(hx:evS E x=some (.v (.slice A n c)))(hy:evS E y=some (.v (.int .i64 (j:Int)))) :
  ∀(G:Nat->Nat) (a:Act) (w:World),Fr N (denE G E) a->(execOp a.eval o).run Tryz.prog w = .ok (.value ((SV.v (.slice (cutK sz A c j) (n-j) (c-j))).den G)) w:=λG a w ha=>by
 have h1:a.eval x = .slice A n c:=ha.eval (evS_ok hx);have h2:a.eval y = .int .i64 (j:Int):=ha.eval (evS_ok hy)
 have h3:(j:Int)<=(n:Int):=by omega
 have h4:(0:Int)<=(j:Int):=by omega
 have h5:(n:Int)<=(c:Int):=by omega
 have h6:=run_sizeOf he w
 unfold execOp
 simp only [ho];generalize a.eval=ρ at *;simp only [Option.map,h1,h2]
 show _=Result.ok (Next.value (.slice (cutK sz A c j) (n-j) (c-j))) w
 cases A with
 | none =>
  obtain rfl:c=0:=hA rfl
  obtain rfl:n=0:=by omega
  obtain rfl:j=0:=by omega
  go_simp
  rfl
 | some ad =>
  unfold cutK
  by_cases e:c=j
  ·rw [if_pos e]
   go_simp
  ·rw [if_neg e]
   go_simp
   rw [Nat.mul_comm]
theorem run_eqNilS{A:Option Addr}{n c:Nat}{e:TypeId}(ho:o.op = .binOp .eql t x (.const (.slice none 0 0)) t')(hu:Tryz.prog.underlying t=some (.slice e))(hx:evS E x=some (.v (.slice A n c))) :
  ∀(G:Nat->Nat) (a:Act) (w:World),Fr N (denE G E) a->(execOp a.eval o).run Tryz.prog w = .ok (.value ((SV.v (.bool A.isNone)).den G)) w:=λG a w ha=>by
 have h1:a.eval x = .slice A n c:=ha.eval (evS_ok hx);have h3:=run_equal_slice_nil (P:=Tryz.prog) w t e A n c hu
 unfold execOp
 have h4:(eqGuard .eql t x (.const (.slice none 0 0)) (.slice A n c) (.slice none 0 0)).run Tryz.prog w = .ok () w:=rfl;simp only [ho,h1,show a.eval (.const (.slice none 0 0)) = .slice none 0 0 from rfl,Sem.run_bind,h4,Result.andThen_ok,binOp,h3,Sem.run_pure]
 rfl
end
theorem Rd.sub{α:Type}{k c c' g:Nat}{fe:α->SQ}{P l Z:List α}{w:World}(h:Rd k fe (some ⟨g,0,none⟩) c (P++l++Z) w)(hc:l.length<=c')(hm:c'<=9223372036854775807):Rd k fe (some ⟨g,k*P.length,none⟩) c' l w:=by
 obtain⟨h1,h2,h3,h4,h5⟩:=h;refine⟨hc,hm,λe=>(by cases e),λx hx=>h4 x (by simp [hx]),λh0=>?_⟩;obtain⟨b,o,e,hb,hr⟩:=h5 (by rw [aB,aB];omega)
 injection e with e
 injection e with e1 e2
 subst e1 e2;refine⟨g,k*P.length,rfl,hb,λi x hx=>?_⟩
 have:=hr (P.length+i) x (by
  rw [List.append_assoc,cG (by omega),Nat.add_sub_cancel_left,List.getElem?_append_left (List.getElem?_eq_some_iff.1 hx).1]
  exact hx)
 rwa [aZ,pL] at this
abbrev KyS(A:Option Addr)(c:Nat)(l:List (List UInt8)):Res:=OwnS 0 45 32 (eY 32) A c l
theorem wclone_S{A:Option Addr}{c:Nat}(l:List (List UInt8))(hl:l.length<=1000000):Spec 31 [.slice A l.length c] [] (Rd 32 (eY 32) A c l) { ret:=λx:PX=>.v (.slice x.1 l.length x.2),own:=λx=>[KyS x.1 x.2 l] }:=by
 refine zQ [.c (.v (.slice A l.length c))] 8 Tryz.func31 rfl (by rw [Tryz.ntmps31];rfl) (one_ok trivial) λb=>?_;refine s_pure (l.length<=c/\(A=none->c=0)) (λw hw _=>⟨hw.1,hw.2.2.1⟩) λ⟨hlc,hA⟩=>?_;refine zA rfl (zM λK hK=>?_);refine zC rfl λK1 hK1=>?_;refine l_op (.v (.bool A.isNone)) trivial rfl rfl rfl (run_eqNilS rfl Tryz.underlying43 rfl) ?_;refine zJ (hK1 _ ?_)
 cases A with
 | none =>
  obtain rfl:c=0:=hA rfl;obtain rfl:l=[]:=bV (by omega);refine s_yes rfl ?_;refine s_nil0 0 45 32 (eY 32) ?_;refine zA rfl ?_;exact zP (zR zY (none,0) rfl (by decide) rfl rfl rfl (λ_ _ _=>trivial) zU)
 | some ad =>
  refine s_no rfl ?_;refine zO (hK _ (zC rfl λK2 hK2=>?_));refine l_list0 (e:=45) (sz:=32) 0 (eY 32) rfl rfl rfl rfl (aI _) (λw=>by go_simp) λB=>?_;refine zB rfl ?_;refine l_appY zY 0 l rfl rfl rfl rfl rfl rfl rfl rfl rfl (rd_fact λ_ h _=>h) (by decide) (by show(0+l.length)*32<=_;omega) (by show 0+l.length<=_;omega) (aI _) λA1 c1=>?_;refine zB rfl (zJ (hK2 _ ?_));exact zP (zR zY (A1,c1) rfl (by decide) rfl rfl rfl (λ_ _ _=>trivial) zU)
structure KeyAt(A A':Option Addr)(c' i n:Nat):Prop where
  le:n<=c'
  max:c'<=9223372036854775807
  nil:A'=none->c'=0
  at_:0<n->∃g,A=some ⟨g,0,none⟩/\A'=some ⟨g,32*i,none⟩
theorem KeyAt.left{A A':Option Addr}{c' i n m:Nat}(h:KeyAt A A' c' i n)(hm:m<=n):KeyAt A A' c' i m:=⟨b8 hm h.le,h.max,h.nil,λh0=>h.at_ (by omega)⟩
theorem KeyAt.right{A A':Option Addr}{c' i n m:Nat}(h:KeyAt A A' c' i n)(hm:m<=n):KeyAt A (cutK 32 A' c' m) (c'-m) (i+m) (n-m):=by
 have hle:=h.le;refine⟨by omega,by have:=h.max;omega,λe=>?_,λh0=>?_⟩
 ·unfold cutK at e
  by_cases e2:c'=m
  ·omega
  ·rw [if_neg e2] at e
   cases A' with
   | none=>have:=h.nil rfl;omega
   | some ad=>cases e
 ·obtain⟨g,e1,e2⟩:=h.at_ (by omega)
  refine⟨g,e1,?_⟩
  unfold cutK
  rw [if_neg (by omega),e2]
  show some (Addr.add ⟨g,32*i,none⟩ (32*m))=_
  simp [Addr.add,pL]
def rotK:List (List UInt8)->List (List UInt8)
  | []=>[]
  | z::t=>t++[z]
theorem rot_perm:∀l,(rotK l).Perm l
 | []=>.refl _
 | z::t=>List.perm_append_singleton z t
theorem rot_len(l:List (List UInt8)):(rotK l).length=l.length:=(rot_perm l).length_eq
def hdKey(zs:List (List UInt8))(k:List UInt8):List UInt8:=match zs with
  | []=>k
  | z::_=>z
theorem hdKey_at{P ys zs r Z:List (List UInt8)}{k:List UInt8}:(P++(ys++zs++k::r)++Z)[P.length+ys.length]?=some (hdKey zs k):=by
 have e:P++(ys++zs++k::r)++Z=(P++ys)++(zs++(k::(r++Z))):=by simp
 rw [e,cG (by rw [aB];omega),aB,g9]
 cases zs<;>rfl
theorem swap_list{P ys zs r Z:List (List UInt8)}{k:List UInt8}:((P++(ys++zs++k::r)++Z).set (P.length+(ys.length+zs.length)) (hdKey zs k)).set (P.length+ys.length) k=P++((ys++[k])++rotK zs++r)++Z:=by
 cases zs with
 | nil =>
  have e:P++(ys++[]++k::r)++Z=(P++ys)++(k::(r++Z)):=by simp
  rw [e,lC,eX,fS _ _ (by rw [aB];omega),aB,g9]
  show((P++ys)++(k::(r++Z))).set (P.length+ys.length) k=_
  rw [fS _ _ (by rw [aB];omega),aB,g9]
  simp [rotK]
 | cons z t =>
  have e:P++(ys++z::t++k::r)++Z=(P++ys++z::t)++(k::(r++Z)):=by simp
  have el:(P++ys++z::t).length=P.length+(ys.length+(z::t).length):=by rw [aB,aB];omega
  rw [e,fS _ _ (by rw [el];exact aF _),el,g9]
  show((P++ys++z::t)++(z::(r++Z))).set (P.length+ys.length) k=_
  have e2:(P++ys++z::t)++(z::(r++Z))=(P++ys)++(z::(t++(z::(r++Z)))):=by simp
  rw [e2,fS _ _ (by rw [aB];omega),aB,g9]
  simp [rotK]
def Parted(d:Nat)(ks:List (List UInt8))(x:List (List UInt8)×List (List UInt8)):Prop:=x.1.Perm (PW.keyL d ks)/\x.2.Perm (PW.keyR d ks)
theorem Parted.perm{d:Nat}{ks:List (List UInt8)}{x:List (List UInt8)×List (List UInt8)}(h:Parted d ks x):(x.1++x.2).Perm ks:=(h.1.append h.2).trans (List.filter_append_perm (λk=>cK k d==0) ks)
theorem Parted.len{d:Nat}{ks:List (List UInt8)}{x:List (List UInt8)×List (List UInt8)}(h:Parted d ks x):x.1.length+x.2.length=ks.length:=by
 rw [<-aB];exact h.perm.length_eq
theorem Parted.zero{d:Nat}{ks ys zs:List (List UInt8)}{k:List UInt8}(h:Parted d ks (ys,zs))(hb:cK k d=0):Parted d (ks++[k]) (ys++[k],rotK zs):=by
 constructor
 ·show(ys++[k]).Perm (iG _ _)
  rw [kR]
  have e:iG (λk=>cK k d==0) [k]=[k]:=by simp [hb]
  rw [e];exact h.1.append_right _
 ·show(rotK zs).Perm (iG _ _)
  rw [kR]
  have e:iG (λk=>cK k d != 0) [k]=[]:=by simp [hb]
  rw [e,bT];exact(rot_perm zs).trans h.2
theorem Parted.one{d:Nat}{ks ys zs:List (List UInt8)}{k:List UInt8}(h:Parted d ks (ys,zs))(hb:cK k d≠0):Parted d (ks++[k]) (ys,zs++[k]):=by
 constructor
 ·show ys.Perm (iG _ _)
  rw [kR]
  have e:iG (λk=>cK k d==0) [k]=[]:=by simp [hb]
  rw [e,bT];exact h.1
 ·show(zs++[k]).Perm (iG _ _)
  rw [kR]
  have e:iG (λk=>cK k d != 0) [k]=[k]:=by simp [hb]
  rw [e];exact h.2.append_right _
theorem wparted_S{A A':Option Addr}{c c':Nat}(P ks Z:List (List UInt8))(d:Nat)(hd:d<256)(hat:KeyAt A A' c' P.length ks.length)(hks:∀k∈ks,k.length=32):Spec 78 [.slice A' ks.length c',.int .u8 (d:Int)] [KyS A c (P++ks++Z)] (λ_=>True)
  { ret:=λx:{ x // Parted d ks x }=>.t [.c (.v (.slice A' x.1.1.length c')),.c (.v (.slice (cutK 32 A' c' x.1.1.length) x.1.2.length (c'-x.1.1.length)))],own:=λx=>[KyS A c (P++(x.1.1++x.1.2)++Z)] }:=by
 refine zQ [.c (.v (.slice A' ks.length c')),.c (.v (.int .u8 (d:Int)))] 40 Tryz.func78 rfl (by rw [Tryz.ntmps78];rfl) (two_ok trivial trivial) λb=>?_;have hle:=hat.le;have hmax:=hat.max;have hnil:=hat.nil;refine zA rfl (zA rfl ?_);refine zM λK hK=>?_;refine zA rfl (zN ?_)
 let F:List (List UInt8)×List (List UInt8)×List (List UInt8)->Env:=λ⟨ys,zs,r⟩=>⟨[(11,.v (.int .i64 ((ys.length+zs.length:Nat):Int))),(10,.v (.int .i64 (ks.length:Int))),(9,.v (.slice A' ks.length c')),(0,.v (.slice A' ks.length c')),(1,.v (.int .u8 (d:Int))),(6,.v (.int .i64 (ys.length:Int)))],[],[KyS A c (P++(ys++zs++r)++Z)],λ_=>True,λ_=>True⟩
 refine c_weak (e':=F ([],[],ks)) ⟨zE rfl, trivial, .refl _,λ_ _ _=>trivial, zU⟩ (s_loop (λy=>y.2.2.length) F (λy=>∃done,ks=done++y.2.2/\Parted d done (y.1,y.2.1)) ?_ ([],[],ks) ⟨[],rfl,.refl _,.refl _⟩)
 rintro⟨ys,zs,r⟩ ⟨done,hdone,hpt⟩
 dsimp only at hdone hpt
 have hlen:=hpt.len
 have hkl:ks.length=done.length+r.length:=by rw [hdone,aB]
 dsimp only at hlen
 refine zA rfl (zM λK1 hK1=>?_);refine zW (((ys.length+zs.length:Nat):Int)<(ks.length:Int)) rfl (λhlt=>?_) (λhge=>?_)
 ·cases r with
  | nil=>rw [lC] at hkl;omega
  | cons k r =>
  rw [bD] at hkl;have hk:k.length=32:=hks k (by rw [hdone];simp);obtain⟨g,rfl,rfl⟩:=hat.at_ (by omega);have hok:∀G S w,View G S [] [KyS (some ⟨g,0,none⟩) c (P++(ys++zs++k::r)++Z)] (λ_=>True) (λ_=>True) w->Rd 32 (eY 32) (some ⟨g,32*P.length,none⟩) c' (ys++zs++k::r) w:=λG S w hv=>(rd_own 0 rfl G S w hv).sub (by simp;omega) hmax
  have hn1:(ys++zs++k::r).length=ks.length:=by simp;omega
  refine zO (hK1 _ (zM λK2 hK2=>?_));refine zN (zC rfl λK3 hK3=>?_);refine l_elem (l:=ys++zs++k::r) zY rfl rfl rfl (ys.length+zs.length) rfl (by rw [cG (by rw [aB];exact aF _),aB,g9];rfl) hn1.symm rfl hok ?_;refine zB rfl (zJ (hK3 _ ?_));refine zC rfl λK4 hK4=>?_;refine l_call0 [(eY 32 k).den,.int .u8 (d:Int)] rfl rfl rfl own_wbit rfl rfl (λ_ _=>rfl) (wbit_S hk d hd) (λ_ _ _=>trivial) λ_=>?_;refine zB rfl (zJ (hK4 _ ?_))
  have hdone2:ks=(done++[k])++r:=by rw [hdone];simp
  have hzs:zs.length<=9223372036854775807:=by omega
  refine zW (((cK k d:Nat):Int)=0) rfl (λhb=>?_) (λhb=>?_)
  ·have hb:cK k d=0:=by omega
   refine s_own 0 rfl λhokF _ _=>?_;obtain⟨hh1,hh2⟩:=hokF _ (aR (hdKey_at (P:=P) (ys:=ys) (zs:=zs) (r:=r) (Z:=Z) (k:=k)));have hkF:=eY_ok (n:=32) hk;have hhat:=hdKey_at (P:=[]) (ys:=ys) (zs:=zs) (r:=r) (Z:=[]) (k:=k);rw [List.nil_append,bT,lC,aZ] at hhat;have hswap:=swap_list (P:=P) (ys:=ys) (zs:=zs) (r:=r) (Z:=Z) (k:=k)
   have hlx:(P++(ys++zs++k::r)++Z).length=P.length+(ys.length+zs.length+(1+r.length))+Z.length:=by simp;omega
   obtain⟨u1,hu1⟩:∃u,(P++(ys++zs++k::r)++Z)[P.length+(ys.length+zs.length)]?=some u:=⟨_,aK (by omega)⟩;obtain⟨u2,hu2⟩:∃u,((P++(ys++zs++k::r)++Z).set (P.length+(ys.length+zs.length)) (hdKey zs k))[P.length+ys.length]?=some u:=⟨_,aK (by rw [List.length_set];omega)⟩;have hc1:=(hokF _ (aR hu1)).2
   have hc2:(eY 32 u2).cl.length=32:=by
    rcases List.mem_or_eq_of_mem_set (aR hu2) with h|rfl
    ·exact(hokF _ h).2
    ·exact hh2
   generalize hdKey zs k=hd at *;generalize hxs:P++(ys++zs++k::r)++Z=xs at *;refine s_keep [0,1,6,7,8,9,10,11] [8] rfl rfl ?_;refine s_locs λG=>?_;have hsub:∀u∈([⟨8,some (G 8),45,[.agg 32 (By k).toArray]⟩]:List LV),u∈withG G [⟨8,none,45,[.agg 32 (By k).toArray]⟩]/\u.g.isSome=true:=λu hu=>⟨hu,by rw [aE.1 hu];rfl⟩;refine zM λK5 hK5=>?_;refine s_anyP [0,1,2,3,4,5,6,8] 11 2 (InvL [⟨8,some (G 8),45,[.agg 32 (By k).toArray]⟩]) (by kernel_rfl) rfl (inv_of hsub) ?_;refine p_frontS zY 0 (by kernel_rfl) rfl rfl rfl rfl rfl rfl (λx hx=>(hsub x hx).1) (λ_ h=>h) ?_;refine p_frontS zY 1 (by kernel_rfl) rfl rfl rfl rfl rfl rfl (λx hx=>(hsub x hx).1) (λ_ h=>h) ?_;refine p_frontS zY 2 (by kernel_rfl) rfl rfl rfl rfl rfl rfl (λx hx=>(hsub x hx).1) (λ_ h=>h) ?_;refine p_frontS zY 3 (by kernel_rfl) rfl rfl rfl rfl rfl rfl (λx hx=>(hsub x hx).1) (λ_ h=>h) ?_;refine p_frontS zY 4 (by kernel_rfl) rfl rfl rfl rfl rfl rfl (λx hx=>(hsub x hx).1) (λ_ h=>h) ?_;refine p_frontS zY 5 (by kernel_rfl) rfl rfl rfl rfl rfl rfl (λx hx=>(hsub x hx).1) (λ_ h=>h) ?_;refine p_frontO (.v (.pointer (some ⟨g,32*P.length+32*ys.length,none⟩))) trivial 6 (by kernel_rfl) rfl rfl rfl rfl rfl (runO_ixS ys.length rfl Tryz.underlying43 (by kernel_rfl) rfl rfl (by omega)) ?_;refine p_frontS zY 8 (by kernel_rfl) rfl rfl rfl rfl rfl rfl (λx hx=>(hsub x hx).1) (λ_ h=>h) ?_;refine p_step 7 (by kernel_rfl) rfl λK6 hK6=>?_;refine l_opV (.q (eY 32 hd)) hh1 rfl rfl rfl (run_ldEl (k':=32) (c:=c') (j:=ys.length) (off:=0) (g:=g) (a:=32*P.length) (fe:=eY 32) (l:=ys++zs++k::r) (y:=hd) zY rfl rfl hhat rfl hh1 λG' S' w hv=>(rd_own (lo:=0) (e:=45) (k:=32) (fe:=eY 32) (A:=some ⟨g,0,none⟩) (c:=c) (l:=P++(ys++zs++k::r)++Z) 0 (by rw [hxs];rfl) G' S' w hv).sub (by rw [hn1];exact hle) hmax) ?_;refine zJ (hK6 _ (inv_of hsub) ?_);refine p_step 9 (by kernel_rfl) rfl λK7 hK7=>?_;refine l_op (.v (.pointer (some ⟨g,32*P.length+32*(ys.length+zs.length),none⟩))) trivial rfl rfl rfl (runO_ixS (ys.length+zs.length) rfl Tryz.underlying43 (by kernel_rfl) rfl rfl (by omega)) ?_;refine zJ (hK7 _ (inv_of hsub) ?_);refine p_step 10 (by kernel_rfl) rfl λK8 hK8=>?_;refine l_eq 29 (.v (.pointer (some ⟨g,32*(P.length+(ys.length+zs.length))+0,none⟩))) rfl (by rw [pL 32 P.length,eX]) ?_;refine l_stFd 0 (P.length+(ys.length+zs.length)) 0 32 u1 hd rfl rfl rfl rfl rfl rfl hu1 (by kernel_rfl) hh2 (SQ.cl_one hh1) (by rw [gW (by rw [hc1];exact aF _)];simp) (by decide) ⟨hh1,hh2⟩ ?_;refine zJ (hK8 _ (inv_of hsub) ?_);refine p_tail [11,12] (by kernel_rfl) rfl ?_;refine l_op (.v (.pointer (some ⟨g,32*P.length+32*ys.length,none⟩))) trivial rfl rfl rfl (runO_ixS ys.length rfl Tryz.underlying43 (by kernel_rfl) rfl rfl (by omega)) ?_
   refine l_eq 30 (.v (.pointer (some ⟨g,32*(P.length+ys.length)+0,none⟩))) rfl (by rw [pL 32 P.length,eX]) ?_;refine l_stFd 0 (P.length+ys.length) 0 32 u2 k rfl rfl rfl rfl rfl rfl hu2 (by kernel_rfl) hkF.2 (SQ.cl_one hkF.1) (by rw [gW (by rw [hc2];exact aF _)];simp;rfl) (by decide) hkF ?_;refine zJ (hK5 _ ?_);refine zD rfl (hK2 _ ?_);refine zD rfl ?_;have hrl:=rot_len zs;exact zX (ys++[k],rotK zs,r) ⟨done++[k],hdone2,hpt.zero hb⟩ (by show r.length<(k::r).length;simp) ⟨⟨congrArg some (congrArg SV.v (congrArg (bM .i64) (wrapI (by simp;omega) (by omega) (by simp;omega)))),rfl,rfl,rfl,rfl,congrArg some (congrArg SV.v (congrArg (bM .i64) (wrapI (by simp) (by omega) (by simp;omega)))),trivial⟩,trivial,.of_eq (congrArg (λx=>[KyS (some ⟨g,0,none⟩) c x]) hswap),λ_ _ _=>trivial, zU⟩
  ·have hb:cK k d≠0:=by omega
   refine zO (hK2 _ ?_);refine zD rfl ?_;exact zX (ys,zs++[k],r) ⟨done++[k],hdone2,hpt.one hb⟩ (by show r.length<(k::r).length;simp) ⟨⟨congrArg some (congrArg SV.v (congrArg (bM .i64) (wrapI (by simp;omega) (by omega) (by simp;omega)))),rfl,rfl,rfl,rfl,rfl,trivial⟩,trivial,.of_eq (congrArg (λx=>[KyS (some ⟨g,0,none⟩) c x]) (by simp:P++(ys++zs++k::r)++Z=P++(ys++(zs++[k])++r)++Z)),λ_ _ _=>trivial, zU⟩
 ·refine s_exit (zS (zS (k_out ?_)))
  refine hK _ ?_;obtain rfl:r=[]:=bV (by omega)
  have e2:ks.length-ys.length=zs.length:=by rw [hkl,lC];omega
  have hpt2:Parted d ks (ys,zs):=by rw [hdone,bT];exact hpt
  have hyl:ys.length<=ks.length:=by omega
  refine s_regD 8 (by decide) (by kernel_rfl) (by kernel_rfl) λK4 hK4 G S w0 hst=>?_;refine g_autoS zY hst rfl ?_;refine g_opS (.v (.slice A' ys.length c')) trivial rfl rfl rfl (run_cutHi (sz:=32) (by kernel_rfl) (by omega) hnil rfl Tryz.underlying43 rfl rfl) ?_;refine g_autoS zY hst rfl ?_;refine g_opS (.v (.slice (cutK 32 A' c' ys.length) (ks.length-ys.length) (c'-ys.length))) trivial rfl rfl rfl (run_cutLoK (sz:=32) (by kernel_rfl) hyl hle hnil rfl Tryz.underlying43 rfl rfl) ?_;refine g_autoS zY hst rfl ?_;refine g_endS hst ?_;refine zJ (hK4 _ ?_);refine zP (zR zY ⟨(ys,zs),hpt2⟩ rfl (by decide) rfl (by rw [e2];rfl) (by show [KyS A c (P++(ys++zs)++Z)]=[KyS A c (P++(ys++zs++[])++Z)];rw [bT]) (λ_ _ _=>trivial) zU)
theorem withG_is{G:Nat->Nat}:∀{L:List LV},∀u∈withG G L,u∈withG G L/\u.g.isSome=true
 | [],_,h=>by cases h
 | _::_,_,h=>by
  rcases aL.1 h with rfl|h
  ·exact⟨List.mem_cons_self,rfl⟩
  ·exact⟨List.mem_cons_of_mem _ (withG_is _ h).1,(withG_is _ h).2⟩
abbrev dirP(ep:Int)(K:List UInt8->List (List UInt8))(x:DirV)(w:World):Prop:=x.F w/\x.Ok/\x.ep=ep/\∀k,bU x.l k=K k
theorem seg_32{s:HSeg}{w:World}(h:s.rd w):∀k∈s.l,k.length=32:=λk hk=>by
 obtain⟨i,hi⟩:=List.getElem?_of_mem hk;exact pick_key h hi
structure WiS where
  seen:Array Nat
  done:List (List UInt8×HSeg)
  n:Nat
  h:List UInt8->Option HSeg
  t:TA
def wiL(d:DirV)(x:WiS):List EntD:=lX d.l (x.done.map entD)
structure WiI(d:DirV)(g:List UInt8->Option HSeg)(es:Array MapEntry)(n:Nat)(x:WiS):Prop where
  did:DidM TH ok32 es g x.seen x.done
  dir:DirOk (wiL d x)
  small:SmallD (wiL d x)
  tells:Tells x.h (wiL d x)
  tree:TOk 256 (pairsD (wiL d x)) x.t
  len:(wiL d x).length<=d.l.length+x.done.length
  left:x.done.length+(leftOf es x.seen).size<=n
theorem wiL_next(d:DirV)(x:WiS)(q:List UInt8)(v:HSeg)(seen:Array Nat)(n:Nat)(h:List UInt8->Option HSeg)(t:TA):wiL d ⟨seen,x.done++[(q,v)],n,h,t⟩=if v.l=[] then wiL d x else iB (wiL d x) q v.l:=by
 unfold wiL
 rw [fC];exact buildD_one _ _ _
theorem shares0{l:List PairT}:dO (256-256) l:=λ_ _ _ _ _ h=>absurd h (oN _)
theorem dwith_S{d:DirV}(hd:d.Ok)(ep:Int)(mh n:Nat)(g:List UInt8->Option HSeg)(hsz:d.l.length+n<=1000)(h64:∀k s,g k=some s->s.l.length<=64) :
  Spec 29 [(eDv d).den,.int .i64 ep,.map (some mh)] [MapG TH ok32 mh n g] (λw=>Ta w/\d.F w/\∀k s,g k=some s->s.rd w) { ret:=λx:DirV=>.q (eDv x),own:=λ_=>[MapG TH ok32 mh n g],p:=dirP ep (overK g d.l) }:=by
 refine zQ [.p d.parts,.c (.v (.int .i64 ep)),.c (.v (.map (some mh)))] 51 Tryz.func29 rfl (by rw [Tryz.ntmps29];rfl) (more_ok d.parts_ok (two_ok trivial trivial)) λb=>?_;refine s_pure (∀k s,g k=some s->∀x∈s.l,x.length=32) (λw h _ k s hs=>seg_32 (h.2.2 k s hs)) λh32=>?_;refine zA rfl (zA rfl ?_);refine zM λK hK=>?_;refine zC rfl λK1 hK1=>?_;refine l_opV (.v (.int .i64 (n:Int))) trivial rfl rfl rfl (runO_lenA TH_ok (map_own 0 rfl) rfl rfl) ?_;refine zB rfl (zJ (hK1 _ ?_));refine zW ((n:Int)=0) rfl (λh0=>?_) (λ_=>?_)
 ·obtain rfl:n=0:=by omega
  refine zA rfl ?_;refine zP (k_openG 0 rfl λes clock hH=>k_closeG TH 0 rfl hH ?_);have hz:∀k,g k=none:=λk=>hH.zero k;exact zR zY ({ d with ep:=ep }:DirV) rfl (by decide) rfl rfl rfl (λw h _=>⟨h.2.1,⟨hd.dir,hd.small,hd.tells,hd.tree,hd.map⟩,rfl,λk=>(over_none hz d.l k).symm⟩) zU
 refine zO (hK _ (zC rfl λK2 hK2=>?_));refine l_opV (.v (.int .i64 (d.cnt:Int))) trivial rfl rfl rfl (runO_lenD hd (λ_ _ _ h=>h.fact.2.1) rfl rfl) ?_;refine zB rfl ?_;refine l_opV (.v (.int .i64 (n:Int))) trivial rfl rfl rfl (runO_lenA TH_ok (map_own 0 rfl) rfl rfl) ?_;refine zB rfl ?_;refine l_mkGn TH ok32 TH_ok rfl rfl rfl rfl rfl λm=>?_;refine zB rfl (zJ (hK2 _ ?_));refine zC rfl λK3 hK3=>?_;refine l_callA (own:=[MapG TH ok32 m 0 λ_=>none]) (R':=[MapG TH ok32 mh n g]) [.map (some m),.map d.mv] rfl rfl rfl (λ_ _=>by go_simp) rfl rfl (λ_ _=>rfl) (mcopy_S hd m) (λ_ h _=>h.2.1) λn2=>?_;refine l_R [MapG TH ok32 m n2 d.h,MapG TH ok32 mh n g] rfl ?_;refine zJ (hK3 _ (zM λK4 hK4=>?_));refine zC rfl λK5 hK5=>?_;refine l_openG 1 rfl λes clock hH=>?_;refine l_rangeM rfl rfl rfl rfl Tryz.underlying28 rfl (es:=es) (clock:=clock) (mapE_own 1 rfl) λr=>?_;refine zJ (hK5 _ (zN ?_))
 let Fs:WiS->Env:=λx=>⟨[(28,.v (.pointer (some ⟨r,0,none⟩))),(7,.v (.map (some m))),(3,.a 3 0),(6,.a 6 0)],[⟨6,none,33,zDirV.parts⟩,⟨3,none,33,[.one (.v (.int .i64 ep)),.one (.v (.map d.mv)),.agg 2 #[x.t.val,.int .u8 0]]⟩],[ItR (some mh) r clock x.seen,MapG TH ok32 m x.n x.h,MapB mh es clock],λw=>(Ta w/\∀k s,g k=some s->s.rd w)/\TF x.t w/\∀k s,x.h k=some s->s.rd w,λ_=>True⟩
 have hl0:(leftOf es #[]).size<=n:=by
  have h1:=hH.size
  unfold leftOf
  exact b8 (Array.size_filter_le ..) (Nat.le_of_eq h1)
 refine c_weak (e':=Fs ⟨#[],[],n2,d.h,d.t⟩) ⟨zE rfl, zL rfl rfl, .refl _,λ_ h _=>⟨⟨h.2.1,h.2.2.2⟩,h.2.2.1.2.2,h.2.2.1.2.1⟩, zU⟩ (s_loop (λx=>(leftOf es x.seen).size) Fs (WiI d g es n) ?_ ⟨#[],[],n2,d.h,d.t⟩ ⟨DidM.nil,hd.dir,hd.small,hd.tells,hd.tree,aF _,by show 0+(leftOf es #[]).size<=n;omega⟩)
 rintro x hx
 obtain⟨hD,hdir,hsm,hte,htr,hlen,hleft⟩:=id hx;refine zC rfl λK6 hK6=>?_;refine l_nextM hH hD (λ_ h=>eY_all h) eHs_all 0 rfl rfl rfl rfl rfl rfl (mapE_own 2 rfl) (λh0=>?_) λq v seen' hq hv hne hlt hla hD'=>?_
 ·refine zB rfl ?_
  refine zJ (hK6 _ (zM λK7 hK7=>?_));refine s_no rfl ?_;refine s_exit (zS (zS (k_out ?_)));refine k_drop 0 rfl (k_openG 0 rfl λes' clock' hH'=>k_freeB 0 rfl (k_closeG TH 0 rfl hH ?_));refine hK4 _ ?_;refine zA rfl (zA rfl ?_);refine zP ?_;refine zR zY (⟨ep,some m,es',clock',x.n,x.h,x.t,wiL d x⟩:DirV) rfl (by decide) rfl rfl rfl (λw h _=>⟨⟨λm' e=>?_,h.2.2.2,h.2.2.1⟩,⟨hdir,hsm,hte,htr,hH'⟩,rfl,?_⟩) zU
  ·have e:some m=some m':=e
   injection e with e
   rw [<-e];exact h.1
  ·exact over_done hD.nodup (λd hd=>(hD.in_ d hd).2) λk s hg=>hD.all TH_ok hH h0 hg
 refine zB rfl (zJ (hK6 _ ?_));refine zM λK7 hK7=>?_;refine s_yes rfl ?_;refine zO (hK7 _ ?_);refine zN (zC rfl λK8 hK8=>?_);refine l_opV (.t [eY 32 q,eHs v]) (two_ok (eY_all hq) trivial) rfl rfl rfl (runO_entry hH 0 rfl hla (mapE_own 2 rfl) rfl rfl) ?_;refine zB rfl (zJ (hK8 _ ?_));refine zA rfl ?_
 have hlt':x.done.length+1+(leftOf es seen').size<=n:=by omega
 refine zW ((v.l.length:Int)>0) rfl (λhpos=>?_) (λhn0=>?_)
 ·have hvn:v.l≠[]:=λe=>by rw [e] at hpos;exact absurd hpos (by decide)
  have hv64:=h64 q v hv;refine zM λK9 hK9=>?_;refine s_locs λG=>?_;refine s_anyP [0,1,2] 4 1 (InvL (withG G [⟨8,none,45,[.agg 32 (By q).toArray]⟩,⟨6,none,33,zDirV.parts⟩,⟨3,none,33,[.one (.v (.int .i64 ep)),.one (.v (.map d.mv)),.agg 2 #[x.t.val,.int .u8 0]]⟩])) (by kernel_rfl) rfl (inv_of withG_is) ?_;refine p_front zY 0 (by kernel_rfl) rfl rfl rfl rfl rfl rfl (λ_ h=>h) ?_;refine p_front zY 1 (by kernel_rfl) rfl rfl rfl rfl rfl rfl (λ_ h=>h) ?_;refine p_front zY 2 (by kernel_rfl) rfl rfl rfl rfl rfl rfl (λ_ h=>h) ?_;refine p_step 3 (by kernel_rfl) rfl λKa hKa=>?_;refine l_call0 [.slice v.A v.l.length v.c] rfl rfl rfl (λ_ _=>by go_simp) rfl rfl (λ_ _=>rfl) (wclone_S v.l (by omega)) (λ_ h _=>h.1.2 q v hv) λy=>?_;refine l_free 0 rfl ?_;refine zJ (hKa _ (inv_of withG_is) ?_);refine p_tail [4] (by kernel_rfl) rfl ?_;refine l_updG TH_ok 1 rfl q ⟨y.1,y.2,v.l⟩ hq rfl rfl rfl rfl rfl rfl ?_;refine zJ (k_noloc (hK9 _ ?_));obtain⟨va,hva⟩:∃va,valH v.l=va:=⟨_,rfl⟩
  have hvl:va.length=32:=by rw [<-hva];exact dig_len _
  have hval:=hvalue_S (A:=v.A) (c:=v.c) v.l;rw [hva] at hval;have hpl:(pairsD (wiL d x)).length=(wiL d x).length:=bO ..;have hput:=tPut_S 256 (pairsD (wiL d x)) x.t (q,va) ⟨hq,hvl⟩ (aF _) htr (DirOk.pairs hdir).1 (DirOk.pairs hdir).2 shares0 (by omega);refine s_locs λG=>?_;refine s_anyP [0,1,2,3] 6 2 (InvL (withG G [⟨8,none,45,[.agg 32 (By q).toArray]⟩,⟨6,none,33,zDirV.parts⟩,⟨3,none,33,[.one (.v (.int .i64 ep)),.one (.v (.map d.mv)),.agg 2 #[x.t.val,.int .u8 0]]⟩])) (by kernel_rfl) rfl (inv_of withG_is) ?_;refine p_front zY 0 (by kernel_rfl) rfl rfl rfl rfl rfl rfl (λ_ h=>h) ?_;refine p_front zY 1 (by kernel_rfl) rfl rfl rfl rfl rfl rfl (λ_ h=>h) ?_;refine p_front zY 2 (by kernel_rfl) rfl rfl rfl rfl rfl rfl (λ_ h=>h) ?_;refine p_front zY 3 (by kernel_rfl) rfl rfl rfl rfl rfl rfl (λ_ h=>h) ?_;refine p_step 4 (by kernel_rfl) rfl λKa hKa=>?_;refine l_call0 [.slice v.A v.l.length v.c] rfl rfl rfl (λ_ _=>by go_simp) rfl rfl (λ_ _=>rfl) hval (λ_ h _=>⟨h.2.2.1.1,h.2.2.1.2 q v hv⟩) λ_=>?_;refine zJ (hKa _ (inv_of withG_is) ?_);refine p_step 5 (by kernel_rfl) rfl λKb hKb=>?_;refine l_call0 [(eTr x.t ((256-256)%256)).den,(eY 32 q).den,(eY 32 va).den] rfl rfl rfl (λ_ _=>by go_simp) rfl rfl (λ_ _=>rfl) hput (λ_ h _=>⟨h.2.2.2.2.1,h.2.2.2.1.1.sh⟩) λ⟨t',ht'⟩=>?_;refine zJ (hKb _ (inv_of withG_is) ?_);refine p_tail [6,7] (by kernel_rfl) rfl ?_;refine zB rfl ?_
  have e1:wiL d ⟨seen',x.done++[(q,v)],if (x.h q).isSome then x.n else x.n+1,putF x.h q ⟨y.1,y.2,v.l⟩,t'⟩=iB (wiL d x) q v.l:=by rw [wiL_next,if_neg hvn]
  refine zJ (k_noloc (zX ⟨seen',x.done++[(q,v)],if (x.h q).isSome then x.n else x.n+1,putF x.h q ⟨y.1,y.2,v.l⟩,t'⟩ ⟨hD',?_,?_,?_,?_,?_,?_⟩ hlt ⟨zE rfl, zL rfl rfl, .refl _,λw h _=>⟨h.2.2.2.2.1,h.1,λk s e=>?_⟩,λ_ h=>trivial⟩))
  ·rw [e1]
   exact hdir.put hq hvn (h32 q v hv)
  ·rw [e1]
   exact hsm.put hv64
  ·rw [e1]
   exact hte.put q ⟨y.1,y.2,v.l⟩ hvn
  ·rw [e1,pairsD_put,hva]
   exact ht'
  ·rw [e1,aB]
   have:=putD_len (wiL d x) q v.l
   show _<=_+(_+1)
   omega
  ·rw [aB]
   exact hlt'
  ·have e:putF x.h q ⟨y.1,y.2,v.l⟩ k=some s:=e
   unfold putF at e
   split at e
   ·injection e with e
    rw [<-e];exact h.2.2.1
   ·exact h.2.2.2.2.2.2 k s e
 ·have hvn:v.l=[]:=bV (by omega)
  have e1:wiL d ⟨seen',x.done++[(q,v)],x.n,x.h,x.t⟩=wiL d x:=by rw [wiL_next,if_pos hvn]
  refine zO (zX ⟨seen',x.done++[(q,v)],x.n,x.h,x.t⟩ ⟨hD',?_,?_,?_,?_,?_,?_⟩ hlt ⟨zE rfl, zL rfl rfl, .refl _,λ_ h _=>h,λ_ h=>h⟩)
  ·rw [e1]
   exact hdir
  ·rw [e1]
   exact hsm
  ·rw [e1]
   exact hte
  ·rw [e1]
   exact htr
  ·rw [e1,aB]
   exact b8 hlen (Nat.add_le_add_left (Nat.le_succ _) _)
  ·rw [aB]
   exact hlt'
theorem SmallD.apply:∀{us:List UV} {l:List EntD},SmallD l->SmallD (fN l (us.map udH))
 | [],_,h=>h
 | u::us,l,h=>SmallD.apply (us:=us) (l:=iV l (udH u)) (h.step u)
theorem us_ok{us:List UV}(h:∀u∈us,u.Ok):tI (us.map udH):=⟨λx hx=>by
 obtain⟨u,hu,rfl⟩:=bP.1 hx
 exact(h u hu).id,λx hx=>by
 obtain⟨u,hu,rfl⟩:=bP.1 hx
 exact(h u hu).key⟩
theorem take_apply{us:List UV}{i:Nat}{u:UV}(h:us[i]?=some u)(l:List EntD):fN l ((us.take (i+1)).map udH)=iV (fN l ((us.take i).map udH)) (udH u):=by
 have:us.take (i+1)=us.take i++[u]:=by rw [List.take_add_one,h];rfl
 rw [this,fC,sA]
 rfl
theorem applyD_len:∀(us:List UD) (l:List EntD),(fN l us).length<=l.length+us.length
 | [],_=>aF _
 | u::us,l=>by
  have h1:=applyD_len us (iV l u);have h2:=stepD_len l u
  show(fN (iV l u) us).length<=_
  rw [bD]
  omega
structure GrownD(g:List UInt8->Option HSeg)(l z:List EntD):Prop where
  keys:∀k,bU z k=(match g k with|some s=>s.l|none=>bU l k)
  some:∀k s,g k=some s->s.l≠[]
theorem GrownD.nil(l:List EntD):GrownD (λ_=>none) l l:=⟨λ_=>rfl,λ_ _ h=>(by cases h)⟩
theorem GrownD.put{g:List UInt8->Option HSeg}{l z:List EntD}(h:GrownD g l z)(k:List UInt8)(s:HSeg)(hs:s.l≠[]):GrownD (putF g k s) l (iB z k s.l):=⟨λx=>by
 rw [kK]
 unfold putF
 by_cases c:x=k
 ·rw [if_pos c,if_pos c]
 ·rw [if_neg c,if_neg c]
  exact h.keys x,λx s' e=>by
 unfold putF at e
 split at e
 ·injection e with e
  rw [<-e];exact hs
 ·exact h.some x s' e⟩
theorem GrownD.over{g:List UInt8->Option HSeg}{l z:List EntD}(h:GrownD g l z)(k:List UInt8):overK g l k=bU z k:=by
 rw [h.keys]
 unfold overK
 cases hg:g k with
 | none=>rfl
 | some s=>exact if_neg (h.some k s hg)
theorem step_not{l:List EntD}{u:UV}(h:¬(signB u=true/\u.ver=((bU l u.id).length:Int)+1)):iV l (udH u)=l:=if_neg λh2=>h (okD_iff.1 h2)
theorem step_ok{l:List EntD}{u:UV}(h:signB u=true/\u.ver=((bU l u.id).length:Int)+1):iV l (udH u)=iB l u.id (bU l u.id++[u.key]):=if_pos (okD_iff.2 h)
structure ApS where
  i:Nat
  n:Nat
  g:List UInt8->Option HSeg
structure ApI(l:List EntD)(us:List UV)(x:ApS):Prop where
  i:x.i<=us.length
  n:x.n<=x.i
  g:GrownD x.g l (fN l ((us.take x.i).map udH))
theorem nxE_zeroD{l:List (List UInt8)}{u:UV}:nxE l u=0↔(signB u=true/\u.ver=(l.length:Int)+1):=by
 unfold nxE
 split
 ·rename_i h
  split<;>simp_all
 ·rename_i h
  simp [h]
theorem dapply_S{d:DirV}(hd:d.Ok){A:Option Addr}{c:Nat}{us:List UV}(hus:∀u∈us,u.Ok)(hsz:d.l.length+us.length<=1000) :
  Spec 9 [(eDv d).den,.slice A us.length c] [] (λw=>Ta w/\d.F w/\Rd 129 eU A c us w) { ret:=λx:DirV=>.q (eDv x),p:=λx w=>x.F w/\x.Ok/\x.ep=IntKind.i64.wrap (d.ep+1)/\x.l=fN d.l (us.map udH) }:=by
 refine zQ [.p d.parts,.c (.v (.slice A us.length c))] 58 Tryz.func9 rfl (by rw [Tryz.ntmps9];rfl) (two_ok d.parts_ok trivial) λb=>?_;refine zA rfl (zC rfl λK1 hK1=>?_);refine l_mkG TH ok32 rfl rfl rfl rfl λm=>?_;refine zB rfl (zJ (hK1 _ ?_));refine zM λK hK=>?_;refine zA rfl (zN ?_)
 let Fs:ApS->Env:=λx=>⟨[(15,.v (.int .i64 (x.i:Int))),(14,.v (.int .i64 (us.length:Int))),(13,.v (.slice A us.length c)),(5,.v (.map (some m))),(2,.a 2 0),(4,.a 4 0)],[⟨4,none,33,zDirV.parts⟩,⟨2,none,33,d.parts⟩],[MapG TH ok32 m x.n x.g],λw=>(Ta w/\d.F w/\Rd 129 eU A c us w)/\∀k s,x.g k=some s->s.rd w,λ_=>True⟩
 refine c_weak (e':=Fs ⟨0,0,λ_=>none⟩) ⟨zE rfl, zL rfl rfl, .refl _,λ_ h _=>⟨h,λ_ _ e=>by cases e⟩, zU⟩ (s_loop (λx=>us.length-x.i) Fs (ApI d.l us) ?_ ⟨0,0,λ_=>none⟩ ⟨aI _,aF _,GrownD.nil _⟩)
 rintro⟨i,n,g⟩ ⟨hi,hn,hg⟩
 dsimp only at hi hn hg
 have hsm:SmallD (fN d.l ((us.take i).map udH)):=hd.small.apply;refine zA rfl (zM λK5 hK5=>?_);refine zW ((i:Int)<(us.length:Int)) rfl (λhlt=>?_) (λhge=>?_)
 ·have hlt:i<us.length:=by omega
  obtain⟨u,hu⟩:∃u,us[i]?=some u:=⟨_,aK hlt⟩;have huo:=hus u (aR hu);have htk:=take_apply hu d.l;refine zO (hK5 _ (zM λK10 hK10=>?_))
  have hgo:∀n' g',n'<=i+1->GrownD g' d.l (fN d.l ((us.take (i+1)).map udH))->∀e,Weak e ⟨[(15,.v (.int .i64 (i:Int))),(14,.v (.int .i64 (us.length:Int))),(13,.v (.slice A us.length c)),(5,.v (.map (some m))),(2,.a 2 0),(4,.a 4 0)],[⟨4,none,33,zDirV.parts⟩,⟨2,none,33,d.parts⟩],[MapG TH ok32 m n' g'],λw=>(Ta w/\d.F w/\Rd 129 eU A c us w)/\∀k s,g' k=some s->s.rd w,λ_=>True⟩->kS b K10 58 e:=by
   intro n' g' hn' hg' e hw
   refine k_weak hw (hK10 _ ?_);refine zD rfl ?_;exact zX ⟨i+1,n',g'⟩ ⟨hlt,hn',hg'⟩ (by show us.length-(i+1)<us.length-i;omega) ⟨⟨congrArg (λz=>some (SV.v (.int .i64 z))) (wrapI (m:=(i:Int)+1) (r:=((i+1:Nat):Int)) (by omega) (by omega) (by omega)),rfl,rfl,rfl,rfl,rfl,trivial⟩,zL rfl rfl, .refl _,λ_ h _=>h,λ_ h=>h⟩
  refine zN (zC rfl λK11 hK11=>?_);refine l_elem zY rfl rfl rfl i rfl hu rfl rfl (rd_fact λ_ h _=>h.1.2.2) ?_;refine zB rfl (zJ (hK11 _ ?_));obtain⟨z,hz⟩:∃z,fN d.l ((us.take i).map udH)=z:=⟨_,rfl⟩;rw [hz] at hg hsm htk;have hk64:=hsm.keys u.id;refine zC rfl λK12 hK12=>?_;refine l_opV (.t [eHs ((g u.id).getD nilH),.c (.b (g u.id).isSome)]) (two_ok trivial trivial) rfl rfl rfl (runO_grown (map_own 0 rfl) u.id huo.id rfl rfl rfl) ?_;refine zB rfl (zJ (hK12 _ ?_));refine zM λK13 hK13=>?_
  have hrest:∀s:HSeg,s.l=bU z u.id->∀e,Weak e ⟨[(8,.q (eHs s)),(7,.a 7 0),(15,.v (.int .i64 (i:Int))),(14,.v (.int .i64 (us.length:Int))),(13,.v (.slice A us.length c)),(5,.v (.map (some m))),(2,.a 2 0),(4,.a 4 0)],[⟨7,none,76,u.parts⟩,⟨4,none,33,zDirV.parts⟩,⟨2,none,33,d.parts⟩],[MapG TH ok32 m n g],λw=>s.rd w/\(Ta w/\d.F w/\Rd 129 eU A c us w)/\∀k s,g k=some s->s.rd w,λ_=>True⟩->kS b K13 58 e:=by
   intro s hsl e hw
   refine k_weak hw (hK13 _ ?_);rw [<-hsl] at hk64;have hwr:IntKind.i64.wrap ((s.l.length:Int)+1)=(s.l.length:Int)+1:=wrapI rfl (by omega) (by omega);refine zM λK14 hK14=>?_;refine zA rfl ?_;refine zW (u.ver≠IntKind.i64.wrap ((s.l.length:Int)+1)) rfl (λhne=>?_) (λheq=>?_)
   ·rw [hwr] at hne
    refine s_exit (zS (k_out (hgo n g (by omega) ?_ _ ⟨zE rfl, zL rfl rfl, .refl _,λ_ h _=>h.2, zU⟩)));rw [htk,step_not (λh=>hne (by rw [hsl];exact h.2))];exact hg
   rw [hwr] at heq;have heq:u.ver=(s.l.length:Int)+1:=Decidable.of_not_not heq;refine zO (hK14 _ ?_);obtain⟨ee,hee⟩:∃ee,nxE s.l u=ee:=⟨_,rfl⟩;obtain⟨kk,hkk⟩:∃kk,nxK s.l u=kk:=⟨_,rfl⟩;have hnx:=hnext_Q (A:=s.A) (c:=s.c) hee hkk huo (by omega);refine zC rfl λK15 hK15=>?_;refine l_call0 [.slice s.A s.l.length s.c,(eU u).den] rfl rfl rfl (λ_ _=>by go_simp) rfl rfl (λ_ _=>rfl) hnx (λ_ h _=>⟨h.2.1.1,h.1⟩) λ⟨X,c2⟩=>?_;refine zB rfl (zJ (hK15 _ ?_));refine zA rfl ?_;refine zW ((ee:Int)=0) rfl (λh0=>?_) (λh0=>?_)
   ·have h0:nxE s.l u=0:=by omega
    have hk2:kk=s.l++[u.key]:=by rw [<-hkk];unfold nxK;rw [if_pos h0]
    have hst:=step_ok (l:=z) (u:=u) (by rw [<-hsl];exact nxE_zeroD.1 h0);rw [<-hsl,<-hk2] at hst;refine s_lit (zB rfl ?_);refine l_updG TH_ok 0 rfl u.id ⟨X,c2,kk⟩ huo.id rfl rfl rfl rfl rfl rfl ?_;refine zJ (hgo (if (g u.id).isSome then n else n+1) (putF g u.id ⟨X,c2,kk⟩) (by split<;>omega) ?_ _ ⟨zE rfl, zL rfl rfl, .refl _,λw h _=>⟨h.2.2.1,λk s' e=>?_⟩, zU⟩)
    ·rw [htk,hst]
     exact hg.put u.id ⟨X,c2,kk⟩ (by rw [hk2];simp)
    ·unfold putF at e
     split at e
     ·injection e with e
      rw [<-e];exact h.1
     ·exact h.2.2.2 k s' e
   ·refine zO (hgo n g (by omega) ?_ _ ⟨zE rfl, zL rfl rfl, .refl _,λ_ h _=>h.2.2, zU⟩)
    rw [htk,step_not (λh=>h0 (by rw [<-hee,nxE_zeroD.2 (by rw [hsl];exact h)];rfl))];exact hg
  have hkz:=hg.keys u.id;refine zA rfl ?_;refine s_if (!(g u.id).isSome) rfl (λh=>?_) (λh=>?_)
  ·have hs:g u.id=none:=by
    cases e:g u.id with
    | none=>rfl
    | some s=>rw [e] at h;cases h
   rw [hs] at hkz;refine s_lit (zB rfl ?_);refine l_opV (.q (eHs (d.seg u.id))) trivial rfl rfl rfl (runO_hist hd (λ_ _ _ h=>h.fact.1.2.1) u.id huo.id rfl rfl rfl) ?_;refine zB rfl ?_;exact zJ (hrest (d.seg u.id) (by rw [hkz,hd.seg_l]) _ ⟨zE rfl, zL rfl rfl, .refl _,λ_ h _=>⟨h.1.2.1.seg_rd _,h⟩, zU⟩)
  ·cases hs:g u.id with
   | none=>rw [hs] at h;cases h
   | some s =>
    rw [hs] at hkz;exact zO (hrest s hkz.symm _ ⟨zE rfl, zL rfl rfl, .refl _,λ_ h _=>⟨h.2 _ _ hs,h⟩, zU⟩)
 ·obtain rfl:us.length=i:=by omega
  rw [List.take_length] at hg hsm;refine s_exit (zS (zS (k_out ?_)));refine hK _ ?_
  have h64:∀k s,g k=some s->s.l.length<=64:=λk s e=>by
   have h1:=hg.keys k;rw [e] at h1;have h2:=hsm.keys k;rw [h1] at h2;exact h2
  have hlz:=applyD_len (us.map udH) d.l;rw [bO] at hlz;refine zC rfl λK16 hK16=>?_;refine l_callA (own:=[MapG TH ok32 m n g]) (R':=[]) [(eDv d).den,.int .i64 (IntKind.i64.wrap (d.ep+1)),.map (some m)] rfl rfl rfl (λ_ _=>by go_simp) rfl rfl (λ_ _=>rfl) (dwith_S hd (IntKind.i64.wrap (d.ep+1)) m n g (by omega) h64) (λ_ h _=>⟨h.1.1,h.1.2.1,h.2⟩) λx=>?_;refine zB rfl (zJ (hK16 _ ?_));refine zP (k_drop 0 rfl ?_);exact zR zY x rfl (by decide) rfl rfl rfl (λw h _=>⟨h.1.1,h.1.2.1,h.1.2.2.1,DirOk.ext h.1.2.1.dir (hd.dir.apply (us_ok hus)) λk=>(h.1.2.2.2 k).trans (hg.over k)⟩) zU
theorem pairs_ok{l:List EntD}(h:DirOk l):∀p∈pairsD l,OkT2 p:=λp hp=>by
 obtain⟨e,he,rfl⟩:=bP.1 hp;exact⟨h.ids e he,dig_len _⟩
theorem own_dkeys:Own 12:=λ_ _=>by go_simp
abbrev keysP(l:List (List UInt8)):Post PX:={ ret:=λx=>.v (.slice x.1 l.length x.2),own:=λx=>[KyS x.1 x.2 l] }
theorem dkeys_S{d:DirV}(hd:d.Ok){k:List UInt8}(hk:k.length=32):Spec 12 [(eDv d).den,(eY 32 k).den] [] d.F (keysP (bU d.l k)):=by
 have h64:=hd.small.keys k;rw [<-hd.seg_l k] at h64 ⊢;refine zQ [.p d.parts,eY 32 k] 10 Tryz.func12 rfl (by rw [Tryz.ntmps12];rfl) (two_ok d.parts_ok (eY_ok hk).1) λb=>?_;refine zA rfl (zC rfl λK hK=>?_);refine l_opV (.q (eHs (d.seg k))) trivial rfl rfl rfl (runO_hist hd (λ_ _ _ h=>h.fact) k hk rfl rfl rfl) ?_;refine l_call0 [.slice (d.seg k).A (d.seg k).l.length (d.seg k).c] rfl rfl rfl (λ_ _=>by go_simp) rfl rfl (λ_ _=>rfl) (wclone_S (d.seg k).l (by omega)) (λ_ h _=>h.seg_rd k) λx=>?_;refine zB rfl (zJ (hK _ ?_));exact zP (zR zY x rfl (by decide) rfl rfl rfl (λ_ _ _=>trivial) zU)
theorem droot_S{d:DirV}(hd:d.Ok):Spec 20 [(eDv d).den] [] d.F (one (.q (eY 32 (dX 256 (pairsD d.l))))):=by
 rw [<-hd.tree.root];refine zQ [.p d.parts] 6 Tryz.func20 rfl (by rw [Tryz.ntmps20];rfl) (one_ok d.parts_ok) λb=>?_;refine zA rfl (zC rfl λK hK=>?_);refine l_call0 [(eTr d.t 0).den] rfl rfl rfl own_tRoot rfl rfl (λ_ _=>rfl) (tRoot_S d.t 0) (λ_ h _=>h.2.2) λ_=>?_;refine zB rfl (zJ (hK _ ?_));exact zP (zR zY () rfl (by decide) rfl rfl rfl (λ_ _ _=>trivial) zU)
theorem dtree_S(d:DirV):Spec 24 [(eDv d).den] [] (λ_=>True) (one (.q (.p [.agg 2 #[d.t.val,.int .u8 0]]))):=by
 refine zQ [.p d.parts] 5 Tryz.func24 rfl (by rw [Tryz.ntmps24];rfl) (one_ok d.parts_ok) λb=>?_;refine zA rfl (zA rfl ?_);exact zP (zR zY () rfl (by decide) rfl rfl rfl (λ_ _ _=>trivial) zU)
theorem depoch_S(d:DirV):Spec 23 [(eDv d).den] [] (λ_=>True) (one (.v (.int .i64 d.ep))):=by
 refine zQ [.p d.parts] 5 Tryz.func23 rfl (by rw [Tryz.ntmps23];rfl) (one_ok d.parts_ok) λb=>?_;refine zA rfl (zA rfl ?_);exact zP (zR zY () rfl (by decide) rfl rfl rfl (λ_ _ _=>trivial) zU)
theorem dtree_ok(d:DirV):(SQ.p [.agg 2 #[d.t.val,.int .u8 0]]).Ok:=λp hp=>by
 rw [aE.1 hp];exact d.parts_ok _ (by simp [DirV.parts])
theorem Spec.tell{f:FuncId}{args:List Value}{F:World->Prop}{α β:Type}{ret:α->RV}{lo e k:Nat}{fe:β->SQ}{A:α->Option Addr}{c:α->Nat}{l:List β}(h:Spec f args [] F { ret:=ret,own:=λx=>[OwnS lo e k fe (A x) (c x) l] }):Spec f args [] F { ret:=ret,p:=λx=>Rd k fe (A x) (c x) l }:=λw S X hs hX hF=>by
 refine(h w S X hs hX hF).mono ?_
 rintro e w' ⟨x,S',h1,h2,h3,⟨S1,S2,h4,h8,h9,h10⟩,h5,h6,h7⟩
 refine⟨x,λ_=>False,h1,h2,h3,λ_ h=>h,λ_ h=>h.elim,λw2 hw=>(OwnS.rd h4).keep hw.size λg hg hlt=>hw.block g hlt ?_, zU⟩
 rintro(hk|hk)
 ·have hS1:S1 g:=(h4.2.2 g).2 hg
  exact hs g (h5 g ((h9 g).2 (.inl hS1)) (hX g hk).1)
 ·exact hk
theorem wcut_nil(n d:Nat)(ks:List (List UInt8)):PW.cut n d [] ks = .empty:=by cases n<;>rfl
theorem wcut_hid(n d:Nat){l:List PairT}(h:l≠[]):PW.cut n d l [] = .hid (dX (256-d) l):=by
 cases l with
 | nil=>exact absurd rfl h
 | cons p l=>cases n<;>rfl
theorem wcut_leaf(n d:Nat)(p:PairT){ks:List (List UInt8)}(h:ks≠[]):PW.cut n d [p] ks = .leaf p:=by
 cases ks with
 | nil=>exact absurd rfl h
 | cons k ks=>cases n<;>rfl
theorem wcut_inner(n d:Nat){l:List PairT}{ks:List (List UInt8)}(h2:2<=l.length)(h:ks≠[]):PW.cut (n+1) d l ks = .inner (PW.cut n (d+1) (bS d l) (PW.keyL d ks)) (PW.cut n (d+1) (bC d l) (PW.keyR d ks)):=by
 match l,ks,h2,h with
 | [],_,h2,_=>exact absurd h2 (by decide)
 | [_],_,h2,_=>exact absurd h2 (by simp)
 | _::_::_,[],_,h=>exact absurd rfl h
 | _::_::_,_::_,_,_=>rfl
theorem wcut_perm:∀(n d:Nat) (l:List PairT) {ks ks':List (List UInt8)},ks.Perm ks'->PW.cut n d l ks=PW.cut n d l ks'
 | n,d,[],_,_,_=>by rw [wcut_nil,wcut_nil]
 | n,d,p::l,ks,ks',h=>by
  by_cases e:ks=[]
  ·subst e
   rw [h.nil_eq]
  ·have e':ks'≠[]:=λh2=>e (by subst h2;exact h.eq_nil)
   cases l with
   | nil=>rw [wcut_leaf n d p e,wcut_leaf n d p e']
   | cons q l =>
    cases n with
    | zero =>
     cases ks with
     | nil=>exact absurd rfl e
     | cons=>cases ks' with
      | nil=>exact absurd rfl e'
      | cons=>rfl
    | succ n =>
     rw [wcut_inner n d (by simp) e,wcut_inner n d (by simp) e',wcut_perm n (d+1) _ (h.filter _),wcut_perm n (d+1) _ (h.filter _)]
theorem withG_some{G:Nat->Nat}:∀{L:List LV},∀u∈withG G L,u∈withG G L/\u.g.isSome=true:=λu hu=>⟨hu,by
 obtain⟨y,_,rfl⟩:=withG_mem hu
 rfl⟩
theorem l_pureV{P:Program}{b:Base}{ops:Array Oper}{Q:Exit->Act->World->Prop}{N:Nat}{E:SE}{L:List LV}{R:List Res}{F M:World->Prop}{l:List Oper}(φ:Prop)(h:∀G S w,View G S L R F M w->φ)(hn:φ->lS P b ops Q N l ⟨E,L,R,F,M⟩):lS P b ops Q N l ⟨E,L,R,F,M⟩:=λa w ⟨G,S,h1,h2,h3⟩=>hn (h G S w h3.view) a w ⟨G,S,h1,h2,h3⟩
theorem OwnS.start{α:Type}{lo e k c:Nat}{fe:α->SQ}{A:Option Addr}{l:List α}{w:World}{S:Nat->Prop}(h:(OwnS lo e k fe A c l).holds w S)(h0:0<l.length):∃g,A=some ⟨g,0,none⟩:=by
 obtain⟨h1,h2,h3⟩:=h
 rcases h2.2 with⟨h4,h5⟩|⟨g,cap,cur,hv,_⟩
 ·omega
 ·injection hv with h6 h7 h8
  exact⟨g,h6⟩
theorem wcut_S{A:Option Addr}{c:Nat}:∀(r:Nat) (l:List PairT) (t:TA) (P ks Z:List (List UInt8)) (A':Option Addr) (c':Nat),r<=256->TOk r l t->cV l->gL l->dO (256-r) l->KeyAt A A' c' P.length ks.length->(∀k∈ks,k.length=32) ->
  Spec 56 [(eTr t ((256-r)%256)).den,.slice A' ks.length c',.int .u8 (((256-r)%256:Nat):Int)] [KyS A c (P++ks++Z)] (TF t) { ret:=λ_:{ ks':List (List UInt8) // ks'.Perm ks }=>.v (PW.cut r (256-r) l ks).val,own:=λx=>[KyS A c (P++x.1++Z)] }:=by
 intro r
 induction r using Nat.strongRecOn with
 | ind r ih =>
 intro l t P ks Z A' c' hr ht hs hk hsh hat hks
 obtain⟨D,hD⟩:∃D,(256-r)%256=D:=⟨_,rfl⟩;rw [hD];refine zQ [eTr t D,.c (.v (.slice A' ks.length c')),.c (.v (.int .u8 (D:Int)))] 67 Tryz.func56 rfl (by rw [Tryz.ntmps56];rfl) (more_ok (trPs_ok t _) (two_ok trivial trivial)) λb=>?_;refine zA rfl (zM λK hK=>?_);refine zC rfl λK1 hK1=>?_;refine l_call0 [(eTr t D).den] rfl rfl rfl (λ_ _=>by go_simp) rfl rfl (λ_ _=>rfl) (tLen_S t D) (λ_ h _=>h) λ_=>?_;refine zB rfl (zJ (hK1 _ ?_));have hlen:=ht.len;have hroot:=ht.root
 by_cases hl0:l=[]
 ·subst hl0
  refine zW ((t.len:Int)=0) rfl (λ_=>?_) (λh=>absurd (by rw [hlen];rfl) h);refine zC rfl λK2 hK2=>?_;refine l_op (.v PW.empty.val) trivial rfl rfl rfl (run_mkI rfl Tryz.underlying154 rfl rfl) ?_;refine zB rfl (zJ (hK2 _ ?_));exact zP (zR zY ⟨ks,.refl _⟩ rfl (by decide) rfl (by rw [wcut_nil];rfl) rfl (λ_ _ _=>trivial) zU)
 have hlpos:0<l.length:=nT.2 hl0;refine zW ((t.len:Int)=0) rfl (λh=>absurd h (by omega)) (λ_=>?_);refine zO (hK _ (zM λK2 hK2=>?_));refine zA rfl ?_
 by_cases hk0:ks=[]
 ·subst hk0
  refine zW ((([]:List (List UInt8)).length:Int)=0) rfl (λ_=>?_) (λh=>absurd rfl h);refine zC rfl λK3 hK3=>?_;refine l_call0 [(eTr t D).den] rfl rfl rfl own_tRoot rfl rfl (λ_ _=>rfl) (tRoot_S t D) (λ_ h _=>h.2) λ_=>?_;refine zB rfl ?_;refine l_op (.v (PW.hid t.root).val) trivial rfl rfl rfl (run_mkI (q:=.p (PW.hid t.root).ps) rfl Tryz.underlying156 rfl rfl) ?_;refine zB rfl (zJ (hK3 _ ?_));exact zP (zR zY ⟨[],.refl _⟩ rfl (by decide) rfl (by rw [wcut_hid _ _ hl0,show 256-(256-r)=r by omega,<-hroot];rfl) rfl (λ_ _ _=>trivial) zU)
 have hkpos:0<ks.length:=nT.2 hk0;refine zW ((ks.length:Int)=0) rfl (λh=>absurd h (by omega)) (λ_=>?_);refine zO (hK2 _ (zM λK3 hK3=>?_));refine zC rfl λK4 hK4=>?_;refine l_call0 [(eTr t D).den] rfl rfl rfl (λ_ _=>by go_simp) rfl rfl (λ_ _=>rfl) (tLeaf_S t D) (λ_ h _=>h.2) λ_=>?_
 cases t with
 | nil=>exact absurd ht.nil_inv hl0
 | leaf g0 h0 p =>
  obtain rfl:=ht.leaf_inv;refine zB rfl (zJ (hK4 _ ?_));refine zA rfl ?_;refine s_yes rfl ?_;refine s_regD 7 (by decide) (by kernel_rfl) (by kernel_rfl) λK5 hK5 G S w0 hst=>?_;refine g_autoS zY hst rfl ?_;refine g_callS (F':=TF (.leaf g0 h0 p)) hst [(eTr (.leaf g0 h0 p) D).den] rfl rfl rfl own_tRoot rfl rfl (λ_=>rfl) (tRoot_S (.leaf g0 h0 p) D) (eY_ok (n:=32) (digest256_len _)).1 (λ_ _ _ hv=>hv.fact.2.2) ?_;refine g_autoS zY hst rfl ?_;refine g_opS (.v (PW.leaf p).val) trivial rfl rfl rfl (run_mkI (q:=.p (PW.leaf p).ps) rfl Tryz.underlying160 rfl rfl) ?_;refine g_autoS zY hst rfl ?_;refine g_endS hst ?_;refine zJ (hK5 _ ?_);exact zP (zR zY ⟨ks,.refl _⟩ rfl (by decide) rfl (by rw [wcut_leaf _ _ _ hk0];rfl) rfl (λ_ _ _=>trivial) zU)
 | node g0 x y =>
  obtain⟨r,rfl⟩:∃q,r=q+1:=⟨r-1,by
   cases r with
   | zero=>exact ht.elim
   | succ r=>rfl⟩
  obtain rfl:255-r=D:=by omega
  rw [show 256-(r+1)=255-r by omega] at hsh;obtain⟨d,hdr⟩:∃d,255-r=d:=⟨_,rfl⟩;obtain⟨e8,he8⟩:∃e,(256-r)%256=e:=⟨_,rfl⟩
  have hd:d<256:=by omega
  have hw8:IntKind.u8.wrap ((d:Int)+1)=(e8:Int):=wrapB2 ⟨hdr.symm,by omega⟩ he8;have ih2:=λl t P ks Z A' c' ht hs hk hsh=>ih r (by omega) l t P ks Z A' c' (by omega) ht hs hk hsh;simp only [he8] at ih2;clear ih;rw [hdr] at hsh ⊢;obtain⟨hl2,hx0,hy0⟩:=ht;rw [hdr] at hx0 hy0;have hshL:=hsh.left;have hshR:=hsh.right;rw [show d+1=256-r by omega] at hshL hshR;refine zB rfl (zJ (hK4 _ ?_));refine zA rfl ?_;refine s_no rfl ?_;refine zO (hK3 _ ?_);refine s_keep [1,2,3] [3] rfl rfl ?_;refine zC rfl λK5 hK5=>?_;refine l_call0 [(eTr (.node g0 x y) d).den] rfl rfl rfl (λ_ _=>by go_simp) rfl rfl (λ_ _=>rfl) (tSides_S (.node g0 x y) d e8 hw8) (λ_ h _=>h.2.2) λ_=>?_;refine zB rfl (zJ (hK5 _ ?_));refine zC rfl λK6 hK6=>?_;refine l_R ([KyS A c (P++ks++Z)]++[]) rfl ?_;refine l_callA [.slice A' ks.length c',.int .u8 (d:Int)] rfl rfl rfl (λ_ _=>by go_simp) rfl rfl (λ_ _=>rfl) (wparted_S P ks Z d hd hat hks) (λ_ _ _=>trivial) λu=>?_;obtain⟨⟨ys,zs⟩,hpt⟩:=u;refine zB rfl (zJ (hK6 _ ?_));have hplen:=hpt.len
  dsimp only at hplen
  have hysl:∀k∈ys,k.length=32:=λk h=>hks k ((hpt.perm.mem_iff).1 (List.mem_append_left _ h));have hzsl:∀k∈zs,k.length=32:=λk h=>hks k ((hpt.perm.mem_iff).1 (List.mem_append_right _ h));have hsL:cV (bS d l):=hs.filter _;have hsR:cV (bC d l):=hs.filter _;have hkL:gL (bS d l):=hk.filter _;have hkR:gL (bC d l):=hk.filter _;have hcall1:=ih2 (bS d l) x P ys (zs++Z) A' c' hx0 hsL hkL hshL (hat.left (by omega)) hysl
  have hcall2:=λys':{ q:List (List UInt8) // q.Perm ys }=>ih2 (bC d l) y (P++ys'.1) zs Z (cutK 32 A' c' ys.length) (c'-ys.length) hy0 hsR hkR hshR (by
   have:=hat.right (m:=ys.length) (by omega);rw [show ks.length-ys.length=zs.length by omega] at this;rw [aB,ys'.2.length_eq]
   exact this) hzsl
  have hX:(PW.cut r (256-r) (bS d l) ys).root=x.root:=by
   rw [(PW.cut_of r ys (by omega) hsL hkL hshL).root,hx0.root,show 256-(256-r)=r by omega]
  have hY:(PW.cut r (256-r) (bC d l) zs).root=y.root:=by
   rw [(PW.cut_of r zs (by omega) hsR hkR hshR).root,hy0.root,show 256-(256-r)=r by omega]
  have hfin:PW.cut (r+1) (256-(r+1)) l ks = .inner (PW.cut r (256-r) (bS d l) ys) (PW.cut r (256-r) (bC d l) zs):=by
   rw [show 256-(r+1)=d by omega,wcut_inner r d hl2 hk0,show d+1=256-r by omega,wcut_perm r _ _ hpt.1,wcut_perm r _ _ hpt.2]
  have hroot2:fF x.root y.root=fF (PW.cut r (256-r) (bS d l) ys).root (PW.cut r (256-r) (bC d l) zs).root:=by rw [hX,hY]
  generalize PW.cut r (256-r) (bS d l) ys=X at *;generalize PW.cut r (256-r) (bC d l) zs=Y at *;refine s_keep [2,3,10,11,13,14] [3,10,11] rfl rfl ?_;refine s_locs λG=>?_;refine zM λK7 hK7=>?_;refine s_anyP [0,2,3,4,5,7,8,9,10] 11 5 (InvL (withG G [⟨11,none,31,trPs y e8⟩,⟨10,none,31,trPs x e8⟩,⟨3,none,31,trPs (.node g0 x y) d⟩])) (by kernel_rfl) rfl (inv_of withG_some) ?_;refine p_frontS zY 0 (by kernel_rfl) rfl rfl rfl rfl rfl rfl (λx hx=>hx) (λ_ h=>h) ?_;refine p_frontS zY 2 (by kernel_rfl) rfl rfl rfl rfl rfl rfl (λx hx=>hx) (λ_ h=>h) ?_;refine p_frontS zY 3 (by kernel_rfl) rfl rfl rfl rfl rfl rfl (λx hx=>hx) (λ_ h=>h) ?_;refine p_frontS zY 4 (by kernel_rfl) rfl rfl rfl rfl rfl rfl (λx hx=>hx) (λ_ h=>h) ?_;refine p_frontS zY 5 (by kernel_rfl) rfl rfl rfl rfl rfl rfl (λx hx=>hx) (λ_ h=>h) ?_;refine p_frontS zY 7 (by kernel_rfl) rfl rfl rfl rfl rfl rfl (λx hx=>hx) (λ_ h=>h) ?_;refine p_frontS zY 8 (by kernel_rfl) rfl rfl rfl rfl rfl rfl (λx hx=>hx) (λ_ h=>h) ?_;refine p_frontS zY 9 (by kernel_rfl) rfl rfl rfl rfl rfl rfl (λx hx=>hx) (λ_ h=>h) ?_;refine p_frontS zY 10 (by kernel_rfl) rfl rfl rfl rfl rfl rfl (λx hx=>hx) (λ_ h=>h) ?_;refine p_step 1 (by kernel_rfl) rfl λK8 hK8=>?_;refine l_call0 [(eTr (.node g0 x y) d).den] rfl rfl rfl own_tRoot rfl rfl (λ_ _=>rfl) (tRoot_S (.node g0 x y) d) (λ_ h _=>h.2.2.2.2) λ_=>?_;refine zJ (hK8 _ (inv_of withG_some) ?_);refine p_step 6 (by kernel_rfl) rfl λK9 hK9=>?_;refine l_num 57 (e8:Int) rfl hw8 ?_;refine l_R [KyS A c (P++(ys++zs)++Z)] rfl ?_;refine l_R ([KyS A c (P++ys++(zs++Z))]++[]) (congrArg (λq=>[KyS A c q]) (by simp:P++(ys++zs)++Z=P++ys++(zs++Z))) ?_;refine l_callA [(eTr x e8).den,.slice A' ys.length c',.int .u8 (e8:Int)] rfl rfl rfl (λ_ _=>by go_simp) rfl rfl (λ_ _=>rfl) hcall1 (λ_ h _=>h.2.2.2.2.2.2.1) λys'=>?_;refine zJ (hK9 _ (inv_of withG_some) ?_);refine p_tail [11,12,13,14,15] (by kernel_rfl) rfl ?_;refine l_num 62 (e8:Int) rfl hw8 ?_;refine l_R [KyS A c (P++ys'.1++(zs++Z))] rfl ?_;refine l_R ([KyS A c (P++ys'.1++zs++Z)]++[]) (congrArg (λq=>[KyS A c q]) (by simp:P++ys'.1++(zs++Z)=P++ys'.1++zs++Z)) ?_;refine l_callA [(eTr y e8).den,.slice (cutK 32 A' c' ys.length) zs.length (c'-ys.length),.int .u8 (e8:Int)] rfl rfl rfl (λ_ _=>by go_simp) rfl rfl (λ_ _=>rfl) (hcall2 ys') (λ_ h _=>h.2.2.2.2.2.2.2.2) λzs'=>?_;refine l_op (.p (sdW X Y)) (sdW_ok _ _) rfl rfl rfl (run_sides rfl rfl rfl) ?_;refine l_eq 53 (.q (eY 32 (fF X.root Y.root))) rfl (congrArg (λq=>SV.q (eY 32 q)) hroot2) ?_;refine zB rfl ?_;refine l_op (.v (PW.inner X Y).val) trivial rfl rfl rfl (run_mkI (q:=.p (PW.inner X Y).ps) rfl Tryz.underlying167 rfl rfl) ?_
  refine zB rfl (zJ (hK7 _ ?_));exact zP (zR zY ⟨ys'.1++zs'.1,(ys'.2.append zs'.2).trans hpt.perm⟩ rfl (by decide) rfl (congrArg (λq:PW=>RV.v q.val) hfin) (congrArg (λq=>[KyS A c q]) (by simp:P++(ys'.1++zs'.1)++Z=P++ys'.1++zs'.1++Z)) (λ_ _ _=>trivial) zU)
theorem wCut_S{A:Option Addr}{c:Nat}(l:List PairT)(t:TA)(ks:List (List UInt8))(ht:TOk 256 l t)(hs:cV l)(hk:gL l)(hl:ks.length<=1000000)(hks:∀k∈ks,k.length=32) :
  Spec 34 [(eTr t 0).den,.slice A ks.length c] [] (λw=>TF t w/\Rd 32 (eY 32) A c ks w) (one (.q (prQ (PW.cut 256 0 l ks)))):=by
 obtain⟨W,hW⟩:∃W,PW.cut 256 0 l ks=W:=⟨_,rfl⟩;rw [hW];refine zQ [eTr t 0,.c (.v (.slice A ks.length c))] 10 Tryz.func34 rfl (by rw [Tryz.ntmps34];rfl) (two_ok (trPs_ok t _) trivial) λb=>?_;refine zA rfl ?_;refine s_locs λG=>?_;refine zM λK hK=>?_;refine s_anyP [0,1] 3 3 (InvL (withG G [⟨4,none,91,[.one (.v .nilIface)]⟩,⟨2,none,31,trPs t 0⟩])) (by kernel_rfl) rfl (inv_of withG_some) ?_;refine p_frontS zY 0 (by kernel_rfl) rfl rfl rfl rfl rfl rfl (λx hx=>hx) (λ_ h=>h) ?_;refine p_frontS zY 1 (by kernel_rfl) rfl rfl rfl rfl rfl rfl (λx hx=>hx) (λ_ h=>h) ?_;refine p_step 2 (by kernel_rfl) rfl λK1 hK1=>?_;refine l_call0 [.slice A ks.length c] rfl rfl rfl (λ_ _=>by go_simp) rfl rfl (λ_ _=>rfl) (wclone_S ks hl) (λ_ h _=>h.2) λx=>?_;obtain⟨A1,c1⟩:=x;refine zJ (hK1 _ (inv_of withG_some) ?_);refine p_tail [3,4,5] (by kernel_rfl) rfl ?_;refine l_R [KyS A1 c1 ks] rfl ?_;refine l_pureV (KeyAt A1 A1 c1 0 ks.length) (λG S w hv=>?_) λhat=>?_
 ·obtain⟨S1,S2,hh,_⟩:=hv.res
  have hr:=OwnS.rd hh
  exact⟨hr.1,hr.2.1,hr.2.2.1,λh0=>by
   obtain⟨g,hg⟩:=OwnS.start hh h0
   exact⟨g,hg,hg⟩⟩
 have hcut:=wcut_S (A:=A1) (c:=c1) 256 l t [] ks [] A1 c1 (aF _) ht hs hk (λ_ _ _ _ _ h=>absurd h (oN _)) hat hks;replace hcut:Spec 56 [(eTr t 0).den,.slice A1 ks.length c1,.int .u8 0] [KyS A1 c1 ([]++ks++[])] (TF t) { ret:=λ_:{ ks':List (List UInt8) // ks'.Perm ks }=>.v (PW.cut 256 0 l ks).val,own:=λx=>[KyS A1 c1 ([]++x.1++[])] }:=hcut;rw [hW] at hcut;refine l_R ([KyS A1 c1 ([]++ks++[])]++[]) (congrArg (λq=>[KyS A1 c1 q]) (by simp:ks=[]++ks++[])) ?_;refine l_callA [(eTr t 0).den,.slice A1 ks.length c1,.int .u8 0] rfl rfl rfl (λ_ _=>by go_simp) rfl rfl (λ_ _=>rfl) hcut (λ_ h _=>h.2.1) λys=>?_;refine l_call0 [W.val] rfl rfl rfl (λ_ _=>by go_simp) rfl rfl (λ_ _=>rfl) (wpart_S W) (λ_ _ _=>trivial) λ_=>?_;refine zB rfl (zJ (hK _ ?_));refine zP (k_drop 0 rfl ?_);exact zR zY () rfl (by decide) rfl rfl rfl (λ_ _ _=>trivial) zU
def partD(l:List EntD)(k:List UInt8):PW:=PW.cut 256 0 (pairsD l) [k]
theorem partD_of{l:List EntD}(h:DirOk l)(k:List UInt8):PW.Of 0 (pairsD l) [k] (partD l k):=PW.cut_of 256 [k] rfl (DirOk.pairs h).1 (DirOk.pairs h).2 shares0
theorem partD_right{l:List EntD}(h:DirOk l)(k:List UInt8):PW.Right [] (partD l k):=PW.Of.right (way:=[]) (partD_of h k) λp hp=>⟨(pairs_ok h p hp).1,(pairs_ok h p hp).2,λi hi=>absurd hi (oN i)⟩
structure AnX where
  A:Option Addr
  c:Nat
  B:Option Addr
  d:Nat
def eAn(x:AnX)(n m:Nat):SQ:=.p [.one (.v (.slice x.A n x.c)),.one (.v (.slice x.B m x.d))]
theorem eAn_ok(x:AnX)(n m:Nat):(eAn x n m).Ok:=λp hp=>by
 rcases aL.1 hp with rfl|hp
 ·exact⟨trivial,rfl,rfl⟩
 ·rw [aE.1 hp]
  exact⟨trivial,rfl,rfl⟩
theorem dright_S{l:List EntD}(hl:DirOk l)(h64:SmallD l){k:List UInt8}(hk:k.length=32)(x:AnX):Spec 19 [(eY 32 (dX 256 (pairsD l))).den,(eY 32 k).den,(eAn x (bU l k).length (partD l k).bytes.length).den] []
  (λw=>Ta w/\Rd 32 (eY 32) x.A x.c (bU l k) w/\Rd 1 eB x.B x.d (partD l k).bytes w) (one (.v (.int .i64 0))):=by
 have hW:=partD_right hl k;have hroot:(partD l k).root=dX 256 (pairsD l):=(partD_of hl k).root;have htell:=(partD_of hl k).tells (aE.2 rfl) (DirOk.pairs hl).1
 have hr32:(dX 256 (pairsD l)).length=32:=by rw [<-hroot];exact hW.good.root_len
 rw [getT_pairs hl] at htell;have hval:=hvalue_S (A:=x.A) (c:=x.c) (bU l k);have hv32:(valH (bU l k)).length=32:=dig_len _;have hk64:=h64.keys k;obtain⟨W,eW⟩:∃W,partD l k=W:=⟨_,rfl⟩;obtain⟨rt,ert⟩:∃rt,dX 256 (pairsD l)=rt:=⟨_,rfl⟩;obtain⟨ks,eks⟩:∃ks,bU l k=ks:=⟨_,rfl⟩;rw [eW] at hW hroot htell;rw [ert] at hroot hr32;rw [eks] at htell hval hv32 hk64;rw [eW,ert,eks];obtain⟨va,eva⟩:∃va,valH ks=va:=⟨_,rfl⟩;rw [eva] at htell hval hv32;clear eW ert eks;refine zQ [eY 32 rt,eY 32 k,eAn x ks.length W.bytes.length] 50 Tryz.func19 rfl (by rw [Tryz.ntmps19];rfl) (more_ok (eY_ok hr32).1 (two_ok (eY_ok hk).1 (eAn_ok _ _ _))) λb=>?_;refine zA rfl ?_;have hpar:=wParse_S (A:=x.B) (c:=x.d) W.bytes;rw [PW.parse_bytes hW] at hpar;refine zC rfl λK hK=>?_;refine l_call0 [.slice x.B W.bytes.length x.d] rfl rfl rfl (λ_ _=>by go_simp) rfl rfl (λ_ _=>rfl) hpar (λ_ h _=>⟨h.2.2,h.1.sh⟩) λ_=>?_;refine zB rfl (zJ (hK _ ?_));refine zM λK1 hK1=>?_;refine zA rfl ?_;refine zW ((0:Int)≠0) rfl (λh=>absurd rfl h) λ_=>?_;refine zO (hK1 _ (zM λK2 hK2=>?_));refine s_regH 4 (by decide) (by kernel_rfl) (by kernel_rfl) λK3 hK3 G S w0 hst=>?_;refine zV hst rfl ?_;refine h_callS (F':=λ_=>True) (r:=.q (eY 32 W.root)) hst [(prQ W).den] rfl rfl rfl rfl (λ_ _=>by go_simp) rfl rfl (λ_=>rfl) (eY_ok (by rw [hroot];exact hr32)).1 (wRoot_S hW.good) (λ_ _ _ _=>trivial) ?_;refine zV hst rfl ?_;refine h_op hst (.b (!decide (W.root=rt))) trivial rfl rfl rfl rfl (run_neqY rfl rfl rfl Tryz.underlying45 (by kernel_rfl) (by rw [hroot];exact hr32) hr32) ?_;refine h_end hst ?_;refine l_is 23 false rfl (by rw [hroot];simp) ?_;refine zJ (hK3 _ ?_);refine s_no rfl ?_;refine zO (hK2 _ ?_);have hget:=wGet_S hk W hW;rw [htell] at hget
 by_cases h0:ks=[]
 ·subst h0
  rw [if_pos rfl] at hget;refine zC rfl λK4 hK4=>?_;refine l_call0 [(prQ W).den,(eY 32 k).den] rfl rfl rfl (λ_ _=>by go_simp) rfl rfl (λ_ _=>rfl) hget (λ_ _ _=>trivial) λ_=>?_;refine zB rfl (zJ (hK4 _ ?_));refine zM λK5 hK5=>?_;refine zA rfl ?_;refine zW ((0:Int)≠0) rfl (λh=>absurd rfl h) λ_=>?_;refine zO (hK5 _ (zM λK6 hK6=>?_));refine s_regH 16 (by decide) (by kernel_rfl) (by kernel_rfl) λK7 hK7 G S w0 hst=>?_;refine zV hst rfl ?_;refine h_op hst (.b (!(false==decide ((([]:List (List UInt8)).length:Int)>0)))) trivial rfl rfl rfl rfl (run_neqBoolW rfl rfl rfl (λ_=>rfl) (λ_=>rfl)) ?_;refine h_is 39 false rfl rfl ?_;refine zV hst rfl ?_;refine h_end hst ?_;refine zJ (hK7 _ ?_);refine s_no rfl ?_;refine zO (hK6 _ (zA rfl ?_));exact zP (zR zY () rfl (by decide) rfl rfl rfl (λ_ _ _=>trivial) zU)
 ·rw [if_neg h0] at hget
  have hpos:decide ((ks.length:Int)>0)=true:=decide_eq_true (by have:=nT.2 h0;omega);refine zC rfl λK4 hK4=>?_;refine l_call0 [(prQ W).den,(eY 32 k).den] rfl rfl rfl (λ_ _=>by go_simp) rfl rfl (λ_ _=>rfl) hget (λ_ _ _=>trivial) λ_=>?_;refine zB rfl (zJ (hK4 _ ?_));refine zM λK5 hK5=>?_;refine zA rfl ?_;refine zW ((0:Int)≠0) rfl (λh=>absurd rfl h) λ_=>?_;refine zO (hK5 _ (zM λK6 hK6=>?_));refine s_regH 16 (by decide) (by kernel_rfl) (by kernel_rfl) λK7 hK7 G S w0 hst=>?_;refine zV hst rfl ?_;refine h_op hst (.b (!(true==decide ((ks.length:Int)>0)))) trivial rfl rfl rfl rfl (run_neqBoolW rfl rfl rfl (λ_=>rfl) (λ_=>rfl)) ?_;refine h_is 39 false rfl (by rw [hpos];rfl) ?_;refine zV hst rfl ?_;refine h_callS (F':=λw=>Ta w/\Rd 32 (eY 32) x.A x.c ks w) (r:=.q (eY 32 va)) hst [.slice x.A ks.length x.c] rfl rfl rfl rfl (λ_ _=>by go_simp) rfl rfl (λ_=>rfl) (eY_ok hv32).1 hval (λ_ _ _ h=>⟨h.fact.2.2.1,h.fact.2.2.2.1⟩) ?_;refine zV hst rfl ?_;refine h_op hst (.b (!decide (va=va))) trivial rfl rfl rfl rfl (run_neqY rfl rfl rfl Tryz.underlying45 (by kernel_rfl) hv32 hv32) ?_;refine h_is 47 false rfl (by simp) ?_;refine zV hst rfl ?_;refine h_end hst ?_;refine zJ (hK7 _ ?_);refine s_no rfl ?_;refine zO (hK6 _ (zA rfl ?_));exact zP (zR zY () rfl (by decide) rfl rfl rfl (λ_ _ _=>trivial) zU)
abbrev ansP(l:List EntD)(k:List UInt8):Post AnX:={ ret:=λx=>.q (eAn x (bU l k).length (partD l k).bytes.length),p:=λx w=>Rd 32 (eY 32) x.A x.c (bU l k) w/\Rd 1 eB x.B x.d (partD l k).bytes w }
theorem partD_le{l:List EntD}(h:DirOk l)(hl:l.length<=1000)(k:List UInt8):(partD l k).bytes.length<=1000000:=by
 have h1:=PW.cut_le 256 (d:=0) (ks:=[k]) (pairs_ok h);have h2:(pairsD l).length=l.length:=bO ..;have h3:(70+2*256)*(pairsD l).length<=(70+2*256)*1000:=Nat.mul_le_mul_left _ (by omega)
 unfold partD
 omega
theorem danswer_S{d:DirV}(hd:d.Ok)(hl:d.l.length<=1000){k:List UInt8}(hk:k.length=32):Spec 14 [(eDv d).den,(eY 32 k).den] [] d.F (ansP d.l k):=by
 have hW:=partD_right hd.dir k;have hlen:=partD_le hd.dir hl k;have hke:=dkeys_S hd hk;have hcut:=λA=>wCut_S (A:=A) (c:=1) (pairsD d.l) d.t [k] hd.tree (DirOk.pairs hd.dir).1 (DirOk.pairs hd.dir).2 (by show 1<=1000000;decide) (λx hx=>by rw [aE.1 hx];exact hk);have hcut:∀A,Spec 34 [(eTr d.t 0).den,.slice A 1 1] [] (λw=>TF d.t w/\Rd 32 (eY 32) A 1 [k] w) (one (.q (prQ (partD d.l k)))):=hcut
 unfold ansP
 obtain⟨W,eW⟩:∃W,partD d.l k=W:=⟨_,rfl⟩;obtain⟨ks,eks⟩:∃ks,bU d.l k=ks:=⟨_,rfl⟩;rw [eW] at hW hlen hcut ⊢;rw [eks] at hke ⊢;clear eW eks;refine zQ [.p d.parts,eY 32 k] 15 Tryz.func14 rfl (by rw [Tryz.ntmps14];rfl) (two_ok d.parts_ok (eY_ok hk).1) λb=>?_;refine zA rfl (zM λK hK=>?_);refine s_locs λG=>?_;refine s_anyP [0,1,3,4,5] 10 1 (InvL (withG G [⟨4,none,53,[.one (.v (.slice none 0 0)),.one (.v (.slice none 0 0))]⟩,⟨3,none,45,[.agg 32 (By k).toArray]⟩,⟨2,none,33,d.parts⟩])) (by kernel_rfl) rfl (inv_of withG_is) ?_;refine p_front zY 0 (by kernel_rfl) rfl rfl rfl rfl rfl rfl (λ_ h=>h) ?_;refine p_front zY 1 (by kernel_rfl) rfl rfl rfl rfl rfl rfl (λ_ h=>h) ?_;refine p_front zY 3 (by kernel_rfl) rfl rfl rfl rfl rfl rfl (λ_ h=>h) ?_;refine p_front zY 4 (by kernel_rfl) rfl rfl rfl rfl rfl rfl (λ_ h=>h) ?_;refine p_front zY 5 (by kernel_rfl) rfl rfl rfl rfl rfl rfl (λ_ h=>h) ?_
 let Ef:PX->Option Addr->Env:=λy A=>⟨[(7,.v (.slice y.1 ks.length y.2)),(11,.v (.slice A 1 1)),(9,.p [.agg 2 #[d.t.val,.int .u8 0]]),(4,.a 4 0)],withG G [⟨4,none,53,[.one (.v (.slice none 0 0)),.one (.v (.slice none 0 0))]⟩,⟨3,none,45,[.agg 32 (By k).toArray]⟩,⟨2,none,33,d.parts⟩],[KyS y.1 y.2 ks],λw=>Rd 32 (eY 32) A 1 [k] w/\TF d.t w,λ_=>True⟩
 refine p_step2 2 6 (by kernel_rfl) rfl rfl (λKa hKa=>?pa) λKa hKa=>?pb
 case' pa =>
  refine l_call0 [(eDv d).den,(eY 32 k).den] rfl rfl rfl own_dkeys rfl rfl (λ_ _=>rfl) hke (λ_ h _=>h) λy=>?_;refine zJ (hKa _ (inv_of withG_is) ?_);refine p_step 6 (by kernel_rfl) rfl λKb hKb=>?_;refine l_list (fe:=eY 32) zY 0 [k] rfl rfl rfl rfl rfl (λ_=>rfl) rfl (by decide) (by decide) (λy hy=>by rw [aE.1 hy];exact eY_ok hk) (aI _) λA=>?_;refine l_free 0 rfl ?_;refine zJ (hKb _ (inv_of withG_is) ?_);refine p_weak (e':=Ef y A) ⟨zE rfl, zL rfl rfl, .refl _,λ_ h _=>⟨h.1,h.2.2.2.2⟩, zU⟩ ?_
 case' pb =>
  refine l_list (fe:=eY 32) zY 0 [k] rfl rfl rfl rfl rfl (λ_=>rfl) rfl (by decide) (by decide) (λy hy=>by rw [aE.1 hy];exact eY_ok hk) (aI _) λA=>?_;refine l_free 0 rfl ?_;refine zJ (hKa _ (inv_of withG_is) ?_);refine p_step 2 (by kernel_rfl) rfl λKb hKb=>?_;refine l_call0 [(eDv d).den,(eY 32 k).den] rfl rfl rfl own_dkeys rfl rfl (λ_ _=>rfl) hke (λ_ h _=>h.2) λy=>?_;refine zJ (hKb _ (inv_of withG_is) ?_);refine p_weak (e':=Ef y A) ⟨zE rfl, zL rfl rfl, .refl _,λ_ h _=>⟨h.2.1,h.2.2.2.2⟩, zU⟩ ?_
 all_goals
  refine p_step 7 (by kernel_rfl) rfl λKc hKc=>?_;refine l_call0 [(eTr d.t 0).den,.slice A 1 1] rfl rfl rfl (λ_ _=>by go_simp) rfl rfl (λ_ _=>rfl) (hcut A) (λ_ h _=>⟨h.2,h.1⟩) λ_=>?_;refine zJ (hKc _ (inv_of withG_is) ?_);refine p_step 8 (by kernel_rfl) rfl λKd hKd=>?_;refine l_call0 [(prQ W).den] rfl rfl rfl (λ_ _=>by go_simp) rfl rfl (λ_ _=>rfl) (wBytes_S hW.good hlen) (λ_ _ _=>trivial) λz=>?_;refine zJ (hKd _ (inv_of withG_is) ?_);refine p_step 9 (by kernel_rfl) rfl λKe hKe=>?_;refine zB rfl ?_;refine zJ (hKe _ (inv_of withG_is) ?_);refine p_tail [10] (by kernel_rfl) rfl ?_;refine zB rfl ?_;refine l_free 0 rfl (l_free 0 rfl ?_);exact zJ (hK _ (zP (zR zY (⟨y.1,y.2,z.1,z.2⟩:AnX) rfl (by decide) rfl rfl rfl (λ_ h _=>⟨h.1,h.2.1⟩) zU)))
end Go.Proofs.YtlhlkofpjhpaoaaGreatDoor
namespace Nums
def sW:Tri:=⟨0,1,1⟩
def sX:Tri:=⟨bx,bY,1⟩
theorem tX:fZ sW Ed.zero:=by
 unfold fZ sW
 rw [kL,gD];exact Ed.Rep.zero c7
theorem tY:fZ sX base:=by
 unfold fZ sX
 rw [gD]
 have e:∀u:F,u=u*1:=λu=>by grind only
 exact⟨λh=>lT c7 h.symm,e _,e _⟩
theorem vI(n:Nat)(hn:n<2^256):fZ (lQ 256 n sW sX) (Ed.mul dd n base):=by
 have h:=kU 256 n sW sX Ed.zero base hn Ed.j1 gB tX tY
 rwa [Ed.zero_add good] at h
def rY(t:Tri)(zi:Nat):List UInt8:=forced (t.y*zi%p) λy=>forced (t.x*zi%p%2) λo=>bytes 32 (y+57896044618658097711785492504343953926634992332820282019728792003956564819968*o)
theorem v9{t:Tri}{A:Ed.Pt p}(h:fZ t A){zi:Nat}(hz:t.z*zi%p=1):fB A=rY t zi:=by
 have h1:fof t.z*fof zi=1:=by
  rw [<-dW,<-gD];exact iS (by rw [hz];decide)
 have hf:fY (fof t.z)=fof zi:=qL c7 h1;have ha:=h.aff c7;rw [hf,<-dW,<-dW] at ha
 unfold rY
 simp only [gC];rw [fB,nF,<-ha.1,<-ha.2,j3,j3]
end Nums
namespace Go.Proofs.YtlhlkofpjhpaoaaGreatDoor
open Nums
def powK:Nat->Nat->Nat->Nat->Nat
  | 0,_,_,a=>a
  | f+1,b,e,a=>forced (b*b%p) λb2=>forced (if e%2=1 then a*b%p else a) λa2=>powK f b2 (e/2) a2
def keyZ(n:Nat)(t:Tri)(zi:Nat):Option (List UInt8):=if decide (n<2^256)&&decide (t.z*zi%p=1) then some (rY t zi) else none
def keyT(n:Nat)(t:Tri):Option (List UInt8):=forced (powK 255 t.z (p-2) 1) (keyZ n t)
def keyK(seed:List UInt8):Option (List UInt8):=forced (le (lW ((j4 dK 1 seed).take 32))) λn=>keyT n (lQ 256 n sW sX)
theorem keyZ_ok{n zi:Nat}{t:Tri}{k:List UInt8}(ht:lQ 256 n sW sX=t)(h:keyZ n t zi=some k):fB (Ed.mul dd n base)=k:=by
 unfold keyZ at h
 split at h
 ·rename_i hc
  rw [Bool.and_eq_true] at hc
  injection h with h
  rw [<-h];exact v9 (ht▸vI n (of_decide_eq_true hc.1)) (of_decide_eq_true hc.2)
 ·cases h
theorem ab_is{seed:List UInt8}(hs:seed.length=32):le (jQ seed)=le (lW ((j4 dK 1 seed).take 32)):=by
 rw [jQ,sgD,mC 1 seed (by decide) (by decide) (by rw [aB,hs];decide +kernel)]
theorem key_is{seed k:List UInt8}(hs:seed.length=32)(h:keyK seed=some k):gE seed=k:=by
 rw [keyK,gC] at h;rw [gE,ab_is hs];generalize le (lW ((j4 dK 1 seed).take 32))=n at *;rw [keyT,gC] at h;exact keyZ_ok rfl h
theorem key_all{seed:List UInt8}(hs:seed.length=32)(h:(keyK seed).isSome=true):gE seed=(keyK seed).getD []:=by
 cases hk:keyK seed with
 | none=>rw [hk] at h;cases h
 | some k=>exact key_is hs hk
end Go.Proofs.YtlhlkofpjhpaoaaGreatDoor
namespace Go.Proofs.YtlhlkofpjhpaoaaGreatDoor
open Go.RowKit Go.IntWalk Nums
section
variable{ro:Option Nat}{n:Nat}{b:Base}{ops:Array Oper}{Q:Exit->Act->World->Prop}{N:Nat}{e e':Env}{E:SE}{L:List LV}{R1 R':List Res}{F M:World->Prop}{l:List Oper}
theorem t_star(h:tS ro n b ops Q N l ⟨E,L,StarR R1::R',F,M⟩):tS ro n b ops Q N l ⟨E,L,R1++R',F,M⟩:=λa w ⟨G,S,h1,h2,h3⟩=>h a w ⟨G,S,h1,h2,{ h3 with res:=starR.2 h3.res }⟩
theorem t_weak(hw:Weak e e')(h:tS ro n b ops Q N l e'):tS ro n b ops Q N l e:=λa w hs=>h a w (hs.weak hw)
end
theorem dall_S(d:DirV):Spec 21 [(eDv d).den] [] (λ_=>True) { ret:=λg:Nat=>.v (.func (.func 43) #[] #[.pointer (some ⟨g,0,none⟩)]),own:=λ_=>[],p:=λg=>ObjF g 33 d.parts }:=by
 refine zQ [.p d.parts] 4 Tryz.func21 rfl (by rw [Tryz.ntmps21];rfl) (one_ok d.parts_ok) λb=>?_;refine zC rfl λK hK=>?_;refine l_give 1 (E':=[]) rfl trivial λg=>?_;refine l_objOut 0 rfl ?_;refine zJ (hK _ (zC rfl λK2 hK2=>?_));refine l_op (.v (.func (.func 43) #[] #[.pointer (some ⟨g,0,none⟩)])) trivial rfl rfl rfl (run_makeF rfl rfl (λ_=>rfl)) ?_;refine zB rfl (zJ (hK2 _ ?_));exact zP (zR zY g rfl (by decide) rfl rfl rfl (λ_ h _=>h.1) zU)
theorem pairs_at{l:List EntD}{j:Nat}{p:PairT}(h:(pairsD l)[j]?=some p):∃e,l[j]?=some e/\p.1=e.1:=by
 unfold pairsD at h
 rw [List.getElem?_map] at h
 cases he:l[j]? with
 | none=>rw [he] at h;cases h
 | some e =>
  rw [he] at h
  injection h with h
  exact⟨e,rfl,by rw [<-h];rfl⟩
theorem keysD_at{l:List EntD}(h:DirOk l){j:Nat}{e:EntD}(he:l[j]?=some e):bU l e.1=e.2:=oX (h.sort.imp λhab e=>by
 rw [e,cD] at hab
 cases hab) (aR he)
theorem dall1_S(l gb:Nat)(Fy:World->Prop)(JR:Nat->Res)(JX:Res){d:DirV}(hd:d.Ok)(hy:∀(j:Nat) (e:EntD) (y:PX),d.l[j]?=some e->YSpec l [(eY 32 e.1).den,.slice y.1 e.2.length y.2] Fy (StarR ([KyS y.1 y.2 e.2]++[JR j])) (JR (j+1)) JX) :
  Spec 43 [.func (.yield l) #[] #[],.pointer (some ⟨gb,0,none⟩)] [JR 0] (λw=>(ObjF gb 33 d.parts w/\d.F w)/\Fy w) (epost (JR d.l.length) JX):=by
 refine spec_D [.c (.v (.func (.yield l) #[] #[])),.c (.v (.pointer (some ⟨gb,0,none⟩)))] 16 Tryz.func43 rfl (by rw [Tryz.ntmps43];rfl) (two_ok trivial trivial) λb=>?_;have hall:d.t.all=pairsD d.l:=hd.tree.all_eq (DirOk.pairs hd.dir).1 (DirOk.pairs hd.dir).2 shares0 (aF _);have hplen:(pairsD d.l).length=d.l.length:=bO ..;refine d_auto zY rfl ?_;refine d_regA zY rfl λK hK=>?_;refine zB rfl ?_;refine l_ldO zY rfl rfl rfl rfl rfl rfl (obj_fact λ_ h _=>h.1.1) ?_;refine l_call0 [(eTr d.t 0).den] rfl rfl rfl (λ_ _=>by go_simp) rfl rfl (λ_ _=>rfl) (tAll_S d.t 0) (λ_ _ _=>trivial) λgt=>?_;refine d_end (hK _ ?_);refine d_block ?_
 let E0:SE:=[(6,.v (.func (.func 65) #[] #[.pointer (some ⟨gt,0,none⟩)])),(2,.a 2 0),(1,.v (.pointer (some ⟨gb,0,none⟩)))]
 let Lf:Option Nat->List LV:=λ_=>[⟨2,none,104,[.one (.v (.func (.yield l) #[] #[]))]⟩]
 let Rf:Option Nat->List Res:=λs=>match s with
  | some j=>[JR j]
  | none=>[JX]
 refine d_weak (e':=⟨E0,Lf (some 0),Rf (some 0),λw=>(ObjF gt 31 (trPs d.t 0) w/\TF d.t w)/\(ObjF gb 33 d.parts w/\d.F w)/\Fy w,λ_=>True⟩) ⟨zE rfl, zL rfl rfl, .refl _,λ_ h _=>⟨⟨h.1,h.2.1.2.2.2⟩,h.2⟩, zU⟩ ?_;refine d_range (pairsD d.l) (λp=>eY 32 p.1) (λp=>eY 32 p.2) Lf Rf (λj s=>s=some j) (λc s=>c=none/\s=none) (some 0) (λw=>ObjF gt 31 (trPs d.t 0) w/\TF d.t w) (lb:=[.pointer (some ⟨gt,0,none⟩)]) rfl (λ_ _=>by go_simp) (λ_=>rfl) (λx hx=>⟨(eY_ok (pairs_ok hd.dir x hx).1).1,(eY_ok (pairs_ok hd.dir x hx).2).1⟩) rfl rfl (λ_ h _=>h.1) (λy Fz JR2 JX2 hz=>?_) rfl ?_ ?_ ?_
 ·have:=tAll1_S y gt Fz JR2 JX2 d.t (by rw [hall];exact hz)
  rw [hall] at this;exact this
 ·rintro G y D m ready busy b1 j s p rfl hp K6 hK6
  obtain⟨e,he,hpe⟩:=pairs_at hp;have hid:=hd.dir.ids e (aR he);have hke:=dkeys_S hd hid;rw [keysD_at hd.dir he] at hke;refine r_lit rfl ?_;refine zB rfl ?_;refine zJ (k_give 3 rfl (E':=[(2,.a 2 0),(1,.v (.pointer (some ⟨gb,0,none⟩)))]) ⟨rfl,rfl,trivial⟩ λg3=>k_objOut 0 rfl (hK6 _ _ _ _ _ ?_));refine r_block ?_;refine r_seq λK7 hK7=>?_;refine r_anyP [0,1,2,3] 5 2 (λw=>InvL [⟨2,some (G 2),104,[.one (.v (.func (.yield l) #[] #[]))]⟩] w/\ObjF gb 33 d.parts w/\ObjF g3 45 [.agg 32 (By p.1).toArray] w) (by kernel_rfl) rfl rfl (inv_two (λx hx=>⟨hx,by rw [aE.1 hx];rfl⟩) λ_ h _=>⟨h.2.1.2.1.1,h.1⟩) ?_;have hp32:=(pairs_ok hd.dir p (aR hp)).1;have hok3:OkP [.agg 32 (By p.1).toArray]:=(eY_ok hp32).1;refine p_frontA (L0:=[⟨2,some (G 2),104,[.one (.v (.func (.yield l) #[] #[]))]⟩]) (.v (.func (.yield l) #[] #[])) trivial 0 (by kernel_rfl) rfl rfl rfl rfl rfl (λ_ h=>h) (λ_ h=>h.1) (runO_ldL _ rfl rfl rfl rfl Tryz.underlying104 rfl) ?_;refine p_ldO zY 1 (by kernel_rfl) rfl rfl rfl rfl rfl rfl rfl hok3 (λ_ h=>h.2.2) ?_;refine p_ldO zY 2 (by kernel_rfl) rfl rfl rfl rfl rfl rfl rfl d.parts_ok (λ_ h=>h.2.1) ?_;refine p_ldO zY 3 (by kernel_rfl) rfl rfl rfl rfl rfl rfl rfl hok3 (λ_ h=>h.2.2) ?_;refine p_step 4 (by kernel_rfl) rfl λK8 hK8=>?_;refine l_call0 [(eDv d).den,(eY 32 e.1).den] rfl rfl rfl own_dkeys rfl rfl (λ_ _=>by rw [<-hpe];rfl) hke (λ_ h _=>h.2.1.2.1.2) λx=>?_;refine zJ (hK8 _ (inv_two (λx hx=>⟨hx,by rw [aE.1 hx];rfl⟩) λ_ h _=>⟨h.2.2.1.2.1.1,h.2.1⟩) ?_);refine p_tailR [5,6] (by kernel_rfl) rfl ?_;refine t_weak (e':=⟨[(9,.v (.func (.yield l) #[] #[])),(10,.q (eY 32 p.1)),(13,.v (.slice x.1 e.2.length x.2)),(2,.a 2 0)],[⟨2,some (G 2),104,[.one (.v (.func (.yield l) #[] #[]))]⟩],[KyS x.1 x.2 e.2,JR j]++[LoopR y busy,DefR D],Fy,λ_=>True⟩) ⟨zE rfl, ⟨rfl,rfl,trivial⟩,?_,λ_ h _=>h.2.2.1.2.2, zU⟩ (t_star ?_)
  ·exact(List.Perm.cons _ (pO (l₁:=[LoopR y busy,DefR D]) (a:=JR j) (l₂:=[])))
  refine t_yield (R':=[LoopR y busy,DefR D]) [(eY 32 e.1).den,.slice x.1 e.2.length x.2] rfl rfl rfl rfl rfl rfl (λ_=>by rw [<-hpe];rfl) (hy j e x he) (λ_ h _=>h) λt=>?_;refine t_list rfl ?_
  cases t with
  | true =>
   refine zB rfl (zJ (hK7 _ ?_));refine r_no rfl ?_;exact r_skip (k_rnd (Ix:=λc s=>c=none/\s=none) (some (j+1)) rfl ⟨trivial,⟨rfl,rfl,trivial⟩,(pO (l₁:=[LoopR y busy,DefR D]) (a:=JR (j+1)) (l₂:=[])).symm,λ_ _ _=>trivial, zU⟩)
  | false =>
   refine zB rfl (zJ (hK7 _ ?_));refine r_yes rfl ?_;exact r_ret (k_jump (I:=λs=>s=some (j+1)) (Ix:=λc s=>c=none/\s=none) none none ⟨rfl,rfl⟩ ⟨trivial,⟨rfl,rfl,trivial⟩,(pO (l₁:=[LoopR y busy,DefR D]) (a:=JX) (l₂:=[])).symm,λ_ _ _=>trivial, zU⟩)
 ·rintro s D rfl
  rw [hplen];exact k_retM [D] (R:=[JR d.l.length]) (zR zY true rfl (by decide) rfl rfl rfl (λ_ _ _=>trivial) zU)
 ·rintro c s D ⟨rfl,rfl⟩
  exact d_ret (k_retM [D] (R:=[JX]) (zR zY false rfl (by decide) rfl rfl rfl (λ_ _ _=>trivial) zU))
end Go.Proofs.YtlhlkofpjhpaoaaGreatDoor
