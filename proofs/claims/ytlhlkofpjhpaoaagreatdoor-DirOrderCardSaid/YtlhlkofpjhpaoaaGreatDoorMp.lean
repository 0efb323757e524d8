import Derived.Test.YtlhlkofpjhpaoaaGreatDoorMo
import Derived.Test.YtlhlkofpjhpaoaaGreatDoorMm
import Derived.Test.YtlhlkofpjhpaoaaGreatDoorMd
import Derived.Test.YtlhlkofpjhpaoaaGreatDoorRows
import Derived.Test.YtlhlkofpjhpaoaaGreatDoorMa
import Derived.ProofKit
import Derived.OpenShut
import Derived.SizedLaws
import Derived.Deep.Slices
import Derived.LaidMore
import Derived.SevenTiedAt
import Derived.Stop.Joined
import Derived.Test.YtlhlkofpjhpaoaaGreatDoorMi
import Derived.Test.YtlhlkofpjhpaoaaGreatDoorCards
import Derived.Test.YtlhlkofpjhpaoaaGreatDoorTie
set_option maxRecDepth 100000
set_option maxHeartbeats 4000000
open Go.Addr renaming add_mid->cK
open Go.DataW renaming trod->pW
open Go.World renaming block_lt_of_cell?->kN
open List renaming length_append->aD,mem_singleton->aF,mem_cons_of_mem->aI,mem_cons_self->aM,getElem?_eq_getElem->aP,length_take->aY,length_cons->a8,mem_append->dC,length_drop->dE,length_reverse->dI,length_map->eO,getElem?_drop->mM,pairwise_map->qK,getElem?_map->qL
open List.Pairwise renaming imp_of_mem->m9
open Nat renaming le_refl->aH,zero_le->aR,add_assoc->bW
open Option.some renaming injEq->aU,inj->cP
open UInt8 renaming ofNat->a9
namespace Go.Proofs.YtlhlkofpjhpaoaaGreatDoor
open Go.RowKit Go.IntWalk Nums
theorem own_first12:Own 7:=λ_ _=>by go_simp
theorem val_first:valH [hB 2]=jJ cG 1 ([[2],be8 1,jJ cG 2 ([[3],zH,hB 2]:List (List UInt8)).flatten]:List (List UInt8)).flatten:=by
 have h1:dH [hB 2]=jJ cG 2 ([[3],zH,hB 2]:List (List UInt8)).flatten:=lH (s:=cG) 2 _ (by decide) (by decide) (by decide +kernel)
 unfold valH
 rw [h1];exact lH (s:=cG) 1 _ (by decide) (by decide) (by decide +kernel)
theorem root_first:fB 256 (pairsD [(fE (hB 1),[hB 2])])≠c9:=by
 show gZ (fE (hB 1),valH [hB 2])≠c9
 rw [key_all (seed:=hB 1) rfl (by decide +kernel),val_first,gZ,lH (s:=cG) 2 _ (by decide) (by decide) (by decide +kernel)]
 decide +kernel
section
variable{b:Base}{ops:Array Oper}{Q:Exit->Act->World->Prop}{N:Nat}{G:Nat->Nat}{S:Nat->Prop}{E:SE}{L:List LV}{R:List Res}{F M:World->Prop}{w0:World}{T':List Oper}{Fa:Told}{i k:Nat}{o:Oper}{rest:List (Nat×Oper)}
theorem h_buildY{t:TypeId}{parts:Array (Nat×Operand)}(vs:List (Nat×SC))(n:Nat)(l:List UInt8)(hst:StW b G S L R F M w0)(hf:farP i Fa=true)(hg:o.guard=none)(hd:o.dst=some k)(hk:Nat.blt k N=true)(ho:o.op = .build t parts)(hv:parts.toList.map (λp=>(p.1,evS E p.2))=vs.map (λx=>(x.1,some (.q (.c x.2)))))
 (hb:Tryz.prog.built t (vs.map λx=>(x.1,x.2.den))=some (By l).toArray)(hl:l.length=n)(hn:hS Tryz.prog ops Q N T' G w0 rest ((k,.q (eY n l))::E) Fa):hS Tryz.prog ops Q N T' G w0 ((i,o)::rest) E Fa :=
 h_f hst (.q (eY n l)) (eY_ok hl).1 hf (λ_ _ _ hQ=>f_build _ _ hg hd hk ho (parts_den _ _ hv) hb hQ) hn
end
theorem told_an{x:AnX}{n m:Nat}{p:AnX->World->Prop}{w:World}(h:∃y,(RV.q (eAn x n m)).den=(RV.q (eAn y n m)).den/\p y w):p x w:=by
 obtain⟨y,h1,h2⟩:=h;have h1:Value.agg #[.slice x.A n x.c,.slice x.B m x.d] = .agg #[.slice y.A n y.c,.slice y.B m y.d]:=h1
 have e:x=y:=by
  obtain⟨a,b,c,d⟩:=x;obtain⟨a',b',c',d'⟩:=y
  injection h1 with h1
  have h3:=congrArg Array.toList h1
  injection h3 with h4 h5
  injection h5 with h5 _
  injection h4 with e1 _ e2
  injection h5 with e3 _ e4
  subst e1 e2 e3 e4
  rfl
 rw [e];exact h2
theorem first12_S:Spec 7 [] [] Ta (one (.v (.bool true))):=by
 have hm:=hmake_S (seed:=hB 1) (key:=hB 2) 1 rfl rfl;have hsb:signB (mkH (hB 1) 1 (hB 2))=true:=signB_made _ _ _;have hok:(mkH (hB 1) 1 (hB 2)).Ok:=mkH_ok _ _ rfl;have hid:(mkH (hB 1) 1 (hB 2)).id=fE (hB 1):=rfl;have hver:(mkH (hB 1) 1 (hB 2)).ver=1:=rfl;have hkey:(mkH (hB 1) 1 (hB 2)).key=hB 2:=rfl;have hrf:=root_first;rw [<-hid] at hrf;generalize mkH (hB 1) 1 (hB 2)=u at *
 have hap:bQ [] ([u].map udH)=[(u.id,[hB 2])]:=by
  show cN [] (udH u)=_
  rw [step_ok (l:=[]) ⟨hsb,by rw [hver];rfl⟩,hkey]
  rfl
 refine spec_S [] 48 Tryz.func7 rfl (by rw [Tryz.ntmps7];rfl) (λ_ h=>by cases h) λb=>?_;refine s_auto TY_ok rfl ?_;refine s_regA TY_ok rfl λK1 hK1=>?_;refine l_buildY [(0,.v (.int .u8 1))] 32 (hB 1) rfl rfl rfl rfl rfl rfl rfl ?_;refine l_autoS TY_ok rfl ?_;refine l_buildY [(0,.v (.int .u8 2))] 32 (hB 2) rfl rfl rfl rfl rfl rfl rfl ?_;refine l_call0 [.agg (By (hB 1)).toArray,.int .i64 1,.agg (By (hB 2)).toArray] rfl rfl rfl own_hmake rfl rfl (λ_ _=>rfl) hm (λ_ h _=>h) λ_=>?_;refine l_autoS TY_ok rfl ?_;refine s_end (hK1 _ ?_);refine s_regA TY_ok rfl λK2 hK2=>?_;refine l_list TY_ok 0 [u] (fe:=eU) rfl rfl rfl rfl rfl (λ_=>rfl) rfl (by decide) (by decide) (λy hy=>by rw [aF.1 hy];exact eU_ok hok) (aR _) λB=>?_;refine l_free 0 rfl ?_;refine l_call0 [(eDv zDirV).den,.slice B [u].length 1] rfl rfl rfl own_dapply rfl rfl (λ_ _=>rfl) (dapply_S zDirV_ok (us:=[u]) (λy hy=>by rw [aF.1 hy];exact hok) (by show 0+1<=1000;decide)) (λw h _=>⟨h.2.2,zDirV_F w,h.1⟩) λd=>?_;refine l_autoS TY_ok rfl ?_;refine l_pure (d.Ok/\d.ep=IntKind.i64.wrap (0+1)/\d.l=bQ [] ([u].map udH)) (λ_ h _=>⟨h.1.2.1,h.1.2.2⟩) λ⟨hd,hep,hl⟩=>?_;rw [hap] at hl;have hep:d.ep=1:=hep
 have hk1:bK d.l u.id=[hB 2]:=by rw [hl,cC,if_pos rfl]
 have hke:=(dkeys_S hd hok.id).tell;have hdr:=droot_S hd
 have hr32:(fB 256 (pairsD d.l)).length=32:=by rw [<-hd.tree.root];exact d.t.root_len
 have han:=danswer_S hd (by rw [hl];show 1<=1000;decide) hok.id;have hri:=dright_S hd.dir hd.small hok.id;rw [<-hl] at hrf
 unfold ansP at han
 rw [hk1] at hke han hri;generalize partD d.l u.id=W at *;generalize fB 256 (pairsD d.l)=rt at *;refine s_end (hK2 _ ?_);refine s_regA TY_ok rfl λK3 hK3=>?_;refine l_call0 [(eDv d).den,(eY 32 u.id).den] rfl rfl rfl own_dkeys rfl rfl (λ_ _=>rfl) hke (λ_ h _=>h.1.1) λz=>?_;refine l_autoS TY_ok rfl ?_
 refine l_pure (∃g o,z.1=some ⟨g,o,none⟩) (λ_ h _=>by
  obtain⟨g,o,e,_⟩:=h.1.2.2.2.2 (by decide)
  exact⟨g,o,e⟩) λ⟨g,o,hz⟩=>?_
 refine s_end (k_weak (e':=⟨[(3,.v (.slice (some ⟨g,o,none⟩) 1 z.2)),(2,.a 2 0),(1,.a 1 0)],[⟨2,none,33,d.parts⟩,⟨1,none,76,u.parts⟩],[],λw=>Rd 32 (eY 32) (some ⟨g,o,none⟩) z.2 [hB 2] w/\d.F w/\Ta w,λ_=>True⟩) ⟨⟨by rw [<-hz];rfl,rfl,rfl,trivial⟩,⟨rfl,rfl,rfl,rfl,trivial⟩,.refl _,λ_ h _=>⟨by rw [<-hz];exact h.1,h.2.1.1,h.2.2.2.2⟩,λ_ _=>trivial⟩ (hK3 _ ?_));refine s_regH 33 (by decide) (by kernel_rfl) (by kernel_rfl) λK4 hK4 G S w0 hst=>?_;refine h_auto TY_ok hst rfl ?_;refine h_callS (F':=λ_=>True) (r:=.v (.int .i64 d.ep)) hst [(eDv d).den] rfl rfl rfl rfl own_depoch rfl rfl (λ_=>rfl) trivial (depoch_S d) (λ_ _ _ _=>trivial) ?_;refine h_auto TY_ok hst rfl ?_;refine h_is 18 true rfl (by rw [hep];rfl) ?_;refine h_auto TY_ok hst rfl ?_;refine h_is 23 true rfl rfl ?_;refine h_auto TY_ok hst rfl ?_;refine h_op hst (.v (.pointer (some ⟨g,o+32*0,none⟩))) trivial rfl rfl rfl rfl (runO_ixS 0 rfl Tryz.underlying43 rfl rfl rfl (by decide)) ?_;refine h_auto TY_ok hst rfl ?_;have hb2:OkP (eY 32 (hB 2)).parts1:=(eY_ok (n:=32) (l:=hB 2) rfl).1;refine h_opV hst (.q (eY 32 (hB 2))) hb2 rfl rfl rfl rfl (run_ldEl (k':=32) (c:=z.2) (j:=0) (off:=0) (g:=g) (a:=o) (fe:=eY 32) (l:=[hB 2]) TY_ok rfl rfl rfl rfl hb2 (rd_fact λ_ h _=>h.1)) ?_;refine h_auto TY_ok hst rfl ?_;refine h_buildY [(0,.v (.int .u8 2))] 32 (hB 2) hst rfl rfl rfl rfl rfl rfl rfl rfl ?_;refine h_auto TY_ok hst rfl ?_;refine h_op hst (.b (decide (hB 2=hB 2))) trivial rfl rfl rfl rfl (run_eqY rfl rfl rfl Tryz.underlying45 (by kernel_rfl) rfl rfl) ?_;refine h_is 28 true rfl (by simp) ?_;refine h_auto TY_ok hst rfl ?_;refine h_callS (F':=d.F) (r:=.q (eY 32 rt)) hst [(eDv d).den] rfl rfl rfl rfl own_droot rfl rfl (λ_=>rfl) (eY_ok hr32).1 hdr (λ_ _ _ h=>h.fact.2.1) ?_;refine h_auto TY_ok hst rfl ?_;refine h_op hst (.b (!decide (rt=c9))) trivial rfl rfl rfl rfl (run_neqY rfl rfl rfl Tryz.underlying45 (by kernel_rfl) hr32 rfl) ?_;refine h_is 34 true rfl (by simp [hrf]) ?_;refine h_auto TY_ok hst rfl ?_;refine h_callS (F':=d.F) (r:=.q (eY 32 rt)) hst [(eDv d).den] rfl rfl rfl rfl own_droot rfl rfl (λ_=>rfl) (eY_ok hr32).1 hdr (λ_ _ _ h=>h.fact.2.1) ?_;refine h_auto TY_ok hst rfl ?_;refine h_callE (F':=d.F) hst [(eDv d).den,(eY 32 u.id).den] rfl rfl rfl rfl own_danswer rfl rfl (λ_=>rfl) han (λw hv _=>hv.fact.2.1) λx _=>?_;refine h_auto TY_ok hst rfl ?_;refine h_callE (F':=λw=>Ta w/\Rd 32 (eY 32) x.A x.c [hB 2] w/\Rd 1 eB x.B x.d W.bytes w) (post:=one (.v (.int .i64 0))) hst [(eY 32 rt).den,(eY 32 u.id).den,(eAn x [hB 2].length W.bytes.length).den] rfl rfl rfl rfl own_dright rfl rfl (λ_=>rfl) (hri x) (λw hv hu=>⟨hv.fact.2.2,told_an (p:=λy w=>Rd 32 (eY 32) y.A y.c [hB 2] w/\Rd 1 eB y.B y.d W.bytes w) (hu 29 _ rfl (by kernel_rfl))⟩) λ_ _=>?_
 refine h_auto TY_ok hst rfl ?_;refine h_is 47 true rfl rfl ?_;refine h_end hst ?_;refine l_autoS TY_ok rfl ?_;refine s_end (hK4 _ ?_);exact s_ret (k_ret TY_ok () rfl (by decide) rfl rfl rfl (λ_ _ _=>trivial) (λ_ _=>trivial))
structure BaV where
  A:Option Addr
  c:Nat
  B:Option Addr
  d:Nat
  l:List UV
abbrev TC:MapT Int Int:={ t:=72,kt:=3,vt:=3,kv:=eI,vv:=eI }
abbrev okI(n:Int):Prop:=(Lit.int .i64 n).wf=true
theorem TC_ok:TC.Ok okI:=mapI_ok Tryz.underlying72 Tryz.underlying3 rfl
theorem zeroI:∀w,(zeroValue TC.vt).run Tryz.prog w = .ok (TC.V 0) w:=λw=>by
 have hi:(Tryz.prog.info? 3).bind (·.zero)=some (.int .i64 0):=by kernel_rfl
 unfold zeroValue typeInfo
 cases h:Tryz.prog.info? 3 with
 | none=>rw [h] at hi;cases hi
 | some i =>
  rw [h] at hi;have hi:i.zero=some (.int .i64 0):=hi
  simp [h,hi]
  rfl
theorem runO_count{N:Nat}{E:SE}{L:List LV}{R:List Res}{F M:World->Prop}{o:Oper}{x y:Operand}{m n:Nat}{f:Int->Option Int}(hA:∀G S w,View G S L R F M w->MapA TC okI m n f w)(k:Int)(hk:okI k)(ho:o.op = .lookup TC.t x y false)(hx:evS E x=some (.v (.map (some m))))(hy:evS E y=some (.q (eI k))) :
  ∀(G:Nat->Nat) (S:Nat->Prop) (a:Act) (w:World),Fr N (denE G E) a->View G S L R F M w->(execOp a.eval o).run Tryz.prog w = .ok (.value ((SV.q (eI ((f k).getD 0))).den G)) w:=by
 cases hs:f k with
 | none=>exact runO_noneA TC_ok hA k 0 hk hs zeroI ho hx hy
 | some s=>exact runO_lookA TC_ok hA k s hk hs ho hx hy
def hd9:List UInt8:=[251,105,116,75,219,190,128,177,123]
theorem head9:∀k:Nat,k<9->(fE (hB2 (a9 k) 3)).head?=hd9[k]?
 | 0,_=>key_head rfl (by decide +kernel)
 | 1,_=>key_head rfl (by decide +kernel)
 | 2,_=>key_head rfl (by decide +kernel)
 | 3,_=>key_head rfl (by decide +kernel)
 | 4,_=>key_head rfl (by decide +kernel)
 | 5,_=>key_head rfl (by decide +kernel)
 | 6,_=>key_head rfl (by decide +kernel)
 | 7,_=>key_head rfl (by decide +kernel)
 | 8,_=>key_head rfl (by decide +kernel)
 | k+9,h=>absurd h (by omega)
theorem hd9_inj:∀j:Nat,j<9->∀k:Nat,k<9->hd9[j]?=hd9[k]?->j=k:=by decide
noncomputable def mk9(k:Nat):UV:=mkH (hB2 (a9 k) 3) 1 (hB (a9 k))
theorem mk9_ok(k:Nat):(mk9 k).Ok:=mkH_ok _ _ rfl
theorem mk9_ne{j k:Nat}(hj:j<9)(hk:k<9)(h:(mk9 j).id=(mk9 k).id):j=k:=by
 refine hd9_inj j hj k hk ?_;rw [<-head9 j hj,<-head9 k hk];exact congrArg List.head? h
theorem mk9_sign(k:Nat):signB (mk9 k)=true:=signB_made _ _ _
structure Own9(ks:List Nat):Prop where
  lt:∀k∈ks,k<9
  nodup:ks.Nodup
noncomputable abbrev us9(ks:List Nat):List UV:=ks.map mk9
theorem Own9.apart{ks:List Nat}(h:Own9 ks):((us9 ks).map udH).Pairwise λu v=>u.id≠v.id:=by
 unfold us9
 rw [qK,qK];refine m9 (λ{a b} ha hb hne he=>hne (mk9_ne (h.lt a ha) (h.lt b hb) he)) h.nodup
theorem us9_ok(ks:List Nat):∀u∈us9 ks,u.Ok:=λu hu=>by
 obtain⟨k,_,rfl⟩:=List.mem_map.1 hu;exact mk9_ok k
theorem putD_new:∀{l:List EntD} {id:List UInt8} {ks:List (List UInt8)},(∀e∈l,e.1≠id)->(iD l id ks).length=l.length+1
 | [],_,_,_=>rfl
 | e::l,id,ks,h=>by
  unfold iD
  split
  ·rw [a8,a8,putD_new λx hx=>h x (aI _ hx)]
  ·rw [if_neg (h e aM)]
   rfl
theorem len9:∀{ks:List Nat} {l:List EntD},Own9 ks->(∀e∈l,∀k∈ks,e.1≠(mk9 k).id)->(bQ l ((us9 ks).map udH)).length=l.length+ks.length
 | [],_,_,_=>rfl
 | k::ks,l,h,hl=>by
  have hn:=List.nodup_cons.1 h.nodup;have h0:bK l (mk9 k).id=[]:=mX λe he=>hl e he k aM
  have hs:cN l (udH (mk9 k))=iD l (mk9 k).id [(mk9 k).key]:=by
   rw [step_ok ⟨mk9_sign k,by rw [h0];rfl⟩,h0]
   rfl
  show(bQ (cN l (udH (mk9 k))) ((us9 ks).map udH)).length=_
  rw [hs,len9 ⟨λj hj=>h.lt j (aI _ hj),hn.2⟩ λe he j hj=>?_,putD_new λe he=>hl e he k aM,a8]
  ·omega
  ·rcases iT he with rfl|he
   ·intro e2
    have:=mk9_ne (h.lt k aM) (h.lt j (aI _ hj)) e2;exact hn.1 (this▸hj)
   ·exact hl e he j (aI _ hj)
theorem Rd.drop{α:Type}{k c:Nat}{fe:α->SQ}{A:Option Addr}{l:List α}{w:World}(h:Rd k fe A c l w){n:Nat}(hn:n<=l.length):Rd k fe (cutK k A c n) (c-n) (l.drop n) w:=by
 obtain⟨h1,h2,h3,h4,h5⟩:=h
 unfold cutK
 refine⟨by rw [dE];omega,by omega,?_,λx hx=>h4 x (List.mem_of_mem_drop hx),λh0=>?_⟩
 ·split
  ·exact λ_=>by omega
  ·intro e
   cases A with
   | none=>rw [h3 rfl];exact Nat.zero_sub _
   | some a=>cases e
 ·rw [dE] at h0
  obtain⟨b,o,rfl,hb,hr⟩:=h5 (by omega);rw [if_neg (by omega)];refine⟨b,o+k*n,congrArg some (cK ..),hb,λi x hx=>?_⟩;rw [mM] at hx;have:=hr (n+i) x hx
  rwa [Nat.mul_add,<-bW] at this
structure OrS where
  i:Nat
  ks:List Nat
  U:KX
  n:Nat
  f:Int->Option Int
structure OrI(k:Nat)(s:OrS):Prop where
  i:s.i<=k
  own:Own9 s.ks
  len:s.ks.length<=9
  leni:s.ks.length<=s.i
  cnt:∀k:Nat,k<9->((s.f (k:Int)).getD 0=0↔k∉s.ks)
theorem wrap8K{n:Nat}(_:n<9):IntKind.u8.wrap (n:Int)=((a9 n).toNat:Int):=by
 rw [UInt8.toNat_ofNat']
 show(n:Int)%256=_
 omega
theorem okI_nat{n:Nat}(_:n<9):okI (n:Int):=by
 show(Lit.int .i64 (n:Int)).wf=true
 simp [Lit.wf,IntKind.min,IntKind.max,IntKind.signed,IntKind.bits]
 omega
theorem order12_S{A:Option Addr}{c:Nat}(os:List Int)(cut:Int):Spec 6 [.slice A os.length c,.int .i64 cut] [] (λw=>Ta w/\Rd 1 eI A c os w) (one (.v (.bool true))):=by
 refine spec_S [.c (.v (.slice A os.length c)),.c (.v (.int .i64 cut))] 120 Tryz.func6 rfl (by rw [Tryz.ntmps6];rfl) (two_ok trivial trivial) λb=>?_;refine s_pure (os.length<=9223372036854775807) (λw h _=>Nat.le_trans h.2.1 h.2.2.1) λhmax=>?_;refine s_auto TY_ok rfl ?_;refine s_seq λK0 hK0=>?_;refine s_regA TY_ok rfl λK1 hK1=>?_;refine l_call0 [] rfl rfl rfl own_first12 rfl rfl (λ_ _=>rfl) first12_S (λ_ h _=>h.1) λ_=>?_;refine l_autoS TY_ok rfl ?_;refine s_end (hK1 _ ?_);refine s_no rfl ?_;refine s_skip (hK0 _ ?_);refine s_auto TY_ok rfl ?_;refine s_regA TY_ok rfl λK2 hK2=>?_;refine l_mkG TC okI rfl rfl rfl rfl λm=>?_;refine l_autoS TY_ok rfl ?_;refine s_end (hK2 _ ?_);refine s_seq λK hK=>?_;refine s_auto TY_ok rfl ?_;refine s_block ?_;refine s_nil0 0 76 129 eU ?_
 let Fs:OrS->Env:=λs=>⟨[(21,.v (.int .i64 (s.i:Int))),(20,.v (.int .i64 (os.length:Int))),(19,.v (.slice A os.length c)),(5,.v (.slice s.U.1 (us9 s.ks).length s.U.2)),(6,.v (.map (some m))),(1,.v (.int .i64 cut))],[],[OwnS 0 76 129 eU s.U.1 s.U.2 (us9 s.ks),MapG TC okI m s.n s.f],λw=>Ta w/\Rd 1 eI A c os w,λ_=>True⟩
 refine c_weak (e':=Fs ⟨0,[],(none,0),0,λ_=>none⟩) ⟨⟨rfl,rfl,rfl,rfl,rfl,rfl,trivial⟩,trivial,.refl _,λ_ h _=>h.2,λ_ _=>trivial⟩ (s_loop (λs=>os.length-s.i) Fs (OrI os.length) ?_ ⟨0,[],(none,0),0,λ_=>none⟩ ⟨aR _,⟨λ_ h=>(by cases h),List.nodup_nil⟩,aR _,aH _,λ_ _=>⟨λ_ h=>(by cases h),λ_=>rfl⟩⟩)
 rintro s ⟨hi,hown,hlen,hleni,hcnt⟩
 have hul:(us9 s.ks).length=s.ks.length:=eO ..;refine s_auto TY_ok rfl ?_;refine s_seq λK5 hK5=>?_;refine s_ifD ((s.i:Int)<(os.length:Int)) rfl (λhlt=>?_) (λhge=>?_)
 ·have hlt:s.i<os.length:=by omega
  obtain⟨o,ho⟩:∃o,os[s.i]?=some o:=⟨_,aP hlt⟩;refine s_skip (hK5 _ ?_);refine s_seq λK6 hK6=>?_
  have hF:∀t:OrS,t.i=s.i->Own9 t.ks->t.ks.length<=9->t.ks.length<=s.i+1->(∀k:Nat,k<9->((t.f (k:Int)).getD 0=0↔k∉t.ks))->∀e',Weak e' (Fs t)->kS b K6 120 e':=by
   intro t ht h1 h2 h3 h4 e' hw
   refine k_weak hw (hK6 _ ?_);refine s_autoE TY_ok rfl ?_;exact k_next ({ t with i:=s.i+1 }:OrS) ⟨hlt,h1,h2,h3,h4⟩ (by show os.length-(s.i+1)<os.length-s.i;omega) ⟨⟨by rw [ht];exact nextI s.i os.length (by omega) hlt,rfl,rfl,rfl,rfl,rfl,trivial⟩,trivial,.refl _,λ_ h _=>h,λ_ h=>h⟩
  refine s_block ?_;refine s_regA TY_ok rfl λK7 hK7=>?_;refine l_elem TY_ok rfl rfl rfl s.i rfl ho rfl rfl (rd_fact λ_ h _=>h.2) ?_;refine l_autoS TY_ok rfl ?_;refine s_end (hK7 _ ?_);obtain⟨k0,hk0,_,hkw⟩:=wrapU_mod o 9 (by decide) (by decide);have hok:=okI_nat hk0;refine s_regA TY_ok rfl λK8 hK8=>?_;refine l_num 9 (k0:Int) rfl (by rw [show(IntKind.u64.wrap o).tmod 9=(IntKind.u64.wrap o).tmod ((9:Nat):Int) from rfl,hkw]) ?_;refine s_end (hK8 _ ?_)
  by_cases h9:(s.i:Int)<9
  ·refine s_regA TY_ok rfl λK9 hK9=>?_
   refine l_is 32 true rfl (decide_eq_true h9) ?_;refine l_autoS TY_ok rfl ?_;refine l_opV (.q (eI ((s.f (k0:Int)).getD 0))) trivial rfl rfl rfl (runO_count (map_own 1 rfl) (k0:Int) hok rfl rfl rfl) ?_;refine l_autoS TY_ok rfl ?_;refine s_end (hK9 _ ?_);refine s_ifD ((s.f (k0:Int)).getD 0=0) rfl (λh0=>?_) (λ_=>?_)
   ·have hnew:=(hcnt k0 hk0).1 h0
    have hm:=hmake_S (seed:=hB2 (a9 k0) 3) (key:=hB (a9 k0)) 1 rfl rfl;have hm:Spec 26 [.agg (By (hB2 (a9 k0) 3)).toArray,.int .i64 1,.agg (By (hB (a9 k0))).toArray] [] Ta (one (.q (eU (mk9 k0)))):=hm
    have e1:us9 s.ks++[mk9 k0]=us9 (s.ks++[k0]):=by simp [us9]
    refine s_regA TY_ok rfl λKa hKa=>?_;refine l_opV (.q (eI ((s.f (k0:Int)).getD 0))) trivial rfl rfl rfl (runO_count (map_own 1 rfl) (k0:Int) hok rfl rfl rfl) ?_;refine l_autoS TY_ok rfl ?_;refine l_updG TC_ok 1 rfl (k0:Int) (IntKind.i64.wrap ((s.f (k0:Int)).getD 0+1)) hok rfl rfl rfl rfl rfl rfl ?_;refine s_end (hKa _ ?_);refine s_lit ?_;refine l_autoS TY_ok rfl ?_;refine l_num 44 ((a9 k0).toNat:Int) rfl (wrap8K hk0) ?_;refine l_buildY [(0,.v (.int .u8 ((a9 k0).toNat:Int))),(1,.v (.int .u8 3))] 32 (hB2 (a9 k0) 3) rfl rfl rfl rfl rfl rfl rfl ?_;refine l_autoS TY_ok rfl ?_;refine l_num 47 ((a9 k0).toNat:Int) rfl (wrap8K hk0) ?_;refine l_buildY [(0,.v (.int .u8 ((a9 k0).toNat:Int)))] 32 (hB (a9 k0)) rfl rfl rfl rfl rfl rfl rfl ?_;refine l_call0 [.agg (By (hB2 (a9 k0) 3)).toArray,.int .i64 1,.agg (By (hB (a9 k0))).toArray] rfl rfl rfl own_hmake rfl rfl (λ_ _=>rfl) hm (λ_ h _=>h.1) λ_=>?_;refine l_push TY_ok 0 (mk9 k0) (fe:=eU) rfl rfl rfl rfl rfl rfl rfl (eU_ok (mk9_ok k0)) (by decide) (by decide) (by show((us9 s.ks).length+1)*136<=_;omega) (by show(us9 s.ks).length<_;omega) (aR _) λU1 u1=>?_;rw [e1];refine l_autoS TY_ok rfl ?_;refine s_end (hF ⟨s.i,s.ks++[k0],(U1,u1),if (s.f (k0:Int)).isSome then s.n else s.n+1,putF s.f (k0:Int) (IntKind.i64.wrap ((s.f (k0:Int)).getD 0+1))⟩ rfl ⟨λj hj=>?_,?_⟩ ?_ ?_ (λj hj=>?_) _ ⟨⟨rfl,rfl,rfl,rfl,rfl,rfl,trivial⟩,trivial,.refl _,λ_ h _=>h.2,λ_ _=>trivial⟩)
    ·rcases dC.1 hj with hj|hj
     ·exact hown.lt j hj
     ·rw [aF.1 hj]
      exact hk0
    ·refine List.nodup_append.2 ⟨hown.nodup,by simp,λx hx y hy e=>?_⟩
     rw [aF.1 hy] at e;exact hnew (e▸hx)
    ·show(s.ks++[k0]).length<=9
     rw [aD]
     show s.ks.length+1<=9
     omega
    ·show(s.ks++[k0]).length<=_
     rw [aD];exact Nat.succ_le_succ hleni
    ·show((putF s.f (k0:Int) (IntKind.i64.wrap ((s.f (k0:Int)).getD 0+1))) (j:Int)).getD 0=0↔j∉s.ks++[k0]
     unfold putF
     by_cases hjk:(j:Int)=(k0:Int)
     ·rw [if_pos hjk,h0]
      constructor
      ·intro h
       exact absurd h (by decide)
      ·intro h
       exact absurd (List.mem_append_right _ (aF.2 (by omega))) h
     ·rw [if_neg hjk,hcnt j hj,dC,aF]
      constructor
      ·exact λh h2=>h2.elim h λe=>hjk (by rw [e])
      ·exact λh h2=>h (.inl h2)
   ·exact s_skip (hF s rfl hown hlen (by omega) hcnt _ ⟨⟨rfl,rfl,rfl,rfl,rfl,rfl,trivial⟩,trivial,.refl _,λ_ h _=>h,λ_ h=>h⟩)
  ·refine s_regA TY_ok rfl λK9 hK9=>?_
   refine l_is 32 false rfl (decide_eq_false h9) ?_;refine l_autoS TY_ok rfl ?_;refine s_end (hK9 _ ?_);refine s_no rfl ?_;exact s_skip (hF s rfl hown hlen (by omega) hcnt _ ⟨⟨rfl,rfl,rfl,rfl,rfl,rfl,trivial⟩,trivial,.refl _,λ_ h _=>h,λ_ h=>h⟩)
 refine s_exit (k_pass (k_pass (k_out ?_)));refine k_drop 1 rfl ?_;refine hK _ ?_;refine s_free 0 rfl ?_;obtain⟨i,ks,⟨U,uc⟩,n,f⟩:=s
 dsimp only at hown hlen hul
 have huo:=us9_ok ks;have hap:=hown.apart;have hl9:=len9 (l:=[]) hown (λ_ h=>by cases h);obtain⟨us,hus⟩:∃us,us9 ks=us:=⟨_,rfl⟩;rw [hus] at hul huo hap hl9
 have hl9:(bQ [] (us.map udH)).length=us.length:=by rw [hl9,hul];exact Nat.zero_add _
 have hus9:us.length<=9:=by omega
 refine c_weak (e':=⟨[(5,.v (.slice U us.length uc)),(1,.v (.int .i64 cut))],[],[],λw=>Rd 129 eU U uc us w/\Ta w,λ_=>True⟩) ⟨⟨by rw [<-hus];rfl,rfl,trivial⟩,trivial,.refl _,λ_ h _=>⟨by rw [<-hus];exact h.1,h.2.1⟩,λ_ _=>trivial⟩ ?_;clear hus hcnt hleni hi hge;have hzl:zDirV.l.length=0:=rfl;have hz0:bQ zDirV.l=bQ []:=rfl;refine s_regA TY_ok rfl λKb hKb=>?_;refine l_call0 [(eDv zDirV).den,.slice U us.length uc] rfl rfl rfl own_dapply rfl rfl (λ_ _=>rfl) (dapply_S zDirV_ok (us:=us) huo (by rw [hzl];omega)) (λw h _=>⟨h.2,zDirV_F w,h.1⟩) λa=>?_;refine l_autoS TY_ok rfl ?_;refine l_pure (a.Ok/\a.ep=IntKind.i64.wrap (0+1)/\a.l=bQ [] (us.map udH)) (λ_ h _=>⟨h.1.2.1,h.1.2.2⟩) λ⟨ha,hae,hal⟩=>?_;refine s_end (k_weak (e':=⟨[(10,.a 10 0),(5,.v (.slice U us.length uc)),(1,.v (.int .i64 cut))],[⟨10,none,33,a.parts⟩],[],λw=>a.F w/\Rd 129 eU U uc us w/\Ta w,λ_=>True⟩) ⟨⟨rfl,rfl,rfl,trivial⟩,⟨rfl,rfl,trivial⟩,.refl _,λ_ h _=>⟨h.1.1,h.2⟩,λ_ _=>trivial⟩ (hKb _ ?_));refine s_auto TY_ok rfl ?_;refine s_seq λK3 hK3=>?_;refine s_auto TY_ok rfl ?_;refine s_block ?_;refine s_nil0 0 76 129 eU ?_
 let Gs:Nat×KX->Env:=λs=>⟨[(12,.v (.int .i64 ((us.length:Int)-1-(s.1:Int)))),(11,.v (.slice s.2.1 (us.reverse.take s.1).length s.2.2)),(5,.v (.slice U us.length uc)),(1,.v (.int .i64 cut)),(10,.a 10 0)],[⟨10,none,33,a.parts⟩],[OwnS 0 76 129 eU s.2.1 s.2.2 (us.reverse.take s.1)],λw=>a.F w/\Rd 129 eU U uc us w/\Ta w,λ_=>True⟩
 refine c_weak (e':=Gs (0,none,0)) ⟨⟨congrArg (λz=>some (SV.v (.int .i64 z))) (wrapI (m:=(us.length:Int)-1) (r:=(us.length:Int)-1-((0:Nat):Int)) (by omega) (by omega) (by omega)),rfl,rfl,rfl,rfl,trivial⟩,⟨rfl,rfl,trivial⟩,.refl _,λ_ h _=>h,λ_ _=>trivial⟩ (s_loop (λs=>us.length-s.1) Gs (λs=>s.1<=us.length) ?_ (0,none,0) (aR _))
 rintro⟨j,B,c2⟩ hj
 dsimp only at hj
 have hrl:(us.reverse.take j).length<=9:=by rw [aY,dI];omega
 refine s_seq λK4 hK4=>?_;refine s_auto TY_ok rfl ?_;refine s_ifD ((us.length:Int)-1-(j:Int)>=0) rfl (λhge=>?_) (λhlt=>?_)
 ·have hlt:us.length-1-j<us.length:=by omega
  obtain⟨u,hu⟩:∃u,us[us.length-1-j]?=some u:=⟨_,aP hlt⟩;have huu:=huo u (List.mem_of_getElem? hu)
  have e1:us.reverse.take (j+1)=us.reverse.take j++[u]:=by
   rw [List.take_add_one,List.getElem?_reverse (by omega),hu]
   rfl
  refine s_skip (hK4 _ ?_);refine s_seq λK5 hK5=>?_;refine s_block ?_;refine s_lit ?_;refine l_autoS TY_ok rfl ?_;refine l_num 65 ((us.length-1-j:Nat):Int) rfl (by omega) ?_;refine l_elem TY_ok rfl rfl rfl (us.length-1-j) rfl hu rfl rfl (rd_fact λ_ h _=>h.2.1) ?_;refine l_push TY_ok 0 u (fe:=eU) rfl rfl rfl rfl rfl rfl rfl (eU_ok huu) (by decide) (by decide) (by show((us.reverse.take j).length+1)*136<=_;omega) (by show(us.reverse.take j).length<_;omega) (aR _) λB1 d1=>?_;rw [<-e1];refine l_autoS TY_ok rfl ?_;refine s_end (hK5 _ ?_);refine s_autoE TY_ok rfl ?_;exact k_next (j+1,B1,d1) (by show j+1<=us.length;omega) (by show us.length-(j+1)<us.length-j;omega) ⟨⟨congrArg (λz=>some (SV.v (.int .i64 z))) (wrapI (m:=(us.length:Int)-1-(j:Int)-1) (r:=(us.length:Int)-1-((j+1:Nat):Int)) (by omega) (by omega) (by omega)),rfl,rfl,rfl,rfl,trivial⟩,⟨rfl,rfl,trivial⟩,.refl _,λ_ h _=>h,λ_ h=>h⟩
 obtain rfl:j=us.length:=by omega
 have e0:us.reverse.take us.length=us.reverse:=List.take_of_length_le (by rw [dI];exact aH _);refine s_exit (k_pass (k_pass (k_out ?_)));refine hK3 _ ?_;refine s_free 0 rfl ?_;have hbo:∀u∈us.reverse,u.Ok:=λu hu=>huo u (List.mem_reverse.1 hu);have hbl:us.reverse.length=us.length:=dI
 have hbr:bQ [] (us.reverse.map udH)=bQ [] (us.map udH):=by
  rw [List.map_reverse];exact n8 DirOk.nil (us_ok huo) hap
 refine c_weak (e':=⟨[(11,.v (.slice B us.reverse.length c2)),(5,.v (.slice U us.length uc)),(1,.v (.int .i64 cut)),(10,.a 10 0)],[⟨10,none,33,a.parts⟩],[],λw=>Rd 129 eU B c2 us.reverse w/\a.F w/\Rd 129 eU U uc us w/\Ta w,λ_=>True⟩) ⟨⟨congrArg (λl:List UV=>some (SV.v (.slice B l.length c2))) e0,rfl,rfl,rfl,trivial⟩,⟨rfl,rfl,trivial⟩,.refl _,λw h _=>⟨by have h1:Rd 129 eU B c2 (us.reverse.take us.length) w:=h.1;rwa [e0] at h1,h.2⟩,λ_ _=>trivial⟩ ?_;clear e0 hrl hj hlt;refine s_regA TY_ok rfl λKc hKc=>?_;refine l_call0 [(eDv zDirV).den,.slice B us.reverse.length c2] rfl rfl rfl own_dapply rfl rfl (λ_ _=>rfl) (dapply_S zDirV_ok (us:=us.reverse) hbo (by rw [hzl];omega)) (λw h _=>⟨h.2.2.2,zDirV_F w,h.1⟩) λb2=>?_;refine l_autoS TY_ok rfl ?_;refine l_pure (b2.Ok/\b2.l=bQ [] (us.map udH)) (λ_ h _=>⟨h.1.2.1,h.1.2.2.2.trans hbr⟩) λ⟨hb,hbl2⟩=>?_;refine s_end (k_weak (e':=⟨[(13,.a 13 0),(5,.v (.slice U us.length uc)),(1,.v (.int .i64 cut)),(10,.a 10 0)],[⟨13,none,33,b2.parts⟩,⟨10,none,33,a.parts⟩],[],λw=>b2.F w/\a.F w/\Rd 129 eU U uc us w/\Ta w,λ_=>True⟩) ⟨⟨rfl,rfl,rfl,rfl,trivial⟩,⟨rfl,rfl,rfl,rfl,trivial⟩,.refl _,λ_ h _=>⟨h.1.1,h.2.2⟩,λ_ _=>trivial⟩ (hKc _ ?_));obtain⟨q,hq,_,hqw⟩:=wrapU_mod cut (us.length+1) (Nat.succ_pos _) (by omega);have hw1:IntKind.i64.wrap ((us.length:Int)+1)=((us.length+1:Nat):Int):=wrapI (by omega) (by omega) (by omega);refine s_regA TY_ok rfl λKd hKd=>?_;refine l_num 78 ((us.length+1:Nat):Int) rfl (by rw [hw1];exact wrapU rfl (by omega) (by omega)) ?_;refine l_op (.v (.int .u64 ((IntKind.u64.wrap cut).tmod ((us.length+1:Nat):Int)))) trivial rfl rfl rfl (run_remU (by omega) rfl rfl rfl) ?_;refine l_autoS TY_ok rfl ?_;refine l_num 14 (q:Int) rfl hqw ?_;refine s_end (hKd _ ?_);refine s_pure (us.length<=uc/\uc<=9223372036854775807/\(U=none->uc=0)) (λw h _=>⟨h.2.2.1.1,h.2.2.1.2.1,h.2.2.1.2.2.1⟩) λ⟨hc1,hc2,hc3⟩=>?_;have hto:∀u∈us.take q,u.Ok:=λu hu=>huo u (List.mem_of_mem_take hu);have hdo:∀u∈us.drop q,u.Ok:=λu hu=>huo u (List.mem_of_mem_drop hu)
 have htl:(us.take q).length=q:=by rw [aY];omega
 have hdl:(us.drop q).length=us.length-q:=dE
 have hcat:∀z:List EntD,z=bQ [] ((us.take q).map udH)->bQ z ((us.drop q).map udH)=bQ [] (us.map udH):=λz hz=>by
  rw [hz,<-oA,<-List.map_append,List.take_append_drop]
 refine s_seq λKe hKe=>?_;refine s_anyP [0,1,2,3,5,6,7] 10 1 (λ_=>True) (by kernel_rfl) rfl (λ_ _ _=>trivial) ?_;refine p_frontS (L0:=[]) TY_ok 0 (by kernel_rfl) rfl rfl rfl rfl rfl rfl (λ_ h=>by cases h) (λ_ _ _ h=>by cases h) ?_;refine p_frontS (L0:=[]) TY_ok 1 (by kernel_rfl) rfl rfl rfl rfl rfl rfl (λ_ h=>by cases h) (λ_ _ _ h=>by cases h) ?_;refine p_frontS (L0:=[]) TY_ok 2 (by kernel_rfl) rfl rfl rfl rfl rfl rfl (λ_ h=>by cases h) (λ_ _ _ h=>by cases h) ?_;refine p_frontO (.v (.slice U q uc)) trivial 3 (by kernel_rfl) rfl rfl rfl rfl rfl (run_cutHi (sz:=129) (by kernel_rfl) (by omega) hc3 rfl Tryz.underlying40 rfl rfl) ?_;refine p_frontS (L0:=[]) TY_ok 5 (by kernel_rfl) rfl rfl rfl rfl rfl rfl (λ_ h=>by cases h) (λ_ _ _ h=>by cases h) ?_;refine p_frontS (L0:=[]) TY_ok 6 (by kernel_rfl) rfl rfl rfl rfl rfl rfl (λ_ h=>by cases h) (λ_ _ _ h=>by cases h) ?_;refine p_frontO (.v (.slice (cutK 129 U uc q) (us.length-q) (uc-q))) trivial 7 (by kernel_rfl) rfl rfl rfl rfl rfl (run_cutLoK (by kernel_rfl) (by omega) hc1 hc3 rfl Tryz.underlying40 rfl rfl) ?_;have hA1:=dapply_S (A:=U) (c:=uc) zDirV_ok (us:=us.take q) hto (by rw [hzl];omega)
 have hA2:=λ(e:DirV) (he:e.Ok) (hel:e.l=bQ [] ((us.take q).map udH))=>dapply_S (A:=cutK 129 U uc q) (c:=uc-q) he (us:=us.drop q) hdo (by
  have:=applyD_len ((us.take q).map udH) [];rw [<-hel,eO,htl] at this
  have:e.l.length<=q:=by simpa using this
  omega)
 have hfin:∀e:DirV,e.Ok->e.ep=2->e.l=bQ [] (us.map udH)->∀e',Weak e' ⟨[(15,.a 15 0),(5,.v (.slice U us.length uc)),(13,.a 13 0),(10,.a 10 0)],[⟨15,none,33,e.parts⟩,⟨13,none,33,b2.parts⟩,⟨10,none,33,a.parts⟩],[],λw=>e.F w/\b2.F w/\a.F w/\Ta w,λ_=>True⟩->kS b Ke 120 e':=by
  intro e he hee hel e' hw
  refine k_weak hw (hKe _ ?_);have hra:=droot_S ha;have hrb:=droot_S hb;have hre:=droot_S he;rw [hal] at hra;rw [hbl2] at hrb;rw [hel] at hre
  have hr32:(fB 256 (pairsD (bQ [] (us.map udH)))).length=32:=by rw [<-hal,<-ha.tree.root];exact a.t.root_len
  have hal9:a.t.len=us.length:=by rw [ha.tree.len,pairsD,eO,hal,hl9]
  generalize fB 256 (pairsD (bQ [] (us.map udH)))=rt at *;refine s_regH 30 (by decide) (by kernel_rfl) (by kernel_rfl) λK8 hK8 G S w0 hst=>?_;refine h_auto TY_ok hst rfl ?_;refine h_callS (F':=a.F) (r:=.q (eY 32 rt)) hst [(eDv a).den] rfl rfl rfl rfl own_droot rfl rfl (λ_=>rfl) (eY_ok hr32).1 hra (λ_ _ _ h=>h.fact.2.2.1) ?_;refine h_auto TY_ok hst rfl ?_;refine h_callS (F':=b2.F) (r:=.q (eY 32 rt)) hst [(eDv b2).den] rfl rfl rfl rfl own_droot rfl rfl (λ_=>rfl) (eY_ok hr32).1 hrb (λ_ _ _ h=>h.fact.2.1) ?_;refine h_op hst (.b (decide (rt=rt))) trivial rfl rfl rfl rfl (run_eqY rfl rfl rfl Tryz.underlying45 (by kernel_rfl) hr32 hr32) ?_;refine h_is 94 true rfl (by simp) ?_;refine h_auto TY_ok hst rfl ?_;refine h_callS (F':=a.F) (r:=.q (eY 32 rt)) hst [(eDv a).den] rfl rfl rfl rfl own_droot rfl rfl (λ_=>rfl) (eY_ok hr32).1 hra (λ_ _ _ h=>h.fact.2.2.1) ?_;refine h_auto TY_ok hst rfl ?_;refine h_callS (F':=e.F) (r:=.q (eY 32 rt)) hst [(eDv e).den] rfl rfl rfl rfl own_droot rfl rfl (λ_=>rfl) (eY_ok hr32).1 hre (λ_ _ _ h=>h.fact.1) ?_;refine h_auto TY_ok hst rfl ?_;refine h_op hst (.b (decide (rt=rt))) trivial rfl rfl rfl rfl (run_eqY rfl rfl rfl Tryz.underlying45 (by kernel_rfl) hr32 hr32) ?_;refine h_is 100 true rfl (by simp) ?_;refine h_auto TY_ok hst rfl ?_;refine h_callS (F':=λ_=>True) (r:=.v (.int .i64 a.ep)) hst [(eDv a).den] rfl rfl rfl rfl own_depoch rfl rfl (λ_=>rfl) trivial (depoch_S a) (λ_ _ _ _=>trivial) ?_;refine h_auto TY_ok hst rfl ?_;refine h_is 107 true rfl (by rw [hae];rfl) ?_;refine h_auto TY_ok hst rfl ?_;refine h_callS (F':=λ_=>True) (r:=.v (.int .i64 e.ep)) hst [(eDv e).den] rfl rfl rfl rfl own_depoch rfl rfl (λ_=>rfl) trivial (depoch_S e) (λ_ _ _ _=>trivial) ?_;refine h_auto TY_ok hst rfl ?_;refine h_is 112 true rfl (by rw [hee];rfl) ?_;refine h_auto TY_ok hst rfl ?_;refine h_callS (F':=λ_=>True) (r:=.q (.p [.agg 2 #[a.t.val,.int .u8 0]])) hst [(eDv a).den] rfl rfl rfl rfl own_dtree rfl rfl (λ_=>rfl) (dtree_ok a) (dtree_S a) (λ_ _ _ _=>trivial) ?_;refine h_auto TY_ok hst rfl ?_;refine h_callS (F':=TF a.t) (r:=.v (.int .i64 (a.t.len:Int))) hst [(eTr a.t 0).den] rfl rfl rfl rfl own_tLen rfl rfl (λ_=>rfl) trivial (tLen_S a.t 0) (λ_ _ _ h=>h.fact.2.2.1.2.2) ?_;refine h_auto TY_ok hst rfl ?_;refine h_is 119 true rfl (by rw [hal9];simp) ?_;refine h_end hst ?_;refine l_autoS TY_ok rfl ?_;refine s_end (hK8 _ ?_);exact s_ret (k_ret TY_ok () rfl (by decide) rfl rfl rfl (λ_ _ _=>trivial) (λ_ _=>trivial))
 refine p_step2 4 9 (by kernel_rfl) rfl rfl (λKa hKa=>?pa) λKa hKa=>?pb
 case' pa =>
  refine l_eq 84 (.v (.slice U (us.take q).length uc)) rfl (by rw [htl]) ?_;refine l_call0 [(eDv zDirV).den,.slice U (us.take q).length uc] rfl rfl rfl own_dapply rfl rfl (λ_ _=>rfl) hA1 (λw h _=>⟨h.2.2.2,zDirV_F w,h.2.2.1.take q⟩) λe=>?_;refine l_pure (e.Ok/\e.ep=IntKind.i64.wrap (0+1)/\e.l=bQ [] ((us.take q).map udH)) (λ_ h _=>⟨h.1.2.1,h.1.2.2⟩) λ⟨he,hee,hel⟩=>?_;refine s_end (hKa _ (λ_ _ _=>trivial) ?_);refine p_step2 8 9 (by kernel_rfl) rfl rfl (λKb hKb=>?pc) λKb hKb=>?pd
 case' pc =>
  refine l_eq 88 (.v (.slice (cutK 129 U uc q) (us.drop q).length (uc-q))) rfl (by rw [hdl]) ?_;refine l_call0 [(eDv e).den,.slice (cutK 129 U uc q) (us.drop q).length (uc-q)] rfl rfl rfl own_dapply rfl rfl (λ_ _=>rfl) (hA2 e he hel) (λw h _=>⟨h.2.2.2.2,h.1.1,h.2.2.2.1.drop (by omega)⟩) λe2=>?_;refine l_pure (e2.Ok/\e2.ep=2/\e2.l=bQ [] (us.map udH)) (λ_ h _=>⟨h.1.2.1,h.1.2.2.1.trans (by rw [hee];rfl),h.1.2.2.2.trans (hcat e.l hel)⟩) λ⟨he2,hee2,hel2⟩=>?_;refine s_end (hKb _ (λ_ _ _=>trivial) ?_);refine p_step 9 (by kernel_rfl) rfl λKc hKc=>?_;refine l_autoS TY_ok rfl ?_;refine s_end (hKc _ (λ_ _ _=>trivial) ?_)
 case' pd =>
  refine l_autoS TY_ok rfl ?_;refine s_end (hKb _ (λ_ _ _=>trivial) ?_);refine p_step 8 (by kernel_rfl) rfl λKc hKc=>?_;refine l_eq 88 (.v (.slice (cutK 129 U uc q) (us.drop q).length (uc-q))) rfl (by rw [hdl]) ?_;refine l_call0 [(eDv e).den,.slice (cutK 129 U uc q) (us.drop q).length (uc-q)] rfl rfl rfl own_dapply rfl rfl (λ_ _=>rfl) (hA2 e he hel) (λw h _=>⟨h.2.2.2.2,h.1.1,h.2.2.2.1.drop (by omega)⟩) λe2=>?_;refine l_pure (e2.Ok/\e2.ep=2/\e2.l=bQ [] (us.map udH)) (λ_ h _=>⟨h.1.2.1,h.1.2.2.1.trans (by rw [hee];rfl),h.1.2.2.2.trans (hcat e.l hel)⟩) λ⟨he2,hee2,hel2⟩=>?_;refine s_end (hKc _ (λ_ _ _=>trivial) ?_)
 case' pb =>
  refine l_autoS TY_ok rfl ?_;refine s_end (hKa _ (λ_ _ _=>trivial) ?_);refine p_step 4 (by kernel_rfl) rfl λKb hKb=>?_;refine l_eq 84 (.v (.slice U (us.take q).length uc)) rfl (by rw [htl]) ?_;refine l_call0 [(eDv zDirV).den,.slice U (us.take q).length uc] rfl rfl rfl own_dapply rfl rfl (λ_ _=>rfl) hA1 (λw h _=>⟨h.2.2.2,zDirV_F w,h.2.2.1.take q⟩) λe=>?_;refine l_pure (e.Ok/\e.ep=IntKind.i64.wrap (0+1)/\e.l=bQ [] ((us.take q).map udH)) (λ_ h _=>⟨h.1.2.1,h.1.2.2⟩) λ⟨he,hee,hel⟩=>?_;refine s_end (hKb _ (λ_ _ _=>trivial) ?_);refine p_step 8 (by kernel_rfl) rfl λKc hKc=>?_;refine l_eq 88 (.v (.slice (cutK 129 U uc q) (us.drop q).length (uc-q))) rfl (by rw [hdl]) ?_;refine l_call0 [(eDv e).den,.slice (cutK 129 U uc q) (us.drop q).length (uc-q)] rfl rfl rfl own_dapply rfl rfl (λ_ _=>rfl) (hA2 e he hel) (λw h _=>⟨h.2.2.2.2,h.1.1,h.2.2.2.1.drop (by omega)⟩) λe2=>?_;refine l_pure (e2.Ok/\e2.ep=2/\e2.l=bQ [] (us.map udH)) (λ_ h _=>⟨h.1.2.1,h.1.2.2.1.trans (by rw [hee];rfl),h.1.2.2.2.trans (hcat e.l hel)⟩) λ⟨he2,hee2,hel2⟩=>?_;refine s_end (hKc _ (λ_ _ _=>trivial) ?_)
 all_goals
  refine p_tail [10] (by kernel_rfl) rfl ?_;refine l_autoS TY_ok rfl ?_;exact s_end (hfin e2 he2 hee2 hel2 _ ⟨⟨rfl,rfl,rfl,rfl,trivial⟩,⟨rfl,rfl,rfl,rfl,rfl,rfl,trivial⟩,.refl _,λ_ h _=>⟨h.1.1,h.2.2.1,h.2.2.2.1,h.2.2.2.2.2⟩,λ_ _=>trivial⟩)
end Go.Proofs.YtlhlkofpjhpaoaaGreatDoor
namespace Go.Proofs.YtlhlkofpjhpaoaaGreatDoor
open Go.ChangeShapes Go.WideShapes Go.ChangeAt Go.RowKit
theorem own:ownKnob Tryz.prog.godebug=none:=by kernel_rfl
theorem laidOut:laidOutB Tryz.prog=true:=by kernel_rfl
section
variable{H:Type}{enc:TypeId×Value->H}{W W':World}
theorem trodAll_below:∀{ts:List TypeId} {vs:List Value} {ds:List (DataW H)} {p:List MemPlace},(∀t∈ts,Tryz.prog.readableRec t=true/\t<Tryz.prog.types.size) ->
  DataW.TrodAll enc Tryz.prog W 0 (λ_=>true) true ts vs ds p->Below W.heap.size W W'->(∀x∈p,x.block<W.heap.size)->DataW.TrodAll enc Tryz.prog W' 0 (λb=>decide (b<W.heap.size)) true ts vs ds p
 | [],_,_,_,_,h,_,_=>by
  obtain⟨rfl,rfl,rfl⟩:=trodAll_nil h;exact trodAll_mk0
 | t::ts,_,_,_,hts,h,hb,hlt=>by
  obtain⟨v,vs',d,ds',p,q,rfl,rfl,rfl,h0,h1⟩:=trodAll_cons h;obtain⟨hr,hz⟩:=hts t (by simp);exact trodAll_cons_mk (Below.trod laidOut hr hz h0 hb (λx hx=>hlt x (by simp [hx]))) (trodAll_below (λu hu=>hts u (by simp [hu])) h1 hb (λx hx=>hlt x (by simp [hx])))
theorem law_post{f:Func}{s:ChangeSpec}{args:Array Value}{ds gs:List (DataW H)}{before:List MemPlace}(hf:f.resultTypes = #[4])(hvars:s.vars=[])
 (hts:∀t∈f.params.toList,Tryz.prog.readableRec t=true/\t<Tryz.prog.types.size)
 (hW:DataW.Whole enc Tryz.prog f.params.toList s.vars false W args.toList ds gs before)(hs:s.fn H (ds++gs)={ results:=[.lit (.bool true)],args:=ds })(hb:Below W.heap.size W W') :
  s.post enc Tryz.prog f false true false false W args (.bool true) W':=by
 have hW':=hW;obtain⟨p,q,hA,hV,rfl,_,_⟩:=hW;rw [hvars] at hV;obtain⟨rfl,rfl⟩:=trodVars_none hV;have hlt:∀x∈p,x.block<W.heap.size:=λx hx=>hW'.lt x (by simp [hx]);refine⟨ds,[],p++[],[],p,[],hW',?_,?_,?_,hb.frame _,λh=>by cases h⟩
 ·rw [hs,hf]
  exact trodAll_mk1 (shut_bool Tryz.underlying4 true)
 ·rw [hs]
  exact trodAll_below hts hA hb hlt
 ·rw [hs,hvars]
  rfl
end
theorem one_of{l:List Value}{i:Nat}{v:Value}(h:(l.drop (i*1)).take 1=[v]):l[i]?=some v:=by
 rw [Nat.mul_one] at h
 have h1:((l.drop i).take 1)[0]?=some v:=by rw [h];rfl
 rw [List.getElem?_take,if_pos (by omega),mM] at h1
 simpa using h1
end Go.Proofs.YtlhlkofpjhpaoaaGreatDoor
namespace Go.Proofs.YtlhlkofpjhpaoaaGreatDoor
open Go.RowKit Go.IntWalk
open Go.ChangeShapes Go.WideShapes Go.ChangeAt
theorem pick_list{α:Type}(P:Nat->α->Prop):∀n,(∀i,i<n->∃l,P i l)->∃ks:List α,ks.length=n/\∀i l,ks[i]?=some l->P i l
 | 0,_=>⟨[],rfl,λi l h=>by simp at h⟩
 | n+1,h=>by
  obtain⟨ks,hl,hk⟩:=pick_list P n λi hi=>h i (by omega);obtain⟨l,hp⟩:=h n (by omega);refine⟨ks++[l],by simp [hl],λi x hx=>?_⟩
  by_cases hi:i<ks.length
  ·rw [List.getElem?_append_left hi] at hx
   exact hk i x hx
  ·rw [List.getElem?_append_right (by omega)] at hx
   have h0:i-ks.length=0:=by
    by_cases e:i-ks.length=0
    ·exact e
    ·rw [List.getElem?_eq_none (by simp;omega)] at hx
     cases hx
   rw [h0] at hx
   obtain rfl:l=x:=by simpa using hx
   obtain rfl:i=n:=by omega
   exact hp
theorem open_rd{α H:Type}{enc:TypeId×Value->H}{W:World}{held:Bool}{fuel:Nat}{t e:TypeId}{k:Nat}{fe:α->SQ}{cs:List Value}{x:DataW H×List MemPlace}(ht:Tryz.prog.underlying t=some (.slice e))(hk:Tryz.prog.cellsOf e=k)(hk0:0<k)
 (hel:∀n cs x,pW enc Tryz.prog W 0 (λ_=>true) held n e cs=some x->∃a:α,cs=(fe a).cl/\OkP (fe a).parts1/\(fe a).cl.length=k)
 (h:pW enc Tryz.prog W 0 (λ_=>true) held fuel t cs=some x) :
  ∃(A:Option Addr) (l:List α) (c:Nat),cs=[.slice A l.length c]/\Rd k fe A c l W:=by
 rcases DataW.trod_slice ht h with⟨rfl,_⟩|⟨a,len,cap,elems,rest,n,rfl,rfl,rfl,_,hl,hm,hlen,hel2,_⟩
 ·exact⟨none,[],0,rfl,Rd.nil _ _ _⟩
 ·rw [hk] at hel2
  obtain⟨ks,hk1,hk2⟩:=pick_list (λi (y:α)=>(OkP (fe y).parts1/\(fe y).cl.length=k)/\W.cells? 0 (a.add (i*k)) k=some (fe y).cl) len λi hi=>by
   have h0:=hel2 i hi;rw [aP (by omega)] at h0
   cases hc:W.cells? 0 (a.add (i*k)) k with
   | none=>rw [hc] at h0;cases h0
   | some cs =>
    rw [hc] at h0;obtain⟨y,rfl,h1⟩:=hel _ _ _ h0;exact⟨y,h1,rfl⟩
  subst hk1;refine⟨some a,ks,cap,rfl,hl,(by unfold maxLen at hm;omega),λe=>(by cases e),λy hy=>?_,λhpos=>?_⟩
  ·obtain⟨i,hi,rfl⟩:=List.getElem_of_mem hy
   exact(hk2 i _ (aP hi)).1
  have hcell:∀i y,ks[i]?=some y->∀j v,(fe y).cl[j]?=some v->W.cell? (a.add (i*k+j))=some v:=λi y hi j v hj=>by
   obtain⟨⟨_,hkl⟩,hc⟩:=hk2 i y hi;obtain⟨_,_,h3⟩:=World.cells?_some hc
   have hjk:j<k:=by
    have:=(List.getElem?_eq_some_iff.1 hj).1
    omega
   have:=h3 j hjk;rw [Addr.add_add,hj] at this;exact this
  have h00:=hk2 0 _ (aP hpos);have hb:=World.cells?_block h00.2 hk0;rw [Nat.zero_mul] at hb;obtain⟨b,o,sp⟩:=a
  have hsp0:sp=none:=by
   obtain⟨v,hv⟩:∃v,(fe ks[0]).cl[0]?=some v:=⟨_,aP (by rw [h00.1.2];exact hk0)⟩;have:=hcell 0 _ (aP hpos) 0 v hv;rw [Nat.zero_mul,show(⟨b,o,sp⟩:Addr).add (0+0)=⟨b,o,sp⟩ from rfl,World.cell?] at this
   cases sp with
   | none=>rfl
   | some s =>
    exfalso
    dsimp only at this
    split at this
    ·simp at this
    ·cases this
  subst hsp0;refine⟨b,o,rfl,hb,λi y hi j v hj=>?_⟩;have:=hcell i y hi j v hj;rw [cK] at this
  rwa [bW,Nat.mul_comm k i]
end Go.Proofs.YtlhlkofpjhpaoaaGreatDoor
namespace Go.Proofs.YtlhlkofpjhpaoaaGreatDoor
open Go.RowKit Go.IntWalk
open Go.ChangeShapes Go.WideShapes Go.ChangeAt
end Go.Proofs.YtlhlkofpjhpaoaaGreatDoor
namespace Go.Proofs.YtlhlkofpjhpaoaaGreatDoor
open Go.ChangeShapes Go.WideShapes Go.ChangeAt Go.RowKit
theorem cells64:Tryz.prog.cellsOf 123 = 1:=by kernel_rfl
theorem table_cells{W:World}{nm:String}{g g0 t0 tid n fuel:Nat}{l:List Nat}{datum:DataW Unit}{cs:List Value}{p:List MemPlace}(hg:Tryz.prog.globalNamed nm=some g)(ht:(Tryz.prog.globals[g]?).map (·.type)=some tid)(hu:Tryz.prog.underlying tid=some (.array n 123))
 (hd:datum = .agg (l.map λ(x:Nat)=>.lit (.int .u64 (x:Int))))(hg0:Tryz.prog.globalNamed nm=some g0)(ht0:(Tryz.prog.globals[g0]?).map (·.type)=some t0)(hv0:W.var? Tryz.prog nm=some cs.toArray)(hd0:pW (λ_=>()) Tryz.prog W 0 (λ_=>true) false fuel t0 cs=some (datum,p)) :
  ∀i,i<n->W.cell? ⟨g,i,none⟩=some (.int .u64 (l[i]! : Nat)):=by
 obtain rfl:=cP (hg.symm.trans hg0);obtain rfl:=cP (ht.symm.trans ht0);obtain⟨xs,m1,rfl,hx1,hlen,hn5,hel⟩:=DataW.trod_array hu hd0;have hx2:=congrArg Prod.fst hx1;rw [hd] at hx2
 injection hx2 with hx2
 intro i hi
 have h0:=hel i hi;rw [cells64] at h0;obtain⟨x,hxi⟩:∃x,xs[i]?=some x:=⟨xs[i]'(by omega),aP (by omega)⟩;rw [hxi] at h0;obtain⟨n',e1,e2,_⟩:=DataW.trod_int Tryz.underlying123 h0
 have hll:l.length=n:=by
  have:=congrArg List.length hx2;simp only [eO] at this
  omega
 have h3:(l.map λ(x:Nat)=>(DataW.lit (.int .u64 (x:Int)):DataW Unit))[i]?=(xs.map (·.1))[i]?:=by rw [hx2]
 rw [qL,qL,hxi,aP (by omega)] at h3;simp only [Option.map_some,aU] at h3;rw [e2] at h3
 have hn:n'=((l[i]! : Nat):Int):=by
  rw [getElem!_pos l i (by omega)]
  injection h3 with h3
  injection h3 with _ h3
  exact h3.symm
 subst hn;have hcell:=World.var?_cell hg hv0 i;rw [hcell];have:=one_of e1
 simpa using this
end Go.Proofs.YtlhlkofpjhpaoaaGreatDoor
namespace Go.Proofs.YtlhlkofpjhpaoaaGreatDoor
open Go.ChangeShapes Go.WideShapes Go.ChangeAt Go.RowKit Nums
def laid3:List (String×DataW Unit):=[("witan/field.twice",Rows.laid_witan_field_twice),("witan/sha.starts",Rows.laid_witan_sha_starts),("witan/sha.steps",Rows.laid_witan_sha_steps)]
theorem door_met(os:Os)(args:Array Value):laidMetH Tryz.prog laid3 ((World.doorLaid Tryz.prog 400 os).forCall (λ_ _=>0) ⟨#[],args,[]⟩).memory :=
 laidMetH_of_parts3 (fuel:=8) (laidMet_of_run' 8 (by kernel_rfl) (by kernel_rfl)) (by kernel_rfl) (by kernel_rfl)
theorem of_laid{W:World}(h:laidMetH Tryz.prog laid3 W):Ta W:=by
 rw [MakeChecks.laidMetH_plain _ _ _ (by kernel_rfl)] at h;obtain⟨ps,⟨g0,t0,cs0,f0,p0,q0,hg0,ht0,hv0,hd0,⟨g1,t1,cs1,f1,p1,q1,hg1,ht1,hv1,hd1,⟨g2,t2,cs2,f2,p2,q2,hg2,ht2,hv2,hd2,_,_⟩,_⟩,_⟩,_,_⟩:=h;have c0:=table_cells (l:=twl) (n:=5) (g:=3) (tid:=191) (by kernel_rfl) (by kernel_rfl) Tryz.underlying191 (by kernel_rfl) hg0 ht0 hv0 hd0;have c1:=table_cells (l:=sqs) (n:=8) (g:=0) (tid:=217) (by kernel_rfl) (by kernel_rfl) Tryz.underlying217 (by kernel_rfl) hg1 ht1 hv1 hd1;have c2:=table_cells (l:=cbs) (n:=80) (g:=1) (tid:=222) (by kernel_rfl) (by kernel_rfl) Tryz.underlying222 (by kernel_rfl) hg2 ht2 hv2 hd2;exact⟨⟨c0,kN W ⟨3,0,none⟩ (c0 0 (by omega))⟩,⟨⟨c2,kN W ⟨1,0,none⟩ (c2 0 (by omega))⟩,c1,kN W ⟨0,0,none⟩ (c1 0 (by omega))⟩⟩
end Go.Proofs.YtlhlkofpjhpaoaaGreatDoor
namespace Go.Proofs.YtlhlkofpjhpaoaaGreatDoor
open Go.RowKit Go.IntWalk
open Go.ChangeShapes Go.WideShapes Go.ChangeAt
theorem int_cellsT{H:Type}{enc:TypeId×Value->H}{W:World}{held:Bool}(n:Nat)(cs:List Value)(x:DataW H×List MemPlace)(h:pW enc Tryz.prog W 0 (λ_=>true) held n 3 cs=some x) :
  ∃a:Int,cs=(eI a).cl/\OkP (eI a).parts1/\(eI a).cl.length=1:=by
 obtain⟨m,e,_⟩:=DataW.trod_int Tryz.underlying3 h;exact⟨m,e,eI_ok m⟩
end Go.Proofs.YtlhlkofpjhpaoaaGreatDoor
