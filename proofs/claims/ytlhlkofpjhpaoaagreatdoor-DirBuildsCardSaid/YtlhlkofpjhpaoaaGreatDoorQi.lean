import Derived.Test.YtlhlkofpjhpaoaaGreatDoorQh
import Derived.Test.YtlhlkofpjhpaoaaGreatDoorQf
import Derived.Test.YtlhlkofpjhpaoaaGreatDoorQb
import Derived.Test.YtlhlkofpjhpaoaaGreatDoorQg
import Derived.StillTailTactics
import Derived.Test.YtlhlkofpjhpaoaaGreatDoorQd
import Derived.Test.YtlhlkofpjhpaoaaGreatDoorQe
set_option maxRecDepth 100000
set_option maxHeartbeats 1000000
open And renaming intro->eN
open Go.IntKind renaming wrap_u64->a8
open Go.Lib renaming hid->dL
open Go.Value renaming pointer->oR
open List renaming replicate->aA,length_append->aC,mem_singleton->aE,mem_cons_of_mem->aI,mem_cons->aJ,mem_cons_self->aM,size_toArray->aV,length_take->aY,take_of_length_le->bH,length_replicate->bK,mem_map->bO,length_set->bR,pairwise_cons->bZ,mem_append->cB,ext_getElem->dG,length_drop->eK,drop_of_length_le->eO,take_append_of_le_length->fR,nil_append->gI,drop_eq_getElem_cons->gV,not_mem_nil->iO,find?_eq_none->kE,mem_of_find?_eq_some->kQ,range->mG
open List.Pairwise renaming nil->sC
open Nat renaming le_refl->aH,mod_eq_of_lt->aW,lt_of_lt_of_le->bS,reducePow->b8,pow_succ->cG,mod_lt->cI,mul_comm->c8,add_zero->dT,reduceSub->fA,mul_assoc->fN,pow_zero->kV,mul_zero->lJ,mul_mod->l5,add_mul_mod_self_left->mF,le_of_lt->rJ
open Option.some renaming injEq->aT
open UInt8 renaming ofNat->bD,toNat_lt->cR,toNat_inj->pJ
namespace Go.Proofs.YtlhlkofpjhpaoaaGreatDoor
open Go.RowKit Go.IntWalk Nums
theorem own_lay512:Own 135:=λ_ _=>by go_simp
theorem own_sum512:Own 101:=λ_ _=>by go_simp
structure Tsh(w:World):Prop where
  steps:Ts w
  cell:∀i,i<8->w.cell? ⟨0,i,none⟩=some (.int .u64 (sqs[i]! : Nat))
  lt : 0 < w.heap.size
theorem Tsh.below{w w':World}(h:Tsh w)(hb:Below w.heap.size w w'):Tsh w' :=
 ⟨h.steps.below hb,λi hi=>(hb.cell (p:=⟨0,i,none⟩) h.lt).trans (h.cell i hi),bS h.lt hb.size⟩
def start512:Oct:=⟨sqs[0]!,sqs[1]!,sqs[2]!,sqs[3]!,sqs[4]!,sqs[5]!,sqs[6]!,sqs[7]!⟩
theorem start512_ob:OB 64 start512:=by
 constructor<;>decide
theorem start512_list:start512.list=sqs:=by decide
theorem Tsh.range{w:World}(h:Tsh w):w.rangeAt 0 0 (Us sqs):=λj v hv=>by
 rw [Nat.zero_add]
 have hj:j<8:=by
  have:=(List.getElem?_eq_some_iff.1 hv).1;rw [Us_len] at this;exact this
 rw [h.cell j hj];have h1:(Us sqs).toArray[j]?=some (.int .u64 (sqs[j]! : Nat)):=Us_at (show j<sqs.length from hj);rw [<-h1]
 simpa using hv
theorem OB.list_lt{o:Oct}(h:OB 64 o):∀x∈o.list,x<18446744073709551616:=by
 intro x hx
 simp only [Oct.list,aJ,iO,or_false] at hx
 rcases hx with rfl|rfl|rfl|rfl|rfl|rfl|rfl|rfl
 ·exact h.a
 ·exact h.b
 ·exact h.c
 ·exact h.d
 ·exact h.e
 ·exact h.f
 ·exact h.g
 ·exact h.h
instance pst_sh:Pst Tsh:=⟨λ_ _ h hb=>h.below hb⟩
theorem rd_obj{L:List LV}{R:List Res}{F M:World->Prop}{g t:Nat}{ps:List Pt}(i:Nat)(hi:R[i]?=some (ObjS g t ps)):∀G S w,View G S L R F M w->ObjF g t ps w:=λ_ _ _ h=>by
 obtain⟨S1,_,h1,_⟩:=h.res.at hi;exact h1.1
theorem own_take512:Own 133:=λ_ _=>by go_simp
theorem ob_runw{s:Sha}{B:Nat}:∀(n:Nat) (o:Oct) (l:List UInt8),l.length<=n->OB s.w o->OB s.w (fD s B o l)
 | n,o,l,hn,ho=>by
  rw [fD]
  split
  ·exact ho
  ·cases n with
   | zero=>omega
   | succ n=>exact ob_runw n _ _ (by rw [eK];omega) (OB.fK _ _ _)
def k512:BK:=⟨dC,128,217,228,λo=>[.agg 8 (Us o.list).toArray],133⟩
theorem k512_ok:k512.Ok where
 n64:=by decide
 n128:=by decide
 own:=own_take512
 tk:=λ{gh gb o b} ho hb=>by
  refine spec_S (own:=k512.R gh gb o b) [.c (.v (atG gh)),.c (.v (atG gb))] 5 Tryz.func133 rfl (by rw [Tryz.ntmps133];rfl) (two_ok trivial trivial) λB=>?_;refine s_lit (l_ldO TY_ok rfl rfl rfl rfl rfl rfl (rd_obj 0 rfl) (l_ldO TY_ok rfl rfl rfl rfl rfl rfl (rd_obj 1 rfl) ?_));refine l_X (turn512_C ho hb) (λ_=>rfl) rfl λ_=>l_stO TY_ok 0 rfl rfl rfl rfl rfl rfl rfl (l_E rfl ?_);exact k_ret TY_ok () rfl (by decide) rfl rfl rfl (λ_ _ _=>trivial) λ_ _=>trivial
theorem lay512_C{F:World->Prop}{o:Oct}(ho:OB 64 o):Ct F 135 [eW 8 o.list] (one (.q (eY 64 (o.list.map (iD dC)).flatten))):=⟨own_lay512,Spec.pure (eY_ok (by rw [j9 (iD dC) λx=>j6 dC x];rfl)).1 λw _=>lay512_f rfl (OB.list_lt ho) w⟩
theorem sum512_C{P:Option Addr}{pc:Nat}{ss:List Seg}(hn:ss.length<=9223372036854775807):Ct (λw=>Tsh w/\PartsF P pc ss w) 101 [.c (.v (.slice P ss.length pc))] (one (.q (eY 64 (cM dC (ss.map Seg.l).flatten)))):=⟨own_sum512,by
 refine spec_S [.c (.v (.slice P ss.length pc))] 12 Tryz.func101 rfl (by rw [Tryz.ntmps101];rfl) (one_ok trivial) λB=>?_;refine s_auto TY_ok rfl ?_;refine s_reg λK hK=>l_opV (.q (eW 8 start512.list)) (eW_ok rfl) rfl rfl rfl (run_ldR (g:=0) (off:=0) (cs:=(Us start512.list).toArray) rfl rfl Tryz.underlying217 rfl (size_w8 _ rfl) rfl λ_ _ _ hv=>by rw [start512_list];exact hv.fact.1.range) (l_N hK rfl ?_);refine s_reg λK hK=>l_auto2 rfl (s_end (k_give 4 rfl (E':=[(0,.v (.slice P ss.length pc)),(2,.a 2 0),(3,.a 3 0)]) ⟨rfl,rfl,rfl,trivial⟩ λgb=>k_give 3 rfl (E':=[(4,.v (atG gb)),(0,.v (.slice P ss.length pc)),(2,.a 2 0)]) ⟨rfl,rfl,rfl,trivial⟩ λgh=>hK _ ?_));refine s_reg λK hK=>l_op (.v (.slice (some ⟨gb,0,none⟩) 128 128)) trivial rfl rfl rfl (runO_allP rfl Tryz.underlying228 size_u8 rfl) (l_autoS TY_ok rfl (l_op (.v (k512.take gh gb)) trivial rfl rfl rfl (run_makeF (vals:=[atG gh,atG gb]) rfl rfl λ_=>rfl) ?_));refine l_callA (own:=k512.R gh gb start512 (aA 128 0)) (R':=[]) [.slice (some ⟨gb,0,none⟩) 128 128,.slice P ss.length pc,k512.take gh gb] rfl rfl rfl own_fill rfl rfl (λ_ _=>rfl) (fill_S k512_ok start512_ob bK hn) (λw h _=>⟨h.1.steps,h.2⟩) λb'=>?_;have hD:((fD dC 128 start512 ((ss.map Seg.l).flatten++dW 128 ((ss.map Seg.l).flatten.length%128) (8*(ss.map Seg.l).flatten.length))).list.map (iD dC)).flatten=cM dC (ss.map Seg.l).flatten:=rfl;have hO:OB 64 (fD dC 128 start512 ((ss.map Seg.l).flatten++dW 128 ((ss.map Seg.l).flatten.length%128) (8*(ss.map Seg.l).flatten.length))):=ob_runw (s:=dC) _ _ _ (aH _) start512_ob;refine l_R (k512.R gh gb (fD dC 128 start512 ((ss.map Seg.l).flatten++dW 128 ((ss.map Seg.l).flatten.length%128) (8*(ss.map Seg.l).flatten.length))) b'.1) rfl (l_N hK rfl ?_);generalize fD dC 128 start512 ((ss.map Seg.l).flatten++dW 128 ((ss.map Seg.l).flatten.length%128) (8*(ss.map Seg.l).flatten.length))=o at *;refine s_freeO 0 rfl (s_freeO 0 rfl ?_);refine s_reg λK hK=>l_ldO TY_ok rfl rfl rfl rfl rfl rfl (λ_ _ _ hv=>hv.fact.2.1) (l_X (lay512_C hO) (λ_=>rfl) rfl λ_=>l_N hK rfl (s_ret ?_));rw [hD]
 exact k_ret TY_ok () rfl (by decide) rfl rfl rfl (λ_ _ _=>trivial) λ_ _=>trivial⟩
theorem sum512_f(A:Option Addr)(ls:List (List UInt8))(pc:Nat)(w:World)(hT:Tsh w)(hA:Parts w w.heap.size A ls)(hpc:ls.length<=pc)(hpm:pc<=9223372036854775807) :
  Calls Tryz.prog 101 #[.slice A ls.length pc] w λe w'=>e = .returned (.agg (By (cM dC ls.flatten)).toArray)/\Below w.heap.size w w':=by
 obtain⟨ss,rfl,h⟩:=segs_of ⟨hpc,hpm⟩ hA;rw [List.length_map] at *;exact(sum512_C (by omega)).row ⟨hT,h⟩
end Go.Proofs.YtlhlkofpjhpaoaaGreatDoor
namespace Nums
theorem oX:bU 1224481:=dA (k:=1107) (by decide) (by decide +kernel) (by decide +kernel)
theorem pP:bU 531581:=dA (k:=730) (by decide) (by decide +kernel) (by decide +kernel)
theorem tN:bU 41:=dA (k:=7) (by decide) (by decide) (by decide +kernel)
theorem rB:bU 2851:=dA (k:=54) (by decide) (by decide) (by decide +kernel)
theorem sM:bU 269:=dA (k:=17) (by decide) (by decide) (by decide +kernel)
theorem uY:bU 7:=dA (k:=3) (by decide) (by decide) (by decide +kernel)
theorem tO:bU 11:=dA (k:=4) (by decide) (by decide) (by decide +kernel)
theorem tM:bU 1257559732178653:=fV (q1:=1224481) (q2:=531581) (a:=2) (k:=51) oX pP (by decide +kernel)
theorem tL:bU 4434155615661930479:=fV (q1:=1257559732178653) (q2:=41) (a:=3) (k:=62) tM tN (by decide +kernel)
theorem tK:bU 172054593956031949258510691:=fV (q1:=4434155615661930479) (q2:=2851) (a:=2) (k:=88) tL rB (by decide +kernel)
theorem tJ:bU 19757330305831588566944191468367130476339:=fV (q1:=172054593956031949258510691) (q2:=269) (a:=2) (k:=134) tK sM (by decide +kernel)
theorem tI:bU 276602624281642239937218680557139826668747:=fV (q1:=19757330305831588566944191468367130476339) (q2:=7) (a:=2) (k:=138) tJ uY (by decide +kernel)
theorem rV:bU LL:=fV (q1:=276602624281642239937218680557139826668747) (q2:=11) (a:=2) (k:=253) tI tO (by decide +kernel)
theorem vJ:base≠Ed.zero:=λh=>by
 have h1:=congrArg Ed.Pt.y h;have h2:(fof bY:F).val=(1:F).val:=congrArg Fin.val h1;rw [val_one cX,jS] at h2
 revert h2
 decide
theorem u6(n:Nat):Ed.mul dd n base=Ed.zero↔LL∣n:=by
 constructor
 ·intro h
  by_cases hd:LL∣n
  ·exact hd
  ·exfalso
   have hf:=rC rV hd;obtain⟨e,he⟩:∃e,LL-1=e+1:=⟨LL-2,by decide⟩;rw [he,cG] at hf;generalize n^e=c at hf
   have h1:n*c=LL*(c*n/LL)+1:=by
    have:=Nat.div_add_mod (c*n) LL;rw [hf] at this;rw [c8 n c];exact this.symm
   exact vJ (Ed.uQ good fO h order h1)
 ·rintro⟨c,rfl⟩
  rw [Ed.lP good fO,order,Ed.mul_zero good]
def mD(x:Nat):Nat:=x%28948022309329048855892746252171976963317496166410141009864396001978282409984/8*8+28948022309329048855892746252171976963317496166410141009864396001978282409984
theorem uL(x:Nat):¬LL∣mD x:=by
 rintro⟨c,hc⟩
 obtain⟨y,hy⟩:∃y,y=x%28948022309329048855892746252171976963317496166410141009864396001978282409984:=⟨_,rfl⟩
 have hy2:y<28948022309329048855892746252171976963317496166410141009864396001978282409984:=by rw [hy];exact cI _ (by decide)
 have h0:mD x=y/8*8+28948022309329048855892746252171976963317496166410141009864396001978282409984:=by rw [hy];rfl
 rw [h0] at hc
 have h8:LL*c%8=0:=by rw [<-hc];omega
 have h1:LL*c<LL*8:=by
  rw [<-hc];refine bS (m:=57896044618658097711785492504343953926634992332820282019728792003956564819968) ?_ (by decide)
  omega
 have h2:0<LL*c:=by rw [<-hc];omega
 have hc8:c<8:=Nat.lt_of_mul_lt_mul_left h1;clear hc h0 hy hy2 h1
 have h5:LL*c%8=5*c%8:=by rw [l5,show LL%8=5 from by decide,l5 5 c,show 5%8=5 from rfl]
 rw [h5] at h8
 have hcz:c=0:=by omega
 rw [hcz,lJ] at h2;exact absurd h2 (by decide)
theorem qO(x:Nat):Ed.mul dd 8 (Ed.mul dd (mD x) base)≠Ed.zero:=by
 intro h
 rw [Ed.pF good fO,u6] at h
 rcases rV.dvd_mul h with h1|h1
 ·exact absurd (Nat.le_of_dvd (by decide) h1) (by decide)
 ·exact uL x h1
theorem q8(r k a:Nat):Ed.add dd (Ed.mul dd ((r+k*a)%LL) base) (Ed.neg (Ed.mul dd k (Ed.mul dd a base)))=Ed.mul dd r base:=by
 have hr:=Ed.fB good fO r;have hk:=Ed.fB good fO (k*a);rw [<-Ed.mul_mod good fO order,Ed.mul_add good fO,Ed.pF good fO,Ed.add_assoc good hr hk (Ed.kL hk),Ed.add_neg good hk,Ed.add_zero good]
end Nums
namespace Nums
def lE(l:List UInt8):List UInt8:=l.set 0 (bD ((l[0]!).toNat/8*8))
def oU(l:List UInt8):List UInt8:=l.set 31 (bD ((l[31]!).toNat%64+64))
def lH(l:List UInt8):List UInt8:=oU (lE l)
theorem mP(l:List UInt8):(lE l).length=l.length:=bR
theorem qC(l:List UInt8):(oU l).length=l.length:=bR
theorem rF(l:List UInt8):(lH l).length=l.length:=by rw [lH,qC,mP]
theorem ofNat_toNat{n:Nat}(h:n<256):(bD n).toNat=n:=by
 rw [UInt8.toNat_ofNat']
 omega
theorem sR(x b t:Nat)(h:x=b+28948022309329048855892746252171976963317496166410141009864396001978282409984*t)(hb:b<28948022309329048855892746252171976963317496166410141009864396001978282409984):mD x=b/8*8+28948022309329048855892746252171976963317496166410141009864396001978282409984:=by
 unfold mD
 rw [h,mF,aW hb]
theorem vE:∀{l:List UInt8},0<l.length->le (lE l)=le l/8*8
 | [],h=>absurd h (by simp)
 | x::l,_=>by
  have hx:=x.toNat_lt;have e:lE (x::l)=bD (x.toNat/8*8)::l:=rfl;rw [e]
  show(bD (x.toNat/8*8)).toNat+256*le l=(x.toNat+256*le l)/8*8
  rw [ofNat_toNat (by omega)]
  omega
theorem vD{l:List UInt8}(h:l.length=32):∃b t,b<28948022309329048855892746252171976963317496166410141009864396001978282409984/\le l=b+28948022309329048855892746252171976963317496166410141009864396001978282409984*t/\le (oU l)=b+28948022309329048855892746252171976963317496166410141009864396001978282409984/\b%8=le l%8:=by
 have hs:l=l.take 31++[l[31]!]:=by
  have h1:l.drop 31=[l[31]!]:=by
   rw [gV (by omega),List.drop_eq_nil_of_le (by omega),getElem!_pos l 31 (by omega)]
  rw [<-h1,List.take_append_drop]
 have hlen:(l.take 31).length=31:=by rw [aY];omega
 have ht:oU l=l.take 31++[bD ((l[31]!).toNat%64+64)]:=by
  unfold oU
  conv=>lhs;arg 1;rw [hs]
  rw [List.set_append_right _ _ (by rw [hlen];exact aH _),hlen]
  rfl
 have hx:=(l[31]!).toNat_lt;have hlo:=nL (l.take 31);rw [hlen] at hlo
 have e1:le l=le (l.take 31)+256^31*(l[31]!).toNat:=by
  conv=>lhs;rw [hs]
  rw [gD,hlen]
  rfl
 have e2:le (oU l)=le (l.take 31)+256^31*((l[31]!).toNat%64+64):=by
  rw [ht,gD,hlen]
  show _+256^31*((bD ((l[31]!).toNat%64+64)).toNat+256*0)=_
  rw [ofNat_toNat (by omega)]
 generalize le (l.take 31)=u at *;generalize (l[31]!).toNat=y at *;refine⟨u+256^31*(y%64),y/64,?_,?_,?_,?_⟩
 ·omega
 ·rw [e1]
  omega
 ·rw [e2]
  omega
 ·rw [e1]
  omega
theorem sO{l:List UInt8}(h:l.length=32):le (lH l)=mD (le l):=by
 have h1:=vE (l:=l) (by omega);obtain⟨b,t,hb,e1,e2,e3⟩:=vD (l:=lE l) (by rw [mP,h]);rw [h1] at e1 e3
 have h8:b%8=0:=by rw [e3];omega
 obtain⟨r,hr,hr8⟩:∃r,le l=le l/8*8+r/\r<8:=⟨le l%8,by omega,by omega⟩;rw [lH,e2,sR (le l) (b+r) t (by omega) (by omega)]
 omega
def sgD(seed:List UInt8):List UInt8:=cM dC seed
def jL(seed:List UInt8):List UInt8:=lH ((sgD seed).take 32)
def oE(seed:List UInt8):List UInt8:=(sgD seed).drop 32
def eQ(seed:List UInt8):List UInt8:=dX (Ed.mul dd (le (jL seed)) base)
def sgR(seed m:List UInt8):Nat:=le (cM dC (oE seed++m))%LL
def m9(seed m:List UInt8):List UInt8:=dX (Ed.mul dd (sgR seed m) base)
def sgK(R key m:List UInt8):Nat:=le (cM dC (R++(key++m)))%LL
def sgS(seed m:List UInt8):Nat:=(sgR seed m+sgK (m9 seed m) (eQ seed) m*le (jL seed))%LL
def jB(seed m:List UInt8):List UInt8:=m9 seed m++bytes 32 (sgS seed m)
def Right(key sig m:List UInt8):Prop:=∃A,Ed.On dd A/\dX A=key/\Ed.mul dd 8 A≠Ed.zero/\le (sig.drop 32)<LL /\
  dX (Ed.add dd (Ed.mul dd (le (sig.drop 32)) base) (Ed.neg (Ed.mul dd (sgK (sig.take 32) key m) A)))=sig.take 32
theorem lZ(m:List UInt8):(cM dC m).length=64:=by
 unfold cM
 have h:∀l:List Nat,((l.map (iD dC)).flatten).length=8*l.length:=by
  intro l
  induction l with
  | nil=>rfl
  | cons x l ih =>
   rw [List.map_cons,List.flatten_cons,aC,ih,List.length_cons]
   have:(iD dC x).length=8:=by
    unfold iD
    rw [List.length_reverse,b9]
    rfl
   omega
 rw [h]
 rfl
theorem nZ(seed:List UInt8):(sgD seed).length=64:=lZ _
theorem qD(seed:List UInt8):(jL seed).length=32:=by rw [jL,rF,aY,nZ];rfl
theorem sJ(seed:List UInt8):(oE seed).length=32:=by rw [oE,eK,nZ]
theorem nA(seed:List UInt8):(eQ seed).length=32:=jF _
theorem jC(seed m:List UInt8):(m9 seed m).length=32:=jF _
theorem pC(seed m:List UInt8):(jB seed m).length=64:=by rw [jB,aC,jC,b9]
theorem q9(seed m:List UInt8):(jB seed m).take 32=m9 seed m:=by rw [jB,fR (by rw [jC];exact aH _),bH (by rw [jC];exact aH _)]
theorem rA(seed m:List UInt8):(jB seed m).drop 32=bytes 32 (sgS seed m):=by
 rw [jB,List.drop_append,jC,eO (by rw [jC];exact aH _)]
 rfl
theorem gY(n:Nat):n%LL<LL:=cI _ (by decide)
theorem tE(seed m:List UInt8):sgS seed m<LL:=gY _
theorem lQ{n:Nat}(h:n<LL):le (bytes 32 n)=n:=by
 rw [iC,aW (Nat.lt_trans h (by decide))]
theorem tZ(seed m:List UInt8):le ((jB seed m).drop 32)=sgS seed m:=by rw [rA,lQ (tE _ _)]
theorem sP(seed:List UInt8):Ed.mul dd 8 (Ed.mul dd (le (jL seed)) base)≠Ed.zero:=by
 have h:le (jL seed)=mD (le ((sgD seed).take 32)):=sO (by rw [aY,nZ];rfl);rw [h];exact qO _
theorem sK(seed m:List UInt8):Right (eQ seed) (jB seed m) m:=by
 refine⟨_,Ed.fB good fO _,rfl,sP seed,?_,?_⟩
 ·rw [tZ]
  exact tE _ _
 ·rw [tZ,q9,sgS,q8]
  rfl
end Nums
namespace Go.Proofs.YtlhlkofpjhpaoaaGreatDoor
open Go.RowKit Go.IntWalk Nums
theorem size_Sn(n:Nat):(Tryz.prog.info? 145).map (·.size)=some (Us (ws n)).toArray.size:=by
 rw [aV,Us_len,jX]
 kernel_rfl
theorem pt_none{w:World}{P:Option Addr}{ls:List (List UInt8)}(h:PT w P ls)(hP:P=none):ls=[]:=by
 cases ls with
 | nil=>rfl
 | cons l ls =>
  obtain⟨ad,e,_⟩:=h (by simp);rw [hP] at e
  cases e
theorem number_f{v1 v2:Value}{l1 l2:List UInt8}{P:Option Addr}{ls:List (List UInt8)}{pc:Nat}(w:World)(hT:Tsh w)(h1:SB w v1 l1)(h2:SB w v2 l2)(hP:PT w P ls)(h0:P=none->pc=0)(hls:ls.length<=1000000) :
  Calls Tryz.prog 96 #[v1,v2,.slice P ls.length pc] w λe w'=>e = .returned (.agg (Us (ws (le (cM dC (l1++(l2++ls.flatten)))%LL))).toArray)/\Below w.heap.size w w':=by
 refine calls_F (vs:=[v1,v2,.slice P ls.length pc]) 16 Tryz.func96 rfl (by rw [Tryz.ntmps96];rfl) ?_;refine c_seq λK hK=>?_;refine c_lit ?_;refine l_allocA z4 rfl rfl rfl rfl (by kernel_rfl) λW1 g1 hw1 hg1 b1=>?_;refine l_nil ?_;refine hK _ _ ?_;clear hK K;replace h1:=h1.later hw1;replace h2:=h2.later hw1;replace hP:=hP.later hw1;replace hT:=hT.below hw1;have hU:Up w W1:=hw1
 have q1:w.heap.size<=g1:=by rw [hg1];exact aH _
 clear hw1;refine c_seq λK hK=>?_;refine c_gF 4 ?_;refine g_op rfl ?_;refine f_move v1 rfl rfl rfl rfl rfl ?_;refine g_go ?_;refine g_op rfl ?_;refine f_move v2 rfl rfl rfl rfl rfl ?_;refine g_go ?_;refine g_slices [v1,v2] [l1,l2] W1.heap.size rfl rfl rfl rfl rfl rfl rfl (by decide) (by decide) (λ_ h=>h.size) (λ_ h _=>⟨h1.later h,h2.later h,trivial⟩) λg2 _ _ _=>?_;refine g_op rfl ?_;refine f_move (.slice P ls.length pc) rfl rfl rfl rfl rfl ?_;refine g_go ?_;refine g_end λW2 hw2 hF=>?_;have n2:=hF 2 _ rfl;clear hF;refine l_appS (vs:=[v1,v2]) (ls:=ls) (base:=W1.heap.size) rfl rfl rfl rfl rfl rfl (n2.gs (n:=2) rfl (by decide)) hw2 hP (λe=>⟨h0 e,pt_none hP e⟩) (by simp;omega) hw2.size λA' c' W3 us hus hgs hgr=>?_;have hU3:Up W1 W3:=GS.grew (n2.gs (n:=2) rfl (by decide)) hw2 hgr hw2.size;have hall:All2 W3 ([v1,v2]++us) ([l1,l2]++ls):=All2.app ⟨h1.later hU3,h2.later hU3,trivial⟩ (All2.later hU3 hus);obtain⟨hPT,hc1,hc2⟩:=hgs.pt hall;rw [hall.len];refine l_assign (.slice A' ([l1,l2]++ls).length c') rfl rfl rfl rfl rfl ?_;refine l_nil ?_;refine hK _ _ ?_;clear hK K;replace b1:=b1.later hU3;replace hT:=hT.below hU3;replace hU:=hU.step hU3;refine c_seq λK hK=>?_;refine c_tF 3 ?_;refine f_move (.slice A' ([l1,l2]++ls).length c') rfl rfl rfl rfl rfl ?_;refine f_call #[.slice A' ([l1,l2]++ls).length c'] (.agg (By (cM dC ([l1,l2]++ls).flatten)).toArray) rfl rfl rfl own_sum512 (λw1 h=>sum512_f A' ([l1,l2]++ls) c' w1 (hT.below h) (hPT.later h) hc1 hc2) rfl rfl ?_;refine f_call #[.agg (By (cM dC ([l1,l2]++ls).flatten)).toArray] (.agg (Us (ws (le (cM dC ([l1,l2]++ls).flatten)%LL))).toArray) rfl rfl rfl own_wide (λw1 _=>wide_f (lZ _) w1) rfl rfl ?_;refine f_set g1 _ (Us (ws (le (cM dC ([l1,l2]++ls).flatten)%LL))).toArray rfl rfl rfl rfl rfl b1 (size_Sn _) (by rw [show(Us (ws _)).toArray.size=4 by rw [aV,Us_len,jX]];rfl) (λv hv=>Us_one _ v (by simpa using hv)) λw4 hw4 c4=>?_;refine l_nil ?_;refine hK _ _ ?_;clear hK K;refine c_ret (k_ret_row g1 _ rfl rfl c4 Tryz.underlying145 rfl (size_Sn _) ⟨?_,up_row (hU.step hw4) q1 _⟩)
 rfl
end Go.Proofs.YtlhlkofpjhpaoaaGreatDoor
namespace Go.Proofs.YtlhlkofpjhpaoaaGreatDoor
open Go.RowKit Go.IntWalk
theorem size_sum(cs:Array Value)(h:cs.size=2):(Tryz.prog.info? 269).map (·.size)=some cs.size:=by
 rw [h]
 kernel_rfl
theorem low_any(hi lo:Nat)(hl:lo<18446744073709551616)(w:World) :
  Calls Tryz.prog 173 #[.agg (Us [hi,lo]).toArray] w λe w'=>e = .returned (.int .u64 ((lo%2251799813685248:Nat):Int))/\Below w.heap.size w w':=by
 have e0:(Us [hi,lo]).toArray = #[.int .u64 (hi:Int),.int .u64 (lo:Int)]:=rfl;rw [e0]
 go_enter Tryz.func173,Tryz.ntmps173
 go_wp2
 rw [maskW lo hl]
 go_ret
 exact⟨rfl,(Below.refl _ _).alloc (aH _) _⟩
theorem high_any(hi lo:Nat)(hh:hi<2251799813685248)(hl:lo<18446744073709551616)(w:World) :
  Calls Tryz.prog 174 #[.agg (Us [hi,lo]).toArray] w λe w'=>e = .returned (.int .u64 ((hi*8192+lo/2251799813685248:Nat):Int))/\Below w.heap.size w w':=by
 have e0:(Us [hi,lo]).toArray = #[.int .u64 (hi:Int),.int .u64 (lo:Int)]:=rfl;rw [e0]
 go_enter Tryz.func174,Tryz.ntmps174
 go_wp2
 have e1:(hi:Int)*8192=((hi*8192:Nat):Int):=by omega
 rw [e1,div51,orW 13 (hi*8192) (lo/2251799813685248) (by omega) (by omega) (by omega) (by omega)]
 go_ret
 exact⟨rfl,(Below.refl _ _).alloc (aH _) _⟩
theorem plus_any(hi lo a b:Nat)(hh:hi<18446744073709551616)(hl:lo<18446744073709551616)(ha:a<18446744073709551616)(hb:b<18446744073709551616)(w:World) :
  Calls Tryz.prog 172 #[.agg (Us [hi,lo]).toArray,.int .u64 a,.int .u64 b] w λe w' =>
   e = .returned (.agg (Us [(hi+a*b/18446744073709551616+(lo+a*b%18446744073709551616)/18446744073709551616)%18446744073709551616,(lo+a*b%18446744073709551616)%18446744073709551616]).toArray)/\Below w.heap.size w w':=by
 have e0:(Us [hi,lo]).toArray = #[.int .u64 (hi:Int),.int .u64 (lo:Int)]:=rfl;rw [e0];have HM:=λw1=>dL (mul64_any a b ha hb w1);generalize a*b/18446744073709551616=mh at *;generalize hml:a*b%18446744073709551616=ml at *
 have hml:ml<18446744073709551616:=by omega
 have hc1:((lo:Int)+(ml:Int))/18446744073709551616<=1:=by omega
 have hc0:(0:Int)<=((lo:Int)+(ml:Int))/18446744073709551616:=by omega
 go_enter Tryz.func172,Tryz.ntmps172
 go_wp2_with (fail)
 refine(HM _).out.mono ?_
 rintro e w1 ⟨rfl,rfl⟩
 go_wp2_with (first|simp only [add64_int0 lo ml (by omega) (by omega)]|simp only [add64_int hi mh _ (by omega) (by omega) hc0 hc1])
 refine bodyPost_ret (results_cell_row rfl _ _ (w.heap.size+1) 269 _ (0,0) _ rfl (heap_alloc2_new w _ _) Tryz.underlying269 rfl (size_sum _ rfl)) rfl ⟨?_,((Below.refl _ _).alloc (aH _) _).alloc (by simp) _⟩
 rfl
end Go.Proofs.YtlhlkofpjhpaoaaGreatDoor
namespace Nums
def lv:List Nat->Nat
  | []=>0
  | d::ds=>d+2251799813685248*lv ds
theorem lv5(a0 a1 a2 a3 a4:Nat):lv [a0,a1,a2,a3,a4]=a0+2251799813685248*(a1+2251799813685248*(a2+2251799813685248*(a3+2251799813685248*a4))):=by
 simp only [lv,lJ,dT]
structure EB(l:List Nat)(x:F):Prop where
  len:l.length=5
  bnd:∀y∈l,y<2251799813947392
  val:fof (lv l)=x
theorem nV{l:List Nat}(h:l.length=5):∃a0 a1 a2 a3 a4,l=[a0,a1,a2,a3,a4]:=by
 match l,h with
 | [a0,a1,a2,a3,a4],_=>exact⟨a0,a1,a2,a3,a4,rfl⟩
theorem EB.nV{l:List Nat}{x:F}(h:EB l x):∃a0 a1 a2 a3 a4,l=[a0,a1,a2,a3,a4]/\a0<2251799813947392/\a1<2251799813947392/\a2<2251799813947392/\a3<2251799813947392/\a4<2251799813947392/\fof (lv [a0,a1,a2,a3,a4])=x:=by
 obtain⟨a0,a1,a2,a3,a4,rfl⟩:=Nums.nV h.len;have hb:=h.bnd;exact⟨a0,a1,a2,a3,a4,rfl,hb _ (by simp),hb _ (by simp),hb _ (by simp),hb _ (by simp),hb _ (by simp),h.val⟩
theorem EB.mk5{a0 a1 a2 a3 a4:Nat}{x:F}(h0:a0<2251799813947392)(h1:a1<2251799813947392)(h2:a2<2251799813947392)(h3:a3<2251799813947392)(h4:a4<2251799813947392)(h:fof (lv [a0,a1,a2,a3,a4])=x) :
  EB [a0,a1,a2,a3,a4] x:=by
 refine⟨rfl,?_,h⟩
 intro y hy
 simp only [aJ,iO,or_false] at hy
 rcases hy with rfl|rfl|rfl|rfl|rfl<;>assumption
theorem u5:p=57896044618658097711785492504343953926634992332820282019728792003956564819949:=by decide
def crd(a0 a1 a2 a3 a4:Nat):List Nat :=
  [a0%2251799813685248+19*(a4/2251799813685248),a1%2251799813685248+a0/2251799813685248,a2%2251799813685248+a1/2251799813685248,a3%2251799813685248+a2/2251799813685248,a4%2251799813685248+a3/2251799813685248]
theorem uG(a k:Nat):fof (a+p*k)=fof a:=iK (by rw [mF])
theorem uJ(a0 a1 a2 a3 a4:Nat):fof (lv (crd a0 a1 a2 a3 a4))=fof (lv [a0,a1,a2,a3,a4]):=by
 have h:lv (crd a0 a1 a2 a3 a4)+p*(a4/2251799813685248)=lv [a0,a1,a2,a3,a4]:=by
  unfold crd
  rw [lv5,lv5,u5]
  omega
 rw [<-h,uG]
theorem rE{a0 a1 a2 a3 a4:Nat}(h0:a0<18446744073709551616)(h1:a1<18446744073709551616)(h2:a2<18446744073709551616)(h3:a3<18446744073709551616)(h4:a4<18446744073709551616) :
  EB (crd a0 a1 a2 a3 a4) (fof (lv [a0,a1,a2,a3,a4])) :=
 EB.mk5 (by omega) (by omega) (by omega) (by omega) (by omega) (uJ a0 a1 a2 a3 a4)
theorem wG(a0 a1 a2 a3 a4 b0 b1 b2 b3 b4:Nat):lv [a0+b0,a1+b1,a2+b2,a3+b3,a4+b4]=lv [a0,a1,a2,a3,a4]+lv [b0,b1,b2,b3,b4]:=by
 rw [lv5,lv5,lv5]
 omega
theorem vV{a0 a1 a2 a3 a4 b0 b1 b2 b3 b4:Nat}(h0:b0<2251799813947392)(h1:b1<2251799813947392)(h2:b2<2251799813947392)(h3:b3<2251799813947392)(h4:b4<2251799813947392) :
  fof (lv [a0+(4503599627370458-b0),a1+(4503599627370494-b1),a2+(4503599627370494-b2),a3+(4503599627370494-b3),a4+(4503599627370494-b4)])=fof (lv [a0,a1,a2,a3,a4])-fof (lv [b0,b1,b2,b3,b4]):=by
 have h:lv [a0+(4503599627370458-b0),a1+(4503599627370494-b1),a2+(4503599627370494-b2),a3+(4503599627370494-b3),a4+(4503599627370494-b4)]+lv [b0,b1,b2,b3,b4]=lv [a0,a1,a2,a3,a4]+p*2:=by
  rw [lv5,lv5,lv5,u5]
  omega
 have h2:fof (lv [a0,a1,a2,a3,a4])=fof (lv [a0+(4503599627370458-b0),a1+(4503599627370494-b1),a2+(4503599627370494-b2),a3+(4503599627370494-b3),a4+(4503599627370494-b4)])+fof (lv [b0,b1,b2,b3,b4]):=by
  rw [<-iV,h,uG]
 rw [h2];generalize fof (lv [a0+(4503599627370458-b0),a1+(4503599627370494-b1),a2+(4503599627370494-b2),a3+(4503599627370494-b3),a4+(4503599627370494-b4)])=u;generalize fof (lv [b0,b1,b2,b3,b4])=v
 grind only
theorem uR(c0 c1 c2 c3 c4:Nat):fof (lv [19*c4,c0,c1,c2,c3])=fof 2251799813685248*fof (lv [c0,c1,c2,c3,c4]):=by
 have h:lv [19*c4,c0,c1,c2,c3]+p*c4=2251799813685248*lv [c0,c1,c2,c3,c4]:=by
  rw [lv5,lv5,u5]
  omega
 rw [<-dM,<-h,uG]
theorem vC(s0 s1 s2 s3 s4 v c0 c1 c2 c3 c4:Nat):lv [s0+v*c0,s1+v*c1,s2+v*c2,s3+v*c3,s4+v*c4]=lv [s0,s1,s2,s3,s4]+v*lv [c0,c1,c2,c3,c4]:=by
 rw [lv5,lv5,lv5]
 grind only
def up1(l:List Nat)(u:Nat):Nat->Nat
  | 0=>u
  | k+1=>(l[k]! + up1 l u k)/2251799813685248
def up2(l:List Nat)(u:Nat):Nat->Nat
  | 0=>u
  | k+1=>(up2 l u k+l[k]!)/2251799813685248
def whs(l:List Nat)(u k:Nat):List Nat:=(mG 5).map λj=>if j<k then(up2 l u j+l[j]!)%2251799813685248 else l[j]!
def whole(l:List Nat):List Nat:=whs l (up1 l 19 5*19) 5
theorem gB{l:List Nat}{x:F}(h:EB l x):(whole l).length=5/\(∀y∈whole l,y<2251799813685248)/\lv (whole l)=x.val:=by
 refine⟨by simp [whole,whs],?_,?_⟩
 ·intro y hy
  obtain⟨j,hj,rfl⟩:=bO.1 hy;rw [if_pos (by simpa using hj)];exact cI _ (by decide)
 ·obtain⟨a0,a1,a2,a3,a4,rfl,h0,h1,h2,h3,h4,hv⟩:=h.nV
  have hw:whole [a0,a1,a2,a3,a4]=[(up2 [a0,a1,a2,a3,a4] (up1 [a0,a1,a2,a3,a4] 19 5*19) 0+a0)%2251799813685248,(up2 [a0,a1,a2,a3,a4] (up1 [a0,a1,a2,a3,a4] 19 5*19) 1+a1)%2251799813685248,(up2 [a0,a1,a2,a3,a4] (up1 [a0,a1,a2,a3,a4] 19 5*19) 2+a2)%2251799813685248,(up2 [a0,a1,a2,a3,a4] (up1 [a0,a1,a2,a3,a4] 19 5*19) 3+a3)%2251799813685248,(up2 [a0,a1,a2,a3,a4] (up1 [a0,a1,a2,a3,a4] 19 5*19) 4+a4)%2251799813685248]:=rfl;have hu:up1 [a0,a1,a2,a3,a4] 19 5=(a4+(a3+(a2+(a1+(a0+19)/2251799813685248)/2251799813685248)/2251799813685248)/2251799813685248)/2251799813685248:=rfl;rw [<-hv,jS,hw];generalize hq:up1 [a0,a1,a2,a3,a4] 19 5=q at *;have g0:up2 [a0,a1,a2,a3,a4] (q*19) 0=q*19:=rfl;have g1:up2 [a0,a1,a2,a3,a4] (q*19) 1=(up2 [a0,a1,a2,a3,a4] (q*19) 0+a0)/2251799813685248:=rfl;have g2:up2 [a0,a1,a2,a3,a4] (q*19) 2=(up2 [a0,a1,a2,a3,a4] (q*19) 1+a1)/2251799813685248:=rfl;have g3:up2 [a0,a1,a2,a3,a4] (q*19) 3=(up2 [a0,a1,a2,a3,a4] (q*19) 2+a2)/2251799813685248:=rfl;have g4:up2 [a0,a1,a2,a3,a4] (q*19) 4=(up2 [a0,a1,a2,a3,a4] (q*19) 3+a3)/2251799813685248:=rfl;generalize up2 [a0,a1,a2,a3,a4] (q*19) 0=e0 at *;generalize up2 [a0,a1,a2,a3,a4] (q*19) 1=e1 at *;generalize up2 [a0,a1,a2,a3,a4] (q*19) 2=e2 at *;generalize up2 [a0,a1,a2,a3,a4] (q*19) 3=e3 at *;generalize up2 [a0,a1,a2,a3,a4] (q*19) 4=e4 at *;have hL:=lv5 a0 a1 a2 a3 a4;generalize lv [a0,a1,a2,a3,a4]=L at *;rw [lv5];have hp:=u5;generalize p=P at *
  have ha:q<2:=by omega
  have hb:q=0->L<P:=by omega
  have hc:q=1->P<=L:=by omega
  have hd:L<2*P:=by omega
  rcases(show q=0\/q=1 by omega) with rfl|rfl
  ·rw [aW (hb rfl)]
   clear hu hc hd hv;have:=hb rfl
   omega
  ·have hge:=hc rfl
   have hm:L%P=L-P:=by rw [Nat.mod_eq_sub_mod hge,aW (by omega)]
   rw [hm];clear hu hb hv hm
   omega
end Nums
namespace Go.Proofs.YtlhlkofpjhpaoaaGreatDoor
open Go.RowKit Go.IntWalk Nums
theorem size_el(cs:Array Value)(h:cs.size=5):(Tryz.prog.info? 193).map (·.size)=some cs.size:=by
 rw [h]
 kernel_rfl
def z5:Array Value:=(Us [0,0,0,0,0]).toArray
theorem len_us{l:List Nat}(h:l.length=5):(Us l).toArray.size=5:=by rw [aV,Us_len,h]
theorem crd_cell0(a c:Nat)(ha:a<18446744073709551616)(hc:c<18446744073709551616) :
  IntKind.u64.wrap (bits .and .u64 (a:Int) 2251799813685247+19*((c:Int)/2251799813685248))=((a%2251799813685248+19*(c/2251799813685248):Nat):Int):=by
 rw [maskW a ha,a8]
 omega
theorem crd_cell(a c:Nat)(ha:a<18446744073709551616)(hc:c<18446744073709551616) :
  IntKind.u64.wrap (bits .and .u64 (a:Int) 2251799813685247+(c:Int)/2251799813685248)=((a%2251799813685248+c/2251799813685248:Nat):Int):=by
 rw [maskW a ha,a8]
 omega
theorem carried_f(a0 a1 a2 a3 a4:Nat)(h0:a0<18446744073709551616)(h1:a1<18446744073709551616)(h2:a2<18446744073709551616)(h3:a3<18446744073709551616)(h4:a4<18446744073709551616)(w:World) :
  Calls Tryz.prog 175 #[.agg (Us [a0,a1,a2,a3,a4]).toArray] w λe w'=>e = .returned (.agg (Us (crd a0 a1 a2 a3 a4)).toArray)/\Below w.heap.size w w':=by
 have e0:(Us [a0,a1,a2,a3,a4]).toArray = #[.int .u64 (a0:Int),.int .u64 (a1:Int),.int .u64 (a2:Int),.int .u64 (a3:Int),.int .u64 (a4:Int)]:=rfl;rw [e0]
 go_enter Tryz.func175,Tryz.ntmps175
 go_wp2
 rw [crd_cell0 a0 a4 h0 h4,crd_cell a1 a0 h1 h0,crd_cell a2 a1 h2 h1,crd_cell a3 a2 h3 h2,crd_cell a4 a3 h4 h3];refine bodyPost_ret (results_cell_row rfl _ _ (w.heap.size+1) 193 _ (0,0) _ rfl (blk3_1 w _ _ _ _) Tryz.underlying193 rfl (size_el _ rfl)) rfl ⟨rfl,?_⟩;exact(((Below.refl _ _).alloc (aH _) _).alloc (by simp) _).alloc (by simp;omega) _
def mx(f:Nat->Nat)(l:List Nat)(k:Nat):List Nat:=(mG 5).map λj=>if j<k then f j else l[j]!
theorem mx_len(f:Nat->Nat)(l:List Nat)(k:Nat):(mx f l k).length=5:=by simp [mx]
theorem mx_zero(f:Nat->Nat){l:List Nat}(h:l.length=5):mx f l 0=l:=by
 obtain⟨a0,a1,a2,a3,a4,rfl⟩:=nV h
 rfl
theorem mx_get(f:Nat->Nat)(l:List Nat){k:Nat}(h:k<5):(mx f l k)[k]! = l[k]!:=by
 rw [getElem!_pos _ k (by rw [mx_len];exact h)]
 simp [mx]
theorem mx_set(f:Nat->Nat)(l:List Nat){k:Nat}:(mx f l k).set k (f k)=mx f l (k+1):=by
 apply dG (by simp [mx])
 intro j h1 h2
 rw [List.getElem_set];simp only [mx,List.getElem_map,List.getElem_range]
 by_cases hjk:k=j
 ·subst hjk
  simp
 ·rw [if_neg hjk]
  by_cases hlt:j<k
  ·rw [if_pos hlt,if_pos (by omega)]
  ·rw [if_neg hlt,if_neg (by omega)]
theorem eb_get{l:List Nat}{x:F}(h:EB l x){k:Nat}(hk:k<5):l[k]! < 2251799813947392 :=
 h.bnd _ (by rw [getElem!_pos l k (by rw [h.len];exact hk)];exact List.getElem_mem _)
def twl:List Nat:=[4503599627370458,4503599627370494,4503599627370494,4503599627370494,4503599627370494]
theorem twl_get{k:Nat}(h:k<5):4503599627370458<=twl[k]! /\ twl[k]! <= 4503599627370494:=by
 have h5:k=0\/k=1\/k=2\/k=3\/k=4:=by omega
 rcases h5 with rfl|rfl|rfl|rfl|rfl<;>decide
structure Tw(w:World):Prop where
  cell:∀i,i<5->w.cell? ⟨3,i,none⟩=some (.int .u64 (twl[i]! : Nat))
  lt : 3 < w.heap.size
theorem Tw.below{w w':World} (h:Tw w)(hb:Below w.heap.size w w'):Tw w' :=
 ⟨λi hi=>(hb.cell (p:=⟨3,i,none⟩) h.lt).trans (h.cell i hi),bS h.lt hb.size⟩
theorem Tw.at{w:World}(h:Tw w){k:Nat}(hk:k<5):w.cell? ⟨3,k,none⟩=some (.int .u64 (twl[k]! : Nat)):=h.cell k hk
theorem small_f(v:Nat)(hv:v<18446744073709551616)(w:World) :
  Calls Tryz.prog 145 #[.int .u64 v] w λe w'=>∃r,EB r (fof v)/\e = .returned (.agg (Us r).toArray)/\Below w.heap.size w w':=by
 go_enter Tryz.func145,Tryz.ntmps145
 go_wp2
 rw [maskW v hv]
 have hE:EB [v%2251799813685248,v/2251799813685248,0,0,0] (fof v):=EB.mk5 (by omega) (by omega) (by omega) (by omega) (by omega) (by
  congr 1
  rw [lv5]
  omega)
 refine bodyPost_ret (results_cell_row rfl _ _ w.heap.size 193 _ (0,0) _ rfl (heap_alloc_new w _) Tryz.underlying193 rfl (size_el _ rfl)) rfl ⟨_,hE,rfl,?_⟩;exact(Below.refl _ _).alloc (aH _) _
theorem and248(m:Nat)(h:m<256):bits .and .u8 (m:Int) 248=((m/8*8:Nat):Int):=by
 have key:∀m:Nat,m<256->bits .and .u8 (m:Int) 248=((m/8*8:Nat):Int):=by decide +kernel
 exact key m h
theorem or64(m:Nat)(h:m<256):bits .or .u8 ((m%128:Nat):Int) 64=((m%64+64:Nat):Int):=by
 have key:∀m:Nat,m<256->bits .or .u8 ((m%128:Nat):Int) 64=((m%64+64:Nat):Int):=by decide +kernel
 exact key m h
theorem cop_set{d:List UInt8}(h:d.length=32){k:Nat}(hk:k<32)(x:UInt8):(cop z64 0 d).set k x=cop z64 0 (d.set k x):=by
 simp only [cop,h,bR,List.take_zero,gI];rw [List.set_append_left _ _ (by omega)]
theorem cop_get{d:List UInt8}(h:d.length=32){k:Nat}(hk:k<32):(cop z64 0 d)[k]! = d[k]!:=by
 simp only [cop,List.take_zero,gI];rw [getElem!_pos _ k (by rw [aC];omega),getElem!_pos _ k (by omega),List.getElem_append_left]
structure Ta(w:World):Prop where
  tw:Tw w
  sh:Tsh w
theorem Ta.below{w w':World}(h:Ta w)(hb:Below w.heap.size w w'):Ta w':=⟨h.tw.below hb,h.sh.below hb⟩
theorem mul_a(seed:List UInt8):dX (Ed.mul dd (le (jL seed)%LL) base)=eQ seed:=by
 unfold eQ
 generalize le (jL seed)=n;exact congrArg dX (Ed.mul_mod good fO order n).symm
theorem sgR_eq{seed m:List UInt8}:le (cM dC (oE seed++([]++m)))%LL=sgR seed m:=rfl
theorem sgR_lt(seed m:List UInt8):sgR seed m<LL:=gY _
theorem sgK_eq{R key m:List UInt8}:le (cM dC (R++(key++m)))%LL=sgK R key m:=rfl
theorem sgK_lt(R key m:List UInt8):sgK R key m<LL:=gY _
theorem sgS_eq{seed m:List UInt8}:(sgR seed m+sgK (m9 seed m) (eQ seed) m*(le (jL seed)%LL)%LL)%LL=sgS seed m:=by
 rw [sgS,Nat.mul_mod_mod,Nat.add_mod_mod]
theorem sig_cop{seed m:List UInt8}:cop (cop z64 0 (m9 seed m)) 32 (Nums.bytes 32 (sgS seed m))=jB seed m:=by
 have h1:=jC seed m;have h2:=b9 32 (sgS seed m)
 have e:cop z64 0 (m9 seed m)=m9 seed m++aA 32 0:=by
  rw [cop,h1]
  simp [z64]
 rw [e,cop,h2,fR (by rw [h1];exact aH _),bH (by rw [h1];exact aH _),eO (by rw [aC,h1,bK];exact aH _),List.append_nil]
 rfl
open Classical in
noncomputable def rightB(key sig m:List UInt8):Bool:=decide (Right key sig m)
open Classical in
theorem rightB_no{key sig m:List UInt8}(h:¬ ∃A,Ed.On dd A/\dX A=key):rightB key sig m=false:=decide_eq_false λ⟨A,h1,h2,_⟩=>h ⟨A,h1,h2⟩
open Classical in
theorem rightB_small{A:Ed.Pt p}{sig m:List UInt8}(hA:Ed.On dd A)(h:Ed.mul dd 8 A=Ed.zero):rightB (dX A) sig m=false:=decide_eq_false λ⟨B,h1,h2,h3,_⟩=>h3 (by rw [mT h1 hA h2];exact h)
open Classical in
theorem rightB_great{key sig m:List UInt8}(h:¬le (sig.drop 32)<LL):rightB key sig m=false:=decide_eq_false λ⟨_,_,_,_,h4,_⟩=>h h4
theorem rightB_is{A:Ed.Pt p}{sig m:List UInt8}(hA:Ed.On dd A)(h8:Ed.mul dd 8 A≠Ed.zero)(hS:le (sig.drop 32)<LL) :
  rightB (dX A) sig m=decide (dX (Ed.add dd (Ed.mul dd (le (Nums.bytes 32 (le (sig.drop 32)))) base) (Ed.mul dd (le (Nums.bytes 32 (sgK (sig.take 32) (dX A) m))) (Ed.neg A)))=sig.take 32):=by
 rw [lQ hS,lQ (sgK_lt _ _ _),Ed.mul_neg good hA]
 unfold rightB
 rw [decide_eq_decide]
 constructor
 ·rintro⟨B,h1,h2,_,_,h5⟩
  obtain rfl:=mT h1 hA h2;exact h5
 ·exact λh=>⟨A,hA,rfl,h8,hS,h⟩
theorem small_dec{A:Ed.Pt p}(hA:Ed.On dd A):dX (Ed.mul dd 8 A)=dX Ed.zero↔Ed.mul dd 8 A=Ed.zero :=
 ⟨λh=>mT (Ed.fB good hA 8) Ed.jR h,λh=>by rw [h]⟩
def zH:List UInt8:=aA 32 0
def keyH(d k:List UInt8):List UInt8:=cM cO ([[3],d,k]:List (List UInt8)).flatten
def dH(ks:List (List UInt8)):List UInt8:=ks.foldl keyH zH
def valH(ks:List (List UInt8)):List UInt8:=cM cO ([[2],be8 ks.length,dH ks]:List (List UInt8)).flatten
theorem dig_len(m:List UInt8):(cM cO m).length=32:=digest256_len m
theorem dH_len(ks:List (List UInt8)):(dH ks).length=32:=by
 unfold dH
 rw [List.foldl_eq_foldr_reverse]
 cases ks.reverse with
 | nil=>rfl
 | cons k r=>exact dig_len _
theorem dH_next{ks:List (List UInt8)}{i:Nat}{k:List UInt8}(h:ks[i]?=some k):dH (ks.take (i+1))=keyH (dH (ks.take i)) k:=by
 unfold dH
 rw [List.take_add_one,h,List.foldl_append]
 rfl
structure UV where
  id:List UInt8
  ver:Int
  key:List UInt8
  sig:List UInt8
def UV.parts(u:UV):List Pt:=[.agg 32 (By u.id).toArray,.one (.v (.int .i64 u.ver)),.agg 32 (By u.key).toArray,.agg 64 (By u.sig).toArray]
abbrev eU(u:UV):SQ:=.p u.parts
structure UV.Ok(u:UV):Prop where
  id:u.id.length=32
  key:u.key.length=32
  sig:u.sig.length=64
theorem UV.Ok.parts_ok{u:UV}(h:u.Ok):OkP u.parts:=λp hp=>by
 simp only [UV.parts,aJ,iO,or_false] at hp
 rcases hp with rfl|rfl|rfl|rfl
 ·exact(eY_ok h.id).1 _ (aE.2 rfl)
 ·exact⟨trivial,rfl,rfl⟩
 ·exact(eY_ok h.key).1 _ (aE.2 rfl)
 ·exact(eY_ok h.sig).1 _ (aE.2 rfl)
theorem eU_ok{u:UV}(h:u.Ok):OkP (eU u).parts1/\(eU u).cl.length=129:=⟨h.parts_ok,by
 rw [SQ.cl,show(eU u).den.cells=catP u.parts from rfl,Array.length_toList,OkP.size h.parts_ok]
 rfl⟩
def u64N(z:Int):Nat:=(IntKind.u64.wrap z).toNat
theorem u64N_lt(z:Int):u64N z<18446744073709551616:=by
 unfold u64N
 rw [u64_is]
 omega
theorem u64N_is(z:Int):IntKind.u64.wrap z=(u64N z:Int):=by
 unfold u64N
 rw [u64_is]
 omega
def bodyH(v:Int)(k:List UInt8):List UInt8:=be8 (u64N v)++k
theorem bodyH_len{v:Int}{k:List UInt8}(h:k.length=32):(bodyH v k).length=40:=by
 unfold bodyH
 rw [aC,be8_len,h]
noncomputable def signB(u:UV):Bool:=decide (1<=u.ver/\u.ver<=64)&&rightB u.id u.sig (msg 1 (bodyH u.ver u.key))
noncomputable def mkH(seed:List UInt8)(v:Int)(k:List UInt8):UV:=⟨eQ seed,v,k,jB seed (msg 1 (bodyH v k))⟩
theorem mkH_ok(seed:List UInt8)(v:Int){k:List UInt8}(h:k.length=32):(mkH seed v k).Ok:=⟨nA _,h,pC _ _⟩
open Classical in
theorem right_made(seed:List UInt8)(m:List UInt8):rightB (eQ seed) (jB seed m) m=true:=by
 unfold rightB
 exact decide_eq_true (sK seed m)
theorem signB_made(seed:List UInt8)(v:Int)(k:List UInt8):signB (mkH seed v k)=decide (1<=v/\v<=64):=by
 unfold signB mkH
 dsimp only
 rw [right_made,Bool.and_true]
end Go.Proofs.YtlhlkofpjhpaoaaGreatDoor
namespace Nums
def cQ(k:List UInt8)(n:Nat):Nat:=(k[n/8]!).toNat/2^(7-n%8)%2
def dI:List UInt8->List UInt8->Bool
  | a::az,b::bs=>if a=b then dI az bs else decide (a.toNat<b.toNat)
  | _,_=>false
abbrev PairT:=List UInt8×List UInt8
def dK:List PairT->PairT->List PairT
  | [],p=>[p]
  | q::r,p=>if dI q.1 p.1 then q::dK r p else if q.1=p.1 then p::r else p::q::r
def mQ(l:List PairT)(k:List UInt8):Option (List UInt8):=(l.find? λq=>q.1==k).map (·.2)
def dF:List UInt8:=aA 32 0
def iB(p:PairT):List UInt8:=cM cO (0::(p.1++p.2))
def fF(a b:List UInt8):List UInt8:=cM cO (1::(a++b))
def eX:Nat->List PairT->List UInt8
  | _,[]=>dF
  | _,[p]=>iB p
  | 0,_::_::_=>dF
  | r+1,p::q::l=>fF (eX r ((p::q::l).filter λx=>cQ x.1 (255-r)==0)) (eX r ((p::q::l).filter λx=>cQ x.1 (255-r) != 0))
theorem cE:∀a:List UInt8,dI a a=false
 | []=>rfl
 | a::az=>by unfold dI;rw [if_pos rfl];exact cE az
theorem gC:∀{a b c:List UInt8},dI a b=true->dI b c=true->dI a c=true
 | [],_,_,h,_=>by cases ‹List UInt8› <;> cases h
 | _::_,[],_,h,_=>by cases h
 | _::_,_::_,[],_,h=>by cases h
 | a::az,b::bs,c::cs,h,k=>by
  unfold dI at h k ⊢
  by_cases e1:a=b
  ·subst e1
   rw [if_pos rfl] at h
   by_cases e2:a=c
   ·rw [if_pos e2] at k ⊢
    exact gC h k
   ·rw [if_neg e2] at k ⊢
    exact k
  ·rw [if_neg e1] at h
   have h:=of_decide_eq_true h
   by_cases e2:b=c
   ·subst e2
    rw [if_neg e1];exact decide_eq_true h
   ·rw [if_neg e2] at k
    have k:=of_decide_eq_true k
    have e3:a≠c:=λe=>by subst e;omega
    rw [if_neg e3];exact decide_eq_true (by omega)
theorem iA:∀{a b:List UInt8},a.length=b.length->dI a b=false->a≠b->dI b a=true
 | [],[],_,_,h=>absurd rfl h
 | [],_::_,h,_,_=>by cases h
 | _::_,[],h,_,_=>by cases h
 | a::az,b::bs,hl,h,hn=>by
  unfold dI at h ⊢
  by_cases e:a=b
  ·subst e
   rw [if_pos rfl] at h ⊢;exact iA (by simpa using hl) h λe=>hn (by rw [e])
  ·rw [if_neg e] at h
   rw [if_neg λx=>e x.symm];have h:=of_decide_eq_false h;have:a.toNat≠b.toNat:=λx=>e (pJ.1 x);exact decide_eq_true (by omega)
theorem qL{a b:List UInt8}(h:dI a b=true):dI b a=false:=by
 cases hb:dI b a with
 | false=>rfl
 | true=>have:=gC h hb;rw [cE] at this;cases this
def cV(l:List PairT):Prop:=l.Pairwise λp q=>dI p.1 q.1=true
def gE(l:List PairT):Prop:=∀p∈l,p.1.length=32
theorem cV.cons{p:PairT}{l:List PairT}:cV (p::l)↔(∀q∈l,dI p.1 q.1=true)/\cV l:=bZ
theorem cV.filter{l:List PairT}(h:cV l)(f:PairT->Bool):cV (l.filter f):=List.Pairwise.filter f h
theorem gE.filter{l:List PairT}(h:gE l)(f:PairT->Bool):gE (l.filter f):=λp hp=>h p (List.mem_filter.1 hp).1
theorem cV.ext:∀{l m:List PairT},cV l->cV m->(∀p,p∈l↔p∈m)->l=m
 | [],[],_,_,_=>rfl
 | [],q::m,_,_,h=>absurd ((h q).2 aM) (by simp)
 | p::l,[],_,_,h=>absurd ((h p).1 aM) (by simp)
 | p::l,q::m,hl,hm,h=>by
  obtain⟨h1,h2⟩:=cV.cons.1 hl;obtain⟨k1,k2⟩:=cV.cons.1 hm
  have e:p=q:=by
   rcases aJ.1 ((h p).1 aM) with e|hp
   ·exact e
   ·rcases aJ.1 ((h q).2 aM) with e|hq
    ·exact e.symm
    ·have a:=h1 q hq
     rw [qL (k1 p hp)] at a
     cases a
  subst e;refine congrArg (p :: ·) (cV.ext h2 k2 λx=>⟨λhx=>?_,λhx=>?_⟩)
  ·rcases aJ.1 ((h x).1 (aI _ hx)) with e|hx2
   ·subst e
    have a:=h1 x hx;rw [cE] at a
    cases a
   ·exact hx2
  ·rcases aJ.1 ((h x).2 (aI _ hx)) with e|hx2
   ·subst e
    have a:=k1 x hx;rw [cE] at a
    cases a
   ·exact hx2
theorem cV.key{l:List PairT}(h:cV l){p q:PairT}(hp:p∈l)(hq:q∈l)(e:p.1=q.1):p=q:=by
 induction l with
 | nil=>cases hp
 | cons x l ih =>
  obtain⟨h1,h2⟩:=cV.cons.1 h
  rcases aJ.1 hp with e1|hp2<;>rcases aJ.1 hq with e2|hq2
  ·rw [e1,e2]
  ·have:=h1 q hq2
   rw [<-e1,<-e,cE] at this
   cases this
  ·have:=h1 p hp2
   rw [<-e2,e,cE] at this
   cases this
  ·exact ih h2 hp2 hq2
theorem j5:∀{l:List PairT} {p:PairT},cV l->gE l->p.1.length=32->∀x,x∈dK l p↔x=p\/(x∈l/\x.1≠p.1)
 | [],p,_,_,_,x=>by simp [dK]
 | q::l,p,hs,hk,hp,x=>by
  obtain⟨h1,h2⟩:=cV.cons.1 hs;have hq:q.1.length=32:=hk q aM;have hkl:gE l:=λy hy=>hk y (aI _ hy)
  unfold dK
  by_cases h:dI q.1 p.1=true
  ·rw [if_pos h,aJ,j5 h2 hkl hp x,aJ]
   have hne:q.1≠p.1:=λe=>by rw [e,cE] at h;cases h
   constructor
   ·rintro(rfl|rfl|⟨a,b⟩)
    ·exact .inr ⟨.inl rfl,hne⟩
    ·exact .inl rfl
    ·exact .inr ⟨.inr a,b⟩
   ·rintro(rfl|⟨rfl|a,b⟩)
    ·exact .inr (.inl rfl)
    ·exact .inl rfl
    ·exact .inr (.inr ⟨a,b⟩)
  ·rw [if_neg h]
   by_cases e:q.1=p.1
   ·rw [if_pos e,aJ,aJ]
    constructor
    ·rintro(rfl|a)
     ·exact .inl rfl
     ·exact .inr ⟨.inr a,λe2=>by have:=h1 x a;rw [e,e2,cE] at this;cases this⟩
    ·rintro(rfl|⟨rfl|a,b⟩)
     ·exact .inl rfl
     ·exact absurd e b
     ·exact .inr a
   ·rw [if_neg e,aJ,aJ]
    have hgt:=iA (by rw [hq,hp]) (by simpa using h) e
    constructor
    ·rintro(rfl|rfl|a)
     ·exact .inl rfl
     ·exact .inr ⟨.inl rfl,e⟩
     ·exact .inr ⟨.inr a,λe2=>by have:=gC hgt (h1 x a);rw [e2,cE] at this;cases this⟩
    ·rintro(rfl|⟨rfl|a,b⟩)
     ·exact .inl rfl
     ·exact .inr (.inl rfl)
     ·exact .inr (.inr a)
theorem j4:∀{l:List PairT} {p:PairT},cV l->gE l->p.1.length=32->cV (dK l p)
 | [],p,_,_,_=>by simp [dK,cV]
 | q::l,p,hs,hk,hp=>by
  obtain⟨h1,h2⟩:=cV.cons.1 hs;have hq:q.1.length=32:=hk q aM;have hkl:gE l:=λy hy=>hk y (aI _ hy)
  unfold dK
  by_cases h:dI q.1 p.1=true
  ·rw [if_pos h]
   refine cV.cons.2 ⟨λx hx=>?_,j4 h2 hkl hp⟩
   rcases(j5 h2 hkl hp x).1 hx with rfl|hx
   ·exact h
   ·exact h1 x hx.1
  ·rw [if_neg h]
   by_cases e:q.1=p.1
   ·rw [if_pos e]
    exact cV.cons.2 ⟨λx hx=>by rw [<-e];exact h1 x hx,h2⟩
   ·rw [if_neg e]
    have hgt:=iA (by rw [hq,hp]) (by simpa using h) e;refine cV.cons.2 ⟨λx hx=>?_,hs⟩
    rcases aJ.1 hx with rfl|hx
    ·exact hgt
    ·exact gC hgt (h1 x hx)
theorem lR{l:List PairT}{k v:List UInt8}(hs:cV l):mQ l k=some v↔(k,v)∈l:=by
 unfold mQ
 constructor
 ·intro h
  cases hf:l.find? (λq=>q.1==k) with
  | none=>rw [hf] at h;cases h
  | some q =>
   rw [hf] at h;simp only [Option.map_some,aT] at h;have h1:=List.find?_some hf;have h2:=kQ hf
   have e:q.1=k:=by simpa using h1
   subst e;subst h;exact h2
 ·intro h
  cases hf:l.find? (λq=>q.1==k) with
  | none =>
   have:=kE.1 hf (k,v) h
   simp at this
  | some q =>
   have h1:=List.find?_some hf;have h2:=kQ hf
   have e:q.1=k:=by simpa using h1
   have:=hs.key h2 h e;subst this
   rfl
theorem lT{l:List PairT}{k:List UInt8}:mQ l k=none↔∀q∈l,q.1≠k:=by
 unfold mQ
 rw [Option.map_eq_none_iff,kE]
 simp
theorem kO(k:List UInt8)(n:Nat):cQ k n<2:=cI _ (by decide)
theorem pI(a b:Nat)(ha:a<256)(hb:b<256)(h:∀j,j<8->a/2^(7-j)%2=b/2^(7-j)%2):a=b:=by
 have h0:=h 0 (by decide);have h1:=h 1 (by decide);have h2:=h 2 (by decide);have h3:=h 3 (by decide);have h4:=h 4 (by decide);have h5:=h 5 (by decide);have h6:=h 6 (by decide);have h7:=h 7 (by decide);simp only [fA,b8] at h0 h1 h2 h3 h4 h5 h6 h7
 omega
theorem sS(a b j:Nat)(ha:a<256)(hb:b<256)(hj:j<8)(h:∀i,i<j->a/2^(7-i)%2=b/2^(7-i)%2)(h0:a/2^(7-j)%2=0)(h1:b/2^(7-j)%2≠0):a<b:=by
 have hj8:j=0\/j=1\/j=2\/j=3\/j=4\/j=5\/j=6\/j=7:=by omega
 rcases hj8 with rfl|rfl|rfl|rfl|rfl|rfl|rfl|rfl
 ·simp only [fA,b8] at h0 h1;omega
 ·have e0:=h 0 (by decide);simp only [fA,b8] at h0 h1 e0;omega
 ·have e0:=h 0 (by decide);have e1:=h 1 (by decide);simp only [fA,b8] at h0 h1 e0 e1;omega
 ·have e0:=h 0 (by decide);have e1:=h 1 (by decide);have e2:=h 2 (by decide);simp only [fA,b8] at h0 h1 e0 e1 e2;omega
 ·have e0:=h 0 (by decide);have e1:=h 1 (by decide);have e2:=h 2 (by decide);have e3:=h 3 (by decide);simp only [fA,b8] at h0 h1 e0 e1 e2 e3;omega
 ·have e0:=h 0 (by decide);have e1:=h 1 (by decide);have e2:=h 2 (by decide);have e3:=h 3 (by decide);have e4:=h 4 (by decide);simp only [fA,b8] at h0 h1 e0 e1 e2 e3 e4;omega
 ·have e0:=h 0 (by decide);have e1:=h 1 (by decide);have e2:=h 2 (by decide);have e3:=h 3 (by decide);have e4:=h 4 (by decide);have e5:=h 5 (by decide);simp only [fA,b8] at h0 h1 e0 e1 e2 e3 e4 e5;omega
 ·have e0:=h 0 (by decide);have e1:=h 1 (by decide);have e2:=h 2 (by decide);have e3:=h 3 (by decide);have e4:=h 4 (by decide);have e5:=h 5 (by decide);have e6:=h 6 (by decide);simp only [fA,b8] at h0 h1 e0 e1 e2 e3 e4 e5 e6;omega
theorem jA(k:List UInt8)(i j:Nat)(hj:j<8):cQ k (8*i+j)=(k[i]!).toNat/2^(7-j)%2:=by
 unfold cQ
 rw [show(8*i+j)/8=i by omega,show(8*i+j)%8=j by omega]
def nF(d:Nat)(a b:List UInt8):Prop:=∀n,n<d->cQ a n=cQ b n
theorem nF.all{a b:List UInt8}(ha:a.length=32)(hb:b.length=32)(h:nF 256 a b):a=b:=by
 apply dG (by rw [ha,hb])
 intro i h1 h2
 have e:=pI (a[i]!).toNat (b[i]!).toNat (cR _) (cR _) λj hj=>by
  rw [<-jA a i j hj,<-jA b i j hj];exact h _ (by omega)
 have e:=pJ.1 e;rw [getElem!_pos a i h1,getElem!_pos b i h2] at e;exact e
theorem qK:∀(i:Nat) {a b:List UInt8},i<a.length->i<b.length->(∀j,j<i->a[j]! = b[j]!)->(a[i]!).toNat<(b[i]!).toNat->dI a b=true
 | _,[],_,h,_,_,_=>by cases h
 | _,_::_,[],_,h,_,_=>by cases h
 | 0,a::az,b::bs,_,_,_,h=>by
  have h:a.toNat<b.toNat:=h
  unfold dI
  rw [if_neg λe=>by subst e;omega];exact decide_eq_true h
 | i+1,a::az,b::bs,ha,hb,he,h=>by
  have e0:a=b:=he 0 (by omega)
  unfold dI
  rw [if_pos e0];exact qK i (by simpa using ha) (by simpa using hb) (λj hj=>he (j+1) (by omega)) h
theorem nF.less{d:Nat}{a b:List UInt8}(hd:d<256)(ha:a.length=32)(hb:b.length=32)(h:nF d a b)(h0:cQ a d=0)(h1:cQ b d≠0):dI a b=true:=by
 refine qK (d/8) (by omega) (by omega) (λi hi=>?_) ?_
 ·refine pJ.1 (pI _ _ (cR _) (cR _) λj hj=>?_)
  rw [<-jA a i j hj,<-jA b i j hj];exact h _ (by omega)
 ·refine sS _ _ (d%8) (cR _) (cR _) (by omega) (λj hj=>?_) h0 h1
  rw [<-jA a (d/8) j (by omega),<-jA b (d/8) j (by omega)];exact h _ (by omega)
def dN(d:Nat)(l:List PairT):Prop:=∀p∈l,∀q∈l,nF d p.1 q.1
def b6(d:Nat)(l:List PairT):List PairT:=l.filter λx=>cQ x.1 d==0
def bI(d:Nat)(l:List PairT):List PairT:=l.filter λx=>cQ x.1 d != 0
theorem eC{d:Nat}{l:List PairT}{x:PairT}:x∈b6 d l↔x∈l/\cQ x.1 d=0:=by simp [b6]
theorem dP{d:Nat}{l:List PairT}{x:PairT}:x∈bI d l↔x∈l/\cQ x.1 d≠0:=by simp [bI]
theorem dN.left{d:Nat}{l:List PairT}(h:dN d l):dN (d+1) (b6 d l):=λp hp q hq n hn=>by
 obtain⟨hp,bp⟩:=eC.1 hp;obtain⟨hq,bq⟩:=eC.1 hq
 by_cases e:n=d
 ·subst e;rw [bp,bq]
 ·exact h p hp q hq n (by omega)
theorem dN.right{d:Nat}{l:List PairT}(h:dN d l):dN (d+1) (bI d l):=λp hp q hq n hn=>by
 obtain⟨hp,bp⟩:=dP.1 hp;obtain⟨hq,bq⟩:=dP.1 hq
 by_cases e:n=d
 ·subst e
  have:=kO p.1 n;have:=kO q.1 n
  omega
 ·exact h p hp q hq n (by omega)
theorem sI{d:Nat}{l:List PairT}(hd:d<256)(hs:cV l)(hk:gE l)(h:dN d l):b6 d l++bI d l=l:=by
 refine cV.ext (List.pairwise_append.2 ⟨hs.filter _,hs.filter _,λp hp q hq=>?_⟩) hs λx=>?_
 ·obtain⟨hp,bp⟩:=eC.1 hp
  obtain⟨hq,bq⟩:=dP.1 hq;exact(h p hp q hq).less hd (hk p hp) (hk q hq) bp bq
 ·rw [cB,eC,dP]
  constructor
  ·rintro(h|h)<;>exact h.1
  ·intro hx
   by_cases e:cQ x.1 d=0
   ·exact .inl ⟨hx,e⟩
   ·exact .inr ⟨hx,e⟩
theorem dN.one{l:List PairT}(hs:cV l)(hk:gE l)(h:dN 256 l):l.length<=1:=by
 match l,hs,hk,h with
 | [],_,_,_=>decide
 | [_],_,_,_=>exact aH _
 | p::q::l,hs,hk,h =>
  have e:=(h p (by simp) q (by simp)).all (hk p (by simp)) (hk q (by simp));have:=(cV.cons.1 hs).1 q (by simp);rw [e,cE] at this
  cases this
theorem lO{d:Nat}{l:List PairT}{p:PairT}(hs:cV l)(hk:gE l)(hp:p.1.length=32):b6 d (dK l p)=if cQ p.1 d=0 then dK (b6 d l) p else b6 d l:=by
 refine cV.ext ((j4 hs hk hp).filter _) (by split;exact j4 (hs.filter _) (hk.filter _) hp;exact hs.filter _) λx=>?_;rw [eC,j5 hs hk hp]
 split
 ·rename_i e
  rw [j5 (l:=b6 d l) (hs.filter _) (hk.filter _) hp,eC]
  constructor
  ·rintro⟨rfl|⟨a,b⟩,c⟩
   ·exact .inl rfl
   ·exact .inr ⟨⟨a,c⟩,b⟩
  ·rintro(rfl|⟨⟨a,c⟩,b⟩)
   ·exact⟨.inl rfl,e⟩
   ·exact⟨.inr ⟨a,b⟩,c⟩
 ·rename_i e
  rw [eC]
  constructor
  ·rintro⟨rfl|⟨a,b⟩,c⟩
   ·exact absurd c e
   ·exact⟨a,c⟩
  ·rintro⟨a,c⟩
   exact⟨.inr ⟨a,λe2=>e (by rw [<-e2];exact c)⟩,c⟩
theorem kK{d:Nat}{l:List PairT}{p:PairT}(hs:cV l)(hk:gE l)(hp:p.1.length=32):bI d (dK l p)=if cQ p.1 d=0 then bI d l else dK (bI d l) p:=by
 refine cV.ext ((j4 hs hk hp).filter _) (by split;exact hs.filter _;exact j4 (hs.filter _) (hk.filter _) hp) λx=>?_;rw [dP,j5 hs hk hp]
 split
 ·rename_i e
  rw [dP]
  constructor
  ·rintro⟨rfl|⟨a,b⟩,c⟩
   ·exact absurd e c
   ·exact⟨a,c⟩
  ·rintro⟨a,c⟩
   exact⟨.inr ⟨a,λe2=>c (by rw [e2];exact e)⟩,c⟩
 ·rename_i e
  rw [j5 (l:=bI d l) (hs.filter _) (hk.filter _) hp,dP]
  constructor
  ·rintro⟨rfl|⟨a,b⟩,c⟩
   ·exact .inl rfl
   ·exact .inr ⟨⟨a,c⟩,b⟩
  ·rintro(rfl|⟨⟨a,c⟩,b⟩)
   ·exact⟨.inl rfl,e⟩
   ·exact⟨.inr ⟨a,b⟩,c⟩
theorem l9{r:Nat}{l:List PairT}(h:2<=l.length):eX (r+1) l=fF (eX r (b6 (255-r) l)) (eX r (bI (255-r) l)):=by
 match l,h with
 | p::q::l,_=>rfl
theorem nC(r:Nat):eX r []=dF:=by cases r<;>rfl
theorem lN(r:Nat)(p:PairT):eX r [p]=iB p:=by cases r<;>rfl
end Nums
namespace Nums
abbrev EntD:=List UInt8×List (List UInt8)
def bL(l:List EntD)(id:List UInt8):List (List UInt8):=match l.find? λe=>e.1==id with
  | some e=>e.2
  | none=>[]
def iU:List EntD->List UInt8->List (List UInt8)->List EntD
  | [],id,ks=>[(id,ks)]
  | e::l,id,ks=>if dI e.1 id then e::iU l id ks else if e.1=id then(id,ks)::l else(id,ks)::e::l
structure UD where
  id:List UInt8
  version:Int
  key:List UInt8
  signed:Bool
def okD(l:List EntD)(u:UD):Bool:=u.signed&&decide (u.version=(bL l u.id).length+1)
def g9(l:List EntD)(u:UD):List EntD:=if okD l u=true then iU l u.id (bL l u.id++[u.key]) else l
def fE(l:List EntD)(us:List UD):List EntD:=us.foldl g9 l
structure DirOk(l:List EntD):Prop where
  sort:l.Pairwise λa b=>dI a.1 b.1=true
  ids:∀e∈l,e.1.length=32
  some:∀e∈l,e.2≠[]
  keys:∀e∈l,∀k∈e.2,k.length=32
theorem DirOk.nil:DirOk []:=⟨sC,by simp,by simp,by simp⟩
theorem DirOk.tail{e:EntD}{l:List EntD}(h:DirOk (e::l)):DirOk l:=⟨(bZ.1 h.sort).2,λx hx=>h.ids x (.tail _ hx),λx hx=>h.some x (.tail _ hx),λx hx=>h.keys x (.tail _ hx)⟩
theorem jD:∀{l:List EntD} {id:List UInt8} {ks:List (List UInt8)} {x:EntD},x∈iU l id ks->x=(id,ks)\/x∈l
 | [],id,ks,x,h=>.inl (aE.1 h)
 | e::l,id,ks,x,h=>by
  unfold iU at h
  split at h
  ·rcases aJ.1 h with h|h
   ·exact .inr (h ▸ .head _)
   ·exact(jD h).imp_right (.tail _)
  ·split at h
   ·rcases aJ.1 h with h|h
    ·exact .inl h
    ·exact .inr (.tail _ h)
   ·exact(aJ.1 h)
theorem pD:∀{l:List EntD} {id:List UInt8} {ks:List (List UInt8)},DirOk l->id.length=32->(iU l id ks).Pairwise λa b=>dI a.1 b.1=true
 | [],_,_,_,_=>List.pairwise_singleton _ _
 | e::l,id,ks,h,hi=>by
  have h1:=bZ.1 h.sort
  unfold iU
  split
  ·rename_i hlt
   refine bZ.2 ⟨λx hx=>?_,pD h.tail hi⟩
   rcases jD hx with rfl|hx
   ·exact hlt
   ·exact h1.1 x hx
  ·rename_i hlt
   split
   ·rename_i he
    exact bZ.2 ⟨λx hx=>he▸h1.1 x hx,h1.2⟩
   ·rename_i he
    have h2:dI id e.1=true:=iA (by rw [hi,h.ids e (.head _)]) (by simpa using hlt) he;refine bZ.2 ⟨λx hx=>?_,h.sort⟩
    rcases aJ.1 hx with rfl|hx
    ·exact h2
    ·exact gC h2 (h1.1 x hx)
theorem DirOk.put{l:List EntD}{id:List UInt8}{ks:List (List UInt8)}(h:DirOk l)(hi:id.length=32)(hk:ks≠[])(h32:∀k∈ks,k.length=32):DirOk (iU l id ks):=⟨pD h hi,λx hx=>by
 rcases jD hx with rfl|hx
 ·exact hi
 ·exact h.ids x hx,λx hx=>by
 rcases jD hx with rfl|hx
 ·exact hk
 ·exact h.some x hx,λx hx=>by
 rcases jD hx with rfl|hx
 ·exact h32
 ·exact h.keys x hx⟩
theorem cK(e:EntD)(l:List EntD)(id:List UInt8):bL (e::l) id=if e.1=id then e.2 else bL l id:=by
 unfold bL
 rw [List.find?_cons]
 by_cases h:e.1=id
 ·simp [h]
 ·have:(e.1==id)=false:=by simpa using h
  simp [this,h]
theorem oI{l:List EntD}{id:List UInt8}(h:∀e∈l,dI id e.1=true):bL l id=[]:=by
 unfold bL
 have:(l.find? λe=>e.1==id)=none:=kE.2 λe he h2=>by
  have h3:e.1=id:=by simpa using h2
  have h4:=h e he;rw [h3,cE] at h4
  cases h4
 rw [this]
theorem iY:∀{l:List EntD} {id:List UInt8} {ks:List (List UInt8)},∀x,bL (iU l id ks) x=if x=id then ks else bL l x
 | [],id,ks,x=>by
  show bL [(id,ks)] x=_
  rw [cK]
  by_cases h:x=id
  ·simp [h]
  ·rw [if_neg (λh2=>h h2.symm),if_neg h]
 | e::l,id,ks,x=>by
  unfold iU
  split
  ·rename_i hlt
   have he:e.1≠id:=λh=>by
    rw [h,cE] at hlt
    cases hlt
   rw [cK,cK,iY x]
   by_cases hx:x=id
   ·subst hx
    rw [if_neg he,if_pos rfl,if_pos rfl]
   ·rw [if_neg hx,if_neg hx]
  ·split
   ·rename_i he
    rw [cK,cK]
    by_cases hx:x=id
    ·simp [hx]
    ·rw [if_neg (λh2=>hx h2.symm),if_neg hx,if_neg (λh2=>hx (h2.symm.trans he))]
   ·rw [cK]
    by_cases hx:x=id
    ·simp [hx]
    ·rw [if_neg (λh2=>hx h2.symm),if_neg hx]
theorem DirOk.ext:∀{l m:List EntD},DirOk l->DirOk m->(∀x,bL l x=bL m x)->l=m
 | [],[],_,_,_=>rfl
 | [],e::m,_,hm,h=>by
  have h1:=h e.1;rw [cK,if_pos rfl] at h1;exact absurd h1.symm (hm.some e (.head _))
 | e::l,[],hl,_,h=>by
  have h1:=h e.1;rw [cK,if_pos rfl] at h1;exact absurd h1 (hl.some e (.head _))
 | e::l,f::m,hl,hm,h=>by
  have sl:=bZ.1 hl.sort;have sm:=bZ.1 hm.sort
  have key:∀{a b:EntD} {p q:List EntD},DirOk (a::p)->DirOk (b::q)->(∀x,bL (a::p) x=bL (b::q) x)->dI a.1 b.1=true->False:=λ{a b p q} ha hb hx hlt=>by
   have h1:=hx a.1
   rw [cK,if_pos rfl,oI (l:=b::q) (λy hy=>by
    rcases aJ.1 hy with rfl|hy
    ·exact hlt
    ·exact gC hlt ((bZ.1 hb.sort).1 y hy))] at h1
   exact ha.some a (.head _) h1
  have he:e.1=f.1:=by
   by_cases h1:e.1=f.1
   ·exact h1
   ·cases h2:dI e.1 f.1 with
    | true=>exact(key hl hm h h2).elim
    | false=>exact(key hm hl (λx=>(h x).symm) (iA (by rw [hl.ids e (.head _),hm.ids f (.head _)]) h2 h1)).elim
  have h2:e.2=f.2:=by
   have h1:=h e.1
   rwa [cK,if_pos rfl,cK,if_pos he.symm] at h1
  have h3:e=f:=Prod.ext he h2;subst h3;refine congrArg _ (DirOk.ext hl.tail hm.tail λx=>?_)
  by_cases hx:e.1=x
  ·subst hx
   rw [oI sl.1,oI sm.1]
  ·have h1:=h x
   rwa [cK,cK,if_neg hx,if_neg hx] at h1
theorem uA{l:List EntD}(h:DirOk l)(id:List UInt8):∀k∈bL l id,k.length=32:=by
 unfold bL
 split
 ·rename_i e he
  exact h.keys e (kQ he)
 ·exact λk hk=>by cases hk
theorem DirOk.step{l:List EntD}{u:UD}(h:DirOk l)(hi:u.id.length=32)(hk:u.key.length=32):DirOk (g9 l u):=by
 unfold g9
 split
 ·exact h.put hi (by simp) λk hk2=>by
   rcases cB.1 hk2 with h2|h2
   ·exact uA h _ k h2
   ·rw [aE.1 h2]
    exact hk
 ·exact h
structure uP(us:List UD):Prop where
  ids:∀u∈us,u.id.length=32
  keys:∀u∈us,u.key.length=32
theorem uP.tail{u:UD}{us:List UD}(h:uP (u::us)):uP us:=⟨λx hx=>h.ids x (.tail _ hx),λx hx=>h.keys x (.tail _ hx)⟩
theorem DirOk.apply:∀{us:List UD} {l:List EntD},DirOk l->uP us->DirOk (fE l us)
 | [],_,h,_=>h
 | u::us,l,h,hu=>DirOk.apply (us:=us) (l:=g9 l u) (h.step (hu.ids u (.head _)) (hu.keys u (.head _))) hu.tail
theorem rH(l:List EntD)(us vs:List UD):fE l (us++vs)=fE (fE l us) vs:=List.foldl_append
theorem tY{a b:List UInt8}(h:dI a b=true):b≠a:=λe=>by
 rw [e,cE] at h
 cases h
def lI(z:List EntD)(es:List EntD):List EntD:=es.foldl (λz e=>if e.2=[] then z else iU z e.1 e.2) z
theorem j7{l:List EntD}{x:List UInt8}(h:∀e∈l,e.1≠x):bL l x=[]:=by
 unfold bL
 rw [kE.2 λe he h2=>h e he (by simpa using h2)]
theorem oJ:∀{l:List EntD} {e:EntD},l.Pairwise (λa b=>a.1≠b.1)->e∈l->bL l e.1=e.2
 | [],_,_,h=>by cases h
 | a::l,e,hp,h=>by
  have h1:=bZ.1 hp;rw [cK]
  rcases aJ.1 h with rfl|h
  ·rw [if_pos rfl]
  ·rw [if_neg (h1.1 e h),oJ h1.2 h]
theorem nM:∀{es:List EntD},es.Pairwise (λa b=>a.1≠b.1)->∀(z:List EntD) (x:List UInt8),bL (lI z es) x=if bL es x=[] then bL z x else bL es x
 | [],_,_,_=>rfl
 | e::es,hp,z,x=>by
  have h1:=bZ.1 hp
  show bL (lI (if e.2=[] then z else iU z e.1 e.2) es) x=_
  rw [nM h1.2,cK]
  by_cases hx:e.1=x
  ·subst hx
   rw [if_pos rfl,if_pos (j7 λy hy=>(h1.1 y hy).symm)]
   by_cases hn:e.2=[]
   ·rw [if_pos hn,if_pos hn]
   ·rw [if_neg hn,if_neg hn,iY,if_pos rfl]
  ·rw [if_neg hx]
   by_cases hn:e.2=[]
   ·rw [if_pos hn]
   ·have e2:(if x=e.1 then e.2 else bL z x)=bL z x:=if_neg λh=>hx h.symm
    rw [if_neg hn,iY,e2]
end Nums
namespace Go.Proofs.YtlhlkofpjhpaoaaGreatDoor
open Nums
def pairD(e:EntD):PairT:=(e.1,valH e.2)
def pairsD(l:List EntD):List PairT:=l.map pairD
theorem pairsD_put:∀(l:List EntD) (id:List UInt8) (ks:List (List UInt8)),pairsD (iU l id ks)=dK (pairsD l) (id,valH ks)
 | [],_,_=>rfl
 | e::l,id,ks=>by
  show pairsD (if dI e.1 id then e::iU l id ks else if e.1=id then(id,ks)::l else(id,ks)::e::l)=if dI e.1 id then pairD e::dK (pairsD l) (id,valH ks) else if e.1=id then(id,valH ks)::pairsD l else(id,valH ks)::pairD e::pairsD l
  rw [<-pairsD_put l id ks]
  split
  ·rfl
  ·split<;>rfl
theorem DirOk.pairs{l:List EntD}(h:DirOk l):cV (pairsD l)/\gE (pairsD l):=⟨List.pairwise_map.2 h.sort,λp hp=>by
 obtain⟨e,he,rfl⟩:=bO.1 hp
 exact h.ids e he⟩
theorem getT_pairs:∀{l:List EntD},DirOk l->∀id,mQ (pairsD l) id=if bL l id=[] then none else some (valH (bL l id))
 | [],_,_=>rfl
 | e::l,h,id=>by
  have ih:=getT_pairs h.tail id;rw [cK]
  show((pairD e::pairsD l).find? λq=>q.1==id).map (·.2)=_
  rw [List.find?_cons]
  by_cases c:e.1=id
  ·have:((pairD e).1==id)=true:=by simpa [pairD] using c
   rw [this,if_pos c,if_neg (h.some e (.head _))]
   rfl
  ·have:((pairD e).1==id)=false:=by simpa [pairD] using c
   rw [this,if_neg c];exact ih
end Go.Proofs.YtlhlkofpjhpaoaaGreatDoor
namespace Go.Proofs.YtlhlkofpjhpaoaaGreatDoor
open Go.RowKit Go.IntWalk
section
variable{T:List TyR}{b:Base}{ops:Array Oper}{Q:Exit->Act->World->Prop}{N:Nat}{G:Nat->Nat}{S:Nat->Prop}{E:SE}{L:List LV}{R:List Res}{F M:World->Prop}{w0:World}{T':List Oper}{Fa:Told}{i k:Nat}{o:Oper}{rest:List (Nat×Oper)}
theorem h_alloc{ty:TypeId}(zs:Array Value)(hg:o.guard=none)(hd:o.dst=some k)(hk:Nat.blt k N=true)(hf:farP i Fa=true)(ho:o.op = .alloc ty)(hz:(Tryz.prog.info? ty).bind (λi=>i.zero.map (·.cells))=some zs)
 (hn:∀g,hS Tryz.prog ops Q N T' G w0 rest ((k,.v (.pointer (some ⟨g,0,none⟩)))::E) ((i,λw=>w0.heap.size<=g/\Blk w g ty zs)::Fa)):hS Tryz.prog ops Q N T' G w0 ((i,o)::rest) E Fa:=λhE =>
 g_alloc zs w0.heap.size hg hd hk hf ho hz (λ_ h=>h.size) (λ_ _ _ h hb=>⟨h.1,h.2.later hb⟩) λg _ _ _ _=>hn g (hE.cons (v:=.v (.pointer (some ⟨g,0,none⟩))) trivial)
theorem h_endV(hst:StW b G S L R F M w0){g:Nat}{ty:TypeId}{ps:List Pt}(k i:Nat)(E':SE)(hi:lookP Fa i=some (λw=>w0.heap.size<=g/\Blk w g ty (catP ps)))(hk:lookS E k=some (.v (.pointer (some ⟨g,0,none⟩))))(hE':SubS E' E)(hfE:farE k E'=true)(hfL:farL k L=true)(hok:OkP ps)
 (h:lS Tryz.prog b ops Q N T' ⟨(k,.a k 0)::E',⟨k,none,ty,ps⟩::L,R,F,M⟩):hS Tryz.prog ops Q N T' G w0 [] E Fa:=λhE=>g_end λw hw hF=>λa ha=>by
 obtain⟨h1,h2⟩:=hF i _ hi
 have hfr:Fr N (denE (λj=>if j=k then g else G j) ((k,.a k 0)::E')) a:=ha.sub ⟨by
  rw [look_den,hk]
  show some (oR (some ⟨g,0,none⟩))=some (oR (some ⟨if k=k then g else G k,0,none⟩))
  rw [if_pos rfl],by rw [denE_far hfE];exact denE_sub hE'⟩
 have hst2:=hst.news (E:=E') (gs:=λ_=>g) hw [⟨k,none,ty,ps⟩] (by simp [freeV,hfE,hfL,farL]) (λu hu=>by rw [aE.1 hu];exact hok) (λ_ _=>h1) (λi j hi hj hne=>absurd (show i=j by simp at hi hj;omega) hne) λu hu=>by
  rw [aE.1 hu]
  show Blk w (if k=k then g else G k) ty (catP ps)
  rw [if_pos rfl];exact h2
 exact h a w ⟨_,S,hfr,OkE.cons (SubS.ok hE' hE) (v:=.a k 0) trivial,hst2⟩
theorem s_oneH{P:Program}{id:Nat}{l:List Oper}(n:Nat)(hn:n<=l.length)(hm:P.follows .mixedOrders=true)(hB:tailH l.toArray n (l.drop n).length=true)
 (h:∀G S w0,StW b G S L R F M w0->hS P l.toArray Q N (l.drop n) G w0 (idx 0 (l.take n)) E []):cS P b (.region id l.toArray true) Q N ⟨E,L,R,F,M⟩:=s_drawn n hn hm hB λG S w0 hst=>h G S w0 hst
end
theorem run_neqBoolW{N:Nat}{E:SE}{o:Oper}{x y:Operand}{t':TypeId}{u v:SV}{p q:Bool}(ho:o.op = .binOp .neq 4 x y t')(hx:evS E x=some u)(hy:evS E y=some v)(hu:∀G,u.den G = .bool p)(hv:∀G,v.den G = .bool q):∀(G:Nat->Nat) (a:Act) (w:World),Fr N (denE G E) a->(execOp a.eval o).run Tryz.prog w = .ok (.value ((SV.b (!(p==q))).den G)) w:=λG a w ha=>by
 have h1:a.eval x = .bool p:=(ha.eval (evS_ok hx)).trans (hu G);have h2:a.eval y = .bool q:=(ha.eval (evS_ok hy)).trans (hv G)
 unfold execOp
 simp only [ho,h1,h2]
 go_simp
 rfl
abbrev madeP(l:List UInt8):Post Nat:={ ret:=λg=>.v (.slice (some ⟨g,0,none⟩) l.length l.length),p:=λg=>Rd 1 eB (some ⟨g,0,none⟩) l.length l }
abbrev madeN(l:List UInt8):Post Nat:={ ret:=λg=>.v (.slice (some ⟨g,0,none⟩) l.length l.length),n:=λg=>Rd 1 eB (some ⟨g,0,none⟩) l.length l }
theorem Spec.p1{f:FuncId}{args:List Value}{F:World->Prop}{l:List UInt8}(h:Spec f args [] F (madeN l)):Spec f args [] F (madeP l):=λw S X hs hX hF=>by
 refine(h w S X hs hX hF).mono ?_
 rintro e w' ⟨x,S',h1,h2,h3,h4,h5,h6,h7⟩
 refine⟨x,S',h1,h2,h3,h4,h5,h7.less λk _ hk=>?_,λ_ _=>trivial⟩
 rcases hk with hk|hk
 ·exact .inl (hX k hk).1
 ·exact .inr hk
instance{l:List UInt8}{g:Nat}:Pst ((madeP l).p g):=inferInstanceAs (Pst (Rd 1 eB (some ⟨g,0,none⟩) l.length l))
instance pst_true:Pst (λ_:World=>True):=⟨λ_ _ _ _=>trivial⟩
instance{r:RV}{x:Unit}:Pst ((one r).p x):=⟨λ_ _ _ _=>trivial⟩
theorem madeP_rd{l:List UInt8}{x:Nat}{w:World}(h:∃y,((madeP l).ret x).den=((madeP l).ret y).den/\(madeP l).p y w):Rd 1 eB (some ⟨x,0,none⟩) l.length l w:=by
 obtain⟨y,e,hy⟩:=h;have e:Value.slice (some ⟨x,0,none⟩) l.length l.length = .slice (some ⟨y,0,none⟩) l.length l.length:=e
 injection e with e
 injection e with e
 injection e with e
 rw [e];exact hy
abbrev tellP(l:List UInt8):Post (Option Addr×Nat):={ ret:=λx=>.v (.slice x.1 l.length x.2),p:=λx=>Rd 1 eB x.1 x.2 l }
instance{l:List UInt8}{x:Option Addr×Nat}:Pst ((tellP l).p x):=inferInstanceAs (Pst (Rd 1 eB x.1 x.2 l))
end Go.Proofs.YtlhlkofpjhpaoaaGreatDoor
namespace Nums
def iS:List Nat->Nat
  | []=>0
  | x::r=>x+2*iS r
theorem oD:∀(d:List Nat) (j v:Nat),j<d.length->iS (d.set j v)+d[j]! * 2^j=iS d+v*2^j
 | [],_,_,h=>by simp at h
 | x::r,0,v,_=>by
  simp only [List.set_cons_zero,iS,kV,Nat.mul_one];have:(x::r)[0]! = x:=rfl;rw [this]
  omega
 | x::r,j+1,v,h=>by
  have ih:=oD r j v (by simpa using h)
  have e:(x::r)[j+1]! = r[j]!:=by simp
  rw [e,List.set_cons_succ,iS,iS,cG]
  have e1:r[j]! * (2^j*2)=2*(r[j]! * 2^j):=by rw [<-fN,c8 _ 2]
  have e2:v*(2^j*2)=2*(v*2^j):=by rw [<-fN,c8 _ 2]
  rw [e1,e2]
  omega
theorem sG(n:Nat):iS (aA n 0)=0:=by
 induction n with
 | zero=>rfl
 | succ n ih=>rw [List.replicate_succ,iS,ih]
theorem sH{d:List Nat}{j:Nat}(h:j<d.length):iS (d.drop j)=d[j]! + 2*iS (d.drop (j+1)):=by
 rw [gV h,iS,getElem!_pos d j h]
structure DG(N i:Nat)(f:Int)(d:List Nat):Prop where
  len:d.length=256
  sum:iS d=N%2^i
  hi:∀j,i<=j->j<256->d[j]! = 0
  odd:∀j,j<256->d[j]! = 0\/(d[j]! % 2=1/\d[j]! < 16)
  last:f = -4\/∃m:Nat,f=m/\m<i/\d[m]! < 2^(i-m)/\d[m]! % 2=1
theorem tH(n j:Nat)(h:j<n):(aA n 0)[j]! = 0:=by
 rw [getElem!_pos _ j (by simpa using h)]
 simp
theorem DG.start(N:Nat):DG N 0 (-4) (aA 256 0) where
 len:=bK
 sum:=by rw [sG,kV,Nat.mod_one]
 hi:=λj _ h=>tH 256 j h
 odd:=λj h=>.inl (tH 256 j h)
 last:=.inl rfl
theorem oG(N i:Nat):N%2^(i+1)=N%2^i+N/2^i%2*2^i:=by
 rw [cG,Nat.mod_mul,c8 (2^i)]
theorem DG.zero{N i:Nat}{f:Int}{d:List Nat}(h:DG N i f d)(hb:N/2^i%2=0):DG N (i+1) f d where
 len:=h.len
 sum:=by rw [h.sum,oG,hb,Nat.zero_mul,dT]
 hi:=λj hj=>h.hi j (by omega)
 odd:=h.odd
 last:=h.last.imp id λ⟨m,h1,h2,h3,h4⟩=>⟨m,h1,by omega,bS h3 (Nat.pow_le_pow_right (by decide) (by omega)),h4⟩
theorem nB{d:List Nat}{j v:Nat}(h:j<d.length):(d.set j v)[j]! = v:=by
 rw [getElem!_pos _ j (by simpa using h)]
 simp
theorem pO{d:List Nat}{j k v:Nat}(h:j≠k):(d.set j v)[k]! = d[k]!:=by
 simp only [List.getElem!_eq_getElem?_getD,List.getElem?_set_ne h]
theorem DG.fresh{N i:Nat}{f:Int}{d:List Nat}(h:DG N i f d)(hi:i<256)(hb:N/2^i%2=1):DG N (i+1) i (d.set i 1) where
 len:=by rw [bR,h.len]
 sum:=by
  have h1:=oD d i 1 (by rw [h.len];exact hi);rw [h.hi i (aH _) hi,h.sum] at h1;rw [oG,hb]
  omega
 hi:=λj hj hj2=>by rw [pO (by omega)];exact h.hi j (by omega) hj2
 odd:=λj hj=>by
  by_cases e:i=j
  ·subst e
   rw [nB (by rw [h.len];exact hi)];exact .inr ⟨by decide,by decide⟩
  ·rw [pO e]
   exact h.odd j hj
 last:=.inr ⟨i,rfl,by omega,by rw [nB (by rw [h.len];exact hi),show i+1-i=1 from by omega];decide,by rw [nB (by rw [h.len];exact hi)]⟩
theorem DG.more{N i m:Nat}{d:List Nat}(h:DG N i m d)(hi:i<256)(hb:N/2^i%2=1)(hm:i<m+4):m<i/\d[m]! < 2^(i-m)/\DG N (i+1) m (d.set m (d[m]! + 2^(i-m))):=by
 obtain⟨m',h1,h2,h3,h4⟩:∃m':Nat,(m:Int)=m'/\m'<i/\d[m']! < 2^(i-m')/\d[m']! % 2=1:=by
  rcases h.last with h1|h1
  ·omega
  ·exact h1
 obtain rfl:m=m':=by omega
 have hml:m<d.length:=by rw [h.len];omega
 have hpe:2^(i+1-m)=2^(i-m)*2:=by rw [show i+1-m=i-m+1 from by omega,cG]
 have hk:i-m=1\/i-m=2\/i-m=3:=by omega
 have hpow:2^(i-m)*2<=16/\2^(i-m)%2=0:=by rcases hk with e|e|e<;>rw [e]<;>decide
 refine⟨h2,h3,⟨by rw [bR,h.len],?_,λj hj hj2=>?_,λj hj=>?_,.inr ⟨m,rfl,by omega,?_,?_⟩⟩⟩
 ·have e1:=oD d m (d[m]! + 2^(i-m)) hml
  have e2:2^(i-m)*2^m=2^i:=by rw [<-Nat.pow_add];congr 1;omega
  rw [Nat.add_mul,e2,h.sum] at e1;rw [oG,hb]
  omega
 ·rw [pO (by omega)]
  exact h.hi j (by omega) hj2
 ·by_cases e:m=j
  ·subst e
   rw [nB hml];exact .inr ⟨by omega,by omega⟩
  ·rw [pO e]
   exact h.odd j hj
 ·rw [nB hml,hpe]
  omega
 ·rw [nB hml]
  omega
namespace Ed
variable{n:Nat}[NeZero n]{d:Fin n}
def tot(d:Fin n):List (Pt n)->Nat->(Nat->Nat)->Pt n
  | [],_,_=>zero
  | A::ps,i,f=>add d (mul d (f i) A) (tot d ps (i+1) f)
theorem nE(g:Good n d):∀{ps:List (Pt n)},(∀A∈ps,On d A)->∀i f,On d (tot d ps i f)
 | [],_,_,_=>jR
 | A::ps,h,i,f=>jE g (fB g (h A (by simp)) _) (nE g (λB hB=>h B (by simp [hB])) (i+1) f)
theorem lM:∀{ps:List (Pt n)} {i:Nat} {f f':Nat->Nat},(∀j,i<=j->j<i+ps.length->f j=f' j)->tot d ps i f=tot d ps i f'
 | [],_,_,_,_=>rfl
 | A::ps,i,f,f',h=>by
  rw [tot,tot,h i (aH _) (by simp),lM (i:=i+1) (f:=f) (f':=f') λj h1 h2=>h j (by omega) (by simp;omega)]
theorem qA(g:Good n d):∀{ps:List (Pt n)} {i:Nat} {f:Nat->Nat},(∀j,i<=j->j<i+ps.length->f j=0)->tot d ps i f=zero
 | [],_,_,_=>rfl
 | A::ps,i,f,h=>by
  rw [tot,h i (aH _) (by simp),mO,zero_add g,qA g λj h1 h2=>h j (by omega) (by simp;omega)]
theorem rP(g:Good n d):∀{ps:List (Pt n)},(∀A∈ps,On d A)->∀(i:Nat) (f:Nat->Nat),tot d ps i (λj=>2*f j)=add d (tot d ps i f) (tot d ps i f)
 | [],_,_,_=>(zero_add g zero).symm
 | A::ps,h,i,f=>by
  have hA:=h A (by simp);have hs:∀B∈ps,On d B:=λB hB=>h B (by simp [hB]);rw [tot,tot,rP g hs (i+1) f,Nat.two_mul,mul_add g hA,qP g (fB g hA _) (fB g hA _) (nE g hs _ _) (nE g hs _ _)]
theorem qB(g:Good n d):∀{ps:List (Pt n)},(∀A∈ps,On d A)->∀(i j v:Nat) (f f':Nat->Nat) (A:Pt n),ps[j]?=some A->f' (i+j)=f (i+j)+v->(∀k,k≠i+j->f' k=f k) ->
  tot d ps i f'=add d (tot d ps i f) (mul d v A)
 | [],_,_,_,_,_,_,A,hj,_,_=>by simp at hj
 | B::ps,h,i,0,v,f,f',A,hj,h1,h2=>by
  simp only [List.getElem?_cons_zero,aT] at hj;subst hj;have hB:=h B (by simp);have hs:∀B∈ps,On d B:=λB hB=>h B (by simp [hB]);rw [tot,tot,lM (ps:=ps) (i:=i+1) (f:=f') (f':=f) λk h3 _=>h2 k (by omega)];rw [dT] at h1;rw [h1,mul_add g hB,add_assoc g (fB g hB _) (fB g hB _) (nE g hs _ _),add_assoc g (fB g hB _) (nE g hs _ _) (fB g hB _),add_comm (mul d v B)]
 | B::ps,h,i,j+1,v,f,f',A,hj,h1,h2=>by
  have hB:=h B (by simp);have hs:∀B∈ps,On d B:=λB hB=>h B (by simp [hB]);have hA:On d A:=hs A (List.mem_of_getElem? (by simpa using hj))
  rw [tot,tot,qB g hs (i+1) j v f f' A (by simpa using hj) (by rw [Nat.add_right_comm,Nat.add_assoc];exact h1) (λk hk=>h2 k (by omega)),h2 i (by omega),
   add_assoc g (fB g hB _) (nE g hs _ _) (fB g hA _)]
end Ed
end Nums
namespace Go.Proofs.YtlhlkofpjhpaoaaGreatDoor
open Go.RowKit Go.IntWalk Nums
theorem whs_eq(l:List Nat)(u k:Nat):whs l u k=mx (λj=>(up2 l u j+l[j]!)%2251799813685248) l k:=rfl
theorem up1_le{l:List Nat}{x:F}(h:EB l x):∀k,k<=5->up1 l 19 k<=19
 | 0,_=>aH _
 | k+1,hk=>by
  have h1:=up1_le h k (by omega);have h2:=eb_get h (k:=k) (by omega)
  show(l[k]! + up1 l 19 k)/2251799813685248<=19
  omega
theorem up2_le{l:List Nat}{x:F}(h:EB l x){u:Nat}(hu:u<=361):∀k,k<=5->up2 l u k<=361
 | 0,_=>hu
 | k+1,hk=>by
  have h1:=up2_le h hu k (by omega);have h2:=eb_get h (k:=k) (by omega)
  show(up2 l u k+l[k]!)/2251799813685248<=361
  omega
theorem whole_f{a:List Nat}{x:F}(ha:EB a x)(w:World) :
  Calls Tryz.prog 176 #[.agg (Us a).toArray] w λe w'=>e = .returned (.agg (Us (whole a)).toArray)/\Below w.heap.size w w':=by
 have hW:whole a=whs a (up1 a 19 5*19) 5:=rfl;rw [hW];clear hW;generalize hq1:up1 a 19 5=q;generalize hu0:q*19=u0
 go_enter Tryz.func176,Tryz.ntmps176
 go_wp2
 go_loopw [6,3] (λi u wr=>∃k:Nat,k<=5/\i = .int .i64 k/\u = .int .u64 (up1 a 19 k:Nat)/\Blk wr w.heap.size 193 (Us a).toArray/\Blk wr (w.heap.size+1) 193 z5/\Below w.heap.size w wr) (λi _ _=>5-(intOf i).toNat)
 case atStart =>
  exact⟨0,by omega,rfl,rfl,heap_alloc2_old w _ _,heap_alloc2_new w _ _,((Below.refl _ _).alloc (aH _) _).alloc (by simp) _⟩
 case round =>
  obtain⟨k,hk,rfl,rfl,h0,h1,hbel⟩:=hrel
  by_cases hlt:k<5
  ·have hN:up1 a 19 (k+1)=(a[k]! + up1 a 19 k)/2251799813685248:=rfl
   have c0:=(h0.cell k).trans (Us_at (by rw [ha.len];exact hlt));have b0:=eb_get ha hlt;have b1:=up1_le ha k (by omega);generalize a[k]! = u at *;generalize up1 a 19 k=v at *
   have q1:IntKind.u64.wrap ((u:Int)+(v:Int))=((u+v:Nat):Int):=by rw [a8];omega
   have q2:(0:Int)<=(k:Int):=by omega
   have HK:=dL (eN h0 (eN h1 (eN hbel hN)));clear h0 h1 hbel hN
   go_wp2
   go_roundw
   case rel =>
    obtain⟨h0,h1,hbel,hN⟩:=HK.out;exact⟨k+1,by omega,by go_num,by rw [hN];congr 1,h0,h1,hbel⟩
   case measure=>simp [intOf];omega
  ·obtain rfl:k=5:=by omega
   have b1:=up1_le ha 5 (by omega);rw [hq1] at b1 ⊢
   have hq:u0<=361:=by omega
   have q1:IntKind.u64.wrap ((q:Int)*19)=(u0:Int):=by rw [a8];omega
   clear hq1 hu0
   have hW0:whs a u0 0=a:=by rw [whs_eq,mx_zero _ ha.len]
   have HK:=dL (eN h0 (eN h1 hbel));clear h0 h1 hbel
   go_wp2
   go_loopw [19,3] (λi u wq=>∃k:Nat,k<=5/\i = .int .i64 k/\u = .int .u64 (up2 a u0 k:Nat)/\Blk wq w.heap.size 193 (Us (whs a u0 k)).toArray/\Blk wq (w.heap.size+1) 193 z5/\Below w.heap.size w wq) (λi _ _=>5-(intOf i).toNat)
   case atStart =>
    obtain⟨h0,h1,hbel⟩:=HK.out;exact⟨0,by omega,rfl,rfl,by rw [hW0];exact h0,h1,hbel⟩
   case round =>
    obtain⟨k,hk,rfl,rfl,h0,h1,hbel⟩:=hrel;clear HK
    by_cases hlt:k<5
    ·have hN:up2 a u0 (k+1)=(up2 a u0 k+a[k]!)/2251799813685248:=rfl
     have hS:(whs a u0 k).set k ((up2 a u0 k+a[k]!)%2251799813685248)=whs a u0 (k+1):=mx_set (λj=>(up2 a u0 j+a[j]!)%2251799813685248) a;have hg:(whs a u0 k)[k]! = a[k]!:=mx_get _ a hlt;have c0:=(h0.cell k).trans (Us_at (by rw [whs_eq,mx_len];exact hlt));rw [hg] at c0;have hf:=h0.free k;have b0:=eb_get ha hlt;have b1:=up2_le ha hq k (by omega);generalize a[k]! = u at *;generalize up2 a u0 k=v at *
     have q2:IntKind.u64.wrap ((v:Int)+(u:Int))=((v+u:Nat):Int):=by rw [a8];omega
     have q3:=maskW (v+u) (by omega)
     have q4:(0:Int)<=(k:Int):=by omega
     have HK:=dL (eN h0 (eN h1 (eN hbel (eN hN hS))));clear h0 h1 hbel hN hS hg;generalize hs:v+u=s at *
     go_wp2
     go_roundw
     case rel =>
      obtain⟨h0,h1,hbel,hN,hS⟩:=HK.out;have h4:=h0.set k (.int .u64 ((s%2251799813685248:Nat):Int));rw [Us_set,hS] at h4;exact⟨k+1,by omega,by go_num,by rw [hN];congr 1,h4,h1.far (by simp) _,hbel.setCell (by simp) _⟩
     case measure=>simp [intOf];omega
    ·obtain rfl:k=5:=by omega
     have hz:(Us (whs a u0 5)).toArray.size=5:=len_us (by rw [whs_eq,mx_len])
     go_wp2_with (first
      | (refine wpList_load_row rfl 193 _ rfl w.heap.size rfl 193 (Us (whs a u0 5)).toArray (0,0) _ h0 Tryz.underlying193 rfl (size_el _ hz) ?_)
      | (refine wpList_store_row rfl 193 _ _ rfl (w.heap.size+1) rfl (Us (whs a u0 5)).toArray rfl 193 _ h1 (size_el _ hz) (by rw [hz];rfl) (Us_one _) ?_))
     refine bodyPost_ret (results_cell_row rfl _ _ (w.heap.size+1) 193 (Us (whs a u0 5)).toArray (0,0) _ rfl (h1.row _) Tryz.underlying193 rfl (size_el _ hz)) rfl ⟨rfl,?_⟩;exact below_setRow hbel (by omega) _
def W2(s:Nat):Array Value:=(Us [s/18446744073709551616,s%18446744073709551616]).toArray
theorem W2_size(s:Nat):(W2 s).size=2:=rfl
theorem W2_one(s:Nat):∀u∈(W2 s).toList,u.oneCell'=true:=Us_one _
theorem plus_f(s a b:Nat)(ha:a<18446744073709551616)(hb:b<18446744073709551616)(hs:s+a*b<340282366920938463463374607431768211456)(w:World) :
  Calls Tryz.prog 172 #[.agg (W2 s),.int .u64 a,.int .u64 b] w λe w'=>e = .returned (.agg (W2 (s+a*b)))/\Below w.heap.size w w':=by
 refine(plus_any (s/18446744073709551616) (s%18446744073709551616) a b (by omega) (by omega) ha hb w).mono ?_
 rintro e w' ⟨rfl,hw⟩
 refine⟨?_,hw⟩
 unfold W2
 generalize a*b=m at *
 have e1:(s/18446744073709551616+m/18446744073709551616+(s%18446744073709551616+m%18446744073709551616)/18446744073709551616)%18446744073709551616=(s+m)/18446744073709551616:=by omega
 have e2:(s%18446744073709551616+m%18446744073709551616)%18446744073709551616=(s+m)%18446744073709551616:=by omega
 rw [e1,e2]
theorem low_f(s:Nat)(w:World) :
  Calls Tryz.prog 173 #[.agg (W2 s)] w λe w'=>e = .returned (.int .u64 ((s%2251799813685248:Nat):Int))/\Below w.heap.size w w':=by
 refine(low_any (s/18446744073709551616) (s%18446744073709551616) (by omega) w).mono ?_
 rintro e w' ⟨rfl,hw⟩
 refine⟨?_,hw⟩
 have e1:s%18446744073709551616%2251799813685248=s%2251799813685248:=by omega
 rw [e1]
theorem high_f(s:Nat)(hs:s<41538374868278621028243970633760768)(w:World) :
  Calls Tryz.prog 174 #[.agg (W2 s)] w λe w'=>e = .returned (.int .u64 ((s/2251799813685248:Nat):Int))/\Below w.heap.size w w':=by
 refine(high_any (s/18446744073709551616) (s%18446744073709551616) (by omega) (by omega) w).mono ?_
 rintro e w' ⟨rfl,hw⟩
 refine⟨?_,hw⟩
 have e1:s/18446744073709551616*8192+s%18446744073709551616/2251799813685248=s/2251799813685248:=by omega
 rw [e1]
theorem lv_take:∀(l:List Nat) {k:Nat},k<l.length->lv (l.take (k+1))=lv (l.take k)+2251799813685248^k*l[k]!
 | d::ds,0,_=>by simp [lv]
 | d::ds,k+1,h=>by
  have ih:=lv_take ds (k:=k) (by simpa using h)
  show d+2251799813685248*lv (ds.take (k+1))=d+2251799813685248*lv (ds.take k)+2251799813685248^(k+1)*ds[k]!
  rw [ih,cG]
  grind only
structure MM(a:List Nat)(y:F)(k c0 c1 c2 c3 c4 s0 s1 s2 s3 s4:Nat):Prop where
  cv:fof (lv [c0,c1,c2,c3,c4])=fof (2251799813685248^k)*y
  sv:fof (lv [s0,s1,s2,s3,s4])=fof (lv (a.take k))*y
  c0b:c0<42784196465000448
  c1b:c1<42784196465000448
  c2b:c2<42784196465000448
  c3b:c3<42784196465000448
  c4b:c4<42784196465000448
  c0u:k<=0->c0<2251799813947392
  c1u:k<=1->c1<2251799813947392
  c2u:k<=2->c2<2251799813947392
  c3u:k<=3->c3<2251799813947392
  c4u:k<=4->c4<2251799813947392
  s0b:s0<=k*96341445640026967064998646153216
  s1b:s1<=k*96341445640026967064998646153216
  s2b:s2<=k*96341445640026967064998646153216
  s3b:s3<=k*96341445640026967064998646153216
  s4b:s4<=k*96341445640026967064998646153216
theorem prod_le{v c:Nat}(hv:v<2251799813947392)(hc:c<42784196465000448):v*c<=96341445640026967064998646153216 :=
 Nat.le_trans (Nat.mul_le_mul (rJ hv) (rJ hc)) (by decide)
theorem MM.next{a:List Nat}{x y:F}{k c0 c1 c2 c3 c4 s0 s1 s2 s3 s4:Nat}(h:MM a y k c0 c1 c2 c3 c4 s0 s1 s2 s3 s4)(ha:EB a x)(hk:k<5) :
  MM a y (k+1) (19*c4) c0 c1 c2 c3 (s0+a[k]! * c0) (s1+a[k]! * c1) (s2+a[k]! * c2) (s3+a[k]! * c3) (s4+a[k]! * c4):=by
 obtain⟨cv,sv,g0,g1,g2,g3,g4,u0,u1,u2,u3,u4,t0,t1,t2,t3,t4⟩:=h;have hv:=eb_get ha hk;have p0:=prod_le hv g0;have p1:=prod_le hv g1;have p2:=prod_le hv g2;have p3:=prod_le hv g3;have p4:=prod_le hv g4
 have hm:(k+1)*96341445640026967064998646153216=k*96341445640026967064998646153216+96341445640026967064998646153216:=by omega
 have:=u4 (by omega);refine⟨?_,?_,by omega,g0,g1,g2,g3,by omega,by omega,by omega,by omega,by omega,by omega,by omega,by omega,by omega,by omega⟩
 ·rw [uR,cv,cG,dM]
  generalize fof (2251799813685248^k)=u;generalize fof 2251799813685248=v
  grind only
 ·rw [vC,iV,sv,dM,cv,lv_take a (by rw [ha.len];exact hk),iV,dM]
  generalize fof (lv (a.take k))=u;generalize fof (2251799813685248^k)=v;generalize fof (a[k]!)=z
  grind only
theorem MM.start{a:List Nat}{b0 b1 b2 b3 b4:Nat}{y:F}(h0:b0<2251799813947392)(h1:b1<2251799813947392)(h2:b2<2251799813947392)(h3:b3<2251799813947392)(h4:b4<2251799813947392)(hb:fof (lv [b0,b1,b2,b3,b4])=y) :
  MM a y 0 b0 b1 b2 b3 b4 0 0 0 0 0:=by
 refine⟨?_,?_,by omega,by omega,by omega,by omega,by omega,λ_=>h0,λ_=>h1,λ_=>h2,λ_=>h3,λ_=>h4,by omega,by omega,by omega,by omega,by omega⟩
 ·rw [hb,kV,fQ]
  grind only
 ·have e1:fof (lv [0,0,0,0,0])=0:=j8
  have e2:fof (lv (a.take 0))=0:=j8;rw [e1,e2]
  grind only
theorem MM.fin{a:List Nat}{x y:F}{c0 c1 c2 c3 c4 s0 s1 s2 s3 s4:Nat}(h:MM a y 5 c0 c1 c2 c3 c4 s0 s1 s2 s3 s4)(ha:EB a x) :
  fof (lv (crd s0 s1 s2 s3 s4))=x*y/\s0<41538374868278621028243970633760768/\s1<41538374868278621028243970633760768/\s2<41538374868278621028243970633760768/\s3<41538374868278621028243970633760768/\s4<41538374868278621028243970633760768 /\
   s0/2251799813685248<400000000000000000/\s1/2251799813685248<400000000000000000/\s2/2251799813685248<400000000000000000/\s3/2251799813685248<400000000000000000/\s4/2251799813685248<400000000000000000:=by
 have e:a.take 5=a:=bH (by rw [ha.len];omega);obtain⟨cv,sv,g0,g1,g2,g3,g4,u0,u1,u2,u3,u4,t0,t1,t2,t3,t4⟩:=h;rw [e,ha.val] at sv;exact⟨by rw [uJ,sv],by omega,by omega,by omega,by omega,by omega,by omega,by omega,by omega,by omega,by omega⟩
theorem own_low:Own 173:=λ_ _=>by go_simp
theorem own_high:Own 174:=λ_ _=>by go_simp
theorem own_carried:Own 175:=λ_ _=>by go_simp
theorem own_whole:Own 176:=λ_ _=>by go_simp
theorem own_elmul:Own 142:=λ_ _=>by go_simp
theorem own_eladd:Own 149:=λ_ _=>by go_simp
theorem own_elsub:Own 147:=λ_ _=>by go_simp
theorem own_hash:Own 143:=λ_ _=>by go_simp
theorem own_small:Own 145:=λ_ _=>by go_simp
section
variable{ops:Array Oper}{C0:World->Prop}{Q:Act->Prop}{a:Act}{o:Oper}{rest:List Oper}
theorem b_el{l:List Nat}(g:Nat)(hl:l.length=5)(x:Operand)(hg:Region.wanted o (yielded ops a.tmps)=true)(ho:o.op = .load 193 x)(hx:a.eval x = .pointer (some ⟨g,0,none⟩))
 (hc:∀w,C0 w->Blk w g 193 (Us l).toArray)(hk:wpB Tryz.prog ops C0 Q rest (a.put o.dst (.agg (Us l).toArray))):wpB Tryz.prog ops C0 Q (o::rest) a :=
 b_mid hg 193 x ho g 0 hx (Us l) _ (λw h=>(hc w h).range) Tryz.underlying193 rfl (size_el (Us l).toArray (by rw [aV,Us_len,hl])) hk
end
theorem wd_limbs{l:List Nat}(hl:l.length=5)(hb:∀y∈l,y<2251799813685248){k:Nat}(hk:k<4) :
  bits .or .u64 ((l[64*k/51]! : Nat)/2^(64*k%51):Int) (IntKind.u64.wrap ((l[64*k/51+1]! : Nat)*2^(51-64*k%51):Int))=((wd (lv l) k:Nat):Int):=by
 obtain⟨a0,a1,a2,a3,a4,rfl⟩:=nV hl;have h0:=hb a0 (by simp);have h1:=hb a1 (by simp);have h2:=hb a2 (by simp);have h3:=hb a3 (by simp);have h4:=hb a4 (by simp)
 unfold wd
 rw [lv5]
 have h4':k=0\/k=1\/k=2\/k=3:=by omega
 have key:∀(i x y r t L:Nat),y*2^t%18446744073709551616%2^i=0->x/2^r<2^i->x/2^r<18446744073709551616->y*2^t%18446744073709551616+x/2^r=L ->
   bits .or .u64 ((x:Nat)/2^r:Int) (IntKind.u64.wrap ((y:Nat)*2^t:Int))=(L:Int):=by
  intro i x y r t L e1 e2 e3 e4
  have f1:((x:Int)/2^r)=((x/2^r:Nat):Int):=by simp
  have f2:IntKind.u64.wrap ((y:Int)*2^t)=((y*2^t%18446744073709551616:Nat):Int):=by
   rw [a8]
   simp
  rw [f1,f2,<-e4,u64_or_nat _ _ e3 (by omega),Nat.or_comm,nat_join i _ _ e1 e2]
 rcases h4' with rfl|rfl|rfl|rfl
 ·exact key 51 a0 a1 0 51 _ (by omega) (by omega) (by omega) (by simp only [b8];omega)
 ·exact key 38 a1 a2 13 38 _ (by omega) (by omega) (by omega) (by simp only [b8];omega)
 ·exact key 25 a2 a3 26 25 _ (by omega) (by omega) (by omega) (by simp only [b8];omega)
 ·exact key 12 a3 a4 39 12 _ (by omega) (by omega) (by omega) (by simp only [b8];omega)
end Go.Proofs.YtlhlkofpjhpaoaaGreatDoor
