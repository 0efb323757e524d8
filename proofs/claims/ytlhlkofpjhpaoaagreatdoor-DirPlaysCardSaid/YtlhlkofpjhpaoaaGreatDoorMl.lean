import Derived.Test.YtlhlkofpjhpaoaaGreatDoorMk
import Derived.Test.YtlhlkofpjhpaoaaGreatDoorMa
import Derived.Test.YtlhlkofpjhpaoaaGreatDoorMh
import Derived.Test.YtlhlkofpjhpaoaaGreatDoorMj
import Derived.Test.YtlhlkofpjhpaoaaGreatDoorMi
import Derived.Test.YtlhlkofpjhpaoaaGreatDoorMe
import Derived.Test.YtlhlkofpjhpaoaaGreatDoorMg
set_option maxHeartbeats 1000000
open Go.Value renaming int->bM
open Int renaming fdiv->jV,fdiv_eq_ediv_of_nonneg->rQ
open List renaming replicate->aA,mem_singleton->aE,getElem?_eq_getElem->aK,mem_cons->aL,size_toArray->aT,length_take->aU,append_assoc->a6,getElem?_eq_some_iff->bA,mem_map->bP,length_set->bQ,length_drop->dC,map_set->dM,drop_zero->kT,getElem_mem->o9
open Nat renaming le_of_ble_eq_true->aC,le_refl->aF,zero_le->aI,mod_eq_of_lt->aY,zero_add->aZ,min_eq_left->cM,pow_succ->cN,pow_add->j9,pow_zero->lH,le_of_eq->nI,add_mul_div_left->pN,pow_pos->tO
open Option.some renaming injEq->aW
open Prod.mk renaming injEq->cY
open UInt8 renaming ofNat->bK,toNat_lt->cQ,toNat_ofNat_of_lt'->lG
namespace Go.Proofs.YtlhlkofpjhpaoaaGreatDoor
open Go.RowKit Go.IntWalk Nums
theorem dbl_pow{A:Ed.Pt p}(hon:Ed.On dd A){i:Nat}:Ed.mul dd (2^(i+1)) A=Ed.add dd (Ed.mul dd (2^i) A) (Ed.mul dd (2^i) A):=by
 rw [cN,Nat.mul_two,Ed.mul_add good hon]
def DC(n:Nat)(A:Ed.Pt p)(i:Nat)(P:PtV):Prop:=∃x y z t,EB P.X x/\EB P.Y y/\EB P.Z z/\EB P.T t/\Ed.Rep x y z (Ed.mul dd (2^i) A)/\(i=0\/i=n->t*z=x*y)
theorem doubled_C{P:PtV}{A:Ed.Pt p}(h:PB P.l A)(hP:P.Ok)(n:Nat)(hn:n<4294967296):Ct Tw 150 [ePt P,.c (.v (.int .i64 (n:Int)))] (ptP (PB · (Ed.mul dd (2^n) A))):=⟨own_doubled,by
 refine zQ [ePt P,.c (.v (.int .i64 (n:Int)))] 76 Tryz.func150 rfl (by rw [Tryz.ntmps150];rfl) (two_ok hP.ps trivial) λb=>?_;have hq:=cat_pt P;refine zA rfl (zM λK0 hK0=>?_);refine s_reg λK hK=>?_;refine zB rfl ?_
 rcases h with⟨h,rfl⟩|h
 ·refine l_f (.v (.bool true)) trivial (λG S w C0 Q' _ _ hQ=>f_eq (catP P.ps) (Us pz).toArray rfl rfl rfl rfl rfl rfl (by kernel_rfl) (by rw [hq,h];exact eq_pz) hQ) rfl ?_
  refine l_N hK rfl ?_;refine s_yes rfl ?_;refine zA rfl (zP ?_);exact k_pt P ⟨.inl ⟨h,Ed.mul_zero good _⟩,hP⟩ rfl (by decide) rfl
 ·refine l_f (.v (.bool false)) trivial (λG S w C0 Q' _ _ hQ=>f_eq (catP P.ps) (Us pz).toArray rfl rfl rfl rfl rfl rfl (by kernel_rfl) (by rw [hq];exact ne_pz h) hQ) rfl ?_
  refine l_N hK rfl ?_;refine s_no rfl (zO (hK0 _ ?_));refine zM λK hK=>?_;refine zA rfl (zN ?_)
  let F:Nat×PtV->Env:=λs=>⟨[(19,.v (.int .i64 (s.1:Int))),(18,.v (.int .i64 (n:Int))),(1,.v (.int .i64 (n:Int))),(4,.a 4 0),(2,.a 2 0)],[⟨4,none,195,(⟨zl,zl,zl,zl⟩:PtV).ps⟩,⟨2,none,195,s.2.ps⟩],[],Tw,λ_=>True⟩
  obtain⟨x,y,z,t,hX,hY,hZ,hT,hR,ht⟩:=h.nums hP;have hon:=h.on;refine c_weak (e':=F (0,P)) ⟨zE rfl, zL rfl rfl, .refl _,λ_ h _=>h, zU⟩ (s_loop (λs=>n-s.1) F (λs=>s.1<=n/\DC n A s.1 s.2/\s.2.Ok) ?_ (0,P) ⟨aI _,⟨x,y,z,t,hX,hY,hZ,hT,by rw [lH,Ed.rE good];exact hR,λ_=>ht⟩,hP⟩);clear hX hY hZ hT hR ht h hP hq P
  rintro⟨i,P⟩ ⟨hi,hD,hP⟩
  dsimp only at hi hD hP
  refine zA rfl (zM λK1 hK1=>?_);refine zW ((i:Int)<(n:Int)) rfl (λhlt=>?_) (λhge=>?_)
  ·refine zO (hK1 _ ?_)
   refine zM λK2 hK2=>?_;refine zN (zA rfl ?_);obtain⟨x,y,z,t,hX,hY,hZ,hT,hR,ht⟩:=hD;refine s_N 20 [(6,193),(7,193),(8,193),(9,193)] (by kernel_rfl) λK hK G S w0 hst=>?_;refine n_X hst (mul_C hX hX) rfl λ⟨r1,v1⟩=>?_;refine n_X hst (mul_C hY hY) rfl λ⟨r2,v2⟩=>?_;refine n_X hst (mul_C hZ hZ) rfl λ⟨r3,v3⟩=>?_;refine n_X hst (mul_C hX hY) rfl λ⟨r4,v4⟩=>?_;refine n_N hst rfl hK rfl ?_;refine s_N 9 [(10,193),(11,193),(12,193)] (by kernel_rfl) λK hK G S w0 hst=>?_;refine n_X hst (add_C v4 v4) rfl λ⟨e,ve⟩=>?_;refine n_X hst (sub_C v2 v1) rfl λ⟨g,vg⟩=>?_;refine n_X hst (add_C v2 v1) rfl λ⟨j,vj⟩=>?_;refine n_N hst rfl hK rfl ?_;refine s_N 5 [(13,193)] (by kernel_rfl) λK hK G S w0 hst=>?_;refine n_X hst (add_C v3 v3) rfl λ⟨f0,vf0⟩=>?_;refine n_X hst (sub_C vf0 vg) rfl λ⟨f,vf⟩=>?_;refine n_N hst rfl hK rfl ?_;refine s_N 10 [] (by kernel_rfl) λK hK G S w0 hst=>?_;refine n_X hst (mul_C ve vf) rfl λ⟨r5,v5⟩=>?_;refine n_X hst (mul_C vg vj) rfl λ⟨r6,v6⟩=>?_;refine n_X hst (mul_C vf vg) rfl λ⟨r7,v7⟩=>?_;refine n_N hst rfl hK rfl ?_;have hE:=Ed.Rep.dbl good (Ed.fM good hon (2^i)) hR rfl rfl rfl rfl rfl rfl rfl rfl;rw [<-dbl_pow hon] at hE;have hw:IntKind.i64.wrap ((n:Int)-1)=(n:Int)-1:=wrapI rfl (by omega) (by omega);refine zA rfl ?_;refine zW ((i:Int)=IntKind.i64.wrap ((n:Int)-1)) rfl (λhl=>?_) (λhl=>?_)
   ·refine s_lit ?_
    refine l_X (mul_C ve vj) (λ_=>rfl) rfl λ⟨r8,v8⟩=>?_;refine zB rfl (zJ (hK2 _ ?_));refine zD rfl ?_;exact zX (i+1,⟨r5,r6,r7,r8⟩) ⟨by show i+1<=n;omega,⟨_,_,_,_,v5,v6,v7,v8,hE.1,λ_=>hE.2⟩,ptv_ok v5 v6 v7 v8⟩ (by show n-(i+1)<n-i;omega) ⟨⟨congrArg some (congrArg SV.v (congrArg (bM .i64) (wrapI rfl (by omega) (by omega)))),rfl,rfl,rfl,rfl,trivial⟩,zL rfl rfl, .refl _,λ_ h _=>h,λ_ h=>h⟩
   ·refine zO (hK2 _ ?_)
    refine zD rfl ?_;exact zX (i+1,⟨r5,r6,r7,zl⟩) ⟨by show i+1<=n;omega,⟨_,_,_,0,v5,v6,v7,eb_zero,hE.1,λh=>by rw [hw] at hl;omega⟩,ptv_ok v5 v6 v7 eb_zero⟩ (by show n-(i+1)<n-i;omega) ⟨⟨congrArg some (congrArg SV.v (congrArg (bM .i64) (wrapI rfl (by omega) (by omega)))),rfl,rfl,rfl,rfl,trivial⟩,zL rfl rfl, .refl _,λ_ h _=>h,λ_ h=>h⟩
  ·obtain rfl:i=n:=by omega
   refine s_exit (zS (zS (k_out (hK _ ?_))));obtain⟨x,y,z,t,hX,hY,hZ,hT,hR,ht⟩:=hD;refine zA rfl (zP ?_)
   exact k_pt P ((QB.of hX hY hZ hT hR (ht (.inr rfl)) (Ed.fM good hon _)).imp_left .inr) rfl (by decide) rfl⟩
theorem PB.yz{l:List Nat}{A:Ed.Pt p}(h:PB l A):∃X Y Z T x y z t,l=pc X Y Z T/\EB X x/\EB Y y/\EB Z z/\EB T t/\(y=z↔A=Ed.zero):=by
 rcases h with⟨rfl,rfl⟩|⟨⟨X,Y,Z,T,x,y,z,t,rfl,hX,hY,hZ,hT,hR,_⟩,hon⟩
 ·exact⟨zl,zl,zl,zl,0,0,0,0,rfl,eb_zero,eb_zero,eb_zero,eb_zero,by simp⟩
 ·exact⟨X,Y,Z,T,x,y,z,t,rfl,hX,hY,hZ,hT,hR.w7 good hon⟩
theorem on_vxx{x y:F}:Ed.On dd ⟨x,y⟩↔(y*y*dd+1)*x*x=y*y-1:=by
 show y*y-x*x=1+dd*x*x*y*y↔_
 constructor<;>intro h<;>grind only
theorem dec_y{b:List UInt8}{A:Ed.Pt p}{y:F}{s:Nat}(hle:le b=y.val+57896044618658097711785492504343953926634992332820282019728792003956564819968*s)(h:fB A=b):A.y=y/\A.x.val%2=s:=by
 rw [<-h,k9] at hle
 unfold nF at hle
 have h1:=y.isLt;have h2:=A.y.isLt;have h3:=uR;exact⟨Fin.ext (by omega),by omega⟩
theorem dec_enc{b:List UInt8}(hb:b.length=32){x y:F}{s:Nat}(hle:le b=y.val+57896044618658097711785492504343953926634992332820282019728792003956564819968*s)(hs:x.val%2=s):fB ⟨x,y⟩=b:=by
 apply mO (by rw [jI,hb])
 rw [k9,hle]
 unfold nF
 rw [hs]
theorem bit7(m:Nat)(h:m<128):bits .or .u8 (m:Int) 128=((m+128:Nat):Int):=by
 have key:∀m:Nat,m<128->bits .or .u8 (m:Int) 128=((m+128:Nat):Int)   := by decide +kernel
 exact key m h
theorem low7(m:Nat)(h:m<256):bits .and .u8 (m:Int) 127=((m%128:Nat):Int):=by
 have key:∀m:Nat,m<256->bits .and .u8 (m:Int) 127=((m%128:Nat):Int)   := by decide +kernel
 exact key m h
theorem croot_C{a b:List Nat}{y:F}(hA:EB a (y*y-1))(hB:EB b (y*y*dd+1)) :
  ((∃x,x.val%2=0/\Ed.On dd ⟨x,y⟩/\Ct Tw 146 [eE a,eE b] (tupP x))\/((∀x,¬Ed.On dd ⟨x,y⟩)/\Ct Tw 146 [eE a,eE b] noP)):=by
 have hv:=sF y
 by_cases hx:∃x,Ed.On dd ⟨x,y⟩
 ·left
  obtain⟨x0,h0⟩:=hx
  have key:∀x:F,(y*y*dd+1)*x*x=y*y-1/\x.val%2=0->x=mQ x0:=λx hx=>by
   have h1:=on_vxx.1 h0
   have h2:x*x=x0*x0:=by
    refine cancel c7 hv ?_
    have e1:x*x*(y*y*dd+1)=(y*y*dd+1)*x*x:=by grind only
    have e2:x0*x0*(y*y*dd+1)=(y*y*dd+1)*x0*x0:=by grind only
    rw [e1,e2,hx.1,h1]
   exact q9 (h2.trans (p9 x0).symm) (by rw [hx.2,n8])
  refine⟨mQ x0,n8 x0,?_,(root_C hA hB).to ?_⟩
  ·rw [qJ,p9]
   exact(qJ _ _).1 h0
  ·rintro⟨r,ok,⟨x,hr,_,hx,rfl⟩|⟨h|h,_⟩⟩
   ·exact⟨⟨r,key x hx▸hr⟩,rfl⟩
   ·exact absurd h hv
   ·exact absurd (on_vxx.1 h0) (h x0)
 ·refine .inr ⟨λx h=>hx ⟨x,h⟩,(root_C hA hB).to ?_⟩
  rintro⟨r,ok,⟨x,_,_,h,_⟩|⟨_,rfl,rfl⟩⟩
  ·exact absurd ⟨x,on_vxx.2 h.1⟩ hx
  ·exact⟨(),rfl⟩
theorem own_hash2:Own 105:=λ_ _=>by go_simp
theorem eqdC(x y:Nums.F)(w:World):(Op.equalIn 10000 45 (.agg (By (enc x)).toArray) (.agg (By (enc y)).toArray)).run Tryz.prog w = .ok (decide (x=y)) w:=by
 rw [equal32 _ _ (gM _) (gM _)]
 congr 1
 exact decide_eq_decide.2 ⟨wC,congrArg enc⟩
theorem own_csmall:Own 107:=λ_ _=>by go_simp
theorem small_C{P:PtV}{A:Ed.Pt p}(h:PB P.l A)(hP:P.Ok):Ct Tw 107 [ePt P] (one (.q (.c (.b (decide (fB (Ed.mul dd 8 A)=fB Ed.zero)))))):=⟨own_csmall,by
 refine zQ [ePt P] 12 Tryz.func107 rfl (by rw [Tryz.ntmps107];rfl) (one_ok hP.ps) λb=>?_;refine zA rfl ?_;refine s_reg λK hK=>?_;refine l_X (doubled_C h hP 3 (by decide)) (λ_=>rfl) rfl λ⟨P,h,hP⟩=>?_;refine l_N hK rfl ?_;obtain⟨X,Y,Z,T,x,y,z,t,e,hX,hY,hZ,hT,hi⟩:=h.yz;obtain rfl:=pc_inj hP hX hY hZ e;have hi:=hi.trans ⟨congrArg fB,nE h.on Ed.j1⟩;refine s_N 8 [] (by kernel_rfl) λK hK G S w0 hst=>?_;refine n_X hst (hash_C hY) rfl λ_=>?_;refine n_X hst (hash_C hZ) rfl λ_=>?_;refine n_f hst (.b (decide (fB (Ed.mul dd (2^3) A)=fB Ed.zero))) trivial (λC0 Q' _ hQ=>f_eq (By (enc y)).toArray (By (enc z)).toArray rfl rfl rfl rfl rfl rfl (by kernel_rfl) (by rw [<-decide_eq_decide.2 hi];exact eqdC y z) hQ) ?_;refine n_N hst rfl hK rfl (zP ?_)
 exact zR zY () rfl (by decide) rfl rfl rfl (λ_ _ _=>trivial) λ_ _=>trivial⟩
theorem phash_C{P:PtV}{A:Ed.Pt p}(h:PB P.l A)(hP:P.Ok):Ct Tw 105 [ePt P] (one (.q (eY 32 (fB A)))):=⟨own_hash2,by
 refine zQ [ePt P] 25 Tryz.func105 rfl (by rw [Tryz.ntmps105];rfl) (one_ok hP.ps) λb=>?_;refine zA rfl ?_;refine s_reg λK hK=>?_;refine l_X (whole_C h hP) (λ_=>rfl) rfl λ⟨P,h,hP⟩=>?_;refine l_N hK rfl ?_;obtain⟨x,y,z,t,hX,hY,hZ,hT,hR,ht⟩:=h.nums hP;have haf:=hR.aff c7;refine s_reg λK hK=>?_;refine l_X (inv_C hZ) (λ_=>rfl) rfl λ⟨r,v⟩=>?_;refine l_N hK rfl ?_;refine s_reg λK hK=>?_;refine l_X (mul_C hY v) (λ_=>rfl) rfl λ⟨s,u⟩=>?_;rw [haf.2] at u;refine l_X (hash_C u) (λ_=>rfl) rfl λ_=>?_;refine l_N hK rfl ?_;refine zM λK0 hK0=>?_;refine s_reg λK hK=>?_;refine l_X (mul_C hX v) (λ_=>rfl) rfl λ⟨s,u⟩=>?_;rw [haf.1] at u;refine l_X (odd_C u) (λ_=>rfl) rfl λ_=>?_;refine l_N hK rfl ?_;have h31:=qM A.y;refine zW (A.x.val%2=1) rfl (λho=>?_) (λho=>?_)
 ·refine s_lit ?_
  refine l_cell rfl arr32 (aC rfl) _ (By_get (l:=enc A.y) (j:=31) (by rw [gM];decide)) ?_;refine l_auto2 rfl ?_;refine l_put rfl arr32 (aC rfl) [.agg 32 (By (fB A)).toArray] (eY_ok (jI A)).1 ?_ ?_ (zJ (hK0 _ ?_))
  ·show _<(By (enc A.y)).toArray.size
   rw [len_by (gM _)];exact aC rfl
  ·show By (fB A)=(By (enc A.y)).set 31 (.int .u8 (bits .or .u8 ((enc A.y)[31]!.toNat:Int) 128))
   rw [bit7 _ h31,u6 ho,By,By,dM,lG (by show _<256;omega)]
  ·refine zA rfl (zP ?_)
   exact zR zY () rfl (by decide) rfl rfl rfl (λ_ _ _=>trivial) λ_ _=>trivial
 ·refine zO (hK0 _ ?_)
  refine zA rfl (zP ?_);rw [<-tF ho]
  exact zR zY () rfl (by decide) rfl rfl rfl (λ_ _ _=>trivial) λ_ _=>trivial⟩
theorem le_bit{n:List UInt8}(i:Nat)(hi:i/8<n.length):(n[i/8]!).toNat/2^(i%8)%2=le n/2^i%2:=by
 have e1:n=n.take (i/8)++(n[i/8]! :: n.drop (i/8+1)):=by
  conv=>lhs;rw [<-List.take_append_drop (i/8) n]
  rw [List.drop_eq_getElem_cons hi,getElem!_pos n (i/8) hi]
 have e2:le n=le (n.take (i/8))+256^(i/8)*((n[i/8]!).toNat+256*le (n.drop (i/8+1))):=by
  conv=>lhs;rw [e1]
  rw [gR,aU,cM (by omega)]
  rfl
 have h1:=n5 (n.take (i/8));rw [aU,cM (by omega)] at h1
 have e3:(2:Nat)^i=256^(i/8)*2^(i%8):=by
  rw [show(256:Nat)=2^8 by decide,<-Nat.pow_mul,<-j9]
  congr 1
  omega
 rw [e2,e3,<-Nat.div_div_eq_div_mul,pN _ _ (by exact tO (by decide)),Nat.div_eq_of_lt h1,aZ];have h8:i%8<8:=Nat.mod_lt _ (by decide);generalize (n[i/8]!).toNat=c;generalize le (n.drop (i/8+1))=d;generalize i%8=k at *
 have e4:(256:Nat)=2^k*2^(8-k):=by
  rw [<-j9,show k+(8-k)=8 by omega]
 rw [e4,Nat.mul_assoc,pN _ _ (tO (by decide))]
 have e5:2^(8-k)*d=2*(2^(7-k)*d):=by
  rw [show 8-k=(7-k)+1 by omega,cN]
  grind only
 rw [e5]
 omega
def cutb(b:List UInt8):List UInt8:=b.set 31 (bK ((b[31]!).toNat%128))
theorem cutb_len{b:List UInt8}(hb:b.length=32):(cutb b).length=32:=by rw [cutb,bQ,hb]
theorem le_cutb{b:List UInt8}(hb:b.length=32):le b=le (cutb b)+57896044618658097711785492504343953926634992332820282019728792003956564819968*((b[31]!).toNat/128)/\le (cutb b)<57896044618658097711785492504343953926634992332820282019728792003956564819968:=by
 have h1:=le_top hb;have h2:=sQ hb;have h3:=wG hb (bK ((b[31]!).toNat%128));rw [lG (by show _<256;omega)] at h3
 unfold cutb
 omega
theorem good_cutb{b:List UInt8}(hb:b.length=32):isGood (cutb b)=decide (le (cutb b)<p):=by
 have h:=(le_cutb hb).2;have hl:=cutb_len hb;have h128:=(sI hl).2 h
 unfold isGood
 rw [aY h,decide_eq_true h128,Bool.true_and]
 congr 1
 refine propext ⟨λe=>?_,λe=>?_⟩
 ·rw [<-e,mP]
  exact(fof _).isLt
 ·exact(wW hl (x:=fof (le (cutb b))) (by rw [j3,aY e])).symm
theorem not_good{b:List UInt8}(hb:b.length=32)(h:¬le (cutb b)<p):¬ ∃A,Ed.On dd A/\fB A=b:=by
 rintro⟨A,_,rfl⟩
 have h1:=le_cutb hb;rw [k9] at h1
 unfold nF at h1
 have h2:=A.y.isLt;have h3:=uR
 omega
structure DecR(b:List UInt8) where
  P:PtV
  e:Int
  ok:(∃A,QB P.l A/\P.Ok/\fB A=b/\e=0)\/((¬ ∃A,Ed.On dd A/\fB A=b)/\P=⟨zl,zl,zl,zl⟩/\e=50)
abbrev decP(b:List UInt8):Post (DecR b):={ ret:=λr=>.t [ePt r.P,.c (.v (.int .i64 r.e))] }
theorem newno_C{F:World->Prop}[Pst F]{b:List UInt8}(hb:b.length=32)(hg:isGood b=false):Ct F 136 [eY 32 b] noP:=new_W hb (λh=>by
 rw [hg] at h
 cases h) λ_=>⟨(),rfl⟩
theorem own_decodeC:Own 106:=λ_ _=>by go_simp
theorem decode_C{b:List UInt8}(hb:b.length=32):Ct Tw 106 [eY 32 b] (decP b):=⟨own_decodeC,by
 refine zQ [eY 32 b] 57 Tryz.func106 rfl (by rw [Tryz.ntmps106];rfl) (one_ok (eY_ok hb).1) λB=>?_;have hle:=le_cutb hb;have hgc:=good_cutb hb;have hcl:=cutb_len hb;have hlt:=(b[31]!).toNat_lt;have h31:(catP [.agg 32 (By b).toArray])[31]?=some (.int .u8 (b[31]!.toNat:Int)):=By_get (l:=b) (j:=31) (by omega);obtain⟨od,hod⟩:∃od:Bool,decide (jV (b[31]!.toNat:Int) (2^min 7 IntKind.u8.bits)=1)=od:=⟨_,rfl⟩
 have hod2:od=decide (b[31]!.toNat/128=1):=by
  rw [<-hod];refine decide_eq_decide.2 ?_
  show jV (b[31]!.toNat:Int) 128=1↔_
  rw [rQ _ (by decide)]
  omega
 refine zA rfl ?_;refine s_reg λK hK=>?_;refine l_cell rfl arr32 (aC rfl) _ h31 ?_;refine l_auto2 rfl ?_;refine l_eq 4 (.b od) rfl (congrArg _ hod) (zJ (hK _ ?_));refine s_reg λK hK=>?_;refine l_cell rfl arr32 (aC rfl) _ h31 ?_;refine l_auto2 rfl ?_;refine l_put rfl arr32 (aC rfl) [.agg 32 (By (cutb b)).toArray] (eY_ok hcl).1 ?_ ?_ (zJ (hK _ ?_))
 ·show _<(By b).toArray.size
  rw [len_by hb];exact aC rfl
 ·show By (cutb b)=(By b).set 31 (.int .u8 (bits .and .u8 (b[31]!.toNat:Int) 127))
  rw [low7 _ hlt,cutb,By,By,dM,lG (by show _<256;omega)]
 refine s_reg λK hK=>?_
 by_cases hg:le (cutb b)<p
 ·have hle2:le b=(fof (le (cutb b))).val+57896044618658097711785492504343953926634992332820282019728792003956564819968*(b[31]!.toNat/128):=by rw [j3,aY hg];exact hle.1
  refine l_X (newc_C (x:=fof (le (cutb b))) hcl (by rw [hgc,decide_eq_true hg]) (by rw [aY hle.2])) (λ_=>rfl) rfl λ⟨r,v⟩=>?_;generalize fof (le (cutb b))=y at *;refine l_N hK rfl ?_;refine zM λK0 hK0=>?_;refine zA rfl ?_;refine s_no rfl (zO (hK0 _ ?_));refine s_N 4 [(7,193),(8,193)] (by kernel_rfl) λK hK G S w0 hst=>?_;refine n_X hst small1_C rfl λ⟨r1,v1⟩=>?_;refine n_X hst (mul_C v v) rfl λ⟨r2,v2⟩=>?_;refine n_N hst rfl hK rfl ?_;refine s_T (x:=.tmp 40) (z:=.tmp 41) 12 9 6 193 (by kernel_rfl) λK hK G S w0 hst=>?_;refine n_X hst (sub_C v2 v1) rfl λ⟨r3,v3⟩=>?_;refine n_X hst factor_C rfl λ⟨r4,v4⟩=>?_;refine n_X hst (mul_C v2 v4) rfl λ⟨r5,v5⟩=>?_;refine n_X hst (add_C v5 v1) rfl λ⟨r6,v6⟩=>?_
  rcases croot_C v3 v6 with⟨x,hev,hon,hR⟩|⟨hno,hR⟩
  ·refine n_X hst hR rfl λ⟨r7,v7⟩=>?_
   refine n_T hst hK rfl ?_;refine zM λK0 hK0=>?_;refine zA rfl ?_;refine s_no rfl (zO (hK0 _ ?_));refine zM λK0 hK0=>?_;refine zA rfl ?_
   cases od with
   | false =>
    refine s_if false rfl (λh=>by cases h) (λ_=>?_);refine zO (hK0 _ (zM λK0 hK0=>?_));refine s_reg λK hK=>?_;refine l_X (odd_C v7) (λ_=>rfl) rfl λ_=>?_;refine l_auto2 rfl ?_;refine l_op (.b (!(_==_))) trivial rfl rfl rfl (run_neqBoolW rfl rfl rfl (λ_=>rfl) λ_=>rfl) ?_;refine l_is 52 false rfl (by rw [decide_eq_false (by omega)];rfl) (zJ (hK _ ?_));refine s_no rfl (zO (hK0 _ ?_));refine s_reg λK hK=>?_;refine l_X (at_C v7 v hon) (λ_=>rfl) rfl λ⟨P,hP⟩=>?_;refine l_N hK rfl (zP ?_)
    have h00:b[31]!.toNat/128=0:=by have:=of_decide_eq_false hod2.symm;omega
    exact zR zY (⟨P,0,.inl ⟨_,hP.1,hP.2,dec_enc hb (s:=0) (by rw [<-h00];exact hle2) hev,rfl⟩⟩:DecR b) rfl (by decide) rfl rfl rfl (λ_ _ _=>trivial) λ_ _=>trivial
   | true =>
    have h01:b[31]!.toNat/128=1:=of_decide_eq_true hod2.symm;rw [h01] at hle2;refine s_if true rfl (λ_=>?_) (λh=>by cases h);refine s_lit ?_;refine l_X (sub_C eb_zero v7) (λ_=>rfl) rfl λ⟨r8,v8⟩=>?_;refine l_auto2 rfl (zJ (hK0 _ ?_));refine zM λK0 hK0=>?_;refine s_reg λK hK=>?_;refine l_X (odd_C v8) (λ_=>rfl) rfl λ_=>?_;refine l_auto2 rfl ?_;refine l_op (.b (!(_==_))) trivial rfl rfl rfl (run_neqBoolW rfl rfl rfl (λ_=>rfl) λ_=>rfl) ?_
    by_cases hx0:x=0
    ·refine l_is 52 true rfl (by rw [hx0];decide) (zJ (hK _ ?_))
     refine s_yes rfl ?_;refine zA rfl (zP ?_);refine zR zY (⟨⟨zl,zl,zl,zl⟩,50,.inr ⟨?_,rfl,rfl⟩⟩:DecR b) rfl (by decide) rfl rfl rfl (λ_ _ _=>trivial) λ_ _=>trivial
     rintro⟨A,hA,hAb⟩
     obtain⟨e1,e2⟩:=dec_y hle2 hAb
     have h3:Ed.On dd ⟨A.x,y⟩:=by rw [<-e1];exact hA
     have h4:=on_vxx.1 h3;have h5:=on_vxx.1 hon;rw [<-h5,hx0] at h4
     have h6:A.x=0:=by
      by_cases h:A.x=0
      ·exact h
      ·exact absurd (h4.trans (by grind only)) (cP c7 (cP c7 (sF y) h) h)
     rw [h6] at e2
     revert e2
     decide
    ·have hpo:(0-x:Nums.F).val%2=1:=by rw [show(0-x:Nums.F) = -x from by grind only,oK hx0,hev]
     refine l_is 52 false rfl (by rw [decide_eq_true hpo];rfl) (zJ (hK _ ?_));refine s_no rfl (zO (hK0 _ ?_));refine s_reg λK hK=>?_
     have hon2:Ed.On dd ⟨0-x,y⟩:=by rw [show(0-x:Nums.F) = -x from by grind only];exact Ed.k8 hon
     refine l_X (at_C v8 v hon2) (λ_=>rfl) rfl λ⟨P,hP⟩=>?_;refine l_N hK rfl (zP ?_);exact zR zY (⟨P,0,.inl ⟨_,hP.1,hP.2,dec_enc hb (s:=1) hle2 hpo,rfl⟩⟩:DecR b) rfl (by decide) rfl rfl rfl (λ_ _ _=>trivial) λ_ _=>trivial
  ·refine n_X hst hR rfl λ_=>?_
   refine n_T hst hK rfl ?_;refine zM λK0 hK0=>?_;refine zA rfl ?_;refine s_yes rfl ?_;refine zA rfl (zP ?_);refine zR zY (⟨⟨zl,zl,zl,zl⟩,50,.inr ⟨?_,rfl,rfl⟩⟩:DecR b) rfl (by decide) rfl rfl rfl (λ_ _ _=>trivial) λ_ _=>trivial
   rintro⟨A,hA,hAb⟩
   obtain⟨e1,_⟩:=dec_y hle2 hAb;exact hno A.x (by rw [<-e1];exact hA)
 ·refine l_X (newno_C hcl (by rw [hgc,decide_eq_false hg])) (λ_=>rfl) rfl λ_=>?_
  refine l_N hK rfl ?_;refine zM λK0 hK0=>?_;refine zA rfl ?_;refine s_yes rfl ?_;refine zA rfl (zP ?_)
  exact zR zY (⟨⟨zl,zl,zl,zl⟩,50,.inr ⟨not_good hb hg,rfl,rfl⟩⟩:DecR b) rfl (by decide) rfl rfl rfl (λ_ _ _=>trivial) λ_ _=>trivial⟩
def Ds(l:List Nat):List Value:=l.map λx:Nat=>.int .u8 (x:Int)
theorem Ds_len(l:List Nat):(Ds l).length=l.length:=by simp [Ds]
theorem Ds_get{l:List Nat}{j:Nat}(h:j<l.length):(Ds l).toArray[j]?=some (.int .u8 (l[j]! : Nat)):=by simp [Ds,h]
theorem Ds_one(l:List Nat):∀u∈Ds l,u.oneCell'=true:=by
 intro u hu
 obtain⟨x,_,rfl⟩:=bP.1 hu
 rfl
theorem Ds_oneA(l:List Nat):∀v∈(Ds l).toArray.toList,v.oneCell'=true:=λv hv=>Ds_one l v (by simpa using hv)
theorem Ds_size{l:List Nat}{n:Nat}(h:l.length=n):(Ds l).toArray.size=n:=by rw [aT,Ds_len,h]
theorem low1(m:Nat)(h:m<256):bits .and .u8 (m:Int) 1=((m%2:Nat):Int):=by
 have key:∀m:Nat,m<256->bits .and .u8 (m:Int) 1=((m%2:Nat):Int):=by decide +kernel
 exact key m h
theorem shl1(k:Nat)(h:k<4):IntKind.u8.wrap (1*2^k)=((2^k:Nat):Int):=by
 have hk:k=0\/k=1\/k=2\/k=3:=by omega
 rcases hk with rfl|rfl|rfl|rfl<;>decide
theorem orK(k x:Nat)(hk:k<4)(hx:x<2^k):bits .or .u8 (x:Nat) ((2^k:Nat):Int)=((x+2^k:Nat):Int):=by
 have k0:∀x:Nat,x<1->bits .or .u8 (x:Int) 1=((x+1:Nat):Int):=by decide +kernel
 have k1:∀x:Nat,x<2->bits .or .u8 (x:Int) 2=((x+2:Nat):Int):=by decide +kernel
 have k2:∀x:Nat,x<4->bits .or .u8 (x:Int) 4=((x+4:Nat):Int):=by decide +kernel
 have k3:∀x:Nat,x<8->bits .or .u8 (x:Int) 8=((x+8:Nat):Int):=by decide +kernel
 have hk':k=0\/k=1\/k=2\/k=3:=by omega
 rcases hk' with rfl|rfl|rfl|rfl
 ·exact k0 x hx
 ·exact k1 x hx
 ·exact k2 x hx
 ·exact k3 x hx
theorem dg_nat{N i:Nat}{f:Int}{d:List Nat}(h:DG N i f d)(hf:¬f+4<=(i:Int)):∃m:Nat,f=m:=by
 rcases h.last with h|⟨m,h,_⟩
 ·exact absurd h (by omega)
 ·exact⟨m,h⟩
theorem arr256:Arr 238 256:=⟨_,Tryz.underlying238,by kernel_rfl⟩
theorem own_digits:Own 168:=λ_ _=>by go_simp
abbrev eDs(d:List Nat):SQ:=.p [.agg 256 (Ds d).toArray]
theorem eDs_ok{d:List Nat}(h:d.length=256):OkP [.agg 256 (Ds d).toArray]:=λq hq=>by
 rw [aE.1 hq];exact⟨Ds_size h,Ds_oneA d⟩
abbrev digP(b:List UInt8):Post {d:List Nat // d.length=256/\iX d=le b/\∀j,j<256->d[j]! = 0\/(d[j]! % 2=1/\d[j]! < 16)}:={ ret:=λd=>.q (eDs d.1) }
theorem By_Ds(n:Nat):By (aA n 0)=Ds (aA n 0):=by simp [By,Ds]
theorem By_get0{n:Nat}{l:List UInt8}{j:Nat}(h:j<l.length):(catP [.agg n (By l).toArray])[0+j]?=some (.int .u8 ((l[j]!).toNat:Int)):=by
 rw [aZ];exact By_get h
theorem Ds_get0{n:Nat}{l:List Nat}{j:Nat}(h:j<l.length):(catP [.agg n (Ds l).toArray])[0+j]?=some (.int .u8 (l[j]! : Nat)):=by
 rw [aZ];exact Ds_get h
theorem bit_fdiv{c i:Nat}(h:c<256)(hi:i<=8):bits .and .u8 (jV (c:Int) (2^min i IntKind.u8.bits)) 1=((c/2^i%2:Nat):Int):=by
 have e:jV (c:Int) (2^min i IntKind.u8.bits)=((c/2^i:Nat):Int):=by
  rw [show min i IntKind.u8.bits=i from cM hi,rQ _ (Int.pow_nonneg (by decide))]
  simp
 rw [e,low1 _ (Nat.lt_of_le_of_lt (Nat.div_le_self _ _) h)]
theorem digits_C{F:World->Prop}[Pst F]{b:List UInt8}(hb:b.length=32):Ct F 168 [eY 32 b] (digP b):=⟨own_digits,by
 refine zQ [eY 32 b] 34 Tryz.func168 rfl (by rw [Tryz.ntmps168];rfl) (one_ok (eY_ok hb).1) λB=>?_;refine zA rfl (zA rfl ?_);refine zA rfl (zM λK1 hK1=>?_);refine zA rfl (zN ?_)
 let P:Nat×Int×List Nat×Array Value->Env:=λs=>⟨[(6,.v (.int .i64 (s.1:Int))),(4,.v (.int .i64 s.2.1)),(1,.a 1 0),(2,.a 2 0),(3,.a 3 0)],[⟨3,none,238,[.agg 256 s.2.2.2]⟩,⟨2,none,238,[.agg 256 (By (aA 256 0)).toArray]⟩,⟨1,none,45,[.agg 32 (By b).toArray]⟩],[],F,λ_=>True⟩
 refine c_weak (e':=P (0, -4,aA 256 0,(By (aA 256 0)).toArray)) ⟨zE rfl, zL rfl rfl, .refl _,λ_ h _=>h, zU⟩ (s_loop (λs=>256-s.1) P (λs=>s.1<=256/\DG (le b) s.1 s.2.1 s.2.2.1/\s.2.2.2=(Ds s.2.2.1).toArray) ?_ (0, -4,aA 256 0,(By (aA 256 0)).toArray) ⟨aI _,DG.start _,congrArg List.toArray (By_Ds 256)⟩)
 rintro⟨i,f,d,D⟩ ⟨hi,hD,hd⟩
 dsimp only at hi hD hd
 subst hd;refine zA rfl (zM λK2 hK2=>?_);refine zW ((i:Int)<256) rfl (λhlt=>?_) (λhge=>?_)
 ·have hin:i<256:=by omega
  refine zO (hK2 _ (zM λK3 hK3=>?_));refine zN (zA rfl ?_);refine zM λK4 hK4=>?_;refine s_reg λK hK=>?_;refine l_auto2 rfl ?_;refine l_num 10 ((i/8:Nat):Int) rfl (wrapQ i 8 (by omega)) ?_;refine l_cell rfl arr32 (by show i/8<32;omega) _ (By_get0 (l:=b) (j:=i/8) (by omega)) ?_;refine l_auto2 rfl ?_;have hbit:=le_bit (n:=b) i (by omega);have hx:=bit_fdiv (c:=b[i/8]!.toNat) (i:=i%8) (cQ _) (by omega);rw [hbit] at hx
  refine l_eq 17 (.b (decide (le b/2^i%2=0))) rfl (by
   show SV.b (decide (bits .and .u8 (jV (b[i/8]!.toNat:Int) (2^min (i%8) IntKind.u8.bits)) 1=0))=_
   rw [hx]
   exact congrArg SV.b (decide_eq_decide.2 (by omega))) (zJ (hK _ ?_))
  have hw1:IntKind.i64.wrap ((i:Int)+1)=((i+1:Nat):Int):=addI i 1 (by omega);refine zW (le b/2^i%2=0) rfl (λhz=>?_) (λhz=>?_)
  ·refine s_exit (zS (k_out (hK3 _ ?_)))
   refine zD rfl ?_;exact zX (i+1,f,d,(Ds d).toArray) ⟨hin,hD.zero hz,rfl⟩ (by show 256-(i+1)<256-i;omega) ⟨⟨congrArg (λx=>some (SV.v (.int .i64 x))) hw1,rfl,rfl,rfl,rfl,trivial⟩,zL rfl rfl, .refl _,λ_ h _=>h,λ_ h=>h⟩
  ·refine zO (hK4 _ ?_)
   refine zM λK5 hK5=>?_
   have hb1:le b/2^i%2=1:=by omega
   have hf4:IntKind.i64.wrap (f+4)=f+4:=by rcases hD.last with h|⟨m,h,hm,_⟩<;>rw [i64_left,wrap64_in _ (by omega)]
   refine s_reg λK hK=>?_;refine l_auto2 rfl ?_;refine l_eq 21 (.b (decide ((i:Int)>=f+4))) rfl (by rw [hf4]) (zJ (hK _ ?_))
   have go:∀(m:Nat) (hm:m<=i) (h4:i-m<4) (hdm:d[m]! < 2^(i-m)) (hD2:DG (le b) (i+1) m (d.set m (d[m]! + 2^(i-m)))) e,SubS ((6,.v (.int .i64 (i:Int)))::(5,.v (.int .i64 (i:Int)))::(4,.v (.int .i64 (m:Int)))::(1,.a 1 0)::(2,.a 2 0)::(3,.a 3 0)::[]) e->kS B K5 34 ⟨e,(P (i,f,d,(Ds d).toArray)).L,[],F,λ_=>True⟩:=λm hm h4 hdm hD2 e he=>by
    refine k_weak (e':=⟨[(6,.v (.int .i64 (i:Int))),(5,.v (.int .i64 (i:Int))),(4,.v (.int .i64 (m:Int))),(1,.a 1 0),(2,.a 2 0),(3,.a 3 0)],(P (i,f,d,(Ds d).toArray)).L,[],F,λ_=>True⟩) ⟨he,zL rfl rfl, .refl _,λ_ h _=>h,λ_ h=>h⟩ (hK5 _ ?_);have hdl:=hD.len;refine s_drawnN 9 (by kernel_rfl) λG S w0 hst=>?_;refine n_auto2 hst rfl ?_;refine n_cell hst rfl arr256 (by show m<256;omega) _ (Ds_get0 (l:=d) (j:=m) (by omega)) ?_;refine n_auto zY hst rfl ?_;refine n_num 28 ((i-m:Nat):Int) rfl (subI i m hm (by omega)) ?_;refine n_auto2 hst rfl ?_;refine n_num 30 ((d[m]! + 2^(i-m):Nat):Int) rfl ?_ ?_
    ·show bits .or .u8 (d[m]! : Int) (IntKind.u8.wrap (1*2^min (i-m) IntKind.u8.bits))=_
     rw [show min (i-m) IntKind.u8.bits=i-m from cM (by show i-m<=8;omega),shl1 _ h4,orK _ _ h4 hdm]
    refine n_ix hst rfl arr256 (by show m<256;omega) ?_;refine n_L hst rfl ?_;refine l_st1 rfl [.agg 256 (Ds (d.set m (d[m]! + 2^(i-m)))).toArray] (eDs_ok (by rw [bQ,hdl])) ?_ ?_ (zJ ?_)
    ·show 0+m<(Ds d).toArray.size
     rw [Ds_size hdl]
     omega
    ·show Ds (d.set m _)=(Ds d).set (0+m) _
     rw [aZ,Ds,dM]
     rfl
    refine hK3 _ ?_;refine zD rfl ?_;exact zX (i+1,m,d.set m (d[m]! + 2^(i-m)),_) ⟨hin,hD2,rfl⟩ (by show 256-(i+1)<256-i;omega) ⟨⟨congrArg (λx=>some (SV.v (.int .i64 x))) hw1,rfl,rfl,rfl,rfl,trivial⟩,zL rfl rfl, .refl _,λ_ h _=>h,λ_ h=>h⟩
   refine zW ((i:Int)>=f+4) rfl (λhge=>?_) (λhge=>?_)
   ·refine s_lit (l_auto2 rfl (zJ ?_))
    have hd0:=hD.hi i (aF _) hin;refine go i (aF _) (by omega) (by rw [hd0];exact Nat.two_pow_pos _) (by rw [hd0,Nat.sub_self];exact hD.fresh hin hb1) _ ⟨rfl,rfl,rfl,rfl,rfl,rfl,trivial⟩
   ·obtain⟨m,rfl⟩:=dg_nat hD (by omega)
    obtain⟨hmi,hdm,hD2⟩:=hD.more hin hb1 (by omega);exact zO (go m (by omega) (by omega) hdm hD2 _ ⟨rfl,rfl,rfl,rfl,rfl,rfl,trivial⟩)
 ·obtain rfl:i=256:=by omega
  have hsum:iX d=le b:=by have h1:=n5 b;rw [hb,show(256:Nat)^32=2^256 from by decide] at h1;rw [hD.sum,aY h1]
  refine s_exit (zS (zS (k_out (hK1 _ ?_))));refine zA rfl (zP ?_)
  exact zR zY ⟨d,hD.len,hsum,hD.odd⟩ rfl (by decide) rfl rfl rfl (λ_ _ _=>trivial) λ_ _=>trivial⟩
theorem ePt_ok{P:PtV}(h:P.Ok):OkP (ePt P).parts1/\(ePt P).cl.length=20:=⟨h.ps,by
 show(ePt P).den.cells.toList.length=20
 rw [den_pt]
 show(Us P.l).length=20
 rw [Us_len]
 exact pc_len h.X h.Y h.Z h.T⟩
structure RS where
  M:List PtV
  d:List Nat
  A:Ed.Pt p
structure RS.Ok(r:RS):Prop where
  m8:r.M.length=8
  ms:∀j P,r.M[j]?=some P->P.Ok/\AB P.l (Ed.mul dd (2*j+1) r.A)
  dl:r.d.length=256
  odd:∀j,j<256->r.d[j]! = 0\/(r.d[j]! % 2=1/\r.d[j]! < 16)
  on:Ed.On dd r.A
abbrev eRow(M:List PtV)(d:List Nat):SQ:=.p [.agg 160 (flatF ePt M).toArray,.agg 256 (Ds d).toArray]
theorem eRow_ok{M:List PtV}{d:List Nat}(h:OkF 20 ePt M)(hm:M.length=8)(hd:d.length=256):OkP (eRow M d).parts1:=λq hq=>by
 rcases aL.1 hq with rfl|hq
 ·exact⟨by show(flatF ePt M).toArray.size=160;rw [aT,flatF_len h,hm],λv hv=>flatF_one h v hv⟩
 ·exact eDs_ok hd q hq
abbrev rowP(A:Ed.Pt p)(b:List UInt8):Post {r:RS // r.Ok/\r.A=A/\iX r.d=le b}:={ ret:=λr=>.q (eRow r.1.M r.1.d) }
theorem own_row:Own 139:=λ_ _=>by go_simp
def z8P:List PtV:=aA 8 ⟨zl,zl,zl,zl⟩
theorem row_C{P:PtV}{A:Ed.Pt p}{b:List UInt8}(h:PB P.l A)(hP:P.Ok)(hb:b.length=32):Ct Tw 139 [ePt P,eY 32 b] (rowP A b):=⟨own_row,by
 refine zQ [ePt P,eY 32 b] 27 Tryz.func139 rfl (by rw [Tryz.ntmps139];rfl) (two_ok hP.ps (eY_ok hb).1) λB=>?_;refine zA rfl ?_;refine s_reg λK hK=>?_;refine l_X (digits_C hb) (λ_=>rfl) rfl λ⟨d,hd,hs,ho⟩=>?_;refine l_N hK rfl ?_;refine s_reg λK hK=>?_;refine l_X (doubled_C h hP 1 (by decide)) (λ_=>rfl) rfl λ⟨P2,h2,hP2⟩=>?_;refine l_X (addend_C h2 hP2) (λ_=>rfl) rfl λ⟨W,hW,hWo⟩=>?_;refine l_N hK rfl ?_;refine zM λK1 hK1=>?_;refine zA rfl (zN ?_);have hon:=h.on
 have h0:(aA 160 (bM .u64 0)).toArray=(flatF ePt z8P).toArray:=by kernel_rfl
 have hz0:(⟨zl,zl,zl,zl⟩:PtV).Ok:=⟨rfl,rfl,rfl,rfl⟩
 let V:Nat×PtV×List PtV×Array Value->Env:=λs=>⟨[(14,.v (.int .i64 (s.1:Int))),(2,.a 2 0),(4,.a 4 0),(5,.a 5 0),(6,.a 6 0)],[⟨6,none,236,W.ps⟩,⟨5,none,240,[.agg 160 s.2.2.2,.agg 256 (Ds d).toArray]⟩,⟨4,none,240,[.agg 160 (aA 160 (bM .u64 0)).toArray,.agg 256 (By (aA 256 0)).toArray]⟩,⟨2,none,195,s.2.1.ps⟩],[],Tw,λ_=>True⟩
 refine c_weak (e':=V (0,P,z8P,(aA 160 (bM .u64 0)).toArray)) ⟨zE rfl, zL rfl rfl, .refl _,λ_ h _=>h, zU⟩ (s_loop (λs=>8-s.1) V (λs=>s.1<=8/\PB s.2.1.l (Ed.mul dd (2*s.1+1) A)/\s.2.1.Ok/\s.2.2.1.length=8/\OkF 20 ePt s.2.2.1/\(∀j P,j<s.1->s.2.2.1[j]?=some P->P.Ok/\AB P.l (Ed.mul dd (2*j+1) A))/\s.2.2.2=(flatF ePt s.2.2.1).toArray) ?_ (0,P,z8P,(aA 160 (bM .u64 0)).toArray) ⟨aI _,by rw [Nat.mul_zero,aZ,Ed.rE good];exact h,hP,List.length_replicate,λx hx=>by rw [List.eq_of_mem_replicate hx];exact ePt_ok hz0,λ_ _ h=>absurd h (by omega),h0⟩);clear h hP P
 rintro⟨i,P,M,C⟩ ⟨hi,h,hP,hm,hM,hj,hC⟩
 dsimp only at hi h hP hm hM hj hC
 subst hC;refine zA rfl (zM λK2 hK2=>?_);refine zW ((i:Int)<8) rfl (λhlt=>?_) (λhge=>?_)
 ·have hin:i<8:=by omega
  refine zO (hK2 _ (zM λK3 hK3=>?_));refine zN (zA rfl ?_);refine s_reg λK hK=>?_;refine l_X (addend_C h hP) (λ_=>rfl) rfl λ⟨Q,hQ,hQo⟩=>?_;refine l_auto2 rfl ?_;refine l_op (.a 5 (0+20*i)) trivial rfl rfl rfl (runO_ixA i rfl Tryz.underlying237 (by kernel_rfl) rfl rfl hin) ?_;rw [aZ];refine l_stF Q rfl rfl rfl rfl rfl hM (ePt_ok hQo) (by rw [hm];exact hin) ?_;refine zJ (hK _ (s_lit ?_));refine l_X (plus_C h hP hW hWo) (λ_=>rfl) rfl λ⟨P',h',hP'⟩=>?_;refine l_auto2 rfl (zJ (hK3 _ ?_));refine zD rfl ?_;refine zX (i+1,P',M.set i Q,(flatF ePt (M.set i Q)).toArray) ⟨hin,?_,hP',by rw [bQ,hm],hM.set (ePt_ok hQo),λj P hji hp=>?_,rfl⟩ (by show 8-(i+1)<8-i;omega) ⟨⟨congrArg (λx=>some (SV.v (.int .i64 x))) (addI i 1 (by omega)),rfl,rfl,rfl,rfl,trivial⟩,zL rfl rfl, .refl _,λ_ h _=>h,λ_ h=>h⟩
  ·show PB P'.l (Ed.mul dd (2*(i+1)+1) A)
   rw [show 2*(i+1)+1=(2*i+1)+2^1 by omega,Ed.mul_add good hon];exact .inr h'
  ·by_cases e:i=j
   ·subst e
    have hp:(M.set i Q)[i]?=some P:=hp;rw [List.getElem?_set_self (by rw [hm];exact hin)] at hp
    cases hp
    exact⟨hQo,hQ⟩
   ·have hp:(M.set i Q)[j]?=some P:=hp
    rw [List.getElem?_set_ne e] at hp;have hji:j<i+1:=hji;exact hj j P (by omega) hp
 ·obtain rfl:i=8:=by omega
  refine s_exit (zS (zS (k_out (hK1 _ ?_))));refine zA rfl (zP ?_)
  exact zR zY ⟨⟨M,d,A⟩,⟨hm,λj P hp=>hj j P (by rw [<-hm];exact(bA.1 hp).1) hp,hd,ho,hon⟩,rfl,hs⟩ rfl (by decide) rfl rfl rfl (λ_ _ _=>trivial) λ_ _=>trivial⟩
theorem quo2(v:Nat)(h:v<16):IntKind.u8.wrap ((v:Int).tdiv 2)=((v/2:Nat):Int):=by
 have key:∀v:Nat,v<16->IntKind.u8.wrap ((v:Int).tdiv 2)=((v/2:Nat):Int):=by decide +kernel
 exact key v h
def dOf(rs:List RS)(j:Nat):List Nat:=(rs[j]?.map RS.d).getD []
theorem dOf_at{rs:List RS}{j:Nat}{r:RS}(h:rs[j]?=some r):dOf rs j=r.d:=by rw [dOf,h];rfl
theorem on_as{rs:List RS}(h:∀r∈rs,r.Ok):∀A∈rs.map RS.A,Ed.On dd A:=λA hA=>by
 obtain⟨r,hr,rfl⟩:=bP.1 hA;exact(h r hr).on
def above(rs:List RS)(k:Nat):Ed.Pt p:=Ed.tot dd (rs.map RS.A) 0 λm=>iX ((dOf rs m).drop k)
def tpart(rs:List RS)(k j:Nat):Ed.Pt p:=Ed.tot dd (rs.map RS.A) 0 λm=>if m<j then iX ((dOf rs m).drop k) else 2*iX ((dOf rs m).drop (k+1))
theorem above_end{rs:List RS}(h:∀r∈rs,r.Ok):above rs 256=Ed.zero:=by
 refine Ed.qW good λj _ hj=>?_;rw [List.length_map,aZ] at hj;rw [dOf_at (aK hj),List.drop_of_length_le (by rw [(h _ (o9 hj)).dl];exact aF _)]
 rfl
theorem tpart_zero{rs:List RS}(h:∀r∈rs,r.Ok)(k:Nat):tpart rs k 0=Ed.add dd (above rs (k+1)) (above rs (k+1)):=by
 rw [above,<-Ed.sH good (on_as h)];exact Ed.l6 λj _ _=>if_neg (by omega)
theorem tpart_all{rs:List RS}(k:Nat):tpart rs k rs.length=above rs k :=
 Ed.l6 λj _ hj=>if_pos (by simpa using hj)
theorem tpart_step{rs:List RS}(h:∀r∈rs,r.Ok){k j:Nat}{r:RS}(hj:rs[j]?=some r)(hk:k<256):tpart rs k (j+1)=Ed.add dd (tpart rs k j) (Ed.mul dd r.d[k]! r.A):=by
 refine Ed.qX good (on_as h) 0 j r.d[k]! _ _ r.A (by rw [List.getElem?_map,hj];rfl) ?_ λm hm=>?_
 ·simp only [aZ]
  rw [if_pos (by omega),if_neg (by omega),dOf_at hj,s6 (by rw [(h r (List.mem_of_getElem? hj)).dl];exact hk),Nat.add_comm]
 ·simp only [aZ] at hm
  by_cases e:m<j
  ·rw [if_pos (by omega),if_pos e]
  ·rw [if_neg (by omega),if_neg e]
theorem tpart_same{rs:List RS}(h:∀r∈rs,r.Ok){k j:Nat}{r:RS}(hj:rs[j]?=some r)(hk:k<256)(h0:r.d[k]! = 0):tpart rs k (j+1)=tpart rs k j:=by
 rw [tpart_step h hj hk,h0,Ed.mZ,Ed.add_zero good]
theorem size_A{l:List Nat}(h:l.length=20):(Tryz.prog.info? 236).map (·.size)=some (Us l).toArray.size:=size_ad (us_size h)
abbrev eRS(r:RS):SQ:=eRow r.M r.d
theorem RS.Ok.okF{r:RS}(h:r.Ok):OkF 20 ePt r.M:=λP hP=>by
 obtain⟨j,hj,rfl⟩:=List.getElem_of_mem hP;exact ePt_ok (h.ms j _ (aK hj)).1
theorem RS.Ok.row{r:RS}(h:r.Ok):OkP (eRS r).parts1:=eRow_ok h.okF h.m8 h.dl
theorem RS.cl{r:RS}:(eRS r).cl=flatF ePt r.M++Ds r.d:=by
 show(catP [.agg 160 (flatF ePt r.M).toArray,.agg 256 (Ds r.d).toArray]).toList=_
 rw [catP_cons]
 simp [Pt.cells,catP]
theorem RS.Ok.flat{r:RS}(h:r.Ok):(flatF ePt r.M).length=160:=by rw [flatF_len h.okF,h.m8]
section
variable{rs:List RS}{gs go c:Nat}{w:World}{j:Nat}{r:RS}
theorem rs_digit(h:Rd 416 eRS (some ⟨gs,go,none⟩) c rs w)(hj:rs[j]?=some r)(hr:r.Ok){m:Nat}(hm:m<256):w.cell? ⟨gs,go+416*j+160+1*m,none⟩=some (.int .u8 (r.d[m]! : Nat)):=by
 obtain⟨b,o,e,_,h1⟩:=h.2.2.2.2 (by have:=(bA.1 hj).1;omega)
 cases e
 have h2:=h1 j r hj (160+m) (.int .u8 (r.d[m]! : Nat)) (by
  rw [RS.cl,List.getElem?_append_right (by rw [hr.flat];omega),hr.flat,Nat.add_sub_cancel_left];have:=Ds_get (l:=r.d) (j:=m) (by rw [hr.dl];exact hm)
  simpa using this)
 rw [show go+416*j+160+1*m=go+416*j+(160+m) by omega];exact h2
theorem rs_mult(h:Rd 416 eRS (some ⟨gs,go,none⟩) c rs w)(hj:rs[j]?=some r)(hr:r.Ok){i:Nat}{P:PtV}(hi:r.M[i]?=some P):w.rangeAt gs (go+416*j+0+20*i) (catP P.ps).toList:=by
 obtain⟨b,o,e,_,h1⟩:=h.2.2.2.2 (by have:=(bA.1 hj).1;omega)
 cases e
 obtain⟨A,Z,h2,h3,_⟩:=flatF_split hr.okF hi;have h4:=range_in (A:=A) (B:=(ePt P).cl) (Z:=Z++Ds r.d) (h1 j r hj) (by rw [RS.cl,h2,a6,a6]);rw [h3] at h4;rw [Nat.add_zero];exact h4
end
theorem own_total:Own 138:=λ_ _=>by go_simp
theorem total_C{rs:List RS}{A:Option Addr}{c0:Nat}(hok:∀r∈rs,r.Ok)(hlen:rs.length<4294967296):Ct (λw=>Tw w/\Rd 416 eRS A c0 rs w) 138 [.c (.v (.slice A rs.length c0))] (ptP (PB · (above rs 0))):=⟨own_total,by
 refine zQ [.c (.v (.slice A rs.length c0))] 45 Tryz.func138 rfl (by rw [Tryz.ntmps138];rfl) (one_ok trivial) λB=>?_;refine zA rfl (zA rfl ?_);refine zA rfl (zM λK1 hK1=>?_);refine zA rfl (zN ?_);have hz0:(⟨zl,zl,zl,zl⟩:PtV).Ok:=⟨rfl,rfl,rfl,rfl⟩
 let L:PtV->List LV:=λP=>[⟨3,none,195,P.ps⟩,⟨2,none,195,(⟨zl,zl,zl,zl⟩:PtV).ps⟩]
 let V:Nat×Nat×PtV->Env:=λs=>⟨[(8,.v (.int .i64 (s.1:Int))),(4,.v (.int .i64 (s.2.1:Int))),(0,.v (.slice A rs.length c0)),(2,.a 2 0),(3,.a 3 0)],L s.2.2,[],λw=>Tw w/\Rd 416 eRS A c0 rs w,λ_=>True⟩
 refine c_weak (e':=V (0,0,⟨zl,zl,zl,zl⟩)) ⟨zE rfl, zL rfl rfl, .refl _,λ_ h _=>h, zU⟩ (s_loop (λs=>256-s.1) V (λs=>s.1<=256/\s.2.1<=s.1/\s.2.2.Ok/\∃P,PB s.2.2.l P/\Ed.mul dd (2^s.2.1) P=above rs (256-s.1)) ?_ (0,0,⟨zl,zl,zl,zl⟩) ⟨aI _,aF _,hz0,Ed.zero,.inl ⟨rfl,rfl⟩,by rw [lH,Ed.mul_zero good];exact(above_end hok).symm⟩)
 rintro⟨i,c,W⟩ ⟨hi,hc,hW,P,hP,hs⟩
 dsimp only at hi hc hW hP hs
 refine zA rfl (zM λK2 hK2=>?_);refine zW ((i:Int)<256) rfl (λhlt=>?_) (λhge=>?_)
 ·refine zO (hK2 _ ?_)
  refine zM λK3 hK3=>?_;refine zN (zA rfl ?_);refine zA rfl (zA rfl ?_);refine zN ?_;obtain⟨k,hk⟩:∃k,256-i=k+1:=⟨255-i,by omega⟩
  have hk2:255-(i:Int)=(k:Int):=by omega
  let V2:Nat×Nat×PtV->Env:=λs=>⟨[(15,.v (.int .i64 (s.1:Int))),(14,.v (.int .i64 (rs.length:Int))),(5,.v (.int .i64 (i:Int))),(8,.v (.int .i64 (i:Int))),(4,.v (.int .i64 (s.2.1:Int))),(0,.v (.slice A rs.length c0)),(2,.a 2 0),(3,.a 3 0)],L s.2.2,[],λw=>Tw w/\Rd 416 eRS A c0 rs w,λ_=>True⟩
  refine c_weak (e':=V2 (0,c+1,W)) ⟨⟨rfl,rfl,rfl,rfl,congrArg (λx=>some (SV.v (.int .i64 x))) (addI c 1 (by omega)),rfl,rfl,rfl,trivial⟩,zL rfl rfl, .refl _,λ_ h _=>h,λ_ h=>h⟩ (s_loop (λs=>rs.length-s.1) V2 (λs=>s.1<=rs.length/\s.2.1<=i+1/\s.2.2.Ok/\∃P,PB s.2.2.l P/\Ed.mul dd (2^s.2.1) P=tpart rs k s.1) ?_ (0,c+1,W) ⟨aI _,by show c+1<=i+1;omega,hW,P,hP,by rw [dbl_pow hP.on,hs,hk,<-tpart_zero hok]⟩);clear hs hP hW hc P
  rintro⟨j,c2,W2⟩ ⟨hj,hc,hW,P,hP,hs⟩
  dsimp only at hj hc hW hP hs
  refine zA rfl (zM λK5 hK5=>?_);refine zW ((j:Int)<(rs.length:Int)) rfl (λhlt=>?_) (λhge=>?_)
  ·have hjn:j<rs.length:=by omega
   refine zO (hK5 _ (zM λK6 hK6=>?_));refine zN (zA rfl ?_);have hr:rs[j]?=some rs[j]:=aK hjn;have hrok:=hok _ (o9 hjn);have hodd:=hrok.odd k (by omega);have hstep:=tpart_step hok hr (k:=k) (by omega);have hsame:=tpart_same hok hr (k:=k) (by omega);generalize rs[j]=r at *;refine s_pure (∃b o,A=some ⟨b,o,none⟩) (λw h _=>by obtain⟨b,o,e,_⟩:=h.2.2.2.2.2 (by omega);exact⟨b,o,e⟩) λ⟨gs,go,hA⟩=>?_;subst hA;have hw1:IntKind.i64.wrap ((j:Int)+1)=((j+1:Nat):Int):=addI j 1 (by omega);refine s_reg λK hK=>?_;refine zB rfl ?_;refine l_num 21 (k:Int) rfl (by rw [hk2,i64_left,wrap64_in _ (by omega)]) ?_;refine l_op (.v (.pointer (some ⟨gs,go+416*j,none⟩))) trivial rfl rfl rfl (runO_ixS j rfl Tryz.underlying263 (by kernel_rfl) rfl rfl hjn) ?_;refine zB rfl ?_;refine l_op (.v (.pointer (some ⟨gs,go+416*j+160+1*k,none⟩))) trivial rfl rfl rfl (runO_ixP k rfl Tryz.underlying238 (by kernel_rfl) rfl rfl (by omega)) ?_;refine l_opV (.v (.int .u8 (r.d[k]! : Nat))) trivial rfl rfl rfl (run_ldM rfl rfl Tryz.underlying5 rfl λG S w hw=>rs_digit hw.fact.2 hr hrok (by omega)) ?_;refine l_N hK rfl ?_;refine zA rfl ?_;generalize hv:r.d[k]! = v at *;refine zW ((v:Int)>0) rfl (λhv0=>?_) (λhv0=>?_)
   ·have hvo:v%2=1/\v<16:=by omega
    have hm8:=hrok.m8;obtain⟨Q,hQ⟩:∃Q,r.M[v/2]?=some Q:=⟨_,aK (by omega)⟩;obtain⟨hQo,hQB⟩:=hrok.ms _ _ hQ;rw [show 2*(v/2)+1=v from by omega] at hQB;refine s_N 12 [] (by kernel_rfl) λK hK G S w0 hst=>?_;refine n_X hst ((doubled_C hP hW c2 (by omega)).imp λ_ h=>h.1) rfl λ⟨P',hP',hPo'⟩=>?_;refine n_auto zY hst rfl ?_;refine n_num 34 ((v/2:Nat):Int) rfl (quo2 v hvo.2) ?_;refine n_op hst (.v (.pointer (some ⟨gs,go+416*j,none⟩))) trivial rfl rfl rfl (runO_ixS j rfl Tryz.underlying263 (by kernel_rfl) rfl rfl hjn) ?_;refine n_auto zY hst rfl ?_;refine n_op hst (.v (.pointer (some ⟨gs,go+416*j+0+20*(v/2),none⟩))) trivial rfl rfl rfl (runO_ixP (v/2) rfl Tryz.underlying237 (by kernel_rfl) rfl rfl (by omega)) ?_;refine n_opV hst (.q (ePt Q)) hQo.ps rfl rfl rfl (run_ldR rfl rfl Tryz.underlying236 rfl (by rw [cat_pt];exact size_A (pc_len hQo.X hQo.Y hQo.Z hQo.T)) rfl λG S w hw=>rs_mult hw.fact.2 hr hrok hQ) ?_;refine n_X hst ((plus_C hP' hPo' hQB hQo).imp λ_ h=>h.1) rfl λ⟨P3,hP3,hPo2⟩=>?_;refine n_N hst rfl hK rfl ?_;refine zD rfl (hK6 _ ?_);refine zD rfl ?_;rw [hs,<-hstep] at hP3;exact zX (j+1,0,P3) ⟨hjn,aI _,hPo2,_,.inr hP3,by rw [lH,Ed.rE good]⟩ (by show rs.length-(j+1)<rs.length-j;omega) ⟨⟨congrArg (λx=>some (SV.v (.int .i64 x))) hw1,rfl,rfl,rfl,rfl,rfl,rfl,rfl,trivial⟩,zL rfl rfl, .refl _,λ_ h _=>h,λ_ h=>h⟩
   ·refine zO (hK6 _ ?_)
    refine zD rfl ?_;exact zX (j+1,c2,W2) ⟨hjn,hc,hW,P,hP,hs.trans (hsame (by omega)).symm⟩ (by show rs.length-(j+1)<rs.length-j;omega) ⟨⟨congrArg (λx=>some (SV.v (.int .i64 x))) hw1,rfl,rfl,rfl,rfl,rfl,rfl,rfl,trivial⟩,zL rfl rfl, .refl _,λ_ h _=>h,λ_ h=>h⟩
  ·obtain rfl:j=rs.length:=by omega
   rw [tpart_all] at hs;refine s_exit (zS (zS (k_out (hK3 _ ?_))));refine zD rfl ?_;exact zX (i+1,c2,W2) ⟨by show i+1<=256;omega,hc,hW,P,hP,by rw [hs];congr 1;show k=256-(i+1);omega⟩ (by show 256-(i+1)<256-i;omega) ⟨⟨congrArg (λx=>some (SV.v (.int .i64 x))) (addI i 1 (by omega)),rfl,rfl,rfl,rfl,trivial⟩,zL rfl rfl, .refl _,λ_ h _=>h,λ_ h=>h⟩
 ·obtain rfl:i=256:=by omega
  refine s_exit (zS (zS (k_out (hK1 _ ?_))));refine s_reg λK hK=>?_;refine l_X ((doubled_C hP hW c (by omega)).imp λ_ h=>h.1) (λ_=>rfl) rfl λ⟨P',hP',hPo⟩=>?_;refine l_N hK rfl (zP ?_);rw [hs] at hP'
  exact k_pt P' ⟨hP',hPo⟩ rfl (by decide) rfl⟩
theorem above1(r:RS):above [r] 0=Ed.mul dd (iX r.d) r.A:=by
 show Ed.add dd (Ed.mul dd (iX (r.d.drop 0)) r.A) Ed.zero=_
 rw [Ed.add_zero good,kT]
theorem above2(r s:RS):above [r,s] 0=Ed.add dd (Ed.mul dd (iX r.d) r.A) (Ed.mul dd (iX s.d) s.A):=by
 show Ed.add dd (Ed.mul dd (iX (r.d.drop 0)) r.A) (Ed.add dd (Ed.mul dd (iX (s.d.drop 0)) s.A) Ed.zero)=_
 rw [Ed.add_zero good,kT,kT]
theorem okF_rs{rs:List RS}(h:∀r∈rs,r.Ok):OkF 416 eRS rs:=λr hr=>⟨(h r hr).row,by rw [RS.cl,List.length_append,(h r hr).flat,Ds_len,(h r hr).dl]⟩
theorem own_cmul:Own 104:=λ_ _=>by go_simp
theorem own_both:Own 109:=λ_ _=>by go_simp
theorem pmul_C{P:PtV}{A:Ed.Pt p}{b:List UInt8}(h:PB P.l A)(hP:P.Ok)(hb:b.length=32):Ct Tw 104 [ePt P,eY 32 b] (ptP (PB · (Ed.mul dd (le b) A))):=⟨own_cmul,by
 refine zQ [ePt P,eY 32 b] 10 Tryz.func104 rfl (by rw [Tryz.ntmps104];rfl) (two_ok hP.ps (eY_ok hb).1) λB=>?_;refine zA rfl ?_;refine s_reg λK hK=>?_;refine l_X (row_C h hP hb) (λ_=>rfl) rfl λ⟨r,hr,hA,hs⟩=>?_
 have hok:∀x∈[r],x.Ok:=λx hx=>by rw [aE.1 hx];exact hr
 refine l_list (fe:=eRS) zY B.B.heap.size [r] rfl rfl rfl rfl rfl (λ_=>rfl) rfl (aC rfl) (aC rfl) (okF_rs hok) (aF _) λA'=>?_;refine l_freeM 0 rfl (aF _) ?_;refine l_callA (own:=[]) (F':=λw=>Tw w/\Rd 416 eRS A' 1 [r] w) [.slice A' [r].length 1] rfl rfl rfl own_total rfl rfl (λ_ _=>rfl) (total_C hok (aC rfl)).spec (λw h1 h2=>⟨h1,h2.1⟩) λ⟨P',hP',hPo⟩=>?_;refine l_N hK rfl (zP ?_);rw [above1,hA,hs] at hP'
 exact k_pt P' ⟨hP',hPo⟩ rfl (by decide) rfl⟩
theorem both_C{P:PtV}{A:Ed.Pt p}{n m:List UInt8}(hn:n.length=32)(h:PB P.l A)(hP:P.Ok)(hm:m.length=32):Ct Tw 109 [eY 32 n,ePt P,eY 32 m] (ptP (PB · (Ed.add dd (Ed.mul dd (le n) base) (Ed.mul dd (le m) A)))):=⟨own_both,by
 refine zQ [eY 32 n,ePt P,eY 32 m] 15 Tryz.func109 rfl (by rw [Tryz.ntmps109];rfl) (λu hu=>by
  rcases aL.1 hu with rfl|hu
  ·exact(eY_ok hn).1
  ·exact two_ok (v:=ePt P) (v2:=eY 32 m) hP.ps (eY_ok hm).1 u hu) λB=>?_
 refine zA rfl ?_;refine s_regH 8 (by decide) rfl (by kernel_rfl) λK hK G S w0 hst=>?_;refine h_X hst base_C rfl (λ_ _ hw _=>hw.fact) λ⟨P1,h1,hP1⟩=>?_;refine h_X hst (row_C (.inr h1) hP1 hn) rfl (λ_ _ hw _=>hw.fact) λ⟨r,hr,hA,hs⟩=>?_;refine h_X hst (row_C h hP hm) rfl (λ_ _ hw _=>hw.fact) λ⟨s,hr2,hA2,hs2⟩=>?_
 have hok:∀x∈[r,s],x.Ok:=λx hx=>by
  rcases aL.1 hx with rfl|hx
  ·exact hr
  ·rw [aE.1 hx];exact hr2
 refine h_litF eRS zY [r,s] (okF_rs hok) rfl rfl rfl rfl rfl rfl (λ_=>rfl) rfl (aC rfl) (aC rfl) λg=>?_;refine h_callE (F':=λw=>Tw w/\Rd 416 eRS (some ⟨g,0,none⟩) 2 [r,s] w) hst [.slice (some ⟨g,0,none⟩) 2 2] rfl rfl rfl rfl own_total rfl rfl (λ_=>rfl) (total_C hok (aC rfl)).spec (λw hw hu=>⟨hw.fact,hu 6 _ rfl (by kernel_rfl)⟩) λ⟨P',hP',hPo⟩ _=>?_;refine h_end hst ?_;refine l_N hK rfl (zP ?_);rw [above2,hA,hs,hA2,hs2] at hP'
 exact k_pt P' ⟨hP',hPo⟩ rfl (by decide) rfl⟩
section
variable{b:Base}{ops:Array Oper}{Q:Exit->Act->World->Prop}{N:Nat}{G:Nat->Nat}{S:Nat->Prop}{E E':SE}{L L':List LV}{R:List Res}{F M:World->Prop}{w0:World}{Z:Act->Prop}{l l' rest:List Oper}{k:Nat}{f:FuncId}{svs:List SV}{r:RV}{o:Oper}{y:Code}
theorem l_P(hf:Own f)(hr:r.sv.Ok)(h:nextL ops N l E L=some (l',E',L',k,f,svs))(hs:∀G S w,View G S L' R F M w->Calls Tryz.prog f (svs.map (SV.den G)).toArray w λe w'=>e = .returned r.den/\Below w.heap.size w w')(hn:lS Tryz.prog b ops Q N l' ⟨(k,r.sv)::E',L',R,F,M⟩):lS Tryz.prog b ops Q N l ⟨E,L,R,F,M⟩:=by
 unfold nextL at h
 split at h
 ·rename_i o l2 E2 L2 h2
  split at h
  ·rename_i k2 f2 v2 h3
   simp only [aW,cY] at h;obtain⟨rfl,rfl,rfl,rfl,rfl,rfl⟩:=h;obtain⟨hg,hd,hk,xs,ats,ho,hx⟩:=callB_ok h3;refine l_auto2 h2 λa w ⟨G,S,h1,h4,h5⟩=>?_;have hr':=call_run (w:=w) hf ho hx h1
   unfold wpList
   rw [if_pos (by simp [Region.wanted,hg])];refine .inl ?_
   unfold Oper.wp
   rw [hr'];simp only [Oper.upon,hd];refine(hs G S w h5.view).mono ?_
   rintro e w' ⟨rfl,hb⟩
   have h6:=h1.put hk r.den;rw [<-RV.sv_den _ G] at h6;have h7:=hn _ w' ⟨G,S,h6,h4.cons hr,h5.later hb⟩;rw [RV.sv_den] at h7;exact h7
  ·cases h
 ·cases h
theorem n_P(hst:StW b G S L R F M w0)(hf:Own f)(hr:r.sv.Ok)(h:nextN ops N L l E=some (l',E',k,f,svs))(hs:∀w,View G S L R F M w->Calls Tryz.prog f (svs.map (SV.den G)).toArray w λe w'=>e = .returned r.den/\Below w.heap.size w w')(hn:nS Tryz.prog ops N w0 Z G l' ((k,r.sv)::E')):nS Tryz.prog ops N w0 Z G l E:=by
 unfold nextN at h
 split at h
 ·rename_i o l2 E2 h2
  split at h
  ·rename_i k2 f2 v2 h3
   simp only [aW,cY] at h;obtain⟨rfl,rfl,rfl,rfl,rfl⟩:=h;obtain⟨hg,hd,hk,xs,ats,ho,hx⟩:=callB_ok h3;refine n_auto2 hst h2 λhE=>?_;refine f_call (v2.map (SV.den G)).toArray r.den hg hd hk hf (λw hw=>hs w (hst.later hw).view) ho (evSs_ok hx) ?_;have h:=hn (hE.cons hr);rw [denE,RV.sv_den] at h;exact h
  ·cases h
 ·cases h
end
instance:Pst Ta:=⟨λ_ _ h hb=>h.below hb⟩
instance pst_pt{P:Option Addr}{ls:List (List UInt8)}:Pst (λw=>PT w P ls):=⟨λ_ _ h hb=>h.later hb⟩
theorem own_spread:Own 71:=λ_ _=>by go_simp
theorem own_based:Own 72:=λ_ _=>by go_simp
theorem own_number:Own 96:=λ_ _=>by go_simp
theorem own_public:Own 48:=λ_ _=>by go_simp
theorem cop_64{d:List UInt8}(h:d.length=32):(cop z64 0 d).length=64:=by rw [cop_len (by rw [h];decide)];rfl
theorem halves(l:List UInt8):catP [.agg 32 (By (l.take 32)).toArray,.agg 32 (By (l.drop 32)).toArray]=catP [.agg 64 (By l).toArray]:=by
 apply Array.ext'
 simp [catP,Pt.cells,By,List.map_take,List.map_drop]
theorem two_okP{x y:Pt}(h:OkP [x])(h2:OkP [y]):OkP [x,y]:=λq hq=>by
 rcases aL.1 hq with rfl|hq
 ·exact h _ List.mem_cons_self
 ·exact h2 q hq
theorem halves_ok{l:List UInt8}(h:l.length=64):OkP [.agg 32 (By (l.take 32)).toArray,.agg 32 (By (l.drop 32)).toArray]:=two_okP (eY_ok (by rw [aU,h];rfl)).1 (eY_ok (by rw [dC,h])).1
theorem sub2{x y:LV}{L:List LV}:∀z∈[x,y],z∈x::y::L:=λz hz=>by
 rcases aL.1 hz with rfl|hz
 ·exact .head _
 ·rw [aE.1 hz]
  exact .tail _ (.head _)
theorem inv2{b:Base}{N:Nat}{E:SE}{x y:LV}{L:List LV}{R:List Res}{F M:World->Prop}(hx:x.g.isSome=true)(hy:y.g.isSome=true):∀a w,St b N ⟨E,x::y::L,R,F,M⟩ a w->InvL [x,y] w:=inv_of λz hz=>⟨sub2 z hz,by
 rcases aL.1 hz with rfl|hz
 ·exact hx
 ·rw [aE.1 hz]
  exact hy⟩
theorem spread_C{seed:List UInt8}(hs:seed.length=32):Ct Tsh 71 [eY 32 seed] (one (.t [eS (le (jQ seed)%LL),eY 32 (oT seed)])):=⟨own_spread,by
 have hD:=oJ seed
 have hd:((sgD seed).take 32).length=32:=by rw [aU,hD];rfl
 refine zQ [eY 32 seed] 26 Tryz.func71 rfl (by rw [Tryz.ntmps71];rfl) (one_ok (eY_ok hs).1) λB=>?_;refine zA rfl ?_;refine s_reg λK hK=>l_auto2 rfl ?_
 refine l_dig zY [.s 1 0 32 32] [seed] (sgD seed) rfl rfl rfl rfl rfl rfl rfl rfl rfl own_sum512 (λ_=>rfl) rfl (by decide) (by decide) hD (λA w hp hF _=>by
  have h:=sum512_f A [seed] 1 w hF hp (aC rfl) (aC rfl)
  rwa [List.flatten_cons,List.flatten_nil,List.append_nil] at h) (λG S w hv=>⟨sb_var rfl hs (by decide) G S w hv,trivial⟩) λA=>l_N hK rfl ?_
 refine zA rfl ?_;refine s_N 2 [] (by kernel_rfl) λK hK G S w0 hst=>n_L hst rfl ?_;obtain⟨D,eD⟩:∃D,D=(sgD seed).take 32:=⟨_,rfl⟩;rw [<-eD] at hd;refine l_copyW (z:=z64) (ps:=[.agg 64 (By (sgD seed)).toArray]) D rfl rfl rfl rfl rfl rfl rfl rfl ?_ rfl hd (nI hd) (by rw [hd];exact aC rfl) (l_E rfl (hK _ ?_))
 ·rw [hd,eD]
  exact src_one 0 32
 have x0:=(D[0]!).toNat_lt;refine s_reg λK hK=>?_;refine l_cell rfl arr64 (aC rfl) _ (By_get (l:=cop z64 0 D) (j:=0) (by rw [cop_64 hd];exact aC rfl)) ?_;refine l_auto2 rfl ?_;refine l_put rfl arr64 (aC rfl) [.agg 64 (By (cop z64 0 (lU D))).toArray] (eY_ok (cop_64 (by rw [m9,hd]))).1 ?_ ?_ (l_N hK rfl ?_)
 ·show _<(By (cop z64 0 D)).toArray.size
  rw [aT,By_len,cop_64 hd];exact aC rfl
 ·show By (cop z64 0 (lU D))=(By (cop z64 0 D)).set 0 (.int .u8 (bits .and .u8 ((cop z64 0 D)[0]!.toNat:Int) 248))
  rw [cop_get hd (by decide),and248 _ x0,lU,<-cop_set hd (by decide),By,By,dM,ofNat_toNat (by omega)]
 have hl:(lU D).length=32:=by rw [m9,hd]
 have x1:=((lU D)[31]!).toNat_lt;refine s_reg λK hK=>?_;refine l_cell rfl arr64 (aC rfl) _ (By_get (l:=cop z64 0 (lU D)) (j:=31) (by rw [cop_64 hl];exact aC rfl)) ?_;refine l_auto2 rfl ?_;refine l_put rfl arr64 (aC rfl) [.agg 64 (By (cop z64 0 (pG (lU D)))).toArray] (eY_ok (cop_64 (by rw [qY,hl]))).1 ?_ ?_ (l_N hK rfl ?_)
 ·show _<(By (cop z64 0 (lU D))).toArray.size
  rw [aT,By_len,cop_64 hl];exact aC rfl
 ·show By (cop z64 0 (pG (lU D)))=(By (cop z64 0 (lU D))).set 31 (.int .u8 (bits .or .u8 (bits .and .u8 ((cop z64 0 (lU D))[31]!.toNat:Int) 127) 64))
  rw [cop_get hl (by decide),low7 _ x1,or64 _ x1,pG,<-cop_set hl (by decide),By,By,dM,ofNat_toNat (by omega)]
 have eL5:(some ⟨5,none,74,[.agg 64 (By (cop z64 0 (pG (lU D)))).toArray]⟩:Option LV)=some ⟨5,none,74,[.agg 64 (By (cop z64 0 (jQ seed))).toArray]⟩:=by rw [eD];rfl
 refine c_weak (e':=⟨[(5,.a 5 0),(4,.a 4 0),(3,.a 3 0),(2,.a 2 0)],[⟨5,none,74,[.agg 64 (By (cop z64 0 (jQ seed))).toArray]⟩,⟨4,none,74,[.agg 64 (By (sgD seed)).toArray]⟩,⟨3,none,45,[.agg 32 (By (aA 32 0)).toArray]⟩,⟨2,none,145,[.agg 4 (Us [0,0,0,0]).toArray]⟩],[],Tsh,λ_=>True⟩) ⟨zE rfl, ⟨eL5,rfl,rfl,rfl,rfl,rfl,rfl,rfl,trivial⟩,.refl _,λ_ h _=>h,λ_ h=>h⟩ ?_;refine s_ps 4 [.agg 32 (By ((sgD seed).take 32)).toArray,.agg 32 (By (oT seed)).toArray] rfl (halves (sgD seed)) (halves_ok hD) ?_;refine s_locs λG=>?_;refine zM λK hK=>?_;refine s_anyP [0,2,3,4] 6 1 (InvL [⟨5,some (G 5),74,[.agg 64 (By (cop z64 0 (jQ seed))).toArray]⟩,⟨4,some (G 4),74,[.agg 32 (By ((sgD seed).take 32)).toArray,.agg 32 (By (oT seed)).toArray]⟩]) (by kernel_rfl) rfl (inv2 rfl rfl) ?_;refine p_front zY 0 (by kernel_rfl) rfl rfl rfl rfl rfl rfl sub2 ?_;refine p_frontO (.s 4 32 32 32) trivial 2 (by kernel_rfl) rfl rfl rfl rfl rfl (moreS_ok rfl).2 ?_;refine p_frontO (.a 4 32) trivial 3 (by kernel_rfl) rfl rfl rfl rfl rfl (moreS_ok rfl).2 ?_;refine p_front zY 4 (by kernel_rfl) rfl rfl rfl rfl rfl rfl sub2 ?_;refine p_step 1 (by kernel_rfl) rfl λK2 hK2=>l_X (wide_C (cop_64 (qZ seed))) (λ_=>rfl) rfl λ_=>l_E rfl (hK2 _ (inv2 rfl rfl) ?_);refine p_step 5 (by kernel_rfl) rfl λK2 hK2=>l_E rfl (hK2 _ (inv2 rfl rfl) ?_);refine p_tail [6] (by kernel_rfl) rfl (l_E rfl (hK _ (zP ?_)));have e:le (cop z64 0 (jQ seed))=le (jQ seed):=(cop_half (qZ seed)).2;rw [e]
 exact zR zY () rfl (by decide) rfl rfl rfl (λ_ _ _=>trivial) λ_ _=>trivial⟩
theorem based_C{n:Nat}(hn:n<LL):Ct Tw 72 [eS n] (one (.q (eY 32 (fB (Ed.mul dd n base))))):=⟨own_based,by
 refine zQ [eS n] 8 Tryz.func72 rfl (by rw [Tryz.ntmps72];rfl) (one_ok (eS_ok n)) λB=>?_;refine zA rfl ?_;refine s_N 5 [] (by kernel_rfl) λK hK G S w0 hst=>?_;refine n_X hst base_C rfl λ⟨P,h,hP⟩=>?_;refine n_X hst schash_C rfl λ_=>?_;refine n_X hst (pmul_C (.inr h) hP (bW 32 n)) rfl λ⟨P,h,hP⟩=>?_;rw [l9 hn] at h;refine n_X hst (phash_C h hP) rfl λ_=>n_N hst rfl hK rfl (zP ?_)
 exact zR zY () rfl (by decide) rfl rfl rfl (λ_ _ _=>trivial) λ_ _=>trivial⟩
theorem public_C{seed:List UInt8}(hs:seed.length=32):Ct Ta 48 [eY 32 seed] (one (.q (eY 32 (gE seed)))):=⟨own_public,by
 refine zQ [eY 32 seed] 12 Tryz.func48 rfl (by rw [Tryz.ntmps48];rfl) (one_ok (eY_ok hs).1) λB=>?_;refine zA rfl ?_;refine s_reg λK hK=>l_X ((spread_C hs).imp λ_ h=>h.sh) (λ_=>rfl) rfl λ_=>l_N hK rfl ?_;refine s_reg λK hK=>l_X ((based_C (iI (le (jQ seed)))).imp λ_ h=>h.tw) (λ_=>rfl) rfl λ_=>l_N hK rfl (zP ?_);rw [mul_a]
 exact zR zY () rfl (by decide) rfl rfl rfl (λ_ _ _=>trivial) λ_ _=>trivial⟩
theorem own_sign:Own 68:=λ_ _=>by go_simp
theorem own_verify:Own 73:=λ_ _=>by go_simp
theorem sb_varA{L:List LV}{R:List Res}{F M:World->Prop}{j n off m c:Nat}{l z:List UInt8}{G:Nat->Nat}{S:Nat->Prop}{w:World}(hv:View G S L R F M w)(hj:lookL L j=some [.agg n (By z).toArray])(hz:(z.drop off).take m=l)(hl:l.length=m)(hc:m<=c)(hm:c<=9223372036854775807):SB w ((SV.s j off m c).den G) l:=by
 obtain⟨u,hu,rfl,hps⟩:=lookL_mem hj;have hb:=(hv.var u hu).1;rw [hps] at hb;exact SB.arr hb hz hl hc hm
theorem sb_none{w:World}:SB w (.slice none 0 0) []:=⟨none,0,rfl,aF _,aI _,λ_=>rfl,λh=>absurd h (Nat.lt_irrefl 0)⟩
theorem number_R{v1 v2:Value}{l1 l2:List UInt8}{P:Option Addr}{ls:List (List UInt8)}{pc n:Nat}{w:World}(hn:le (cE dK (l1++(l2++ls.flatten)))%LL=n)(hT:Ta w)(hP:PT w P ls)(h0:P=none->pc=0)(hls:ls.length<=1000000)(h1:SB w v1 l1)(h2:SB w v2 l2) :
  Calls Tryz.prog 96 #[v1,v2,.slice P ls.length pc] w λe w'=>e = .returned (RV.q (eS n)).den/\Below w.heap.size w w':=by
 have h:=number_f w hT.sh h1 h2 hP h0 hls;rw [hn] at h;exact h
theorem basedA_C(seed:List UInt8):Ct Tw 72 [eS (le (jQ seed)%LL)] (one (.q (eY 32 (gE seed)))):=by
 have h:=based_C (iI (le (jQ seed)));rw [mul_a] at h;exact h
theorem hashS_C{F:World->Prop}(seed m:List UInt8):Ct F 99 [eS ((sgR seed m+sgK (nL seed m) (gE seed) m*(le (jQ seed)%LL)%LL)%LL)] (one (.q (eY 32 (Nums.bytes 32 (sgS seed m))))):=by
 rw [sgS_eq];exact schash_C
theorem sign_C{seed:List UInt8}{P:Option Addr}{ls:List (List UInt8)}{pc:Nat}(hs:seed.length=32)(h0:P=none->pc=0)(hls:ls.length<=1000000):Ct (λw=>Ta w/\PT w P ls) 68 [eY 32 seed,.c (.v (.slice P ls.length pc))] (one (.q (eY 64 (jE seed ls.flatten)))):=⟨own_sign,by
 have hp:=s8 seed;have hR:=jF seed ls.flatten;have hk:=nM seed;refine zQ [eY 32 seed,.c (.v (.slice P ls.length pc))] 42 Tryz.func68 rfl (by rw [Tryz.ntmps68];rfl) (two_ok (eY_ok hs).1 trivial) λB=>?_;refine zA rfl ?_;refine s_reg λK hK=>l_X ((spread_C hs).imp λ_ h=>h.1.sh) (λ_=>rfl) rfl λ_=>l_N hK rfl ?_;refine s_reg λK hK=>l_P (r:=.q (eS (sgR seed ls.flatten))) own_number (eS_ok _) rfl (λG S w hv=>number_R sgR_eq hv.fact.1 hv.fact.2 h0 hls (sb_varA hv rfl (all32 hp) hp (aF _) (aC rfl)) sb_none) (l_N hK rfl ?_);refine s_N 4 [(8,45),(9,45)] (by kernel_rfl) λK hK G S w0 hst=>n_X hst ((based_C (sgR_lt _ _)).imp λ_ h=>h.1.tw) rfl λ_=>n_X hst ((basedA_C seed).imp λ_ h=>h.1.tw) rfl λ_=>n_N hst rfl hK rfl ?_;refine s_N 4 [(10,145)] (by kernel_rfl) λK hK G S w0 hst=>n_P hst (r:=.q (eS (sgK (nL seed ls.flatten) (gE seed) ls.flatten))) own_number (eS_ok _) rfl (λw hv=>number_R sgK_eq hv.fact.1 hv.fact.2 h0 hls (sb_varA hv rfl (all32 hR) hR (aF _) (aC rfl)) (sb_varA hv rfl (all32 hk) hk (aF _) (aC rfl))) (n_N hst rfl hK rfl ?_);refine s_N 6 [(11,45)] (by kernel_rfl) λK hK G S w0 hst=>n_X hst (scmul_C (sgK_lt _ _ _) (iI (le (jQ seed)))) rfl λ_=>n_X hst (scadd_C (sgR_lt _ _) (iI _)) rfl λ_=>n_X hst (hashS_C seed ls.flatten) rfl λ_=>n_N hst rfl hK rfl ?_;refine zA rfl ?_;refine s_N 2 [] (by kernel_rfl) λK hK G S w0 hst=>n_L hst rfl ?_;refine l_copyW (z:=z64) (ps:=[.agg 32 (By (nL seed ls.flatten)).toArray]) (nL seed ls.flatten) rfl rfl rfl rfl rfl rfl rfl rfl ((src_one 0 _).trans (congrArg By (all32 rfl))) rfl hR (nI hR) (by rw [hR];exact aC rfl) (l_E rfl (hK _ ?_));refine s_N 2 [] (by kernel_rfl) λK hK G S w0 hst=>n_L hst rfl ?_;refine l_copyW (z:=cop z64 0 (nL seed ls.flatten)) (ps:=[.agg 32 (By (Nums.bytes 32 (sgS seed ls.flatten))).toArray]) (Nums.bytes 32 (sgS seed ls.flatten)) rfl rfl rfl rfl rfl rfl rfl rfl ((src_one 0 _).trans (congrArg By (all32 rfl))) (cop_64 hR) (bW _ _) (nI (bW _ _)) (by rw [bW];exact aC rfl) (l_E rfl (hK _ ?_));rw [sig_cop];refine zA rfl (zP ?_)
 exact zR zY () rfl (by decide) rfl rfl rfl (λ_ _ _=>trivial) λ_ _=>trivial⟩
section
variable{F:World->Prop}{b:List UInt8}[Pst F]
theorem scnewY(hb:b.length=32)(h:le b<LL):Ct F 108 [eY 32 b] (one (.t [eS (le b),.c (.v (.bool true))])):=by
 have h2:=scnew_C (F:=F) hb
 rwa [if_pos h,decide_eq_true h] at h2
theorem scnewN(hb:b.length=32)(h:¬le b<LL):Ct F 108 [eY 32 b] (one (.t [eS 0,.c (.v (.bool false))])):=by
 have h2:=scnew_C (F:=F) hb
 rwa [if_neg h,decide_eq_false h] at h2
end
theorem verify_C{key sig:List UInt8}{P:Option Addr}{ls:List (List UInt8)}{pc:Nat}(hk:key.length=32)(hs:sig.length=64)(h0:P=none->pc=0)(hls:ls.length<=1000000):Ct (λw=>Ta w/\PT w P ls) 73 [eY 32 key,eY 64 sig,.c (.v (.slice P ls.length pc))] (one (.q (.c (.b (rightB key sig ls.flatten))))):=⟨own_verify,by
 have hR:(sig.take 32).length=32:=by rw [aU,hs];rfl
 have hS:(sig.drop 32).length=32:=by rw [dC,hs]
 refine zQ [eY 32 key,eY 64 sig,.c (.v (.slice P ls.length pc))] 50 Tryz.func73 rfl (by rw [Tryz.ntmps73];rfl) (λu hu=>by
  rcases aL.1 hu with rfl|hu
  ·exact(eY_ok hk).1
  ·exact two_ok (v:=eY 64 sig) (v2:=.c (.v (.slice P ls.length pc))) (eY_ok hs).1 trivial u hu) λB=>?_
 have hno:rightB key sig ls.flatten=false->∀e,Weak e ⟨[(6,.v (.bool false))],[],[],λ_=>True,λ_=>True⟩->kS B (bodyPost Tryz.prog Tryz.f73 (endS B (one (.q (.c (.b (rightB key sig ls.flatten)))))) .ret) 50 e:=λh e he=>k_weak he (k_retD zY () rfl (by decide) rfl (by rw [h];rfl) trivial rfl (λ_ _ _=>trivial) λ_ _=>trivial);refine zA rfl ?_;refine s_ps 4 [.agg 32 (By (sig.take 32)).toArray,.agg 32 (By (sig.drop 32)).toArray] rfl (halves sig) (halves_ok hs) ?_;refine s_reg λK hK=>l_X ((decode_C hk).imp λ_ h=>h.1.tw) (λ_=>rfl) rfl λ⟨P',e,ok⟩=>l_N hK rfl ?_;refine zM λK0 hK0=>?_
 rcases ok with⟨A,hq,hP',rfl,rfl⟩|⟨hn,rfl,rfl⟩
 ·refine s_reg λK hK=>l_auto2 rfl (l_is 20 false rfl rfl ?_)
  refine zB rfl ?_;refine l_X ((small_C (.inr hq) hP').imp λ_ h=>h.1.tw) (λ_=>rfl) rfl λ_=>l_N hK rfl ?_;refine zW (fB (Ed.mul dd 8 A)=fB Ed.zero) rfl (λh8=>?_) (λh8=>zO (hK0 _ ?_))
  ·refine zA rfl (zP (hno (rightB_small hq.on ((small_dec hq.on).1 h8)) _ ⟨⟨rfl,trivial⟩,trivial,.refl _,λ_ _ _=>trivial, zU⟩))
  by_cases h1:le (sig.drop 32)<LL
  ·refine s_reg λK hK=>l_X (scnewY hS h1) (λ_=>rfl) rfl λ_=>l_N hK rfl ?_
   refine zM λK0 hK0=>?_;refine zA rfl (s_no rfl (zO (hK0 _ ?_)));refine s_reg λK hK=>l_N hK rfl ?_;refine s_N 4 [(12,145)] (by kernel_rfl) λK hK G S w0 hst=>n_P hst (r:=.q (eS (sgK (sig.take 32) (fB A) ls.flatten))) own_number (eS_ok _) rfl (λw hv=>number_R sgK_eq hv.fact.1 hv.fact.2 h0 hls (sb_varA hv rfl (all32 hR) hR (aF _) (aC rfl)) (sb_varA hv rfl (all32 hk) hk (aF _) (aC rfl))) (n_N hst rfl hK rfl ?_);refine s_N 10 [] (by kernel_rfl) λK hK G S w0 hst=>?_;refine n_X hst schash_C rfl λ_=>?_;refine n_X hst ((neg_C (.inr hq) hP').imp λ_ h=>h.1.tw) rfl λ⟨P2,hq2,hP2⟩=>?_;refine n_X hst schash_C rfl λ_=>?_;refine n_X hst ((both_C (bW 32 _) (.inr hq2) hP2 (bW 32 _)).imp λ_ h=>h.1.tw) rfl λ⟨P3,h3,hP3⟩=>?_;refine n_X hst ((phash_C h3 hP3).imp λ_ h=>h.1.tw) rfl λ_=>?_;refine n_auto2 hst rfl ?_;refine n_op hst (.b (decide (fB (Ed.add dd (Ed.mul dd (le (Nums.bytes 32 (le (sig.drop 32)))) base) (Ed.mul dd (le (Nums.bytes 32 (sgK (sig.take 32) (fB A) ls.flatten))) (Ed.neg A)))=sig.take 32))) trivial rfl rfl rfl (run_eqY rfl rfl rfl Tryz.underlying45 (by kernel_rfl) (jI _) hR) ?_;refine n_N hst rfl hK rfl (zP ?_);exact k_retD zY () rfl (by decide) rfl (congrArg Value.bool (rightB_is hq.on (λh=>h8 ((small_dec hq.on).2 h)) h1)) trivial rfl (λ_ _ _=>trivial) λ_ _=>trivial
  ·refine s_reg λK hK=>l_X (scnewN hS h1) (λ_=>rfl) rfl λ_=>l_N hK rfl ?_
   refine zM λK0 hK0=>?_;refine zA rfl (s_yes rfl ?_);exact zA rfl (zP (hno (rightB_great h1) _ ⟨⟨rfl,trivial⟩,trivial,.refl _,λ_ _ _=>trivial, zU⟩))
 ·refine s_reg λK hK=>l_auto2 rfl (l_is 20 true rfl rfl (l_skips rfl (l_N hK rfl ?_)))
  refine s_yes rfl (zA rfl (zP (hno (rightB_no hn) _ ⟨⟨rfl,trivial⟩,trivial,.refl _,λ_ _ _=>trivial, zU⟩)))⟩
theorem public_S{seed:List UInt8}(hs:seed.length=32):Spec 48 [.agg (By seed).toArray] [] Ta (one (.q (eY 32 (gE seed)))):=(public_C hs).spec
theorem signed_S{A:Option Addr}{c:Nat}{b:List UInt8}(t:UInt8)(hb:b.length<=140737488355312):Spec 69 [.int .u8 (t.toNat:Int),.slice A b.length c] [] (λw=>Rd 1 eB A c b w) (madeN (msg t b)):=Spec.made λw h=>signed_M t w h.sb hb
theorem flat_one(x:List UInt8):[x].flatten=x:=by simp
section
variable{A:Option Addr}{c:Nat}{b:List UInt8}(t:UInt8)
theorem seal_S{seed:List UInt8}(hs:seed.length=32)(hb:b.length<=140737488355312):Spec 46 [.agg (By seed).toArray,.int .u8 (t.toNat:Int),.slice A b.length c] [] (λw=>Ta w/\Rd 1 eB A c b w) (one (.q (eY 64 (jE seed (msg t b))))):=by
 refine zQ [eY 32 seed,.c (.v (.int .u8 (t.toNat:Int))),.c (.v (.slice A b.length c))] 13 Tryz.func46 rfl (by rw [Tryz.ntmps46];rfl) (more_ok (eY_ok hs).1 (two_ok trivial trivial)) λB=>?_;refine zA rfl ?_;refine s_regH 6 (by decide) (by kernel_rfl) (by kernel_rfl) λK hK G S w0 hst=>?_;refine zV hst rfl ?_;refine h_callE (F':=λw=>Rd 1 eB A c b w) hst [.int .u8 (t.toNat:Int),.slice A b.length c] rfl rfl rfl rfl (λ_ _=>by go_simp) rfl rfl (λ_=>rfl) (signed_S t hb).p1 (λw hw _=>hw.fact.2) λg _=>?_;refine h_parts [.slice (some ⟨g,0,none⟩) (msg t b).length (msg t b).length] [msg t b] hst rfl rfl rfl rfl rfl rfl rfl (by decide) (by decide) (λw _ hu=>⟨(madeP_rd (hu 3 _ rfl (by kernel_rfl))).sb,trivial⟩) λg2=>?_;have hsg:=(sign_C (P:=some ⟨g2,0,none⟩) (ls:=[msg t b]) (pc:=1) hs (λh=>by cases h) (aC rfl)).spec;rw [flat_one] at hsg;refine h_callE (F':=λw=>Ta w/\PT w (some ⟨g2,0,none⟩) [msg t b]) hst [.agg (By seed).toArray,.slice (some ⟨g2,0,none⟩) 1 1] rfl rfl rfl rfl own_sign rfl rfl (λ_=>rfl) hsg (λw hw hu=>⟨hw.fact.1,hu 4 _ rfl (by kernel_rfl)⟩) λ_ _=>?_;refine h_end hst (l_E rfl (hK _ (zP ?_)));exact zR zY () rfl (by decide) rfl rfl rfl (λ_ _ _=>trivial) λ_ _=>trivial
theorem owned_S{key sig:List UInt8}(hk:key.length=32)(hs:sig.length=64)(hb:b.length<=140737488355312):Spec 49 [.agg (By key).toArray,.int .u8 (t.toNat:Int),.slice A b.length c,.agg (By sig).toArray] [] (λw=>Ta w/\Rd 1 eB A c b w) (one (.q (.c (.b (rightB key sig (msg t b)))))):=by
 refine zQ [eY 32 key,.c (.v (.int .u8 (t.toNat:Int))),.c (.v (.slice A b.length c)),eY 64 sig] 16 Tryz.func49 rfl (by rw [Tryz.ntmps49];rfl) (more_ok (eY_ok hk).1 (more_ok trivial (two_ok trivial (eY_ok hs).1))) λB=>?_;refine zA rfl ?_;refine s_regH 7 (by decide) (by kernel_rfl) (by kernel_rfl) λK hK G S w0 hst=>?_;refine zV hst rfl ?_;refine h_callE (F':=λw=>Rd 1 eB A c b w) hst [.int .u8 (t.toNat:Int),.slice A b.length c] rfl rfl rfl rfl (λ_ _=>by go_simp) rfl rfl (λ_=>rfl) (signed_S t hb).p1 (λw hw _=>hw.fact.2) λg _=>?_;refine h_parts [.slice (some ⟨g,0,none⟩) (msg t b).length (msg t b).length] [msg t b] hst rfl rfl rfl rfl rfl rfl rfl (by decide) (by decide) (λw _ hu=>⟨(madeP_rd (hu 4 _ rfl (by kernel_rfl))).sb,trivial⟩) λg2=>?_;have hsg:=(verify_C (P:=some ⟨g2,0,none⟩) (ls:=[msg t b]) (pc:=1) hk hs (λh=>by cases h) (aC rfl)).spec;rw [flat_one] at hsg;refine h_callE (F':=λw=>Ta w/\PT w (some ⟨g2,0,none⟩) [msg t b]) hst [.agg (By key).toArray,.agg (By sig).toArray,.slice (some ⟨g2,0,none⟩) 1 1] rfl rfl rfl rfl own_verify rfl rfl (λ_=>rfl) hsg (λw hw hu=>⟨hw.fact.1,hu 5 _ rfl (by kernel_rfl)⟩) λ_ _=>?_;refine h_end hst (l_E rfl (hK _ (zP ?_)));exact zR zY () rfl (by decide) rfl rfl rfl (λ_ _ _=>trivial) λ_ _=>trivial
end
def z64w:List Nat:=aA 64 0
theorem z64w_len:z64w.length=64:=by decide
theorem own_long256:Own 125:=λ_ _=>by go_simp
theorem arr64w:Arr 219 64:=⟨_,Tryz.underlying219,by kernel_rfl⟩
theorem kw32:KW .u32 32:=.inr ⟨rfl,rfl⟩
theorem ben_or4{f:Nat->Nat}(hf:∀j,f j<256):bits .or .u32 (bits .or .u32 (bits .or .u32 (IntKind.u32.wrap (IntKind.u32.wrap (f 0:Int)*2^min 24 IntKind.u32.bits)) (IntKind.u32.wrap (IntKind.u32.wrap (f 1:Int)*2^min 16 IntKind.u32.bits))) (IntKind.u32.wrap (IntKind.u32.wrap (f 2:Int)*2^min 8 IntKind.u32.bits))) (IntKind.u32.wrap (f 3:Int))=((ben f 4:Nat):Int):=by
 have h0:=hf 0;have h1:=hf 1;have h2:=hf 2;have h3:=hf 3
 have key:∀x:Nat,x<256->IntKind.u32.wrap (x:Int)=(x:Int):=λx hx=>by rw [IntKind.wrap_u32];omega
 rw [key _ h0,key _ h1,key _ h2,key _ h3]
 rw [show((f 0:Int)*2^min 24 IntKind.u32.bits)=((f 0*16777216:Nat):Int) from rfl,show((f 1:Int)*2^min 16 IntKind.u32.bits)=((f 1*65536:Nat):Int) from rfl,show((f 2:Int)*2^min 8 IntKind.u32.bits)=((f 2*256:Nat):Int) from rfl,kw32.wrap,kw32.wrap,kw32.wrap,
  aY (by omega),aY (by omega),aY (by omega),orV 24 _ _ (by omega) (by omega) (by omega) (by omega),orV 16 _ _ (by omega) (by omega) (by omega) (by omega),orV 8 _ _ (by omega) h3 (by omega) (by omega)]
 exact congrArg _ (show _=(((0*256+f 0)*256+f 1)*256+f 2)*256+f 3 by omega)
theorem long256_C{F:World->Prop}[Pst F]{b:List UInt8}(hb:b.length=64):Ct F 125 [eY 64 b] (one (.q (eZ 64 (mxl (sx bJ b) z64w 64)))):=⟨own_long256,by
 have hX:=tZ bJ b (by decide)
 have hlen:∀t,(mxl (sx bJ b) z64w t).length=64:=λt=>by rw [fD,z64w_len]
 have h16:∀t,t<16->sx bJ b t=ben (λk=>(b[4*t+k]!).toNat) 4:=λt ht=>by
  rw [sx,dif_pos ht]
  show ben (λk=>(b[t*4+k]!).toNat) 4=_
  rw [Nat.mul_comm]
 have hrec:∀t,16<=t->(jR 32 (17,19,10) (sx bJ b (t-2))+sx bJ b (t-7)+jR 32 (7,18,3) (sx bJ b (t-15))+sx bJ b (t-16))%2^32=sx bJ b t:=λt ht=>by
  conv=>rhs;rw [sx,dif_neg (by omega)]
  rfl
 generalize sx bJ b=X at *;refine zQ [eY 64 b] 89 Tryz.func125 rfl (by rw [Tryz.ntmps125];rfl) (one_ok (eY_ok hb).1) λB=>?_;refine zA rfl (zA rfl ?_)
 let L:List Nat->List LV:=λl=>[⟨3,none,219,[.agg 64 (Uw l).toArray]⟩,⟨2,none,219,[.agg 64 (Uw (aA 64 0)).toArray]⟩,⟨1,none,74,[.agg 64 (By b).toArray]⟩]
 let P:Nat×List Nat->Env:=λs=>⟨[(11,.v (.int .i64 (s.1:Int))),(1,.a 1 0),(2,.a 2 0),(3,.a 3 0)],L s.2,[],F,λ_=>True⟩
 refine zM λK1 hK1=>?_;refine zA rfl (zN ?_);refine c_weak (e':=P (0,aA 64 0)) ⟨zE rfl, zL rfl rfl, .refl _,λ_ h _=>h, zU⟩ (s_loop (λs=>16-s.1) P (λs=>s.1<=16/\s.2=mxl X z64w s.1) ?_ (0,aA 64 0) ⟨aI _,(jH X z64w).symm⟩)
 ·rintro⟨t,l⟩ ⟨ht,hl⟩
  dsimp only at ht hl
  subst hl;refine zA rfl (zM λK2 hK2=>?_);refine zW ((t:Int)<16) rfl (λhlt=>?_) (λhge=>?_)
  ·have hlt:t<16:=by omega
   refine zO (hK2 _ (zM λK3 hK3=>?_));refine zN (zA rfl ?_);refine s_reg λK hK=>zB rfl (l_num 15 ((4*t:Nat):Int) rfl (mulI 4 t (by omega)) (l_num 18 ((4*t+4:Nat):Int) rfl (by show IntKind.i64.wrap (IntKind.i64.wrap (((4:Nat):Int)*(t:Int))+((4:Nat):Int))=_;rw [mulI 4 t (by omega)];exact addI _ _ (by omega)) ?_));refine l_cutV (4*t) (4*t+4) rfl rfl arr64 rfl rfl rfl (by omega) (by omega) (by omega) (l_N hK rfl ?_)
   have rd:∀j,j<4->(catP [.agg 64 (By b).toArray])[0+4*t+j]?=some (.int .u8 ((b[4*t+j]!).toNat:Int)):=λj hj=>by rw [aZ];exact By_get (by omega)
   refine s_drawnN 24 (by kernel_rfl) λG S w0 hst=>?_;refine n_auto2 hst rfl (n_cellS hst 0 rfl rfl rfl rfl rfl (by omega) Tryz.underlying51 size_u8 rfl (rd 0 (by decide)) Tryz.underlying5 rfl ?_);refine n_auto2 hst rfl (n_cellS hst 1 rfl rfl rfl rfl rfl (by omega) Tryz.underlying51 size_u8 rfl (rd 1 (by decide)) Tryz.underlying5 rfl ?_);refine n_auto2 hst rfl (n_cellS hst 2 rfl rfl rfl rfl rfl (by omega) Tryz.underlying51 size_u8 rfl (rd 2 (by decide)) Tryz.underlying5 rfl ?_);refine n_auto2 hst rfl (n_cellS hst 3 rfl rfl rfl rfl rfl (by omega) Tryz.underlying51 size_u8 rfl (rd 3 (by decide)) Tryz.underlying5 rfl ?_);refine n_auto2 hst rfl (n_num 42 ((X t:Nat):Int) rfl ((ben_or4 (f:=λk=>(b[4*t+k]!).toNat) λj=>cQ _).trans (by rw [h16 t hlt])) (n_ix hst rfl arr64w (by show t<64;omega) ?_));refine n_L hst rfl ?_;refine l_st1 rfl [.agg 64 (Uw (mxl X z64w (t+1))).toArray] (eZ_ok (hlen _)) ?_ ?_ (zJ (hK3 _ ?_))
   ·show 0+t<(Uw (mxl X z64w t)).toArray.size
    rw [aT,Uw_len,hlen]
    omega
   ·show Uw (mxl X z64w (t+1))=(Uw (mxl X z64w t)).set (0+t) _
    rw [aZ,Uw,Uw,<-gX,dM]
   refine zD rfl ?_;exact zX (t+1,_) ⟨hlt,rfl⟩ (by show 16-(t+1)<16-t;omega) ⟨⟨congrArg (λx=>some (SV.v (.int .i64 x))) (addI t 1 (by omega)),rfl,rfl,rfl,trivial⟩,zL rfl rfl, .refl _,λ_ h _=>h,λ_ h=>h⟩
  ·obtain rfl:t=16:=by omega
   refine s_exit (zS (zS (k_out (hK1 _ ?_))))
   let Q:Nat×List Nat->Env:=λs=>⟨[(6,.v (.int .i64 (s.1:Int))),(1,.a 1 0),(2,.a 2 0),(3,.a 3 0)],L s.2,[],F,λ_=>True⟩
   refine zM λK1 hK1=>?_;refine zA rfl (zN ?_);refine c_weak (e':=Q (16,mxl X z64w 16)) ⟨zE rfl, zL rfl rfl, .refl _,λ_ h _=>h,λ_ h=>h⟩ (s_loop (λs=>64-s.1) Q (λs=>16<=s.1/\s.1<=64/\s.2=mxl X z64w s.1) ?_ (16,mxl X z64w 16) ⟨aF _,aC rfl,rfl⟩)
   rintro⟨t,l⟩ ⟨ht0,ht,hl⟩
   dsimp only at ht0 ht hl
   subst hl;have rd:∀j,j<t->(catP [.agg 64 (Uw (mxl X z64w t)).toArray])[0+j]?=some (.int .u32 ((X j:Nat):Int)):=λj hj=>(Uw_in (by rw [hlen];omega)).trans (by rw [mxl_in hj (by rw [z64w_len];omega)]);refine zM λK3 hK3=>?_;refine zA rfl ?_;refine zW ((t:Int)<64) rfl (λhlt=>?_) (λhge=>?_)
   ·have hlt:t<64:=by omega
    refine zO (hK3 _ (zM λK4 hK4=>?_));refine zN ?_;refine s_N 10 [] (by kernel_rfl) λK hK G S w0 hst=>?_;refine n_auto2 hst rfl (n_num 50 ((t-2:Nat):Int) rfl (subI t 2 (by omega) (by omega)) ?_);refine n_cell hst rfl arr64w (by show t-2<64;omega) (.int .u32 ((X (t-2):Nat):Int)) (rd (t-2) (by omega)) ?_;refine n_auto2 hst rfl (n_num 54 ((t-15:Nat):Int) rfl (subI t 15 (by omega) (by omega)) ?_);refine n_cell hst rfl arr64w (by show t-15<64;omega) (.int .u32 ((X (t-15):Nat):Int)) (rd (t-15) (by omega)) ?_;refine n_N hst rfl hK rfl ?_;refine s_reg λK hK=>l_X (rot32_C 17 (hX (t-2)) (by decide)) (λ_=>rfl) rfl λ_=>l_X (rot32_C 19 (hX (t-2)) (by decide)) (λ_=>rfl) rfl λ_=>l_auto2 rfl (l_num 9 _ rfl (kw32.low (17,19,10) (by decide) (hX (t-2))) (zJ (hK _ ?_)));refine s_reg λK hK=>l_X (rot32_C 7 (hX (t-15)) (by decide)) (λ_=>rfl) rfl λ_=>l_X (rot32_C 18 (hX (t-15)) (by decide)) (λ_=>rfl) rfl λ_=>l_auto2 rfl (l_num 10 _ rfl (kw32.low (7,18,3) (by decide) (hX (t-15))) (zJ (hK _ ?_)));refine s_drawnN 15 (by kernel_rfl) λG S w0 hst=>?_;refine n_auto2 hst rfl (n_num 76 ((t-7:Nat):Int) rfl (subI t 7 (by omega) (by omega)) ?_);refine n_cell hst rfl arr64w (by show t-7<64;omega) (.int .u32 ((X (t-7):Nat):Int)) (rd (t-7) (by omega)) ?_;refine n_auto2 hst rfl (n_num 83 ((t-16:Nat):Int) rfl (subI t 16 (by omega) (by omega)) ?_);refine n_cell hst rfl arr64w (by show t-16<64;omega) (.int .u32 ((X (t-16):Nat):Int)) (rd (t-16) (by omega)) ?_;refine n_auto2 hst rfl (n_num 86 _ rfl (kw32.sum4.trans (by rw [hrec t ht0])) (n_ix hst rfl arr64w hlt ?_));refine n_L hst rfl ?_;refine l_st1 rfl [.agg 64 (Uw (mxl X z64w (t+1))).toArray] (eZ_ok (hlen _)) ?_ ?_ (zJ (hK4 _ ?_))
    ·show 0+t<(Uw (mxl X z64w t)).toArray.size
     rw [aT,Uw_len,hlen]
     omega
    ·show Uw (mxl X z64w (t+1))=(Uw (mxl X z64w t)).set (0+t) _
     rw [aZ,Uw,Uw,<-gX,dM]
    refine zD rfl ?_;exact zX (t+1,_) ⟨by show 16<=t+1;omega,hlt,rfl⟩ (by show 64-(t+1)<64-t;omega) ⟨⟨congrArg (λx=>some (SV.v (.int .i64 x))) (addI t 1 (by omega)),rfl,rfl,rfl,trivial⟩,zL rfl rfl, .refl _,λ_ h _=>h,λ_ h=>h⟩
   ·obtain rfl:t=64:=by omega
    refine s_exit (zS (zS (k_out (hK1 _ ?_))));refine zA rfl (zP ?_)
    exact zR zY () rfl (by decide) rfl rfl rfl (λ_ _ _=>trivial) λ_ _=>trivial⟩
theorem own_turn256:Own 88:=λ_ _=>by go_simp
theorem arr8w:Arr 174 8:=⟨_,Tryz.underlying174,by kernel_rfl⟩
theorem step32{t:Nat}(ht:t<80):IntKind.u32.wrap (jV ((cbs[t]! : Nat):Int) (2^min 32 IntKind.u64.bits))=((cbs[t]! / 4294967296:Nat):Int):=by
 have h1:=cbs_lt ht;rw [kw64.shr 32 (by decide),kw32.wrap,aY (Nat.div_lt_of_lt_mul h1)]
theorem turn256_C{o:Oct}(ho:OB 32 o){b:List UInt8}(hb:b.length=64):Ct Ts 88 [eZ 8 o.list,eY 64 b] (one (.q (eZ 8 (fP bJ o b).list))):=⟨own_turn256,by
 have hxn:(mxl (sx bJ b) z64w 64).length=64:=by rw [fD,z64w_len]
 have hO:=λt=>OB.kZ (s:=bJ) (b:=b) ho t;refine zQ [eZ 8 o.list,eY 64 b] 137 Tryz.func88 rfl (by rw [Tryz.ntmps88];rfl) (two_ok (eZ_ok rfl) (eY_ok hb).1) λB=>?_;refine zA rfl ?_;refine s_reg λK hK=>l_X (long256_C hb) (λ_=>rfl) rfl λ_=>l_N hK rfl ?_;refine s_N 24 [] (by kernel_rfl) λK hK G S w0 hst=>?_;refine n_cell hst rfl arr8w (aC rfl) (.int .u32 (o.a:Int)) rfl ?_;refine n_cell hst rfl arr8w (aC rfl) (.int .u32 (o.b:Int)) rfl ?_;refine n_cell hst rfl arr8w (aC rfl) (.int .u32 (o.c:Int)) rfl ?_;refine n_cell hst rfl arr8w (aC rfl) (.int .u32 (o.d:Int)) rfl ?_;refine n_cell hst rfl arr8w (aC rfl) (.int .u32 (o.e:Int)) rfl ?_;refine n_cell hst rfl arr8w (aC rfl) (.int .u32 (o.f:Int)) rfl ?_;refine n_cell hst rfl arr8w (aC rfl) (.int .u32 (o.g:Int)) rfl ?_;refine n_cell hst rfl arr8w (aC rfl) (.int .u32 (o.h:Int)) rfl ?_;refine n_N hst rfl hK rfl ?_;refine zM λK1 hK1=>?_;refine zA rfl (zN ?_)
 let P:Nat×Oct->Env:=λs=>⟨[(37,.v (.int .i64 (s.1:Int))),(6,.v (.int .u32 (s.2.a:Int))),(7,.v (.int .u32 (s.2.b:Int))),(8,.v (.int .u32 (s.2.c:Int))),(9,.v (.int .u32 (s.2.d:Int))),(10,.v (.int .u32 (s.2.e:Int))),(11,.v (.int .u32 (s.2.f:Int))),(12,.v (.int .u32 (s.2.g:Int))),(13,.v (.int .u32 (s.2.h:Int))),(2,.a 2 0),(4,.a 4 0),(5,.a 5 0)],
  [⟨5,none,219,[.agg 64 (Uw (mxl (sx bJ b) z64w 64)).toArray]⟩,⟨4,none,174,[.agg 8 (Uw (aA 8 0)).toArray]⟩,⟨2,none,174,[.agg 8 (Uw o.list).toArray]⟩],[],Ts,λ_=>True⟩
 refine c_weak (e':=P (0,o)) ⟨zE rfl, zL rfl rfl, .refl _,λ_ h _=>h, zU⟩ (s_loop (λs=>64-s.1) P (λs=>s.1<=64/\s.2=kZ bJ b o s.1) ?_ (0,o) ⟨aI _,rfl⟩)
 rintro⟨t,q⟩ ⟨ht,hq⟩
 dsimp only at ht hq
 have hB:=hO t;rw [<-hq] at hB;refine zA rfl (zM λK2 hK2=>?_);refine zW ((t:Int)<64) rfl (λhlt=>?_) (λhge=>?_)
 ·have hlt:t<64:=by omega
  refine zO (hK2 _ (zM λK3 hK3=>?_));refine zN (zA rfl ?_);refine s_reg λK hK=>l_X (rot32_C 6 hB.e (by decide)) (λ_=>rfl) rfl λ_=>l_X (rot32_C 11 hB.e (by decide)) (λ_=>rfl) rfl λ_=>l_X (rot32_C 25 hB.e (by decide)) (λ_=>rfl) rfl λ_=>l_auto2 rfl (l_num 15 _ rfl (kw32.big (6,11,25) (by decide) hB.e) (zJ (hK _ ?_)));refine s_reg λK hK=>l_X (rot32_C 2 hB.a (by decide)) (λ_=>rfl) rfl λ_=>l_X (rot32_C 13 hB.a (by decide)) (λ_=>rfl) rfl λ_=>l_X (rot32_C 22 hB.a (by decide)) (λ_=>rfl) rfl λ_=>l_auto2 rfl (l_num 16 _ rfl (kw32.big (2,13,22) (by decide) hB.a) (zJ (hK _ ?_)));refine s_N 23 [] (by kernel_rfl) λK hK G S w0 hst=>?_;refine n_auto2 hst rfl ?_;refine n_tab hst rfl rfl rfl rfl arr80 (by show t<80;omega) Tryz.underlying123 rfl (λw h=>h.cell t (by omega)) ?_;refine n_auto2 hst rfl ?_;refine n_cell hst rfl arr64w hlt (.int .u32 ((sx bJ b t:Nat):Int)) ((Uw_in (by rw [hxn];exact hlt)).trans (by rw [mxl_in hlt (by rw [z64w_len];exact hlt)])) ?_;refine n_auto2 hst rfl (n_num 17 (((q.h+oY 32 (6,11,25) q.e+chw 32 q.e q.f q.g+cbs[t]! / 4294967296+sx bJ b t)%2^32:Nat):Int) rfl (by rw [step32 (t:=t) (by omega)];exact kw32.t1c hB.e hB.f hB.g) (n_N hst rfl hK rfl ?_));refine s_reg λK hK=>l_auto2 rfl (l_num 18 _ rfl (kw32.t2 hB.a hB.b hB.c) (zJ (hK _ ?_)));refine s_lit (l_auto2 rfl (l_num 10 _ rfl kw32.sum1 (l_num 6 _ rfl kw32.sum (zJ (hK3 _ ?_)))));refine zD rfl ?_;exact zX (t+1,rnd bJ (cbs[t]! / 4294967296) (sx bJ b t) q) ⟨hlt,by rw [hq];rfl⟩ (by show 64-(t+1)<64-t;omega) ⟨⟨congrArg (λx=>some (SV.v (.int .i64 x))) (addI t 1 (by omega)),rfl,rfl,rfl,rfl,rfl,rfl,rfl,rfl,rfl,rfl,rfl,trivial⟩,zL rfl rfl, .refl _,λ_ h _=>h,λ_ h=>h⟩
 ·obtain rfl:t=64:=by omega
  refine s_exit (zS (zS (k_out (hK1 _ ?_))));refine s_reg λK hK=>?_;refine l_cell rfl arr8w (aC rfl) (.int .u32 (o.a:Int)) rfl (l_auto2 rfl (l_num 107 _ rfl (kw32.add (b:=q.a)) ?_));refine l_cell rfl arr8w (aC rfl) (.int .u32 (o.b:Int)) rfl (l_auto2 rfl (l_num 111 _ rfl (kw32.add (b:=q.b)) ?_));refine l_cell rfl arr8w (aC rfl) (.int .u32 (o.c:Int)) rfl (l_auto2 rfl (l_num 115 _ rfl (kw32.add (b:=q.c)) ?_));refine l_cell rfl arr8w (aC rfl) (.int .u32 (o.d:Int)) rfl (l_auto2 rfl (l_num 119 _ rfl (kw32.add (b:=q.d)) ?_));refine l_cell rfl arr8w (aC rfl) (.int .u32 (o.e:Int)) rfl (l_auto2 rfl (l_num 123 _ rfl (kw32.add (b:=q.e)) ?_));refine l_cell rfl arr8w (aC rfl) (.int .u32 (o.f:Int)) rfl (l_auto2 rfl (l_num 127 _ rfl (kw32.add (b:=q.f)) ?_));refine l_cell rfl arr8w (aC rfl) (.int .u32 (o.g:Int)) rfl (l_auto2 rfl (l_num 131 _ rfl (kw32.add (b:=q.g)) ?_));refine l_cell rfl arr8w (aC rfl) (.int .u32 (o.h:Int)) rfl (l_auto2 rfl (l_num 135 _ rfl (kw32.add (b:=q.h)) ?_));refine l_f (.p [.agg 8 (Uw (nQ 32 o q).list).toArray]) (eZ_ok rfl) (λG S w C0 Q' _ _ hQ=>f_build ([(o.a+q.a)%2^32,(o.b+q.b)%2^32,(o.c+q.c)%2^32,(o.d+q.d)%2^32,(o.e+q.e)%2^32,(o.f+q.f)%2^32,(o.g+q.g)%2^32,(o.h+q.h)%2^32].zipIdx.map λx=>(x.2,.int .u32 ((x.1:Nat):Int))) (Uw (nQ 32 o q).list).toArray rfl rfl rfl rfl rfl (by kernel_rfl) hQ) rfl ?_;refine l_N hK rfl (zP ?_);rw [hq]
  exact zR zY () rfl (by decide) rfl rfl rfl (λ_ _ _=>trivial) λ_ _=>trivial⟩
theorem size_v8(cs:Array Value)(h:cs.size=8):(Tryz.prog.info? 174).map (·.size)=some cs.size:=by
 rw [h]
 kernel_rfl
def z8v:Array Value:=(Uw [0,0,0,0,0,0,0,0]).toArray
end Go.Proofs.YtlhlkofpjhpaoaaGreatDoor
