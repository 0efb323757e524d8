import Derived.Test.YtfkchihlchlfdaaDoorMn
import Derived.Test.YtfkchihlchlfdaaDoorMe
import Derived.Test.YtfkchihlchlfdaaDoorMl
import Derived.Test.YtfkchihlchlfdaaDoorMb
import Derived.Test.YtfkchihlchlfdaaDoorMm
open And renaming intro->aY
open Go.Act renaming put->aE
open Go.IntKind renaming wrap_u64->aP,wrap_u32->bJ,wrap_u8'->k6
open Go.Lib renaming hid->aH
open Go.Region renaming wanted->aL
open Go.World renaming size_alloc->aW
open Iff renaming rfl->Fg
open List renaming setIfInBounds_toArray->aA,set_cons_zero->aB,set_cons_succ->aC,replicate->aD,length_append->aO,append_assoc->aU,length_take->aZ,take_succ_cons->a9,size_toArray->bA,length_replicate->bM,take_zero->bN,take_of_length_le->bT,mem_cons->cA,append_nil->cD,mem_singleton->cG,length_set->eP,getElem_mem->xS
open Nat renaming le_refl->aF,lt_of_lt_of_le->bB,lt_of_le_of_lt->bR,min_eq_left->cO,pow_succ->dE,mod_lt->eR,le_of_lt->fA,div_le_self->gJ,div_div_eq_div_mul->gX,lt_irrefl->lY,pow_zero->qG,add_mul->rH,div_one->sG,sub_self->zG,one_mul->CG
open Option renaming map_some->fF
open Option.some renaming injEq->bH,inj->eW
namespace Go.Proofs.YtfkchihlchlfdaaDoor
open Go.RowKit Go.IntWalk
section
variable {f : FuncId} {args : List Value} {F : World -> Prop} {l : List UInt8}
theorem Spec.made (h : ∀ w,F w -> Calls Tryd.prog f args.toArray w (Made w l)) : Spec f args [] F
  { ret:=λg : Nat=>.v (.slice (some ⟨g,0,none⟩) l.length l.length),n:=λg=>Rd 1 eB (some ⟨g,0,none⟩) l.length l }:=λw S X hS _ hF=>by
 refine (h w hF.now).mono ?_
 rintro e w' ⟨g,he,ho,hb⟩
 refine ⟨g,S,he,trivial,Chg.tA hb,hS.kH λk hk=>hb.block k (hS.lt k hk),λ_ h _=>h,λ_ _=>trivial,?_⟩;have h3 : (gZ w.heap.size 5 1 eB (some ⟨g,0,none⟩) l.length l).holds w' λj=>(some (⟨g,0,none⟩ : Addr)).map (·.block) = some j:=⟨wD _,by rw [Ck]; exact ho,λ_=>Fg⟩;have h4:=gZ.rd h3;have h6:=(gZ.inb h3 _ rfl).1
 intro w2 hw2
 refine h4.kH hw2.size λb' e hlt=>hw2.block b' hlt ?_;simp only [fF,bH] at e;subst e
 rintro (h5 | h5)
 ·exact lY _ (bB h5 h6)
 ·exact lY _ (bB (hS.lt _ h5) h6)
theorem Spec.UM (h : ∀ w,F w -> Calls Tryd.prog f args.toArray w (Vw w l)) : Spec f args [] F
  { ret:=λx : Option Addr × Nat=>.v (.slice x.1 l.length x.2),own:=λx=>[gZ 0 5 1 eB x.1 x.2 l] }:=λw S X hS _ hF=>by
 refine (h w hF.now).mono ?_
 rintro e w' ⟨A,c,he,ho,hb⟩
 have h3 : (gZ w.heap.size 5 1 eB A c l).holds w' λj=>A.map (·.block) = some j:=⟨wD _,by rw [Ck]; exact ho,λ_=>Fg⟩;have h4 : (gZ 0 5 1 eB A c l).holds w' λj=>A.map (·.block) = some j:=⟨wD _,by rw [Ck]; exact Gk ho (Nat.zero_le _),λ_=>Fg⟩;refine ⟨(A,c),λj=>A.map (·.block) = some j,he,trivial,Chg.tA hb,La.2 h4,λk hk hlt=>?_,λ_ _=>trivial,λ_ _=>trivial⟩
 cases A with
 | none=>cases hk
 | some ad =>
  simp only [fF,bH] at hk;have:=(gZ.inb h3 ad rfl).1
  omega
end
section
variable {b : iF} {G : Nat -> Nat} {S : Nat -> Prop} {L : List LV} {R : List Res} {F M : World -> Prop} {w : World} {g : Nat} {t : TypeId} {ps : List Pt}
theorem StW.U2 (h : StW b G S L R F M w) {i : Nat} (hi : R[i]? = some (RD g t ps)) : ∃ S',StW b G S' L (R.eraseIdx i) (λw=>L9 g t ps w /\ F w) M w:=by
 obtain ⟨S1,S2,⟨h1,h1'⟩,h2,h3,h4⟩:=h.let hi;refine ⟨S2,h4.and (p:=L9 g t ps) λw' hw=>⟨(hw.block g h1.1.lt λhx=>?_).trans h1.1,h1.2⟩⟩
 rcases hx with hx | hx | ⟨j,hj,e⟩
 ·exact (h.old g hx).2 (h.mine g (.inl ((h3 g).2 (.inl ((h1' g).2 rfl)))) (h.old g hx).1)
 ·exact h2 g ((h1' g).2 rfl) hx
 ·exact h.sep j hj ((h3 _).2 (.inl ((h1' _).2 e)))
variable {P : Program} {Q : Exit -> Act -> World -> Prop} {N : Nat} {E : SE}
theorem Ec {x : Code} (i : Nat) (hi : R[i]? = some (RD g t ps)) (h : cS P b x Q N ⟨E,L,R.eraseIdx i,λw=>L9 g t ps w /\ F w,M⟩) : cS P b x Q N ⟨E,L,R,F,M⟩:=λa w ⟨G,S,h1,h2,h3⟩=>by
 obtain ⟨S',h4⟩:=h3.U2 hi;exact h a w ⟨G,S',h1,h2,h4⟩
end
theorem Iy {g n : Nat} {t : TypeId} {l : List UInt8} {w : World} (h : L9 g t [.agg n (By l).toArray] w) (hn : n <= 9223372036854775807) : Rd 1 eB (some ⟨g,0,none⟩) n l w:=by
 have h1 : l.length = n:=by
  have:=(h.2 _ List.mem_cons_self).1
  rwa [bA,b6] at this
 refine ⟨Nat.le_of_eq h1,hn,λh=>(by cases h),wD l,λ_=>⟨g,0,rfl,h.1.lt,λi x hi j v hj=>?_⟩⟩;have hB : Blk w g t (By l).toArray:=h.1;rw [hB.cell]
 cases j with
 | zero =>
  have e : v = .int .u8 (x.toNat : Int):=(eW ((show (eB x).cl[0]? = some (.int .u8 (x.toNat : Int)) from rfl).symm.trans hj)).symm;obtain ⟨h2,h3⟩:=List.getElem?_eq_some_iff.1 hi;have h4:=PD h2;rw [getElem!_pos l i h2,h3] at h4;rw [e]
  simpa using h4
 | succ j =>
  have : (eB x).cl[j + 1]? = none:=rfl;rw [this] at hj
  cases hj
theorem zN {P : Program} {N : Nat} {E : SE} {o : Oper} {x : Operand} {t e : TypeId} {g off n sz : Nat} (ho : o.op = .slice t x none none none) (ht : P.underlying t = some (.array n e)) (he : (P.info? e).map (·.size) = some sz) (hx : evS E x = some (.v (.pointer (some ⟨g,off,none⟩)))) :
  ∀ (G : Nat -> Nat) (a : Act) (w : World),Fr N (fY G E) a -> (execOp a.eval o).run P w = .ok (.value ((SV.v (.slice (some ⟨g,off,none⟩) n n)).den G)) w:=λG a w ha=>by
 have h1 : a.eval x = .pointer (some ⟨g,off,none⟩):=ha.eval (eF hx);have h5:=run_sizeOf he w
 unfold execOp
 simp only [ho];generalize a.eval = ρ at *;simp only [Option.map,h1]
 show _ = Result.ok (Next.value (.slice (some ⟨g,off,none⟩) n n)) w
 simp [Instr.sliceAt,Instr.sureAddr,run_underlying ht,Instr.sliceBounds,h5,Sem.run_bind,Addr.add_mid]
theorem Qq : Own 34:=λ_ _=>by go_simp
theorem BP : Own 19:=λ_ _=>by go_simp
theorem zR : Own 21:=λ_ _=>by go_simp
theorem US (v : Nat) (hv : v < 18446744073709551616) : Spec 34 [.int .u64 (v : Int)] [] (λ_=>True) (one (.q (eY 8 (be8 v)))) :=
 Spec.pure (mU (mW v)).1 λw _=>J5 v w hv
theorem JQ (v : Nat) (hv : v < 18446744073709551616) : Spec 21 [.int .u64 (v : Int)] [] (λ_=>True)
  { ret:=λg : Nat=>.v (.slice (some ⟨g,0,none⟩) (be8 v).length (be8 v).length),n:=λg=>Rd 1 eB (some ⟨g,0,none⟩) (be8 v).length (be8 v) } :=
 Spec.made λw _=>BH v w hv
set_option maxRecDepth 100000 in
theorem Hw {A : Option Addr} {c : Nat} (l : List UInt8) (v : Nat) (hv : v < 18446744073709551616) (hl : l.length + 8 <= 281474976710656) : Spec 19 [.slice A l.length c,.int .u64 (v : Int)] [] (Rd 1 eB A c l)
  { ret:=λg : Nat=>.v (.slice (some ⟨g,0,none⟩) (l ++ be8 v).length (l ++ be8 v).length),n:=λg=>Rd 1 eB (some ⟨g,0,none⟩) (l ++ be8 v).length (l ++ be8 v) }:=by
 refine mN [.c (.v (.slice A l.length c)),.c (.v (.int .u64 (v : Int)))] 12 Tryd.func19 rfl (by rw [Tryd.ntmps19]; rfl) (sM trivial trivial) λb=>?_;refine dZ aN rfl ?_;refine dV aN rfl λK1 hK1=>?_;refine dO [.int .u64 (v : Int)] rfl rfl rfl Qq rfl rfl (λ_ _=>rfl) (US v hv) (λ_ _ _=>trivial) λ_=>?_;refine a5 aN rfl ?_;refine cN (IG 5 rfl (E':=[(0,.v (.slice A l.length c))]) ⟨rfl,trivial⟩ λg=>hK1 _ ?_);refine Ec 0 rfl ?_;refine dV aN rfl λK2 hK2=>?_;refine tE (.v (.slice (some ⟨g,0,none⟩) 8 8)) trivial rfl rfl rfl (zN rfl Tryd.underlying70 rfl rfl) ?_;refine p9 aN b.B.heap.size [⟨A,c,l⟩,⟨some ⟨g,0,none⟩,8,be8 v⟩] (fe:=I5) rfl rfl rfl rfl rfl (λ_=>rfl) rfl (by decide) (by decide) (JX _) (aF _) λP=>?_;refine rC 0 rfl ?_
 have e0 : (List.map Seg.l [⟨A,c,l⟩,⟨some ⟨g,0,none⟩,8,be8 v⟩]).flatten = l ++ be8 v:=by simp
 have hj:=Oe (A:=P) (c:=2) [⟨A,c,l⟩,⟨some ⟨g,0,none⟩,8,be8 v⟩] (by rw [e0,aO,mW]; exact hl);rw [e0] at hj
 refine dO [.slice P 2 2] rfl rfl rfl Gi rfl rfl (λ_ _=>rfl) hj (λw h _=>⟨h.1,λs hs=>by
  rcases cA.1 hs with rfl | hs
  ·exact h.2.2.2
  ·rw [cG.1 hs]
   exact Iy (n:=8) h.2.1 (Nat.le_of_ble_eq_true rfl)⟩) λgb=>?_
 refine a5 aN rfl ?_;refine cN (hK2 _ ?_);exact lU (mS aN gb rfl (by decide) rfl rfl rfl (λ_ _ _=>trivial) (λw h=>h.1))
section
variable {T : List TyR} {b : iF} {ops : Array Oper} {Q : Exit -> Act -> World -> Prop} {N : Nat} {G : Nat -> Nat} {S : Nat -> Prop} {E : SE} {L : List LV} {R : List Res} {F M : World -> Prop} {w0 : World} {T' : List Oper} {Fa : Told} {i k : Nat} {o : Oper} {rest : List (Nat × Oper)}
theorem QV {ty : TypeId} (zs : Array Value) (hg : o.guard = none) (hd : o.dst = some k) (hk : Nat.blt k N = true) (hf : rW i Fa = true) (ho : o.op = .alloc ty) (hz : (Tryd.prog.info? ty).bind (λi=>i.zero.map (·.cells)) = some zs)
  (hn : ∀ g,hS Tryd.prog ops Q N T' G w0 rest ((k,.v (.pointer (some ⟨g,0,none⟩))) :: E) ((i,λw=>w0.heap.size <= g /\ Blk w g ty zs) :: Fa)) : hS Tryd.prog ops Q N T' G w0 ((i,o) :: rest) E Fa:=λhE =>
 yU zs w0.heap.size hg hd hk hf ho hz (λ_ h=>h.size) (λ_ _ _ h hb=>⟨h.1,h.2.later hb⟩) λg _ _ _ _=>hn g (hE.cons (v:=.v (.pointer (some ⟨g,0,none⟩))) trivial)
theorem Tr (hst : StW b G S L R F M w0) {g : Nat} {ty : TypeId} {ps : List Pt} (k i : Nat) (E' : SE) (hi : DB Fa i = some (λw=>w0.heap.size <= g /\ Blk w g ty (eO ps))) (hk : kU E k = some (.v (.pointer (some ⟨g,0,none⟩)))) (hE' : CX E' E) (hfE : GW k E' = true) (hfL : Ad k L = true) (hok : OkP ps)
  (h : lS Tryd.prog b ops Q N T' ⟨(k,.a k 0) :: E',⟨k,none,ty,ps⟩ :: L,R,F,M⟩) : hS Tryd.prog ops Q N T' G w0 [] E Fa:=λhE=>jC λw hw hF=>λa ha=>by
 obtain ⟨h1,h2⟩:=hF i _ hi
 have hfr : Fr N (fY (λj=>if j = k then g else G j) ((k,.a k 0) :: E')) a:=ha.sub ⟨by
  rw [jJ,hk]
  show some (Value.pointer (some ⟨g,0,none⟩)) = some (Value.pointer (some ⟨if k = k then g else G k,0,none⟩))
  rw [if_pos rfl],by rw [Cs hfE]; exact uL hE'⟩
 have hst2:=hst.news (E:=E') (gs:=λ_=>g) hw [⟨k,none,ty,ps⟩] (by simp [Ch,hfE,hfL,Ad]) (λu hu=>by rw [cG.1 hu]; exact hok) (λ_ _=>h1) (λi j hi hj hne=>absurd (show i = j by simp at hi hj; omega) hne) λu hu=>by
  rw [cG.1 hu]
  show Blk w (if k = k then g else G k) ty (eO ps)
  rw [if_pos rfl];exact h2
 exact h a w ⟨_,S,hfr,OkE.cons (CX.ok hE' hE) (v:=.a k 0) trivial,hst2⟩
theorem H9 {P : Program} {id : Nat} {l : List Oper} (n : Nat) (hn : n <= l.length) (hm : P.follows .mixedOrders = true) (hB : At l.toArray n (l.drop n).length = true)
  (h : ∀ G S w0,StW b G S L R F M w0 -> hS P l.toArray Q N (l.drop n) G w0 (idx 0 (l.take n)) E []) : cS P b (.region id l.toArray true) Q N ⟨E,L,R,F,M⟩:=JH n hn hm hB λG S w0 hst=>h G S w0 hst
end
theorem Ef {N : Nat} {E : SE} {o : Oper} {x y : Operand} {t' : TypeId} {u v : SV} {p q : Bool} (ho : o.op = .binOp .neq 4 x y t') (hx : evS E x = some u) (hy : evS E y = some v) (hu : ∀ G,u.den G = .bool p) (hv : ∀ G,v.den G = .bool q) : ∀ (G : Nat -> Nat) (a : Act) (w : World),Fr N (fY G E) a -> (execOp a.eval o).run Tryd.prog w = .ok (.value ((SV.b (!(p == q))).den G)) w:=λG a w ha=>by
 have h1 : a.eval x = .bool p:=(ha.eval (eF hx)).trans (hu G);have h2 : a.eval y = .bool q:=(ha.eval (eF hy)).trans (hv G)
 unfold execOp
 simp only [ho,h1,h2]
 go_simp
 rfl
abbrev Gw (l : List UInt8) : xQ Nat:={ ret:=λg=>.v (.slice (some ⟨g,0,none⟩) l.length l.length),p:=λg=>Rd 1 eB (some ⟨g,0,none⟩) l.length l }
abbrev RW (l : List UInt8) : xQ Nat:={ ret:=λg=>.v (.slice (some ⟨g,0,none⟩) l.length l.length),n:=λg=>Rd 1 eB (some ⟨g,0,none⟩) l.length l }
theorem Spec.p1 {f : FuncId} {args : List Value} {F : World -> Prop} {l : List UInt8} (h : Spec f args [] F (RW l)) : Spec f args [] F (Gw l):=λw S X hs hX hF=>by
 refine (h w S X hs hX hF).mono ?_
 rintro e w' ⟨x,S',h1,h2,h3,h4,h5,h6,h7⟩
 refine ⟨x,S',h1,h2,h3,h4,h5,h7.less λk _ hk=>?_,λ_ _=>trivial⟩
 rcases hk with hk | hk
 ·exact .inl (hX k hk).1
 ·exact .inr hk
instance {l : List UInt8} {g : Nat} : Pst ((Gw l).p g):=inferInstanceAs (Pst (Rd 1 eB (some ⟨g,0,none⟩) l.length l))
instance pst_true : Pst (λ_ : World=>True):=⟨λ_ _ _ _=>trivial⟩
instance {r : RV} {x : Unit} : Pst ((one r).p x):=⟨λ_ _ _ _=>trivial⟩
theorem Gv {l : List UInt8} {x : Nat} {w : World} (h : ∃ y,((Gw l).ret x).den = ((Gw l).ret y).den /\ (Gw l).p y w) : Rd 1 eB (some ⟨x,0,none⟩) l.length l w:=by
 obtain ⟨y,e,hy⟩:=h;have e : Value.slice (some ⟨x,0,none⟩) l.length l.length = .slice (some ⟨y,0,none⟩) l.length l.length:=e
 injection e with e
 injection e with e
 injection e with e
 rw [e];exact hy
abbrev Fv (l : List UInt8) : xQ (Option Addr × Nat):={ ret:=λx=>.v (.slice x.1 l.length x.2),p:=λx=>Rd 1 eB x.1 x.2 l }
instance {l : List UInt8} {x : Option Addr × Nat} : Pst ((Fv l).p x):=inferInstanceAs (Pst (Rd 1 eB x.1 x.2 l))
theorem Fu {l : List UInt8} {x : Option Addr × Nat} {w : World} (h : ∃ y,((Fv l).ret x).den = ((Fv l).ret y).den /\ (Fv l).p y w) : Rd 1 eB x.1 x.2 l w:=by
 obtain ⟨y,e,hy⟩:=h;have e : Value.slice x.1 l.length x.2 = .slice y.1 l.length y.2:=e
 injection e with e1 _ e2
 rw [e1,e2];exact hy
theorem Spec.SW {f : FuncId} {args : List Value} {F : World -> Prop} {l : List UInt8} (h : ∀ w,F w -> Calls Tryd.prog f args.toArray w (Made w l)) : Spec f args [] F
  { ret:=λx : Option Addr × Nat=>.v (.slice x.1 l.length x.2),own:=λx=>[gZ 0 5 1 eB x.1 x.2 l] } :=
 Spec.UM λw hF=>(h w hF).mono λ_ _ ⟨g,he,ho,hb⟩=>⟨some ⟨g,0,none⟩,l.length,he,ho,hb⟩
end Go.Proofs.YtfkchihlchlfdaaDoor
namespace Go.Proofs.YtfkchihlchlfdaaDoor
open Go.RowKit Go.IntWalk Nums
instance : Pst Ta:=⟨λ_ _ h hb=>h.below hb⟩
theorem SI {A : Option Addr} {c : Nat} {seed b : List UInt8} (t : UInt8) (hs : seed.length = 32) (hb : b.length <= 140737488355312) :
  Spec 14 [.agg (By seed).toArray,.int .u8 (t.toNat : Int),.slice A b.length c] [] (λw=>Ta w /\ Rd 1 eB A c b w) (one (.q (eY 64 (jH seed (msg t b))))) :=
 Spec.pure (mU (kM _ _)).1 λw h=>SH t hs w h.1 h.2.sb hb
theorem Ep {A : Option Addr} {c : Nat} {key sig b : List UInt8} (t : UInt8) (hk : key.length = 32) (hs : sig.length = 64) (hb : b.length <= 140737488355312) :
  Spec 11 [.agg (By key).toArray,.int .u8 (t.toNat : Int),.slice A b.length c,.agg (By sig).toArray] [] (λw=>Ta w /\ Rd 1 eB A c b w) (one (.q (.c (.b (kO key sig (msg t b)))))) :=
 Spec.pure trivial λw h=>Qp t hk hs w h.1 h.2.sb hb
theorem M9 {seed : List UInt8} (hs : seed.length = 32) : Spec 16 [.agg (By seed).toArray] [] Ta (one (.q (eY 32 (gG seed)))) :=
 Spec.pure (mU (lM _)).1 λw h=>M7 hs w h
theorem u32_or (a b : Nat) (ha : a < 4294967296) (hb : b < 4294967296) : bits .or .u32 (a : Int) (b : Int) = ((a ||| b : Nat) : Int):=u32_or_nat a b ha hb
set_option maxRecDepth 100000 in
set_option maxHeartbeats 1000000 in
theorem nW (x n : Nat) (hx : x < 4294967296) (h0 : 0 < n) (hn : n < 32) (w : World) :
  Calls Tryd.prog 53 #[.int .u32 (x : Int),.int .i64 (-(n : Int))] w λe w'=>e = .returned (.int .u32 ((dW 32 n x : Nat) : Int)) /\ w' = w:=by
 have q1 : IntKind.u64.wrap (-(n : Int)) = ((18446744073709551616 - n : Nat) : Int):=by
  rw [aP]
  omega
 have q2 : bits .and .u64 ((18446744073709551616 - n : Nat) : Int) 31 = ((32 - n : Nat) : Int):=by
  have h:=u64_and_nat (18446744073709551616 - n) 31 (by omega) (by omega);have e : (18446744073709551616 - n) &&& 31 = (18446744073709551616 - n) % 32:=Nat.and_two_pow_sub_one_eq_mod _ 5;rw [e] at h
  have e2 : (18446744073709551616 - n) % 32 = 32 - n:=by omega
  rw [e2] at h;exact h
 obtain ⟨e1,e2⟩:=M1 32 n x (by omega) hx
 have q3 : IntKind.u32.wrap ((x : Int) * 2 ^ (32 - n)) = ((x % 2 ^ n * 2 ^ (32 - n) : Nat) : Int):=by
  rw [<-e1,bJ]
  simp
 have q4 : IntKind.u64.wrap (32 - ((32 - n : Nat) : Int)) = (n : Int):=by
  rw [aP]
  omega
 have f1 : ((x : Int) / 2 ^ n) = ((x / 2 ^ n : Nat) : Int):=by simp
 have hm : x % 2 ^ n * 2 ^ (32 - n) < 4294967296:=by
  rw [<-e1];exact eR _ (by decide)
 have hd : x / 2 ^ n < 4294967296:=bR (gJ _ _) hx
 have q5 : bits .or .u32 ((x % 2 ^ n * 2 ^ (32 - n) : Nat) : Int) ((x / 2 ^ n : Nat) : Int) = ((dW 32 n x : Nat) : Int):=by
  rw [u32_or _ _ hm hd,nat_join (32 - n) _ _ (Nat.mul_mod_left _ _) e2]
  unfold dW
  rw [Nat.add_comm]
 have g1 : ((32 - n : Nat) : Int) <= 32:=by omega
 have g2 : (n : Int) <= 32:=by omega
 clear e1 e2 hm hd;generalize dW 32 n x = r at *;generalize x % 2 ^ n * 2 ^ (32 - n) = m at *;generalize x / 2 ^ n = d at *;generalize hs : 32 - n = s at *;generalize 18446744073709551616 - n = u at *;clear hs
 go_enter Tryd.func53,Tryd.ntmps53
 go_wp2
 go_ret
 exact ⟨rfl,rfl⟩
def Uw (l : List Nat) : List Value:=l.map λx : Nat=>.int .u32 (x : Int)
theorem An (l : List Nat) : (Uw l).length = l.length:=by simp [Uw]
theorem Am (l : List Nat) : ∀ u ∈ Uw l,u.oneCell' = true:=by
 intro u hu
 obtain ⟨x,_,rfl⟩:=List.mem_map.1 hu
 rfl
theorem zC {l : List Nat} {j : Nat} (h : j < l.length) : (Uw l).toArray[j]? = some (.int .u32 (l[j]! : Nat)):=by
 simp [Uw,h]
theorem Po (l : List Nat) (k x : Nat) : (Uw l).toArray.setIfInBounds k (.int .u32 (x : Int)) = (Uw (l.set k x)).toArray:=by
 simp [Uw,List.map_set]
theorem orV (i x y : Nat) (hx : x % 2 ^ i = 0) (hy : y < 2 ^ i) (h1 : x < 4294967296) (h2 : y < 4294967296) : bits .or .u32 (x : Int) (y : Int) = ((x + y : Nat) : Int):=by
 rw [u32_or_nat x y h1 h2,nat_join i x y hx hy]
theorem UG {e : Nat} (he : e < 4294967296) : bits .xor .u32 (if IntKind.u32.signed = true then -1 else IntKind.u32.max) (e : Int) = ((2 ^ 32 - 1 - e : Nat) : Int):=by
 have h:=u32_xor_nat 4294967295 e (by omega) he
 have h2 : 4294967295 ^^^ e = 2 ^ 32 - 1 - e:=by
  apply Nat.eq_of_testBit_eq
  intro i
  rw [show 2 ^ 32 - 1 - e = 2 ^ 32 - (e + 1) by omega,Nat.testBit_two_pow_sub_succ he,Nat.testBit_xor,show 4294967295 = 2 ^ 32 - 1 from rfl,Nat.testBit_two_pow_sub_one]
  by_cases hi : i < 32
  ·simp [hi]
  ·have h3 : e.testBit i = false:=Nat.testBit_lt_two_pow (bB he (Nat.pow_le_pow_right (n:=2) (by decide) (show 32 <= i by omega)))
   simp [hi,h3]
 rw [h2] at h;exact h
theorem xZ (cs : Array Value) (h : cs.size = 64) : (Tryd.prog.info? 93).map (·.size) = some cs.size:=by
 rw [h]
 kernel_rfl
def nK : List Nat:=aD 64 0
theorem iP : nK.length = 64:=by decide
theorem Mj (k : Nat) : nK[k]! = 0:=by
 unfold nK
 by_cases h : k < 64
 ·rw [getElem!_pos _ k (by rw [bM]; exact h),List.getElem_replicate]
 ·rw [getElem!_neg _ k (by rw [bM]; exact h)]
  rfl
theorem Si : (Tryd.prog.info? 93).bind (λi=>i.zero.map (·.cells)) = some (Uw nK).toArray:=by kernel_rfl
theorem Lc {F : Nat -> Nat} {k : Nat} : (mxl F nK k).set k 0 = mxl F nK k:=by
 apply List.ext_getElem (by simp)
 intro i h1 h2
 rw [List.getElem_set]
 by_cases h : k = i
 ·subst h
  have h3 : k < 64:=by simpa [dY,iP] using h2
  rw [if_pos rfl];have:=yO F nK (k:=k) (by rw [iP]; exact h3);rw [getElem!_pos _ k h2,Mj] at this;exact this.symm
 ·rw [if_neg h]
structure LS2 (w wr : World) (b : List UInt8) (l : List Nat) : Prop where
  b0 : Blk wr w.heap.size 25 (By b).toArray
  b1 : Blk wr (w.heap.size + 1) 93 (Uw nK).toArray
  b2 : Blk wr (w.heap.size + 1 + 1) 93 (Uw l).toArray
  be : Below w.heap.size w wr
theorem LS2.set {w wr : World} {b : List UInt8} {l : List Nat} (h : LS2 w wr b l) (k x : Nat) : LS2 w (wr.setCell ⟨w.heap.size + 1 + 1,k,none⟩ (.int .u32 (x : Int))) b (l.set k x) where
 b0:=h.b0.far (by show w.heap.size ≠ w.heap.size + 1 + 1; omega) _
 b1:=h.b1.far (by show w.heap.size + 1 ≠ w.heap.size + 1 + 1; omega) _
 b2:=by
  have h4:=h.b2.set k (.int .u32 (x : Int));rw [Po] at h4;exact h4
 be:=h.be.setCell (by show w.heap.size <= w.heap.size + 1 + 1; omega) _
theorem LS2.drew {w wr : World} {b : List UInt8} {l : List Nat} (h : LS2 w wr b l) : LS2 w wr.drew b l:=⟨h.b0,h.b1,h.b2,h.be.drew⟩
set_option maxRecDepth 100000 in
set_option maxHeartbeats 4000000 in
theorem LG {b : List UInt8} (hb : b.length = 64) (w : World) :
  Calls Tryd.prog 52 #[.agg (By b).toArray] w λe w'=>e = .returned (.agg (Uw (mxl (sx b7 b) nK 64)).toArray) /\ Below w.heap.size w w':=by
 have hlt:=Fy b7 b (by decide)
 have h16 : ∀ t,t < 16 -> sx b7 b t = ben (λk=>(b[4 * t + k]!).toNat) 4:=λt ht=>by
  rw [sx,dif_pos ht]
  unfold Hf
  rw [Nat.mul_comm t]
  rfl
 have hrec : ∀ t,16 <= t -> sx b7 b t = (o9 32 (17,19,10) (sx b7 b (t - 2)) + sx b7 b (t - 7) + o9 32 (7,18,3) (sx b7 b (t - 15)) + sx b7 b (t - 16)) % 4294967296:=λt ht=>by
  rw [sx,dif_neg (by omega)]
  rfl
 have hl0:=pZ (sx b7 b) nK;generalize sx b7 b = F at *
 go_enter Tryd.func52,Tryd.ntmps52
 refine wp_seq_k λK hK=>?_;refine wp_region_lit ?_;refine jW (By b).toArray rfl rfl rfl ?_;refine dN (zs:=(Uw nK).toArray) rfl rfl Si ?_;refine dP ?_
 go_simp
 refine hK _ _ ?_;clear hK K;refine wp_seq_k λK hK=>?_;refine wp_region_lit ?_;refine dN (zs:=(Uw nK).toArray) rfl rfl Si ?_;refine dP ?_
 go_simp
 refine hK _ _ ?_;clear hK K;refine pM (λW=>LS2 w W b nK) ⟨mV w _ _ _ _,lI w _ _ _ _,lV w _ _ _ _,(((Below.refl _ _).alloc (aF _) _).alloc (by simp) _).alloc (by simp; omega) _⟩ ?_
 intro W hW
 have HW:=aH hW;clear hW
 go_wp2
 go_loopw [11] (λi wr=>∃ t : Nat,t <= 16 /\ i = .int .i64 t /\ LS2 w wr b (mxl F nK t)) (λi _=>16 - (intOf i).toNat)
 case atStart =>
  refine ⟨0,by omega,rfl,?_⟩;rw [hl0];exact HW.out
 case round =>
  clear HW;obtain ⟨t,ht,rfl,hS⟩:=hrel
  by_cases htl : t < 16
  ·have hF:=h16 t htl
   have hset:=mP F nK (k:=t);have hz:=Lc (F:=F) (k:=t)
   have qA : IntKind.i64.wrap (4 * (t : Int)) = ((4 * t : Nat) : Int):=by rw [i64_left,wrap64_in _ (by omega)]; omega
   have qB : IntKind.i64.wrap (((4 * t : Nat) : Int) + 4) = ((4 * t + 4 : Nat) : Int):=by rw [i64_left,wrap64_in _ (by omega)]; omega
   have g1 : ((4 * t + 4 : Nat) : Int) <= 64:=by omega
   have g2 : ((4 * t : Nat) : Int) <= ((4 * t + 4 : Nat) : Int):=by omega
   have g3 : (0 : Int) <= ((4 * t : Nat) : Int):=by omega
   have g4 : (0 : Int) <= (t : Int):=by omega
   have hN:=hS.set t (F t);rw [hset] at hN
   have hd : 4 * t + 4 - 4 * t = 4:=by omega
   have hA60 : 4 * t <= 60:=by omega
   generalize hA8 : 4 * t + 4 = A8 at *;generalize hA : 4 * t = A at *;have c0:=(hS.drew.b0.cell A).trans (fU (by omega));have c1:=(hS.drew.b0.cell (A + 1)).trans (fU (by omega));have c2:=(hS.drew.b0.cell (A + 2)).trans (fU (by omega));have c3:=(hS.drew.b0.cell (A + 3)).trans (fU (by omega));have f1:=(hS.drew.b2.cell t).trans (zC (by rw [dY,iP]; omega));have f2:=hS.drew.b2.free t
   have hF2 : F t = (b[A]!).toNat * 16777216 + (b[A + 1]!).toNat * 65536 + (b[A + 2]!).toNat * 256 + (b[A + 3]!).toNat:=by
    rw [hF]
    show ((((0 * 256 + (b[A + 0]!).toNat) * 256 + (b[A + 1]!).toNat) * 256 + (b[A + 2]!).toNat) * 256 + (b[A + 3]!).toNat) = _
    rw [Nat.add_zero]
    omega
   have l0:=(b[A]!).toNat_lt;have l1:=(b[A + 1]!).toNat_lt;have l2:=(b[A + 2]!).toNat_lt;have l3:=(b[A + 3]!).toNat_lt;generalize (b[A]!).toNat = x0 at *;generalize (b[A + 1]!).toNat = x1 at *;generalize (b[A + 2]!).toNat = x2 at *;generalize (b[A + 3]!).toNat = x3 at *;obtain ⟨y0,hy0⟩ : ∃ y,y = x0 * 16777216:=⟨_,rfl⟩;obtain ⟨y1,hy1⟩ : ∃ y,y = x1 * 65536:=⟨_,rfl⟩;obtain ⟨y4,hy4⟩ : ∃ y,y = x2 * 256:=⟨_,rfl⟩;obtain ⟨y2,hy2⟩ : ∃ y,y = y0 + y1:=⟨_,rfl⟩;obtain ⟨y3,hy3⟩ : ∃ y,y = y2 + y4:=⟨_,rfl⟩
   have w0 : IntKind.u32.wrap ((x0 : Int) * 16777216) = (y0 : Int):=by rw [bJ]; omega
   have w1 : IntKind.u32.wrap ((x1 : Int) * 65536) = (y1 : Int):=by rw [bJ]; omega
   have w2 : IntKind.u32.wrap ((x2 : Int) * 256) = (y4 : Int):=by rw [bJ]; omega
   have w3 : IntKind.u32.wrap (x0 : Int) = (x0 : Int):=by rw [bJ]; omega
   have w4 : IntKind.u32.wrap (x1 : Int) = (x1 : Int):=by rw [bJ]; omega
   have w5 : IntKind.u32.wrap (x2 : Int) = (x2 : Int):=by rw [bJ]; omega
   have w6 : IntKind.u32.wrap (x3 : Int) = (x3 : Int):=by rw [bJ]; omega
   have o1:=orV 24 y0 y1 (by omega) (by omega) (by omega) (by omega);have o2:=orV 16 y2 y4 (by omega) (by omega) (by omega) (by omega);have o3:=orV 8 y3 x3 (by omega) (by omega) (by omega) (by omega)
   have hF3 : F t = y3 + x3:=by omega
   rw [<-hF3] at o3;rw [<-hy2] at o1;rw [<-hy3] at o2;have HN:=aH hN;clear hS hN hA8 h16 hrec hF hset hz hF2 hF3 hy0 hy1 hy2 hy3 hy4;generalize F t = z at *;generalize (mxl F nK t)[t]! = old at *
   go_wp2
   go_region
   go_wp2
   go_roundw
   case rel=>exact ⟨t + 1,by omega,by go_num,HN.out.drew⟩
   case measure=>simp [intOf]; omega
  ·obtain rfl : t = 16:=by omega
   have HS:=aH hS;clear hS;rw [show ((16 : Nat) : Int) = (16 : Int) from rfl]
   go_wp2
   go_loopw [6] (λi wr=>∃ t : Nat,16 <= t /\ t <= 64 /\ i = .int .i64 t /\ LS2 w wr b (mxl F nK t)) (λi _=>64 - (intOf i).toNat)
   case atStart=>exact ⟨16,by omega,by omega,rfl,HS.out⟩
   case round =>
    clear HS;obtain ⟨t,h16t,ht,rfl,hS⟩:=hrel
    by_cases htl : t < 64
    ·have hF:=hrec t h16t
     have hN:=hS.drew.set t (F t);rw [mP] at hN;have k2:=(hS.b2.cell (t - 2)).trans (zC (by rw [dY,iP]; omega));have k7:=(hS.drew.drew.b2.cell (t - 7)).trans (zC (by rw [dY,iP]; omega));have k15:=(hS.b2.cell (t - 15)).trans (zC (by rw [dY,iP]; omega));have k16:=(hS.drew.drew.b2.cell (t - 16)).trans (zC (by rw [dY,iP]; omega));rw [Ey (by omega) (by rw [iP]; omega)] at k2 k7 k15 k16;have kf:=hS.drew.drew.b2.free t;have kt:=(hS.drew.drew.b2.cell t).trans (zC (by rw [dY,iP]; omega));have x2 : F (t - 2) < 4294967296:=hlt (t - 2);have x7 : F (t - 7) < 4294967296:=hlt (t - 7);have x15 : F (t - 15) < 4294967296:=hlt (t - 15);have x16 : F (t - 16) < 4294967296:=hlt (t - 16)
     have i2 : IntKind.i64.wrap ((t : Int) - 2) = ((t - 2 : Nat) : Int):=by rw [i64_left,wrap64_in _ (by omega)]; omega
     have i7 : IntKind.i64.wrap ((t : Int) - 7) = ((t - 7 : Nat) : Int):=by rw [i64_left,wrap64_in _ (by omega)]; omega
     have i15 : IntKind.i64.wrap ((t : Int) - 15) = ((t - 15 : Nat) : Int):=by rw [i64_left,wrap64_in _ (by omega)]; omega
     have i16 : IntKind.i64.wrap ((t : Int) - 16) = ((t - 16 : Nat) : Int):=by rw [i64_left,wrap64_in _ (by omega)]; omega
     have j2 : ((t - 2 : Nat) : Int) < 64:=by omega
     have j7 : ((t - 7 : Nat) : Int) < 64:=by omega
     have j15 : ((t - 15 : Nat) : Int) < 64:=by omega
     have j16 : ((t - 16 : Nat) : Int) < 64:=by omega
     generalize (mxl F nK t)[t]! = old at *;generalize F (t - 2) = x at *;generalize F (t - 7) = p at *;generalize F (t - 15) = y at *;generalize F (t - 16) = q at *;generalize t - 2 = a2 at *;generalize t - 7 = a7 at *;generalize t - 15 = a15 at *;generalize t - 16 = a16 at *;have b1:=eG (w:=32) (n:=17) (x:=x) (by decide) x2;have b2:=eG (w:=32) (n:=19) (x:=x) (by decide) x2;have b3:=eG (w:=32) (n:=7) (x:=y) (by decide) x15;have b4:=eG (w:=32) (n:=18) (x:=y) (by decide) x15;have R1:=λw1=>aH (nW x 17 x2 (by decide) (by decide) w1);have R2:=λw1=>aH (nW x 19 x2 (by decide) (by decide) w1);have R3:=λw1=>aH (nW y 7 x15 (by decide) (by decide) w1);have R4:=λw1=>aH (nW y 18 x15 (by decide) (by decide) w1);have s1 : o9 32 (17,19,10) x = dW 32 17 x ^^^ dW 32 19 x ^^^ x / 1024:=rfl;have s0 : o9 32 (7,18,3) y = dW 32 7 y ^^^ dW 32 18 y ^^^ y / 8:=rfl;rw [s1,s0] at hF;generalize dW 32 17 x = r1 at *;generalize dW 32 19 x = r2 at *;generalize dW 32 7 y = r3 at *;generalize dW 32 18 y = r4 at *
     have d6 : (x : Int) / 1024 = ((x / 1024 : Nat) : Int):=by omega
     have d7 : (y : Int) / 8 = ((y / 8 : Nat) : Int):=by omega
     have hd6 : x / 1024 < 4294967296:=by omega
     have hd7 : y / 8 < 4294967296:=by omega
     generalize x / 1024 = u6 at *;generalize y / 8 = u7 at *;have o1:=u32_xor_nat r1 r2 b1 b2;have o2:=u32_xor_nat (r1 ^^^ r2) u6 (gL b1 b2) hd6;have o3:=u32_xor_nat r3 r4 b3 b4;have o4:=u32_xor_nat (r3 ^^^ r4) u7 (gL b3 b4) hd7;have c1:=gL (gL b1 b2) hd6;have c0:=gL (gL b3 b4) hd7;generalize r1 ^^^ r2 ^^^ u6 = v1 at *;generalize r3 ^^^ r4 ^^^ u7 = v0 at *;generalize r1 ^^^ r2 = v2 at *;generalize r3 ^^^ r4 = v3 at *
     have w1 : IntKind.u32.wrap ((v1 : Int) + (p : Int)) = (((v1 + p) % 4294967296 : Nat) : Int):=by rw [bJ]; omega
     have w2 : IntKind.u32.wrap ((((v1 + p) % 4294967296 : Nat) : Int) + (v0 : Int)) = ((((v1 + p) % 4294967296 + v0) % 4294967296 : Nat) : Int):=by rw [bJ]; omega
     have w3 : IntKind.u32.wrap (((((v1 + p) % 4294967296 + v0) % 4294967296 : Nat) : Int) + (q : Int)) = ((F t : Nat) : Int):=by rw [hF,bJ]; omega
     have HN:=aH hN;clear hS hN hF s1 s0 b1 b2 b3 b4 hd6 hd7 c1 c0;generalize ((v1 + p) % 4294967296 + v0) % 4294967296 = v5 at *;generalize (v1 + p) % 4294967296 = v4 at *;generalize F t = z at *
     go_wp2
     go_region
     clear k2 k15;generalize wr.drew = W2 at *
     go_wp2_with (fail)
     refine (R1 _).out.mono ?_
     rintro e w4 ⟨rfl,rfl⟩
     go_wp2_with (fail)
     refine (R2 _).out.mono ?_
     rintro e w4 ⟨rfl,rfl⟩
     go_wp2_with (fail)
     refine (R3 _).out.mono ?_
     rintro e w4 ⟨rfl,rfl⟩
     go_wp2_with (fail)
     refine (R4 _).out.mono ?_
     rintro e w4 ⟨rfl,rfl⟩
     go_wp2_with (fail)
     go_still_tail 15,(by kernel_rfl)
     go_wp2
     go_roundw
     case rel=>exact ⟨t + 1,by omega,by omega,by go_num,HN.out.drew⟩
     case measure=>simp [intOf]; omega
    ·obtain rfl : t = 64:=by omega
     obtain ⟨b0,b1,b2,be⟩:=hS
     have hz : (Uw (mxl F nK 64)).toArray.size = 64:=by rw [bA,An,dY,iP]
     clear b0
     go_wp2_with (first
      | (refine wpList_load_row rfl 93 _ rfl (w.heap.size + 1 + 1) rfl 93 (Uw (mxl F nK 64)).toArray (0,0) _ b2 Tryd.underlying93 rfl (xZ _ hz) ?_)
      | (refine wpList_store_row rfl 93 _ _ rfl (w.heap.size + 1) rfl (Uw (mxl F nK 64)).toArray rfl 93 _ b1 (xZ _ hz) (by rw [hz,bA,An,iP]) (Am _) ?_))
     refine bodyPost_ret (results_cell_row rfl _ _ (w.heap.size + 1) 93 (Uw (mxl F nK 64)).toArray (0,0) _ rfl (b1.row _) Tryd.underlying93 rfl (xZ _ hz)) rfl ⟨rfl,?_⟩;exact below_setRow be (by omega) _
theorem Gh : Own 52:=λ_ _=>by go_simp
theorem nU (cs : Array Value) (h : cs.size = 8) : (Tryd.prog.info? 65).map (·.size) = some cs.size:=by
 rw [h]
 kernel_rfl
theorem Ft {l : List UInt8} (h : l.length = 64) : (By l).toArray.size = 64:=by rw [bA,b6,h]
def z8v : Array Value:=(Uw [0,0,0,0,0,0,0,0]).toArray
section
variable {ops : Array Oper} {C0 : World -> Prop} {Q : Act -> Prop} {a : Act} {o : Oper} {rest : List Oper}
theorem PR {l : List UInt8} (g : Nat) (hl : l.length = 64) (x : Operand) (hg : aL o (yielded ops a.tmps) = true) (ho : o.op = .load 25 x) (hx : a.eval x = .pointer (some ⟨g,0,none⟩))
  (hc : ∀ w,C0 w -> Blk w g 25 (By l).toArray) (hk : wpB Tryd.prog ops C0 Q rest (a.put o.dst (.agg (By l).toArray))) : wpB Tryd.prog ops C0 Q (o :: rest) a :=
 y9 hg 25 x ho g 0 hx (By l) _ (λw h=>(hc w h).range) Tryd.underlying25 rfl (pP (By l).toArray (Ft hl)) hk
theorem qX {x : Operand} (g k : Nat) (hk8 : k < 8) (hg : aL o (yielded ops a.tmps) = true) (ho : o.op = .indexAddr 65 x (.const (.int .i64 (k : Int)))) (hx : a.eval x = .pointer (some ⟨g,0,none⟩))
  (hk : wpB Tryd.prog ops C0 Q rest (a.put o.dst (.pointer (some ⟨g,k,none⟩)))) : wpB Tryd.prog ops C0 Q (o :: rest) a :=
 k5 hg (λw _=>by
  have h1 : (k : Int) < 8:=by omega
  have h2 : (0 : Int) <= (k : Int):=by omega
  unfold execOp
  simp only [ho,hx]
  go_simp) hk
theorem qZ {x : Operand} (g k v : Nat) (hg : aL o (yielded ops a.tmps) = true) (ho : o.op = .load 64 x) (hx : a.eval x = .pointer (some ⟨g,k,none⟩)) (hc : ∀ w,C0 w -> w.cell? ⟨g,k,none⟩ = some (.int .u32 (v : Int)))
  (hk : wpB Tryd.prog ops C0 Q rest (a.put o.dst (.int .u32 (v : Int)))) : wpB Tryd.prog ops C0 Q (o :: rest) a :=
 k5 hg (λw hw=>by
  have h1:=hc w hw
  unfold execOp
  simp only [ho,hx]
  go_simp) hk
end
structure TS2 (w wr : World) (o : Oct) (gx : Nat) (l : List Nat) : Prop where
  b0 : Blk wr w.heap.size 65 (Uw o.list).toArray
  b2 : Blk wr (w.heap.size + 1 + 1) 65 z8v
  bx : Blk wr gx 93 (Uw l).toArray
  tw : Ts wr
  be : Below w.heap.size w wr
theorem TS2.up {w wr w1 : World} {o : Oct} {gx : Nat} {l : List Nat} (h : TS2 w wr o gx l) (k : Up wr w1) : TS2 w w1 o gx l:=⟨k.blk h.b0,k.blk h.b2,k.blk h.bx,h.tw.below k,a6 h.be k⟩
theorem TS2.drew {w wr : World} {o : Oct} {gx : Nat} {l : List Nat} (h : TS2 w wr o gx l) : TS2 w wr.drew o gx l:=⟨h.b0,h.b2,h.bx,h.tw.drew,h.be.drew⟩
set_option maxRecDepth 100000 in
set_option maxHeartbeats 8000000 in
theorem KR {o : Oct} (ho : OB 32 o) {b : List UInt8} (hb : b.length = 64) (w : World) (hT : Ts w) :
  Calls Tryd.prog 32 #[.agg (Uw o.list).toArray,.agg (By b).toArray] w λe w'=>e = .returned (.agg (Uw (iA b7 o b).list).toArray) /\ Below w.heap.size w w':=by
 have HL:=λw1=>LG hb w1;have hxl : ∀ t,t < 64 -> (mxl (sx b7 b) nK 64)[t]! = sx b7 b t:=λt h=>Ey h (by rw [iP]; exact h);have hxb:=Fy b7 b (by decide)
 have hxn : (mxl (sx b7 b) nK 64).length = 64:=by rw [dY,iP]
 have hO:=λt=>OB.nO (s:=b7) (b:=b) ho t;have hstep : ∀ t,nO b7 b o (t + 1) = rnd b7 (cbs[t]! / 4294967296) (sx b7 b t) (nO b7 b o t):=λt=>rfl;have h0 : nO b7 b o 0 = o:=rfl;have hend : iA b7 o b = CB 32 o (nO b7 b o 64):=rfl;rw [hend];clear hend
 have hzx : (Uw (mxl (sx b7 b) nK 64)).toArray.size = 64:=by rw [bA,An,hxn]
 generalize mxl (sx b7 b) nK 64 = l at *;generalize sx b7 b = F at *;generalize nO b7 b o = R at *
 go_enter Tryd.func32,Tryd.ntmps32
 refine wp_seq_k λK hK=>?_;refine wp_region_lit ?_;refine jW (Uw o.list).toArray rfl rfl rfl ?_;refine jW (By b).toArray rfl rfl rfl ?_;refine dN (zs:=z8v) rfl rfl (by kernel_rfl) ?_;refine dP ?_
 go_simp
 refine hK _ _ ?_;clear hK K;refine pM (λW=>Blk W w.heap.size 65 (Uw o.list).toArray /\ Blk W (w.heap.size + 1) 25 (By b).toArray /\ Blk W (w.heap.size + 1 + 1) 65 z8v /\ Ts W /\ Below w.heap.size w W) ⟨mV w _ _ _ _,lI w _ _ _ _,lV w _ _ _ _,hT.below ((((Below.refl _ _).alloc (aF _) _).alloc (by simp) _).alloc (by simp; omega) _),(((Below.refl _ _).alloc (aF _) _).alloc (by simp) _).alloc (by simp; omega) _⟩ ?_
 rintro W ⟨k0,k1,k2,hTW,hbe⟩
 refine wp_seq_k λK hK=>?_;refine rN 2 5 93 (.tmp 20) (Uw nK).toArray rfl rfl rfl rfl rfl rfl rfl (c9 rfl Si) ?_;simp only [a9,bN];refine PR (w.heap.size + 1) hb _ rfl rfl rfl (λ_ h=>h.blk k1) ?_;simp only [aE,aA,aB,aC];refine jU rfl Gh (λw1=>HL w1) rfl rfl ?_;simp only [aE,aA,aB,aC];refine cL ⟨(Uw l).toArray,λ_=>rfl,λ_=>rfl,by rw [hzx,bA,An,iP],xZ _ hzx,Am _,λgx W3 hgx hw1 hbx=>?_⟩;simp only [Exit.then,aE,aA,aB,aC];refine hK _ _ ?_;clear hK K;have hS : TS2 w W3 o gx l:=⟨hw1.blk k0,hw1.blk k2,hbx,hTW.below hw1,a6 hbe hw1⟩;clear k0 k1 k2 hTW hbe hw1 hbx HL hT;have hb0:=hS.b0;have HS:=aH (aY hS h0);clear hS h0;refine wp_seq_k λK hK=>?_;refine yG (by kernel_rfl) (cC (by kernel_rfl)) (λ_ _ d _ _ h=>by cases d <;> exact h) ?_;refine qX w.heap.size 0 (by decide) rfl rfl rfl ?_;simp only [aE,aA,aB,aC];refine qZ w.heap.size 0 o.a rfl rfl rfl (λ_ h=>(h.blk hb0).cell 0) ?_;simp only [aE,aA,aB,aC];refine qX w.heap.size 1 (by decide) rfl rfl rfl ?_;simp only [aE,aA,aB,aC];refine qZ w.heap.size 1 o.b rfl rfl rfl (λ_ h=>(h.blk hb0).cell 1) ?_;simp only [aE,aA,aB,aC];refine qX w.heap.size 2 (by decide) rfl rfl rfl ?_;simp only [aE,aA,aB,aC];refine qZ w.heap.size 2 o.c rfl rfl rfl (λ_ h=>(h.blk hb0).cell 2) ?_;simp only [aE,aA,aB,aC];refine qX w.heap.size 3 (by decide) rfl rfl rfl ?_;simp only [aE,aA,aB,aC];refine qZ w.heap.size 3 o.d rfl rfl rfl (λ_ h=>(h.blk hb0).cell 3) ?_;simp only [aE,aA,aB,aC];refine qX w.heap.size 4 (by decide) rfl rfl rfl ?_;simp only [aE,aA,aB,aC];refine qZ w.heap.size 4 o.e rfl rfl rfl (λ_ h=>(h.blk hb0).cell 4) ?_;simp only [aE,aA,aB,aC];refine qX w.heap.size 5 (by decide) rfl rfl rfl ?_;simp only [aE,aA,aB,aC];refine qZ w.heap.size 5 o.f rfl rfl rfl (λ_ h=>(h.blk hb0).cell 5) ?_;simp only [aE,aA,aB,aC];refine qX w.heap.size 6 (by decide) rfl rfl rfl ?_
 simp only [aE,aA,aB,aC];refine qZ w.heap.size 6 o.g rfl rfl rfl (λ_ h=>(h.blk hb0).cell 6) ?_;simp only [aE,aA,aB,aC];refine qX w.heap.size 7 (by decide) rfl rfl rfl ?_;simp only [aE,aA,aB,aC];refine qZ w.heap.size 7 o.h rfl rfl rfl (λ_ h=>(h.blk hb0).cell 7) ?_;simp only [aE,aA,aB,aC];refine fX (.int .u32 (o.a : Int)) rfl rfl rfl ?_;simp only [aE,aA,aB,aC];refine fX (.int .u32 (o.b : Int)) rfl rfl rfl ?_;simp only [aE,aA,aB,aC];refine fX (.int .u32 (o.c : Int)) rfl rfl rfl ?_;simp only [aE,aA,aB,aC];refine fX (.int .u32 (o.d : Int)) rfl rfl rfl ?_;simp only [aE,aA,aB,aC];refine fX (.int .u32 (o.e : Int)) rfl rfl rfl ?_;simp only [aE,aA,aB,aC];refine fX (.int .u32 (o.f : Int)) rfl rfl rfl ?_;simp only [aE,aA,aB,aC];refine fX (.int .u32 (o.g : Int)) rfl rfl rfl ?_;simp only [aE,aA,aB,aC];refine fX (.int .u32 (o.h : Int)) rfl rfl rfl ?_;simp only [aE,aA,aB,aC];refine cL ?_
 intro W4 hw1
 simp only [Exit.then];refine hK _ _ ?_;clear hK K hb0;have HS:=aH (aY (HS.out.1.up hw1) HS.out.2);clear hw1
 go_wp2
 go_loopw [37,6,7,8,9,10,11,12,13] (λi va vb vc vd ve vf vg vh wr=>∃ t : Nat,t <= 64 /\ i = .int .i64 t /\ va = .int .u32 (R t).a /\ vb = .int .u32 (R t).b /\ vc = .int .u32 (R t).c /\ vd = .int .u32 (R t).d /\ ve = .int .u32 (R t).e /\ vf = .int .u32 (R t).f /\ vg = .int .u32 (R t).g /\ vh = .int .u32 (R t).h /\ TS2 w wr o gx l) (λi _ _ _ _ _ _ _ _ _=>64 - (intOf i).toNat)
 case atStart =>
  obtain ⟨hS,h0⟩:=HS.out;refine ⟨0,by omega,rfl,?_⟩;rw [h0];exact ⟨rfl,rfl,rfl,rfl,rfl,rfl,rfl,rfl,hS⟩
 case round =>
  clear HS;obtain ⟨t,ht,rfl,rfl,rfl,rfl,rfl,rfl,rfl,rfl,rfl,hS⟩:=hrel
  by_cases htl : t < 64
  ·have hs:=hstep t
   obtain ⟨ba,bb,bc,bd,be,bf,bg,bh⟩:=hO t;have hX : F t < 4294967296:=hxb t;have hC:=O2 (show t < 80 by omega)
   have hKt : cbs[t]! / 4294967296 < 4294967296:=by omega
   have qk : ((cbs[t]! : Nat) : Int) / 4294967296 = ((cbs[t]! / 4294967296 : Nat) : Int):=by omega
   have cx:=(hS.drew.bx.cell t).trans (zC (by omega));rw [hxl t htl] at cx;have ck:=hS.drew.tw.cell t (by omega);generalize R t = q at *;obtain ⟨a,b',c,d,e,f,g,h⟩:=q;generalize F t = X at *;generalize cbs[t]! / 4294967296 = Kt at *;generalize cbs[t]! = Ct at *
   have qw : IntKind.u32.wrap (Kt : Int) = (Kt : Int):=by rw [bJ]; omega
   dsimp only at ba bb bc bd be bf bg bh ⊢
   have e1 : oU 32 (6,11,25) e = dW 32 6 e ^^^ dW 32 11 e ^^^ dW 32 25 e:=rfl;have e0 : oU 32 (2,13,22) a = dW 32 2 a ^^^ dW 32 13 a ^^^ dW 32 22 a:=rfl;have r1:=eG (w:=32) (n:=6) (x:=e) (by decide) be;have r2:=eG (w:=32) (n:=11) (x:=e) (by decide) be;have r3:=eG (w:=32) (n:=25) (x:=e) (by decide) be;have r4:=eG (w:=32) (n:=2) (x:=a) (by decide) ba;have r5:=eG (w:=32) (n:=13) (x:=a) (by decide) ba;have r6:=eG (w:=32) (n:=22) (x:=a) (by decide) ba;have R1:=λw1=>aH (nW e 6 be (by decide) (by decide) w1);have R2:=λw1=>aH (nW e 11 be (by decide) (by decide) w1);have R3:=λw1=>aH (nW e 25 be (by decide) (by decide) w1);have R4:=λw1=>aH (nW a 2 ba (by decide) (by decide) w1);have R5:=λw1=>aH (nW a 13 ba (by decide) (by decide) w1);have R6:=λw1=>aH (nW a 22 ba (by decide) (by decide) w1);have hnew : rnd b7 Kt X ⟨a,b',c,d,e,f,g,h⟩ = ⟨(h + oU 32 (6,11,25) e + chw 32 e f g + Kt + X + (oU 32 (2,13,22) a + maw a b' c)) % 4294967296,a,b',c,(d + (h + oU 32 (6,11,25) e + chw 32 e f g + Kt + X)) % 4294967296,e,f,g⟩:=rfl;rw [hnew] at hs;clear hnew;have u1:=vU (w:=32) (t:=(6,11,25)) (x:=e) (by decide) be;have u0:=vU (w:=32) (t:=(2,13,22)) (x:=a) (by decide) ba;have uc:=Ja (w:=32) (e:=e) (f:=f) (g:=g) be;have um:=IA (w:=32) (a:=a) (b:=b') (c:=c) ba bb;have x1:=u32_xor_nat _ _ r1 r2;have x2:=u32_xor_nat _ _ (gL r1 r2) r3;have x3:=u32_xor_nat _ _ r4 r5;have x4:=u32_xor_nat _ _ (gL r4 r5) r6;rw [<-e1] at x2;rw [<-e0] at x4;generalize oU 32 (6,11,25) e = s1 at *;generalize oU 32 (2,13,22) a = s0 at *;generalize dW 32 6 e ^^^ dW 32 11 e = y1 at *;generalize dW 32 2 a ^^^ dW 32 13 a = y0 at *;generalize dW 32 6 e = p1 at *;generalize dW 32 11 e = p2 at *;generalize dW 32 25 e = p3 at *;generalize dW 32 2 a = p4 at *;generalize dW 32 13 a = p5 at *;generalize dW 32 22 a = p6 at *;have n1:=u32_and_nat e f be bf;have n2:=u32_and_nat (2 ^ 32 - 1 - e) g (by omega) bg;have n3 : bits .xor .u32 ((e &&& f : Nat) : Int) (((2 ^ 32 - 1 - e) &&& g : Nat) : Int) = ((chw 32 e f g : Nat) : Int):=u32_xor_nat _ _ (gR (w:=32) be) (gR (w:=32) (bR (Nat.sub_le (2 ^ 32 - 1) e) (by decide)));have n4:=u32_and_nat a b' ba bb;have n5:=u32_and_nat a c ba bc;have n6:=u32_and_nat b' c bb bc;have n7:=u32_xor_nat (a &&& b') (a &&& c) (gR ba) (gR ba);have n8 : bits .xor .u32 (((a &&& b') ^^^ (a &&& c) : Nat) : Int) ((b' &&& c : Nat) : Int) = ((maw a b' c : Nat) : Int):=u32_xor_nat _ _ (gL (gR ba) (gR ba)) (gR bb);generalize chw 32 e f g = ch at *;generalize maw a b' c = ma at *;generalize (a &&& b') ^^^ (a &&& c) = m4 at *;generalize a &&& b' = m1 at *;generalize a &&& c = m2 at *;generalize b' &&& c = m3 at *
   generalize e &&& f = m5 at *;generalize (2 ^ 32 - 1 - e) &&& g = m6 at *;have nn:=UG be;generalize 2 ^ 32 - 1 - e = ne at *;obtain ⟨q1,hq1⟩ : ∃ z,z = (h + s1) % 4294967296:=⟨_,rfl⟩;obtain ⟨q2,hq2⟩ : ∃ z,z = (q1 + ch) % 4294967296:=⟨_,rfl⟩;obtain ⟨q3,hq3⟩ : ∃ z,z = (q2 + Kt) % 4294967296:=⟨_,rfl⟩;obtain ⟨q4,hq4⟩ : ∃ z,z = (q3 + X) % 4294967296:=⟨_,rfl⟩;obtain ⟨q5,hq5⟩ : ∃ z,z = (s0 + ma) % 4294967296:=⟨_,rfl⟩;obtain ⟨q6,hq6⟩ : ∃ z,z = (d + q4) % 4294967296:=⟨_,rfl⟩;obtain ⟨q7,hq7⟩ : ∃ z,z = (q4 + q5) % 4294967296:=⟨_,rfl⟩
   have t1 : IntKind.u32.wrap ((h : Int) + (s1 : Int)) = (q1 : Int):=by rw [bJ]; omega
   have t2 : IntKind.u32.wrap ((q1 : Int) + (ch : Int)) = (q2 : Int):=by rw [bJ]; omega
   have t3 : IntKind.u32.wrap ((q2 : Int) + (Kt : Int)) = (q3 : Int):=by rw [bJ]; omega
   have t4 : IntKind.u32.wrap ((q3 : Int) + (X : Int)) = (q4 : Int):=by rw [bJ]; omega
   have t5 : IntKind.u32.wrap ((s0 : Int) + (ma : Int)) = (q5 : Int):=by rw [bJ]; omega
   have t6 : IntKind.u32.wrap ((d : Int) + (q4 : Int)) = (q6 : Int):=by rw [bJ]; omega
   have t7 : IntKind.u32.wrap ((q4 : Int) + (q5 : Int)) = (q7 : Int):=by rw [bJ]; omega
   have h6 : (d + (h + s1 + ch + Kt + X)) % 4294967296 = q6:=by omega
   have h7 : (h + s1 + ch + Kt + X + (s0 + ma)) % 4294967296 = q7:=by omega
   rw [h6,h7] at hs;clear hq1 hq2 hq3 hq4 hq5 hq6 hq7 h6 h7;have HN:=aH (aY hs hS.drew);clear hs hS e1 e0 r1 r2 r3 r4 r5 r6
   go_wp2_with (fail)
   refine (R1 _).out.mono ?_
   rintro z w4 ⟨rfl,rfl⟩
   go_wp2_with (fail)
   refine (R2 _).out.mono ?_
   rintro z w4 ⟨rfl,rfl⟩
   go_wp2_with (fail)
   refine (R3 _).out.mono ?_
   rintro z w4 ⟨rfl,rfl⟩
   go_wp2_with (fail)
   refine (R4 _).out.mono ?_
   rintro z w4 ⟨rfl,rfl⟩
   go_wp2_with (fail)
   refine (R5 _).out.mono ?_
   rintro z w4 ⟨rfl,rfl⟩
   go_wp2_with (fail)
   refine (R6 _).out.mono ?_
   rintro z w4 ⟨rfl,rfl⟩
   go_wp2_with (fail)
   go_region
   go_wp2
   go_roundw
   case rel =>
    obtain ⟨hs,hS⟩:=HN.out;refine ⟨t + 1,by omega,by go_num,?_⟩;rw [hs];exact ⟨rfl,rfl,rfl,rfl,rfl,rfl,rfl,rfl,hS⟩
   case measure=>simp [intOf]; omega
  ·obtain rfl : t = 64:=by omega
   obtain ⟨ba,bb,bc,bd,be,bf,bg,bh⟩:=hO 64;obtain ⟨ha,hb',hc,hd,he,hf,hg,hh⟩:=ho;generalize hq : R 64 = q at *;obtain ⟨a,b',c,d,e,f,g,h⟩:=q;have HQ:=aH hq;clear hq
   dsimp only at ba bb bc bd be bf bg bh ⊢
   obtain ⟨k0,k2,kx,kt,kb⟩:=hS;have c0 : wr.cell? ⟨w.heap.size,0,none⟩ = some (.int .u32 (o.a : Int)):=k0.cell 0;have c1 : wr.cell? ⟨w.heap.size,1,none⟩ = some (.int .u32 (o.b : Int)):=k0.cell 1;have c2 : wr.cell? ⟨w.heap.size,2,none⟩ = some (.int .u32 (o.c : Int)):=k0.cell 2;have c3 : wr.cell? ⟨w.heap.size,3,none⟩ = some (.int .u32 (o.d : Int)):=k0.cell 3;have c4 : wr.cell? ⟨w.heap.size,4,none⟩ = some (.int .u32 (o.e : Int)):=k0.cell 4;have c5 : wr.cell? ⟨w.heap.size,5,none⟩ = some (.int .u32 (o.f : Int)):=k0.cell 5;have c6 : wr.cell? ⟨w.heap.size,6,none⟩ = some (.int .u32 (o.g : Int)):=k0.cell 6;have c7 : wr.cell? ⟨w.heap.size,7,none⟩ = some (.int .u32 (o.h : Int)):=k0.cell 7
   have w0 : IntKind.u32.wrap ((o.a : Int) + (a : Int)) = (((o.a + a) % 4294967296 : Nat) : Int):=by rw [bJ]; omega
   have w1 : IntKind.u32.wrap ((o.b : Int) + (b' : Int)) = (((o.b + b') % 4294967296 : Nat) : Int):=by rw [bJ]; omega
   have w2 : IntKind.u32.wrap ((o.c : Int) + (c : Int)) = (((o.c + c) % 4294967296 : Nat) : Int):=by rw [bJ]; omega
   have w3 : IntKind.u32.wrap ((o.d : Int) + (d : Int)) = (((o.d + d) % 4294967296 : Nat) : Int):=by rw [bJ]; omega
   have w4 : IntKind.u32.wrap ((o.e : Int) + (e : Int)) = (((o.e + e) % 4294967296 : Nat) : Int):=by rw [bJ]; omega
   have w5 : IntKind.u32.wrap ((o.f : Int) + (f : Int)) = (((o.f + f) % 4294967296 : Nat) : Int):=by rw [bJ]; omega
   have w6 : IntKind.u32.wrap ((o.g : Int) + (g : Int)) = (((o.g + g) % 4294967296 : Nat) : Int):=by rw [bJ]; omega
   have w7 : IntKind.u32.wrap ((o.h : Int) + (h : Int)) = (((o.h + h) % 4294967296 : Nat) : Int):=by rw [bJ]; omega
   have hres : CB 32 o ⟨a,b',c,d,e,f,g,h⟩ = ⟨(o.a + a) % 4294967296,(o.b + b') % 4294967296,(o.c + c) % 4294967296,(o.d + d) % 4294967296,(o.e + e) % 4294967296,(o.f + f) % 4294967296,(o.g + g) % 4294967296,(o.h + h) % 4294967296⟩:=rfl;generalize (o.a + a) % 4294967296 = z0 at *;generalize (o.b + b') % 4294967296 = z1 at *;generalize (o.c + c) % 4294967296 = z2 at *;generalize (o.d + d) % 4294967296 = z3 at *;generalize (o.e + e) % 4294967296 = z4 at *;generalize (o.f + f) % 4294967296 = z5 at *;generalize (o.g + g) % 4294967296 = z6 at *;generalize (o.h + h) % 4294967296 = z7 at *;have HR:=aH hres;clear hres ba bb bc bd be bf bg bh ha hb' hc hd he hf hg hh k0 kx kt;have HK:=aH (aY k2 kb);clear k2 kb;have hz : (Uw [z0,z1,z2,z3,z4,z5,z6,z7]).toArray.size = 8:=rfl;have k2:=HK.out.1
   go_wp2_with (refine wpList_store_row rfl 65 _ _ rfl (w.heap.size + 1 + 1) rfl (Uw [z0,z1,z2,z3,z4,z5,z6,z7]).toArray rfl 65 _ k2 (nU _ hz) (by rw [hz]; rfl) (Am _) ?_)
   refine bodyPost_ret (results_cell_row rfl _ _ (w.heap.size + 1 + 1) 65 (Uw [z0,z1,z2,z3,z4,z5,z6,z7]).toArray (0,0) _ rfl (k2.row _) Tryd.underlying65 rfl (nU _ hz)) rfl ⟨by rw [HQ.out,HR.out]; rfl,?_⟩;exact below_setRow HK.out.2 (by omega) _
def Fi : List UInt8:=aD 32 0
theorem Sj : (Tryd.prog.info? 24).bind (λi=>i.zero.map (·.cells)) = some (By Fi).toArray:=by kernel_rfl
structure LY2 (w wr : World) (cs : Array Value) (m : List UInt8) : Prop where
  b0 : Blk wr w.heap.size 65 cs
  b1 : Blk wr (w.heap.size + 1) 24 (By Fi).toArray
  b2 : Blk wr (w.heap.size + 1 + 1) 24 (By m).toArray
  be : Below w.heap.size w wr
theorem LY2.set {w wr : World} {cs : Array Value} {m : List UInt8} (h : LY2 w wr cs m) (k : Nat) (x : UInt8) : LY2 w (wr.setCell ⟨w.heap.size + 1 + 1,k,none⟩ (.int .u8 (x.toNat : Int))) cs (m.set k x) where
 b0:=h.b0.far (by show w.heap.size ≠ w.heap.size + 1 + 1; omega) _
 b1:=h.b1.far (by show w.heap.size + 1 ≠ w.heap.size + 1 + 1; omega) _
 b2:=by
  have h4:=h.b2.set k (.int .u8 (x.toNat : Int));rw [rG] at h4;exact h4
 be:=h.be.setCell (by show w.heap.size <= w.heap.size + 1 + 1; omega) _
set_option maxRecDepth 100000 in
set_option maxHeartbeats 2000000 in
theorem N1 {l : List Nat} (hl : l.length = 8) (hw : ∀ x ∈ l,x < 4294967296) (w : World) :
  Calls Tryd.prog 33 #[.agg (Uw l).toArray] w λe w'=>e = .returned (.agg (By (l.map (m9 b7)).flatten).toArray) /\ Below w.heap.size w w':=by
 have hD:=rU (m9 b7) (n:=4) (λx=>rS b7 x) l;rw [hl] at hD
 have hg : ∀ i j,i < 8 -> j < 4 -> (((l.map (m9 b7)).flatten)[4 * i + 3 - j]!).toNat = l[i]! / 256 ^ j % 256:=λi j hi hj=>by
  have h1:=flat_get (m9 b7) (n:=4) (λx=>rS b7 x) l (i:=i) (j:=3 - j) (by omega) (by omega);rw [show 4 * i + 3 - j = 4 * i + (3 - j) by omega,h1];exact GC (s:=b7) (j:=j) hj
 have hzs : (Uw l).toArray.size = 8:=by rw [bA,An,hl]
 have hix : ∀ i,i < 8 -> ∀ w1,(Instr.index 65 (.agg (Uw l).toArray) (.int .i64 ((i : Nat) : Int))).run Tryd.prog w1 = .ok (.int .u32 (l[i]! : Nat)) w1:=λi hi w1=>by
  have h0 : (Uw l).toArray[i]? = some (.int .u32 (l[i]! : Nat)):=zC (by omega)
  have h1 : ((i : Nat) : Int) < 8:=by omega
  have h2 : (0 : Int) <= (i : Nat):=by omega
  generalize l[i]! = c at *;generalize (Uw l).toArray = cs at *
  unfold Instr.index Go.part
  go_simp
  obtain ⟨_,h⟩:=Array.getElem?_eq_some_iff.1 h0;exact h
 have hwl : ∀ i,i < 8 -> l[i]! < 4294967296:=λi hi=>by
  rw [getElem!_pos l i (by omega)];exact hw _ (xS _)
 generalize (l.map (m9 b7)).flatten = D at *;generalize (Uw l).toArray = cs at *
 go_enter Tryd.func33,Tryd.ntmps33
 refine wp_seq_k λK hK=>?_;refine wp_region_lit ?_;refine jW cs rfl rfl rfl ?_;refine dN (zs:=(By Fi).toArray) rfl rfl Sj ?_;refine dP ?_
 go_simp
 refine hK _ _ ?_;clear hK K;refine wp_seq_k λK hK=>?_;refine wp_region_lit ?_;refine dN (zs:=(By Fi).toArray) rfl rfl Sj ?_;refine dP ?_
 go_simp
 refine hK _ _ ?_;clear hK K;refine pM (λW=>LY2 w W cs Fi) ⟨mV w _ _ _ _,lI w _ _ _ _,lV w _ _ _ _,(((Below.refl _ _).alloc (aF _) _).alloc (by simp) _).alloc (by simp; omega) _⟩ ?_
 intro W hW
 have k0:=hW.b0;have HW:=aH hW;clear hW
 go_wp2_with (refine wpList_load_row rfl 65 _ rfl w.heap.size rfl 65 cs (0,0) _ k0 Tryd.underlying65 rfl (nU _ hzs) ?_)
 clear k0
 go_loopw [8] (λi wr=>∃ t : Nat,t <= 8 /\ i = .int .i64 t /\ LY2 w wr cs (pf D λm=>decide (m < 4 * t))) (λi _=>8 - (intOf i).toNat)
 case atStart =>
  refine ⟨0,by omega,rfl,?_⟩;rw [JU (λm _=>decide_eq_false (by omega)),hD];exact HW.out
 case round =>
  clear HW;obtain ⟨t,ht,rfl,hS⟩:=hrel
  by_cases htl : t < 8
  ·have hi:=hix t htl
   have hx:=hwl t htl;have hby:=λj hj=>hg t j htl hj;generalize l[t]! = x at *
   have g4 : (0 : Int) <= (t : Int):=by omega
   have HS:=aH hS;clear hS hg hix hwl
   go_wp2
   go_loopw [12,5] (λj v wq=>∃ n : Nat,n <= 4 /\ j = .int .i64 n /\ v = .int .u32 ((x / 256 ^ n : Nat) : Int) /\ LY2 w wq cs (pf D λm=>decide (m < 4 * t \/ 4 * t + 4 - n <= m /\ m < 4 * t + 4))) (λj _ _=>4 - (intOf j).toNat)
   case atStart =>
    refine ⟨0,by omega,rfl,by rw [qG,sG],?_⟩;rw [yJ (q:=λm=>decide (m < 4 * t)) (λm _=>decide_eq_decide.2 (by omega))];exact HS.out
   case round =>
    clear HS;obtain ⟨n,hn,rfl,rfl,hS⟩:=hrel
    by_cases hnl : n < 4
    ·have hN:=hS.set (4 * t + 3 - n) D[4 * t + 3 - n]!
     rw [Np (q:=λm=>decide (m < 4 * t \/ 4 * t + 4 - (n + 1) <= m /\ m < 4 * t + 4)) (λm _=>by rw [<-Bool.decide_or]; exact decide_eq_decide.2 (by omega))] at hN;have hb:=hby n hnl
     have hdiv : x / 256 ^ (n + 1) = x / 256 ^ n / 256:=by rw [dE,gX]
     have hle : x / 256 ^ n < 4294967296:=bR (gJ _ _) hx;have c2:=(hS.b2.cell (4 * t + 3 - n)).trans (fU (by rw [Nq,hD]; omega));have f2:=hS.b2.free (4 * t + 3 - n);generalize x / 256 ^ n = y at *
     have q4 : IntKind.u8.wrap (y : Int) = ((D[4 * t + 3 - n]!).toNat : Int):=by
      rw [k6,hb]
      omega
     have g5 : (0 : Int) <= (n : Int):=by omega
     have q5 : (y : Int) / 256 = ((y / 256 : Nat) : Int):=by omega
     have HN:=aH (aY hN hdiv);clear hS hN hdiv hb hby hi;generalize (D[4 * t + 3 - n]!).toNat = v at *;generalize ((pf D λm=>decide (m < 4 * t \/ 4 * t + 4 - n <= m /\ m < 4 * t + 4))[4 * t + 3 - n]!).toNat = old at *;generalize y / 256 = y2 at *
     go_wp2
     go_roundw
     case rel =>
      obtain ⟨hN,hdiv⟩:=HN.out;refine ⟨n + 1,by omega,by go_num,by rw [hdiv],hN⟩
     case measure=>simp [intOf]; omega
    ·obtain rfl : n = 4:=by omega
     rw [yJ (q:=λm=>decide (m < 4 * (t + 1))) (λm _=>decide_eq_decide.2 (by omega))] at hS;have HS:=aH hS;clear hS
     go_wp2
     go_roundw
     case rel=>exact ⟨t + 1,by omega,by go_num,HS.out⟩
     case measure=>simp [intOf]; omega
  ·obtain rfl : t = 8:=by omega
   rw [Nr (λm hm=>decide_eq_true (by omega))] at hS;obtain ⟨b0,b1,b2,be⟩:=hS
   have hz : (By D).toArray.size = 32:=by rw [bA,b6,hD]
   clear b0
   go_wp2_with (first
    | (refine wpList_load_row rfl 24 _ rfl (w.heap.size + 1 + 1) rfl 24 (By D).toArray (0,0) _ b2 Tryd.underlying24 rfl (fC _ hz) ?_)
    | (refine wpList_store_row rfl 24 _ _ rfl (w.heap.size + 1) rfl (By D).toArray rfl 24 _ b1 (fC _ hz) (by rw [hz]; rfl) (lJ _) ?_))
   refine bodyPost_ret (results_cell_row rfl _ _ (w.heap.size + 1) 24 (By D).toArray (0,0) _ rfl (b1.row _) Tryd.underlying24 rfl (fC _ hz)) rfl ⟨rfl,?_⟩;exact below_setRow be (by omega) _
theorem zv8 : (Tryd.prog.info? 65).bind (λi=>i.zero.map (·.cells)) = some z8v:=by kernel_rfl
structure Tst (w : World) : Prop where
  cell : ∀ i,i < 8 -> w.cell? ⟨0,i,none⟩ = some (.int .u64 (sqs[i]! : Nat))
  lt : 0 < w.heap.size
theorem Tst.below {w w' : World} (h : Tst w) (hb : Below w.heap.size w w') : Tst w' :=
 ⟨λi hi=>(hb.cell (p:=⟨0,i,none⟩) h.lt).trans (h.cell i hi),bB h.lt hb.size⟩
structure FI2 (w wr : World) (l : List Nat) : Prop where
  b0 : Blk wr w.heap.size 65 z8v
  b1 : Blk wr (w.heap.size + 1) 65 (Uw l).toArray
  be : Below w.heap.size w wr
theorem FI2.set {w wr : World} {l : List Nat} (h : FI2 w wr l) (k x : Nat) : FI2 w (wr.setCell ⟨w.heap.size + 1,k,none⟩ (.int .u32 (x : Int))) (l.set k x) where
 b0:=h.b0.far (by show w.heap.size ≠ w.heap.size + 1; omega) _
 b1:=by
  have h4:=h.b1.set k (.int .u32 (x : Int));rw [Po] at h4;exact h4
 be:=h.be.setCell (by show w.heap.size <= w.heap.size + 1; omega) _
theorem Sx {t : Nat} (h : t < 8) : sqs[t]! < 18446744073709551616:=by
 have h1 : ∀ x ∈ sqs,x < 18446744073709551616:=by decide
 have h2 : t < sqs.length:=h;rw [getElem!_pos sqs t h2];exact h1 _ (xS _)
def sqh (t : Nat) : Nat:=sqs[t]! / 4294967296
def z8n : List Nat:=[0,0,0,0,0,0,0,0]
theorem LU : mxl sqh z8n 8 = b7.start:=by decide +kernel
set_option maxRecDepth 100000 in
set_option maxHeartbeats 2000000 in
theorem IQ (w : World) (hT : Tst w) :
  Calls Tryd.prog 29 #[] w λe w'=>e = .returned (.agg (Uw b7.start).toArray) /\ Below w.heap.size w w':=by
 rw [<-LU]
 have hlen : ∀ t,(mxl sqh z8n t).length = 8:=λt=>by rw [dY]; rfl
 go_enter Tryd.func29,Tryd.ntmps29
 refine wp_seq_k λK hK=>?_;refine wp_region_lit ?_;refine dN (zs:=z8v) rfl rfl zv8 ?_;refine dP ?_
 go_simp
 refine hK _ _ ?_;clear hK K;refine wp_seq_k λK hK=>?_;refine wp_region_lit ?_;refine dN (zs:=z8v) rfl rfl zv8 ?_;refine dP ?_
 go_simp
 refine hK _ _ ?_;clear hK K
 have hb2 : Blk ((w.alloc (.cells z8v 65)).alloc (.cells z8v 65)) (w.heap.size + 1) 65 z8v:=by
  have h:=Blk.new (w.alloc (.cells z8v 65)) 65 z8v
  rwa [aW] at h
 refine pM (λW=>FI2 w W z8n) ⟨(Blk.new w _ _).alloc _,hb2,((Below.refl _ _).alloc (aF _) _).alloc (by simp) _⟩ ?_
 intro W hW
 clear hb2;have HW:=aH hW;clear hW
 go_wp2
 go_loopw [3] (λi wr=>∃ t : Nat,t <= 8 /\ i = .int .i64 t /\ FI2 w wr (mxl sqh z8n t)) (λi _=>8 - (intOf i).toNat)
 case atStart =>
  refine ⟨0,by omega,rfl,?_⟩;rw [pZ];exact HW.out
 case round =>
  clear HW;obtain ⟨t,ht,rfl,hS⟩:=hrel
  by_cases htl : t < 8
  ·have hN:=hS.set t (sqh t)
   rw [mP] at hN;have hg:=(hT.below hS.be).cell t htl;have hlt:=Sx htl;have c1:=(hS.b1.cell t).trans (zC (by rw [hlen]; omega));have f1:=hS.b1.free t;have e1 : sqh t = sqs[t]! / 4294967296:=rfl
   have hq : sqh t < 4294967296:=by omega
   have q1 : ((sqs[t]! : Nat) : Int) / 4294967296 = ((sqh t : Nat) : Int):=by omega
   have q2 : IntKind.u32.wrap ((sqh t : Nat) : Int) = ((sqh t : Nat) : Int):=by rw [bJ]; omega
   have g4 : (0 : Int) <= (t : Int):=by omega
   have HN:=aH hN;clear hS hN e1 hT hlen;generalize sqh t = y at *;generalize sqs[t]! = x at *;generalize (mxl sqh z8n t)[t]! = old at *
   go_wp2
   go_roundw
   case rel=>exact ⟨t + 1,by omega,by go_num,HN.out⟩
   case measure=>simp [intOf]; omega
  ·obtain rfl : t = 8:=by omega
   obtain ⟨b0,b1,be⟩:=hS
   have hz : (Uw (mxl sqh z8n 8)).toArray.size = 8:=by rw [bA,An,hlen]
   clear hT
   go_wp2_with (first
    | (refine wpList_load_row rfl 65 _ rfl (w.heap.size + 1) rfl 65 (Uw (mxl sqh z8n 8)).toArray (0,0) _ b1 Tryd.underlying65 rfl (nU _ hz) ?_)
    | (refine wpList_store_row rfl 65 _ _ rfl w.heap.size rfl (Uw (mxl sqh z8n 8)).toArray rfl 65 _ b0 (nU _ hz) (by rw [hz]; rfl) (Am _) ?_))
   refine bodyPost_ret (results_cell_row rfl _ _ w.heap.size 65 (Uw (mxl sqh z8n 8)).toArray (0,0) _ rfl (b0.row _) Tryd.underlying65 rfl (nU _ hz)) rfl ⟨rfl,?_⟩;exact below_setRow be (aF _) _
structure S6 (B gh gb : Nat) (w0 w : World) (o : Oct) (b : List UInt8) : Prop where
  h : Blk w gh 65 (Uw o.list).toArray
  m : Blk w gb 25 (By b).toArray
  ob : OB 32 o
  len : b.length = 64
  ts : Ts w
  be : Below B w0 w
  bh : B <= gh
  bb : B <= gb
  ne : gh ≠ gb
  ht : 1 < B
section
variable {B gh gb : Nat} {w0 w w' : World} {o : Oct} {b : List UInt8}
theorem S6.up (h : S6 B gh gb w0 w o b) (k : Below w.heap.size w w') (hB : B <= w.heap.size) : S6 B gh gb w0 w' o b :=
 ⟨h.h.later k,h.m.later k,h.ob,h.len,h.ts.below k,h.be.trans (k.mono hB),h.bh,h.bb,h.ne,h.ht⟩
theorem S6.BI (h : S6 B gh gb w0 w o b) : S6 B gh gb w w o b:=⟨h.h,h.m,h.ob,h.len,h.ts,Below.refl _ _,h.bh,h.bb,h.ne,h.ht⟩
theorem S6.since {w1 : World} (h : S6 B gh gb w0 w o b) (k : Below B w1 w0) : S6 B gh gb w1 w o b:=⟨h.h,h.m,h.ob,h.len,h.ts,k.trans h.be,h.bh,h.bb,h.ne,h.ht⟩
theorem S6.size (h : S6 B gh gb w0 w o b) : B <= w.heap.size:=fA (bR h.bh h.h.lt)
theorem S6.H7 (h : S6 B gh gb w0 w o b) {p : Oct} (hp : OB 32 p) : S6 B gh gb w0 (w.setRow gh (Uw p.list).toArray) p b :=
 ⟨h.h.row _,h.m.aR (Ne.symm h.ne) _,hp,h.len,h.ts.Aj (below_setRow (Below.refl B w) h.bh _) h.ht,below_setRow h.be h.bh _,h.bh,h.bb,h.ne,h.ht⟩
theorem S6.D6 (h : S6 B gh gb w0 w o b) {c : List UInt8} (hc : c.length = 64) : S6 B gh gb w0 (w.setRow gb (By c).toArray) o c :=
 ⟨h.h.aR h.ne _,h.m.row _,h.ob,hc,h.ts.Aj (below_setRow (Below.refl B w) h.bb _) h.ht,below_setRow h.be h.bb _,h.bh,h.bb,h.ne,h.ht⟩
theorem S6.D9 (h : S6 B gh gb w0 w o b) (k : Nat) (x : UInt8) : S6 B gh gb w0 (w.setCell ⟨gb,k,none⟩ (.int .u8 (x.toNat : Int))) o (b.set k x) where
 h:=h.h.far (by show gh ≠ gb; exact h.ne) _
 m:=by
  have h4:=h.m.set k (.int .u8 (x.toNat : Int));rw [rG] at h4;exact h4
 ob:=h.ob
 len:=by rw [eP]; exact h.len
 ts:=h.ts.Aj ((Below.refl B w).setCell (p:=⟨gb,k,none⟩) h.bb _) h.ht
 be:=h.be.setCell h.bb _
 bh:=h.bh
 bb:=h.bb
 ne:=h.ne
 ht:=h.ht
end
set_option maxRecDepth 100000 in
set_option maxHeartbeats 1000000 in
theorem nN {B gh gb : Nat} {w0 w : World} {o : Oct} {b : List UInt8} (h : S6 B gh gb w0 w o b) :
  Calls Tryd.prog 31 #[.pointer (some ⟨gh,0,none⟩),.pointer (some ⟨gb,0,none⟩)] w λe w'=>e = .returned (.tuple #[]) /\ S6 B gh gb w0 w' (iA b7 o b) b:=by
 have HT:=KR h.ob h.len w h.ts;have kh:=h.h;have km:=h.m;have hz : (Uw o.list).toArray.size = 8:=rfl;have hz2 : (Uw (iA b7 o b).list).toArray.size = 8:=rfl;have hb128:=Ft h.len;have hp:=OB.iA b7 o b;have HK:=aH h;clear h;generalize iA b7 o b = p at *
 go_enter Tryd.func31,Tryd.ntmps31
 go_wp2_with (first
  | (refine wpList_load_row rfl 65 _ rfl gh rfl 65 (Uw o.list).toArray (0,0) _ kh Tryd.underlying65 rfl (nU _ hz) ?_)
  | (refine wpList_load_row rfl 25 _ rfl gb rfl 25 (By b).toArray (0,0) _ km Tryd.underlying25 rfl (pP _ hb128) ?_))
 refine HT.mono ?_
 rintro e w1 ⟨rfl,hw1⟩
 have h1:=HK.out.up hw1 HK.out.size;have kh1:=h1.h;have H2:=aH (h1.H7 hp);clear h1 hw1 HT kh km
 go_wp2_with (refine wpList_store_row rfl 65 _ _ rfl gh rfl (Uw p.list).toArray rfl 65 _ kh1 (nU _ hz2) (by rw [hz,hz2]) (Am _) ?_)
 go_end0
 exact ⟨rfl,H2.out⟩
set_option maxRecDepth 100000 in
set_option maxHeartbeats 4000000 in
theorem ON {B gh gb : Nat} {w0 w : World} {o : Oct} {b : List UInt8} (h : S6 B gh gb w0 w o b) (r v : Nat) (hr : r < 64) :
  Calls Tryd.prog 51 #[.slice (some ⟨gb,0,none⟩) 64 64,.int .i64 (r : Int),.int .u64 (v : Int),.func (.func 31) #[] #[.pointer (some ⟨gh,0,none⟩),.pointer (some ⟨gb,0,none⟩)]] w λe w' =>
   e = .returned (.tuple #[]) /\ ∃ b',S6 B gh gb w0 w' (jQ b7 64 o (b.take r ++ jG 64 r (8 * v))) b':=by
 have hlen:=h.len;have h1:=Kq (s:=b7) (o:=o) (v:=8 * v) (n:=64) (by omega) hlen hr;have h2:=Kp (s:=b7) (o:=o) (v:=8 * v) (n:=64) (by omega) hlen hr;have hcl:=KA hlen hr;have hS1 : S6 B gh gb w0 (w.setCell ⟨gb,r,none⟩ (.int .u8 128)) o (b.set r 128):=h.D9 r 128
 have hsl : (b.set r 128).length = 64:=by rw [eP]; exact hlen
 have hm1:=hS1.m;have hS2:=hS1.D6 (c:=clr (b.set r 128) (r + 1)) (by rw [vT (by rw [hsl]; omega)]; exact hsl);rw [hcl] at hS2;have hc0:=(h.m.cell r).trans (fU (by omega));have hf0:=h.m.free r;generalize (b[r]!).toNat = old at *
 have hl1 : (b.take r ++ 128 :: aD (64 - 1 - r) 0).length = 64:=by
  rw [aO,aZ,List.length_cons,bM]
  omega
 obtain ⟨c1,hc1⟩ : ∃ c,c = b.take r ++ 128 :: aD (64 - 1 - r) 0:=⟨_,rfl⟩;rw [<-hc1] at hcl hS2 hl1 h1 h2;have HC:=aH hcl;have HK:=aH (aY h hS2)
 have hr2 : (r : Int) < 64:=by omega
 have hr3 : (0 : Int) <= (r : Int):=by omega
 have hx:=y7 (8 * v);have hxe:=y8 (8 * v);have hxg:=λi hi=>Hi (v:=8 * v % 18446744073709551616) (i:=i) hi;rw [hx] at hxg
 have hv8 : IntKind.u64.wrap ((v : Int) * 8) = ((8 * v % 18446744073709551616 : Nat) : Int):=by rw [aP]; omega
 have hvb : 8 * v % 18446744073709551616 < 18446744073709551616:=eR _ (by decide);generalize s6 (8 * v) = E at *;generalize 8 * v % 18446744073709551616 = y at *;clear hS2 hx h hc1 hcl
 rcases (show r = 63 \/ r + 1 <= 56 \/ (56 < r + 1 /\ r < 63) by omega) with rfl | hc | ⟨hc,h63⟩
 ·rw [show ((63 : Nat) : Int) = (63 : Int) from rfl]
  go_enter Tryd.func51,Tryd.ntmps51
  go_wp2_with (refine kL (.tmp 16) rfl rfl gb 64 0 0 (some ⟨gb,0,none⟩) rfl (λh=>absurd h (by decide)) (b.set 63 128) 25 hm1 (by rw [hsl]) c1 HC ?_)
  have hS:=HK.out.2;clear HK hm1 hc0 hf0 hS1;refine (nN hS).mono ?_
  rintro z w3 ⟨rfl,hS3⟩
  have hm3:=hS3.m;have hS4:=hS3.D6 (c:=clr c1 0) (by rw [vT (by omega)]; exact hl1)
  have hz4 : clr c1 0 = aD 64 0:=by rw [Bo,hl1]
  have HF:=aH (h2 (by omega));rw [hz4] at hS4;have hl : (aD 64 (0 : UInt8)).length = 64:=bM;generalize aD 64 (0 : UInt8) = c at *;generalize iA b7 o c1 = p at *;have HZ:=aH hz4;have HS:=aH hS4;clear hS hS3 h1 h2 hS4 hz4
  go_wp2_with (refine kL (.tmp 28) rfl rfl gb 0 64 64 (some ⟨gb,0,none⟩) rfl (λ_=>rfl) c1 25 hm3 (by rw [hl1]) c HZ ?_)
  clear hm3
  go_loopw [31,8] (λi u wr=>∃ k : Nat,k <= 8 /\ i = .int .i64 k /\ u = .int .u64 ((y / 256 ^ k : Nat) : Int) /\ S6 B gh gb w0 wr p (eig c E 64 k)) (λi _ _=>8 - (intOf i).toNat)
  case atStart =>
   refine ⟨0,by omega,rfl,by rw [qG,sG],?_⟩;rw [rZ hl hxe];exact HS.out
  case round =>
   clear HS;obtain ⟨k,hk,rfl,rfl,hS⟩:=hrel
   by_cases hkl : k < 8
   ·have hN:=hS.D9 (63 - k) E[7 - k]!
    have hset:=vQ hl hxe hkl (by omega);rw [show 64 - 1 - k = 63 - k by omega] at hset;rw [hset] at hN;have hb:=hxg k hkl
    have hdiv : y / 256 ^ (k + 1) = y / 256 ^ k / 256:=by rw [dE,gX]
    have hle : y / 256 ^ k < 18446744073709551616:=bR (gJ _ _) hvb;have c2:=(hS.m.cell (63 - k)).trans (fU (by rw [qV hl hxe (by omega) (by omega)]; omega));have f2:=hS.m.free (63 - k);generalize y / 256 ^ k = z at *
    have q4 : IntKind.u8.wrap (z : Int) = ((E[7 - k]!).toNat : Int):=by
     rw [k6,hb]
     omega
    have q5 : (z : Int) / 256 = ((z / 256 : Nat) : Int):=by omega
    have g5 : (0 : Int) <= (k : Int):=by omega
    have HN:=aH (aY hN hdiv);clear hS hN hdiv hb hset hxg;generalize (E[7 - k]!).toNat = x at *;generalize ((eig c E 64 k)[63 - k]!).toNat = old2 at *;generalize z / 256 = z2 at *
    go_wp2
    go_roundw
    case rel =>
     obtain ⟨hN,hdiv⟩:=HN.out;exact ⟨k + 1,by omega,by go_num,by rw [hdiv],hN⟩
    case measure=>simp [intOf]; omega
   ·obtain rfl : k = 8:=by omega
    have HT:=nN hS;rw [HF.out] at HT;have HT:=aH HT;clear hS hxg
    go_wp2_with (fail)
    refine HT.out.mono ?_
    rintro z w5 ⟨rfl,hS6⟩
    go_wp2_with (fail)
    go_end0
    exact ⟨rfl,_,hS6⟩
 ·go_enter Tryd.func51,Tryd.ntmps51
  go_wp2_with (refine kL (.tmp 16) rfl rfl gb (r + 1) (63 - r) (63 - r) (some ⟨gb,r + 1,none⟩) rfl (λ_=>rfl) (b.set r 128) 25 hm1 (by rw [hsl]; omega) c1 HC ?_)
  have HF:=aH (h1 (by omega));have HS:=aH HK.out.2;have hl:=hl1;clear HK h1 h2 hl1 hm1 hc0 hf0 hS1;generalize c1 = c at *
  go_loopw [31,8] (λi u wr=>∃ k : Nat,k <= 8 /\ i = .int .i64 k /\ u = .int .u64 ((y / 256 ^ k : Nat) : Int) /\ S6 B gh gb w0 wr o (eig c E 64 k)) (λi _ _=>8 - (intOf i).toNat)
  case atStart =>
   refine ⟨0,by omega,rfl,by rw [qG,sG],?_⟩;rw [rZ hl hxe];exact HS.out
  case round =>
   clear HS;obtain ⟨k,hk,rfl,rfl,hS⟩:=hrel
   by_cases hkl : k < 8
   ·have hN:=hS.D9 (63 - k) E[7 - k]!
    have hset:=vQ hl hxe hkl (by omega);rw [show 64 - 1 - k = 63 - k by omega] at hset;rw [hset] at hN;have hb:=hxg k hkl
    have hdiv : y / 256 ^ (k + 1) = y / 256 ^ k / 256:=by rw [dE,gX]
    have hle : y / 256 ^ k < 18446744073709551616:=bR (gJ _ _) hvb;have c2:=(hS.m.cell (63 - k)).trans (fU (by rw [qV hl hxe (by omega) (by omega)]; omega));have f2:=hS.m.free (63 - k);generalize y / 256 ^ k = z at *
    have q4 : IntKind.u8.wrap (z : Int) = ((E[7 - k]!).toNat : Int):=by
     rw [k6,hb]
     omega
    have q5 : (z : Int) / 256 = ((z / 256 : Nat) : Int):=by omega
    have g5 : (0 : Int) <= (k : Int):=by omega
    have HN:=aH (aY hN hdiv);clear hS hN hdiv hb hset hxg;generalize (E[7 - k]!).toNat = x at *;generalize ((eig c E 64 k)[63 - k]!).toNat = old2 at *;generalize z / 256 = z2 at *
    go_wp2
    go_roundw
    case rel =>
     obtain ⟨hN,hdiv⟩:=HN.out;exact ⟨k + 1,by omega,by go_num,by rw [hdiv],hN⟩
    case measure=>simp [intOf]; omega
   ·obtain rfl : k = 8:=by omega
    have HT:=nN hS;rw [HF.out] at HT;have HT:=aH HT;clear hS hxg
    go_wp2_with (fail)
    refine HT.out.mono ?_
    rintro z w5 ⟨rfl,hS6⟩
    go_wp2_with (fail)
    go_end0
    exact ⟨rfl,_,hS6⟩
 ·go_enter Tryd.func51,Tryd.ntmps51
  go_wp2_with (refine kL (.tmp 16) rfl rfl gb (r + 1) (63 - r) (63 - r) (some ⟨gb,r + 1,none⟩) rfl (λ_=>rfl) (b.set r 128) 25 hm1 (by rw [hsl]; omega) c1 HC ?_)
  have hS:=HK.out.2;clear HK hm1 hc0 hf0 hS1;refine (nN hS).mono ?_
  rintro z w3 ⟨rfl,hS3⟩
  have hm3:=hS3.m;have hS4:=hS3.D6 (c:=clr c1 0) (by rw [vT (by omega)]; exact hl1)
  have hz4 : clr c1 0 = aD 64 0:=by rw [Bo,hl1]
  have HF:=aH (h2 (by omega));rw [hz4] at hS4;have hl : (aD 64 (0 : UInt8)).length = 64:=bM;generalize aD 64 (0 : UInt8) = c at *;generalize iA b7 o c1 = p at *;have HZ:=aH hz4;have HS:=aH hS4;clear hS hS3 h1 h2 hS4 hz4
  go_wp2_with (refine kL (.tmp 28) rfl rfl gb 0 64 64 (some ⟨gb,0,none⟩) rfl (λ_=>rfl) c1 25 hm3 (by rw [hl1]) c HZ ?_)
  clear hm3
  go_loopw [31,8] (λi u wr=>∃ k : Nat,k <= 8 /\ i = .int .i64 k /\ u = .int .u64 ((y / 256 ^ k : Nat) : Int) /\ S6 B gh gb w0 wr p (eig c E 64 k)) (λi _ _=>8 - (intOf i).toNat)
  case atStart =>
   refine ⟨0,by omega,rfl,by rw [qG,sG],?_⟩;rw [rZ hl hxe];exact HS.out
  case round =>
   clear HS;obtain ⟨k,hk,rfl,rfl,hS⟩:=hrel
   by_cases hkl : k < 8
   ·have hN:=hS.D9 (63 - k) E[7 - k]!
    have hset:=vQ hl hxe hkl (by omega);rw [show 64 - 1 - k = 63 - k by omega] at hset;rw [hset] at hN;have hb:=hxg k hkl
    have hdiv : y / 256 ^ (k + 1) = y / 256 ^ k / 256:=by rw [dE,gX]
    have hle : y / 256 ^ k < 18446744073709551616:=bR (gJ _ _) hvb;have c2:=(hS.m.cell (63 - k)).trans (fU (by rw [qV hl hxe (by omega) (by omega)]; omega));have f2:=hS.m.free (63 - k);generalize y / 256 ^ k = z at *
    have q4 : IntKind.u8.wrap (z : Int) = ((E[7 - k]!).toNat : Int):=by
     rw [k6,hb]
     omega
    have q5 : (z : Int) / 256 = ((z / 256 : Nat) : Int):=by omega
    have g5 : (0 : Int) <= (k : Int):=by omega
    have HN:=aH (aY hN hdiv);clear hS hN hdiv hb hset hxg;generalize (E[7 - k]!).toNat = x at *;generalize ((eig c E 64 k)[63 - k]!).toNat = old2 at *;generalize z / 256 = z2 at *
    go_wp2
    go_roundw
    case rel =>
     obtain ⟨hN,hdiv⟩:=HN.out;exact ⟨k + 1,by omega,by go_num,by rw [hdiv],hN⟩
    case measure=>simp [intOf]; omega
   ·obtain rfl : k = 8:=by omega
    have HT:=nN hS;rw [HF.out] at HT;have HT:=aH HT;clear hS hxg
    go_wp2_with (fail)
    refine HT.out.mono ?_
    rintro z w5 ⟨rfl,hS6⟩
    go_wp2_with (fail)
    go_end0
    exact ⟨rfl,_,hS6⟩
structure FS6 (B gh gb : Nat) (w wr : World) (o : Oct) (m : List UInt8) (a t b : List UInt8) (k : Nat) : Prop where
  em : m = a ++ t
  ea : a.length = k * 64
  et : t.length < 64
  es : S6 B gh gb w wr (jQ b7 64 o a) b
  eb : b.take t.length = t
set_option maxRecDepth 100000 in
set_option maxHeartbeats 4000000 in
theorem LX {B gh gb : Nat} {w : World} {o : Oct} {b : List UInt8} (h : S6 B gh gb w w o b) (A : Option Addr) (ls : List (List UInt8)) (pc : Nat) (hA : oM w B A ls) (hpc : ls.length <= pc) (hpm : pc <= 9223372036854775807) :
  Calls Tryd.prog 30 #[.slice (some ⟨gb,0,none⟩) 64 64,.slice A ls.length pc,.func (.func 31) #[] #[.pointer (some ⟨gh,0,none⟩),.pointer (some ⟨gb,0,none⟩)]] w λe w' =>
   e = .returned (.tuple #[]) /\ ∃ b',S6 B gh gb w w' (jQ b7 64 o (ls.flatten ++ jG 64 (ls.flatten.length % 64) (8 * ls.flatten.length))) b':=by
 have h0 : FS6 B gh gb w w o (ls.take 0).flatten [] [] b 0:=by
  refine ⟨by simp,by simp,by simp,?_,by simp⟩;have e:=iX (s:=b7) (B:=64) (o:=o) (l:=[]) (by simp);rw [e];exact h
 have H0:=aH h0;have HA:=aH hA;clear h h0 hA
 go_enter Tryd.func30,Tryd.ntmps30
 go_wp2
 go_loopw [13,6,7] (λi f z wr=>∃ n : Nat,n <= ls.length /\ i = .int .i64 n /\ ∃ a t b k,f = .int .i64 ((t : List UInt8).length : Nat) /\ z = .int .u64 (((ls.take n).flatten.length % 18446744073709551616 : Nat) : Int) /\ FS6 B gh gb w wr o (ls.take n).flatten a t b k) (λi _ _ _=>ls.length - (intOf i).toNat)
 case atStart=>exact ⟨0,by omega,rfl,[],[],b,0,rfl,rfl,H0.out⟩
 case round =>
  clear H0;obtain ⟨n,hn,rfl,a,t,b,k,rfl,rfl,hF⟩:=hrel
  by_cases hnl : n < ls.length
  ·obtain ⟨ad,rfl,had,hcell⟩:=HA.out.below hF.es.be (aF _) (by omega)
   obtain ⟨P,c,hx,hsl⟩:=hcell n ls[n] (List.getElem?_eq_getElem hnl);have hfl:=DK ls n hnl
   have hsz : IntKind.u64.wrap ((((ls.take n).flatten.length % 18446744073709551616 : Nat) : Int) + (ls[n].length : Int)) = (((ls.take (n + 1)).flatten.length % 18446744073709551616 : Nat) : Int):=by
    rw [hfl,aO,aP]
    omega
   have HL:=aH hfl;have hl1:=hsl.1;have hl2:=hsl.2.1;have hwn : IntKind.u64.wrap (ls[n].length : Int) = (ls[n].length : Int):=rJ _ (by omega);have HS:=aH (aY hF hsl);clear hF hsl hcell hfl;obtain ⟨zn,hzn⟩ : ∃ z,(ls.take (n + 1)).flatten.length % 18446744073709551616 = z:=⟨_,rfl⟩;rw [hzn] at hsz;have HZN:=aH hzn;clear hzn;generalize (ls.take n).flatten.length % 18446744073709551616 = z0 at *;generalize ls[n] = l at *
   go_wp2
   go_loopw [9,6] (λp f wq=>∃ d r P c a t b k,l = d ++ r /\ p = .slice P (r : List UInt8).length c /\ f = .int .i64 ((t : List UInt8).length : Nat) /\ SL wq 0 B P r c /\ FS6 B gh gb w wq o ((ls.take n).flatten ++ d) a t b k) (λp _ _=>CS p)
   case atStart =>
    obtain ⟨hF,hsl⟩:=HS.out;refine ⟨[],l,P,c,a,t,b,k,rfl,rfl,rfl,hsl,?_⟩;rw [cD];exact hF
   case round =>
    clear HS hwn hsz hx hl1 hl2;obtain ⟨d,r,P,c,a,t,b,k,hd,rfl,rfl,hsl,hF⟩:=hrel
    by_cases hr : 0 < r.length
    ·skip
     have hm0:=hF.es.m;have hlt:=hF.et;have hz128:=hF.es.len;have hbv:=hsl.2.2.2;have hs1:=hsl.1;have hs2:=hsl.2.1;have hcut:=hsl.cut (k:=min r.length (64 - t.length)) (Nat.min_le_left _ _);have htl:=Ha (r:=r) (n:=64) hF.eb
     have hzl : (cop b t.length (r.take (64 - t.length))).length = 64:=by
      rw [EZ (by rw [aZ]; omega)];exact hz128
     have hS2:=hF.es.D6 hzl;obtain ⟨z',hz'⟩ : ∃ z,cop b t.length (r.take (64 - t.length)) = z:=⟨_,rfl⟩;obtain ⟨m,hm⟩ : ∃ m,min r.length (64 - t.length) = m:=⟨_,rfl⟩;rw [hz'] at hS2 hzl htl;rw [hm] at hcut htl;have HZ:=aH hz';have HM:=aH hm;have hrd : (r.drop m).length = r.length - m:=List.length_drop
     have hmr : m <= r.length:=by omega
     have hmt : t.length + m <= 64:=by omega
     have hm1 : 0 < m:=by omega
     have hq : IntKind.i64.wrap ((t.length : Int) + (m : Int)) = ((t.length + m : Nat) : Int):=by rw [i64_left,wrap64_in _ (by omega)]; omega
     have hsl2 : SL (wr.setRow gb (By z').toArray) 0 B (if c = m then P else P.map (·.add m)) (r.drop m) (c - m):=hcut.below (below_setRow (Below.refl B wr) hF.es.bb _) (aF _)
     have hd2 : l = (d ++ r.take m) ++ r.drop m:=by rw [hd,aU,List.take_append_drop]
     have htm : r.take (64 - t.length) = r.take m:=by
      rw [<-hm]
      by_cases hh : r.length <= 64 - t.length
      ·rw [cO hh,bT hh,bT (aF _)]
      ·rw [Nat.min_eq_right (by omega)]
     rw [htm] at htl;have hem:=hF.em;have hea:=hF.ea;have HS:=aH (aY hS2 (aY hsl2 (aY hd2 (aY htl (aY hem hea)))));clear hF hsl hcut hS2 hsl2 hd hd2 htl htm hm hz' hem hea
     by_cases hf : t.length + m < 64
     ·by_cases hck : c = m
      ·have hck2:=hck.symm
       subst hck2
       go_wp2_with (refine oG (.tmp 27) (.tmp 28) rfl rfl gb t.length (64 - t.length) (64 - t.length) rfl P r m rfl b 25 hm0 0 B hbv (by rw [hz128]; omega) z' HZ m HM ?_)
       go_roundw
       case rel =>
        obtain ⟨hS2,hsl2,hd2,htl,hem,hea⟩:=HS.out
        first | rw [if_pos rfl] at hsl2 | rw [if_pos trivial] at hsl2
        refine ⟨d ++ r.take m,r.drop m,P,m - m,a,t ++ r.take m,z',k,hd2,by rw [hrd,show r.length - m = 0 by omega,zG],?_,hsl2,?_,hea,?_,hS2,?_⟩
        ·rw [aO,aZ,cO hmr]
         go_num
        ·rw [<-aU,hem,aU]
        ·rw [aO,aZ,cO hmr]
         exact hf
        ·rw [aO,aZ,cO hmr]
         exact htl
       case measure=>simp [CS]; omega
      ·skip
       go_wp2_with (refine oG (.tmp 27) (.tmp 28) rfl rfl gb t.length (64 - t.length) (64 - t.length) rfl P r c rfl b 25 hm0 0 B hbv (by rw [hz128]; omega) z' HZ m HM ?_)
       go_roundw
       case rel =>
        obtain ⟨hS2,hsl2,hd2,htl,hem,hea⟩:=HS.out;rw [if_neg hck] at hsl2;refine ⟨d ++ r.take m,r.drop m,(P.map (·.add m)),c - m,a,t ++ r.take m,z',k,hd2,by rw [hrd],?_,hsl2,?_,hea,?_,hS2,?_⟩
        ·rw [aO,aZ,cO hmr]
         go_num
        ·rw [<-aU,hem,aU]
        ·rw [aO,aZ,cO hmr]
         exact hf
        ·rw [aO,aZ,cO hmr]
         exact htl
       case measure=>simp [CS]; omega
     ·have hf : t.length + m = 64:=by omega
      by_cases hck : c = m
      ·have hck2:=hck.symm
       subst hck2
       go_wp2_with (refine oG (.tmp 27) (.tmp 28) rfl rfl gb t.length (64 - t.length) (64 - t.length) rfl P r m rfl b 25 hm0 0 B hbv (by rw [hz128]; omega) z' HZ m HM ?_)
       refine (nN HS.out.1.BI).mono ?_
       rintro e w4 ⟨rfl,hS4⟩
       go_wp2_with (fail)
       go_roundw
       case rel =>
        obtain ⟨hS2,hsl2,hd2,htl,hem,hea⟩:=HS.out
        first | rw [if_pos rfl] at hsl2 | rw [if_pos trivial] at hsl2
        have hzz : z' = t ++ r.take m:=by
         rw [<-htl,hf,bT (by omega)]
        have hfull:=yE (s:=b7) (n:=64) (o:=o) (by decide) hea hzl;rw [hfull] at hS4;refine ⟨d ++ r.take m,r.drop m,P,m - m,a ++ z',[],z',k + 1,hd2,by rw [hrd,show r.length - m = 0 by omega,zG],rfl,?_,?_,?_,by decide,hS4.since hS2.be,rfl⟩
        ·exact hsl2.below hS4.be (aF _)
        ·rw [cD,hzz,<-aU,hem,aU]
        ·rw [aO,hea,hzl,rH,CG]
       case measure=>simp [CS]; omega
      ·skip
       go_wp2_with (refine oG (.tmp 27) (.tmp 28) rfl rfl gb t.length (64 - t.length) (64 - t.length) rfl P r c rfl b 25 hm0 0 B hbv (by rw [hz128]; omega) z' HZ m HM ?_)
       refine (nN HS.out.1.BI).mono ?_
       rintro e w4 ⟨rfl,hS4⟩
       go_wp2_with (fail)
       go_roundw
       case rel =>
        obtain ⟨hS2,hsl2,hd2,htl,hem,hea⟩:=HS.out;rw [if_neg hck] at hsl2
        have hzz : z' = t ++ r.take m:=by
         rw [<-htl,hf,bT (by omega)]
        have hfull:=yE (s:=b7) (n:=64) (o:=o) (by decide) hea hzl;rw [hfull] at hS4;refine ⟨d ++ r.take m,r.drop m,(P.map (·.add m)),c - m,a ++ z',[],z',k + 1,hd2,by rw [hrd],rfl,?_,?_,?_,by decide,hS4.since hS2.be,rfl⟩
        ·exact hsl2.below hS4.be (aF _)
        ·rw [cD,hzz,<-aU,hem,aU]
        ·rw [aO,hea,hzl,rH,CG]
       case measure=>simp [CS]; omega
    ·have hr0 : r = []:=List.eq_nil_of_length_eq_zero (by omega)
     subst hr0;rw [cD] at hd;subst hd;have HF:=aH hF;clear hF hsl
     go_wp2
     go_roundw
     case rel =>
      refine ⟨n + 1,by omega,by go_num,a,t,b,k,rfl,?_,?_⟩
      ·rw [HZN.out]
      ·rw [HL.out]
       exact HF.out
     case measure=>simp [intOf]; omega
  ·obtain rfl : n = ls.length:=by omega
   rw [List.take_length] at hF ⊢;have hE:=ON hF.es t.length (ls.flatten.length % 18446744073709551616) hF.et;rw [Da,hF.eb,JK (by decide) hF.ea,<-hF.em] at hE
   have hmod : t.length = ls.flatten.length % 64:=by
    have h1:=hF.ea;have h2:=hF.et;rw [hF.em,aO]
    omega
   have HE:=aH hE;have HMO:=aH hmod;clear hE hF hmod;generalize ls.flatten.length % 18446744073709551616 = zz at *
   go_wp2_with (fail)
   refine HE.out.mono ?_
   rintro e w4 ⟨rfl,hS4⟩
   go_wp2_with (fail)
   go_end0
   rw [HMO.out] at hS4;exact ⟨rfl,hS4⟩
theorem Et : Own 29:=λ_ _=>by go_simp
theorem xB : Own 18:=λ_ _=>by go_simp
def tR : Oct:=⟨b7.start[0]!,b7.start[1]!,b7.start[2]!,b7.start[3]!,b7.start[4]!,b7.start[5]!,b7.start[6]!,b7.start[7]!⟩
theorem FD : OB 32 tR:=by
 constructor <;> decide
theorem CN : tR.list = b7.start:=by decide
theorem OB.NU {o : Oct} (h : OB 32 o) : ∀ x ∈ o.list,x < 4294967296:=by
 intro x hx
 simp only [Oct.list,cA,List.not_mem_nil,or_false] at hx
 rcases hx with rfl | rfl | rfl | rfl | rfl | rfl | rfl | rfl
 ·exact h.a
 ·exact h.b
 ·exact h.c
 ·exact h.d
 ·exact h.e
 ·exact h.f
 ·exact h.g
 ·exact h.h
set_option maxRecDepth 100000 in
set_option maxHeartbeats 2000000 in
theorem MF (A : Option Addr) (ls : List (List UInt8)) (pc : Nat) (w : World) (hT : Tsh w) (hA : oM w w.heap.size A ls) (hpc : ls.length <= pc) (hpm : pc <= 9223372036854775807) :
  Calls Tryd.prog 18 #[.slice A ls.length pc] w λe w'=>e = .returned (.agg (By (eK b7 ls.flatten)).toArray) /\ Below w.heap.size w w':=by
 have hD : eK b7 ls.flatten = ((jQ b7 64 tR (ls.flatten ++ jG 64 (ls.flatten.length % 64) (8 * ls.flatten.length))).list.map (m9 b7)).flatten:=rfl;rw [hD];clear hD;have hTs : Tst w:=⟨hT.cell,hT.lt⟩;generalize hR : jQ b7 64 tR (ls.flatten ++ jG 64 (ls.flatten.length % 64) (8 * ls.flatten.length)) = R at *;have HR:=aH hR;clear hR
 go_enter Tryd.func18,Tryd.ntmps18
 refine wp_seq_k λK hK=>?_;refine wp_region_lit ?_;refine dN (zs:=(By Fi).toArray) rfl rfl Sj ?_;refine dP ?_
 go_simp
 refine hK _ _ ?_;clear hK K;refine pM (λW=>Blk W w.heap.size 24 (By Fi).toArray /\ Below w.heap.size w W /\ w.heap.size < W.heap.size) ⟨Blk.new w _ _,(Below.refl _ _).alloc (aF _) _,by rw [aW]; omega⟩ ?_
 rintro W ⟨ho,hbe,hsz⟩
 refine wp_seq_k λK hK=>?_;refine rN 1 3 65 (.tmp 5) z8v rfl rfl rfl rfl rfl rfl rfl (c9 rfl (by kernel_rfl)) ?_;simp only [a9,bN];refine Pd rfl Et (λw1 h=>IQ w1 (hTs.below (Below.mono hbe (aF _)) |>.below h)) rfl rfl ?_;simp only [aE,aA,aB,aC];refine cL ⟨(Uw b7.start).toArray,λ_=>rfl,λ_=>rfl,rfl,nU _ rfl,Am _,λgh W1 hgh hw1 hbh=>?_⟩;simp only [Exit.then,aE,aA,aB,aC];refine hK _ _ ?_;clear hK K;have ho:=hw1.blk ho;have hbe:=a6 hbe hw1;clear hw1;have hng:=hbh.lt;refine wp_seq_k λK hK=>?_;refine wp_region_lit ?_;refine dN (zs:=(By wU).toArray) rfl rfl PG ?_;refine dP ?_
 go_simp
 refine hK _ _ ?_;clear hK K;have ho:=ho.alloc (.cells (By wU).toArray 25);have hbh:=hbh.alloc (.cells (By wU).toArray 25);have hbe:=hbe.alloc hbe.size (.cells (By wU).toArray 25);have hbb:=Blk.new W1 25 (By wU).toArray;generalize W1.alloc (.cells (By wU).toArray 25) = W2 at *;generalize W1.heap.size = gb at *;have hTw:=hT.below hbe;rw [<-CN] at hbh;have hsgh : w.heap.size < gh:=bB hsz hgh;have hS : S6 gh gh gb W2 W2 tR wU:=⟨hbh,hbb,FD,rfl,hTw.steps,Below.refl _ _,aF _,fA hng,Nat.ne_of_lt hng,bB hT.steps.lt (fA hsgh)⟩
 have hP : oM W2 gh A ls:=λhl=>by
  obtain ⟨ad,e,h1,h2⟩:=(hA.below hbe (aF _)) hl;refine ⟨ad,e,Nat.lt_trans h1 hsgh,λi l hi=>?_⟩;obtain ⟨A',c',h3,h4⟩:=h2 i l hi;exact ⟨A',c',h3,h4.more (aF _) (fA hsgh)⟩
 have HF:=aH (LX hS A ls pc hP hpc hpm);have hmf : ∀ (fn : Fn) (first cap : Array Value) (w : World),(Instr.makeFunc fn first cap).run Tryd.prog w = .ok (.func fn first cap) w:=λ_ _ _ _=>rfl;have HK:=aH (aY ho hbe);clear hS hP hTw hbb hbh ho hbe hA hT
 go_wp2_with (fail)
 refine HF.out.mono ?_
 rintro e W3 ⟨rfl,b',hS3⟩
 rw [HR.out] at hS3;have kh:=hS3.h;have hb3:=hS3.be;have hzr : (Uw R.list).toArray.size = 8:=rfl;have HL:=aH (λw1=>N1 (l:=R.list) rfl (OB.NU hS3.ob) w1);have hko : Blk W3 w.heap.size 24 (By Fi).toArray:=HK.out.1.below hb3 hsgh;have hbe3 : Below w.heap.size w W3:=HK.out.2.trans (hb3.mono (fA hsgh));clear HF HK hS3 hb3 hmf
 go_wp2_with (refine wpList_load_row rfl 65 _ rfl gh rfl 65 (Uw R.list).toArray (0,0) _ kh Tryd.underlying65 rfl (nU _ hzr) ?_)
 refine (HL.out _).mono ?_
 rintro e W4 ⟨rfl,hw4⟩
 have hko:=hko.later hw4;have hbe4:=a6 hbe3 hw4
 have hz : (By (R.list.map (m9 b7)).flatten).toArray.size = 32:=by
  rw [bA,b6,rU (m9 b7) (n:=4) (λx=>rS b7 x) R.list]
  rfl
 clear HL hw4 kh hbe3;obtain ⟨D,hDD⟩ : ∃ D,(R.list.map (m9 b7)).flatten = D:=⟨_,rfl⟩;rw [hDD] at hz ⊢;have HDD:=aH hDD;clear hDD
 go_wp2_with (refine wpList_store_row rfl 24 _ _ rfl w.heap.size rfl (By D).toArray rfl 24 _ hko (fC _ hz) (by rw [hz]; rfl) (lJ _) ?_)
 refine bodyPost_ret (results_cell_row rfl _ _ w.heap.size 24 (By D).toArray (0,0) _ rfl (hko.row _) Tryd.underlying24 rfl (fC _ hz)) rfl ⟨by rw [HDD.out],?_⟩;exact below_setRow hbe4 (aF _) _
end Go.Proofs.YtfkchihlchlfdaaDoor
