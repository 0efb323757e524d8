import Derived.Test.YtfkchihlchlfdaaDoorMj
import Derived.Great.BuildSlice
import Derived.Test.YtfkchihlchlfdaaDoorMa
import Derived.Test.YtfkchihlchlfdaaDoorMg
import Derived.Test.YtfkchihlchlfdaaDoorMf
import Derived.StillTailTactics
set_option maxRecDepth 100000
set_option maxHeartbeats 4000000
open And renaming intro->aY
open Array renaming replicate->bD,range->Bd
open Go.Instr renaming fill->gC,indexAt->mL,buildSlice->mX
open Go.Lib renaming hid->aH
open Go.Oper renaming upon->jR,wp->lR
open Go.Region renaming wanted->aL,ready->bQ,noSelect->s8
open Go.Result renaming andThen_ok->aG
open Go.Sem renaming run_pure->aI,run_bind->aJ
open List renaming replicate->aD,size_toArray->bA,getElem?_eq_getElem->bC,append_nil->cD,mem_singleton->cG,map_cons->cH,map_toArray->eD,mem_of_getElem?->fM,map_nil->gK,nil_append->jD,drop_zero->qI,getElem_mem->xS,cons_ne_nil->C4
open Nat renaming le_refl->aF,blt->aQ,mod_eq_of_lt->bS,zero_add->cW,zero_le->dC,mod_lt->eR,le_trans->jL,pow_zero->qG
open Ne renaming symm->jK
open Option.some renaming injEq->bH
open UInt8 renaming ofNat->aX,toNat_ofNat_of_lt'->Hs
namespace Go.Proofs.YtfkchihlchlfdaaDoor
open Go.RowKit Go.IntWalk Nums
def kV (rs : List RS) : List Value:=(rs.map λr=>j4 r.M r.d).flatten
theorem Cl (r : RS) (rs : List RS) : kV (r :: rs) = j4 r.M r.d ++ kV rs:=by simp [kV]
theorem Cm : ∀ {rs : List RS} {j : Nat} {r : RS},(∀ r ∈ rs,r.Ok) -> rs[j]? = some r -> ∃ A Z,kV rs = A ++ (j4 r.M r.d ++ Z) /\ A.length = 416 * j
 | [],j,r,_,hj=>by simp at hj
 | s :: rs,0,r,h,hj=>by
  simp only [List.getElem?_cons_zero,bH] at hj;subst hj;exact ⟨[],kV rs,by rw [Cl]; rfl,rfl⟩
 | s :: rs,j + 1,r,h,hj=>by
  obtain ⟨A,Z,e,hA⟩:=Cm (rs:=rs) (j:=j) (r:=r) (λs hs=>h s (by simp [hs])) (by simpa using hj);refine ⟨j4 s.M s.d ++ A,Z,by rw [Cl,e,List.append_assoc],?_⟩;rw [List.length_append,tU (h s (by simp)).m8 (h s (by simp)).dl,hA]
  omega
section
variable {w : World} {g t : Nat} {rs : List RS} {j : Nat} {r : RS}
theorem MY (hb : Blk w g t (kV rs).toArray) (h : ∀ r ∈ rs,r.Ok) (hj : rs[j]? = some r) {m : Nat} (hm : m < 256) : w.cell? ⟨g,416 * j + 160 + m,none⟩ = some (.int .u8 (r.d[m]! : Nat)):=by
 have hr:=h r (fM hj);obtain ⟨A,Z,e,hA⟩:=Cm h hj;have hM:=vA hr.m8 (aF 8);rw [List.take_of_length_le (by rw [hr.m8.len]; exact aF _)] at hM
 have e2 : kV rs = (A ++ Us r.M.flatten) ++ (Ds r.d ++ Z):=by rw [e,j4]; simp
 rw [e2] at hb;have h2:=Blk.LA hb (off:=416 * j + 160) (by simp [cY,hA,hM]) m (.int .u8 (r.d[m]! : Nat)) (by have:=Jk (l:=r.d) (j:=m) (by rw [hr.dl]; exact hm); simpa using this);exact h2
theorem P7 (hb : Blk w g t (kV rs).toArray) (h : ∀ r ∈ rs,r.Ok) (hj : rs[j]? = some r) {i : Nat} (hi : i < 8) : w.rangeAt g (416 * j + 20 * i) (Us r.M[i]!):=by
 have hr:=h r (fM hj);obtain ⟨A,Z,e,hA⟩:=Cm h hj
 have e2 : kV rs = (A ++ Us (r.M.take i).flatten) ++ (Us r.M[i]! ++ (Us (r.M.drop (i + 1)).flatten ++ Ds r.d ++ Z)):=by rw [e,zP hr.m8 hi]; simp
 rw [e2] at hb;exact Blk.LA hb (by simp [cY,hA,vA hr.m8 (Nat.le_of_lt hi)])
end
theorem RX (b n c j : Nat) (h : j < n) (w : World) : (mL 130 (.slice (some ⟨b,0,none⟩) n c) (.int .i64 (j : Int))).run Tryd.prog w = .ok (.pointer (some ⟨b,416 * j,none⟩)) w:=by
 have h3 : (j : Int) < (n : Int):=by omega
 have h4 : (0 : Int) <= j:=by omega
 go_simp
theorem VP (b o i : Nat) (h : i < 256) (w : World) : (mL 114 (.pointer (some ⟨b,o,none⟩)) (.int .i64 (i : Int))).run Tryd.prog w = .ok (.pointer (some ⟨b,o + i,none⟩)) w:=by
 have h3 : (i : Int) < 256:=by omega
 have h4 : (0 : Int) <= i:=by omega
 go_simp
theorem VQ (b o i : Nat) (h : i < 8) (w : World) : (mL 113 (.pointer (some ⟨b,o,none⟩)) (.int .u8 (i : Int))).run Tryd.prog w = .ok (.pointer (some ⟨b,o + 20 * i,none⟩)) w:=by
 have h3 : (i : Int) < 8:=by omega
 have h4 : (0 : Int) <= i:=by omega
 go_simp
theorem VH (v : Nat) (h : v < 16) : IntKind.u8.wrap ((v : Int).tdiv 2) = ((v / 2 : Nat) : Int):=by
 have key : ∀ v : Nat,v < 16 -> IntKind.u8.wrap ((v : Int).tdiv 2) = ((v / 2 : Nat) : Int):=by decide +kernel
 exact key v h
section
variable {ops : Array Oper} {C0 : World -> Prop} {Q : Act -> Prop} {N : Nat} {E : List (Nat × Value)} {o : Oper} {rest : List Oper} {k : Nat}
theorem U6 {t : TypeId} {x y : Operand} (p i : Value) (q : Addr) (hg : o.guard = none) (hd : o.dst = some k) (hk : aQ k N = true) (ho : o.op = .indexAddr t x y) (hx : ev E x = some p) (hy : ev E y = some i)
  (hr : ∀ w,(mL t p i).run Tryd.prog w = .ok (.pointer (some q)) w) (hn : bF Tryd.prog ops C0 Q rest N ((k,.pointer (some q)) :: E)) : bF Tryd.prog ops C0 Q (o :: rest) N E :=
 dM _ hg hd hk (λa ha w _=>by
  have h1:=ha.eval hx;have h2:=ha.eval hy
  unfold execOp
  simp only [ho,h1,h2,aJ,hr,aG,aI]) hn
theorem TI {x : Operand} (p : Option Addr) (n c : Nat) (hg : o.guard = none) (hd : o.dst = some k) (hk : aQ k N = true) (ho : o.op = .call { callee:=.builtin .len,args:=#[x],argTypes:=#[130] }) (hx : ev E x = some (.slice p n c))
  (hn : bF Tryd.prog ops C0 Q rest N ((k,.int .i64 (n : Int)) :: E)) : bF Tryd.prog ops C0 Q (o :: rest) N E :=
 dM _ hg hd hk (λa ha w _=>by
  have h1:=ha.eval hx
  unfold execOp
  simp only [ho,resolve,invoke,builtin,aJ,aI,aG,eD,cH,gK,h1]
  go_simp) hn
end
section
variable {ops : Array Oper} {Q : Exit -> Act -> World -> Prop} {N : Nat} {E : List (Nat × Value)} {w : World} {o : Oper} {rest : List Oper} {k : Nat}
theorem J7 {f : FuncId} {xs : Array Operand} {ats : Array TypeId} (args : Array Value) {R : Ending -> World -> Prop} (hg : o.guard = none) (hd : o.dst = some k) (hk : aQ k N = true)
  (hf : Own f) (hc : Calls Tryd.prog f args w R) (ho : o.op = .call { callee:=.value (.func f),args:=xs,argTypes:=ats }) (hx : xs.toList.map (ev E) = args.toList.map some)
  (hn : ∀ e w',R e w' -> ∃ v,e = .returned v /\ lF Tryd.prog ops Q rest N ((k,v) :: E) w') : lF Tryd.prog ops Q (o :: rest) N E w:=λa ha=>by
 have hr:=jT (a:=a) hf ho w;rw [oI (ha.G0 _ _ hx)] at hr
 unfold wpList
 rw [if_pos (by simp [aL,hg])];refine .inl ?_
 unfold lR
 rw [hr];simp only [jR,hd]
 exact hc.mono λe w' he=>by
  obtain ⟨v,rfl,h1⟩:=hn e w' he;exact h1 _ (ha.put hk v)
end
theorem Er : Own 70:=λ_ _=>by go_simp
theorem Dl : Own 69:=λ_ _=>by go_simp
theorem Dq : Own 49:=λ_ _=>by go_simp
def dOf (rs : List RS) (j : Nat) : List Nat:=(rs[j]?.map RS.d).getD []
theorem OT {rs : List RS} {j : Nat} {r : RS} (h : rs[j]? = some r) : dOf rs j = r.d:=by rw [dOf,h]; rfl
theorem RQ {rs : List RS} (h : ∀ r ∈ rs,r.Ok) : ∀ A ∈ rs.map RS.A,Ed.On dd A:=λA hA=>by
 obtain ⟨r,hr,rfl⟩:=List.mem_map.1 hA;exact (h r hr).on
def zA (rs : List RS) (k : Nat) : Ed.Pt p:=Ed.tot dd (rs.map RS.A) 0 λm=>mZ ((dOf rs m).drop k)
def part (rs : List RS) (k j : Nat) : Ed.Pt p:=Ed.tot dd (rs.map RS.A) 0 λm=>if m < j then mZ ((dOf rs m).drop k) else 2 * mZ ((dOf rs m).drop (k + 1))
theorem L8 {rs : List RS} (h : ∀ r ∈ rs,r.Ok) : zA rs 256 = Ed.zero:=by
 refine Ed.Fq iL λj _ hj=>?_;rw [List.length_map,cW] at hj;rw [OT (bC hj),List.drop_of_length_le (by rw [(h _ (xS hj)).dl]; exact aF _)]
 rfl
theorem Lo {rs : List RS} (h : ∀ r ∈ rs,r.Ok) (k : Nat) : part rs k 0 = Ed.add dd (zA rs (k + 1)) (zA rs (k + 1)):=by
 rw [zA,<-Ed.Jz iL (RQ h)];exact Ed.u5 λj _ _=>if_neg (by omega)
theorem Nu {rs : List RS} (k : Nat) : part rs k rs.length = zA rs k :=
 Ed.u5 λj _ hj=>if_pos (by simpa using hj)
theorem Di {rs : List RS} (h : ∀ r ∈ rs,r.Ok) {k j : Nat} {r : RS} (hj : rs[j]? = some r) (hk : k < 256) : part rs k (j + 1) = Ed.add dd (part rs k j) (Ed.mul dd r.d[k]! r.A):=by
 refine Ed.Fs iL (RQ h) 0 j r.d[k]! _ _ r.A (by rw [List.getElem?_map,hj]; rfl) ?_ λm hm=>?_
 ·simp only [cW]
  rw [if_pos (by omega),if_neg (by omega),OT hj,KY (by rw [(h r (fM hj)).dl]; exact hk),Nat.add_comm]
 ·simp only [cW] at hm
  by_cases e : m < j
  ·rw [if_pos (by omega),if_pos e]
  ·rw [if_neg (by omega),if_neg e]
theorem Lp {rs : List RS} (h : ∀ r ∈ rs,r.Ok) {k j : Nat} {r : RS} (hj : rs[j]? = some r) (hk : k < 256) (h0 : r.d[k]! = 0) : part rs k (j + 1) = part rs k j:=by
 rw [Di h hj hk,h0,Ed.yP,Ed.add_zero iL]
def TF (gs n c0 g1 g2 : Nat) (s : Nat × Nat × List Nat) : List (Nat × Value):=[(0,.slice (some ⟨gs,0,none⟩) n c0),(2,.pointer (some ⟨g1,0,none⟩)),(3,.pointer (some ⟨g2,0,none⟩)),(4,.int .i64 (s.2.1 : Int)),(8,.int .i64 (s.1 : Int))]
def TR (w : World) (gs t g1 g2 : Nat) (rs : List RS) (s : Nat × Nat × List Nat) (W : World) : Prop :=
  s.1 <= 256 /\ s.2.1 <= s.1 /\ (∃ P,PB s.2.2 P /\ Ed.mul dd (2 ^ s.2.1) P = zA rs (256 - s.1)) /\ Up w W /\ Tw W /\ Blk W gs t (kV rs).toArray /\ Blk W g1 77 (Us pz).toArray /\ Blk W g2 77 (Us s.2.2).toArray
def IF (gs n c0 g1 g2 i : Nat) (s : Nat × Nat × List Nat) : List (Nat × Value):=[(0,.slice (some ⟨gs,0,none⟩) n c0),(2,.pointer (some ⟨g1,0,none⟩)),(3,.pointer (some ⟨g2,0,none⟩)),(4,.int .i64 (s.2.1 : Int)),(8,.int .i64 (i : Int)),(5,.int .i64 (i : Int)),(14,.int .i64 (n : Int)),(15,.int .i64 (s.1 : Int))]
def IR (w : World) (gs t g1 g2 : Nat) (rs : List RS) (i k : Nat) (s : Nat × Nat × List Nat) (W : World) : Prop :=
  s.1 <= rs.length /\ s.2.1 <= i + 1 /\ (∃ P,PB s.2.2 P /\ Ed.mul dd (2 ^ s.2.1) P = part rs k s.1) /\ Up w W /\ Tw W /\ Blk W gs t (kV rs).toArray /\ Blk W g1 77 (Us pz).toArray /\ Blk W g2 77 (Us s.2.2).toArray
theorem Jy {rs : List RS} {gs t c0 : Nat} (hok : ∀ r ∈ rs,r.Ok) (hlen : rs.length < 4294967296) (w : World) (hT : Tw w) (hb : Blk w gs t (kV rs).toArray) :
  Calls Tryd.prog 69 #[.slice (some ⟨gs,0,none⟩) rs.length c0] w λe w'=>∃ r,PB r (zA rs 0) /\ e = .returned (.agg (Us r).toArray) /\ Below w.heap.size w w':=by
 refine e9 (vs:=[.slice (some ⟨gs,0,none⟩) rs.length c0]) 45 Tryd.func69 rfl (by rw [Tryd.ntmps69]; rfl) ?_;have hw0:=hT.lt;have hgl:=hb.lt;refine aM λK hK=>?_;refine eQ ?_;refine cT ((Us pz).toArray) rfl rfl rfl rfl (by kernel_rfl) λW1 g1 hw1 hg1 b1=>?_
 have q1 : w.heap.size <= g1:=by rw [hg1]; exact aF _
 clear hg1;replace hT:=hT.below hw1;have hU : Up w _:=hw1;replace hb:=hb.later hU;refine bG ?_;refine hK _ _ ?_;clear hK K;refine aM λK hK=>?_;refine eQ ?_;refine cT ((Us pz).toArray) rfl rfl rfl rfl (by kernel_rfl) λW2 g2 hw2 hg2 b2=>?_
 have q2 : w.heap.size <= g2:=by rw [hg2]; exact hU.size
 have n1_2 : g1 ≠ g2:=by have:=b1.lt; omega
 clear hg2;replace b1:=b1.later hw2;replace hT:=hT.below hw2;replace hU:=hU.step hw2;replace hb:=hb.later hw2;refine bG ?_;refine hK _ _ ?_;clear hK K;refine aM λK hK=>?_;refine eQ ?_;refine cP (.int .i64 0) rfl rfl rfl rfl rfl ?_;refine bG ?_;refine hK _ _ ?_;clear hK K
 have hne1 : gs ≠ g1:=by omega
 have hne2 : gs ≠ g2:=by omega
 refine aM λK1 hK1=>?_;refine aM λK hK=>?_;refine dB ?_;refine aK (.int .i64 0) rfl rfl rfl rfl rfl ?_;refine bI λw10 hw10=>?_;replace b1:=b1.later hw10;replace b2:=b2.later hw10;replace hT:=hT.below hw10;replace hU:=hU.step hw10;replace hb:=hb.later hw10;refine dT (E':=TF gs rs.length c0 g1 g2 (0,0,pz)) ⟨rfl,rfl,rfl,rfl,rfl,trivial⟩ ?_;refine hK _ _ ?_;clear hK K;refine dK ?_;refine kB (m:=λs : Nat × Nat × List Nat=>256 - s.1) (F:=TF gs rs.length c0 g1 g2) (R:=TR w gs t g1 g2 rs) ?_ (0,0,pz) ⟨dC _,aF _,⟨Ed.zero,.inl ⟨rfl,rfl⟩,by rw [qG,Ed.mul_zero iL]; exact (L8 hok).symm⟩,hU,hT,hb,b1,b2⟩;clear hU hT hb b1 b2 hw10 w10
 rintro ⟨i,c,m⟩ V0 ⟨hi,hc,⟨P,hP,hsum⟩,hU,hT,hb,b1,b2⟩
 simp only at hi hc hP hsum b2;refine aM λK hK=>?_;refine dB ?_
 by_cases hin : i < 256
 ·obtain ⟨k,hk⟩ : ∃ k,k = 255 - i:=⟨_,rfl⟩
  have hk1 : 256 - i = k + 1:=by omega
  rw [hk1] at hsum;refine fN (i : Int) 256 true rfl rfl rfl rfl rfl rfl (decide_eq_true (by omega)) ?_;refine bI λw11 hw11=>hK _ _ ?_;clear hK K;replace b1:=b1.later hw11;replace b2:=b2.later hw11;replace hT:=hT.below hw11;replace hU:=hU.step hw11;replace hb:=hb.later hw11;refine aM λK hK=>?_;refine cB true rfl ?_;refine eZ ?_;refine hK _ _ ?_;clear hK K;refine aM λK3 hK3=>?_;refine dK ?_;refine aM λK hK=>?_;refine dB ?_;refine aK (.int .i64 (i : Int)) rfl rfl rfl rfl rfl ?_;refine bU (.int .i64 (i : Int)) rfl rfl rfl rfl rfl ?_;refine bI λw12 hw12=>hK _ _ ?_;clear hK K;replace b1:=b1.later hw12;replace b2:=b2.later hw12;replace hT:=hT.below hw12;replace hU:=hU.step hw12;replace hb:=hb.later hw12;refine aM λK hK=>?_;refine dB ?_;refine aK (.int .i64 (c : Int)) rfl rfl rfl rfl rfl ?_;refine gW (c : Int) 1 ((c + 1 : Nat) : Int) rfl rfl rfl rfl rfl rfl (CW c 1 (by omega)) ?_;refine bU (.int .i64 ((c + 1 : Nat) : Int)) rfl rfl rfl rfl rfl ?_;refine bI λw13 hw13=>hK _ _ ?_;clear hK K;replace b1:=b1.later hw13;replace b2:=b2.later hw13;replace hT:=hT.below hw13;replace hU:=hU.step hw13;replace hb:=hb.later hw13;refine aM λK hK=>?_;refine dB ?_;refine aK (.slice (some ⟨gs,0,none⟩) rs.length c0) rfl rfl rfl rfl rfl ?_;refine TI _ rs.length c0 rfl rfl rfl rfl rfl ?_;refine aK (.int .i64 0) rfl rfl rfl rfl rfl ?_;refine bI λw14 hw14=>?_;replace b1:=b1.later hw14;replace b2:=b2.later hw14;replace hT:=hT.below hw14;replace hU:=hU.step hw14;replace hb:=hb.later hw14;refine dT (E':=IF gs rs.length c0 g1 g2 i (0,c + 1,m)) ⟨rfl,rfl,rfl,rfl,rfl,rfl,rfl,rfl,trivial⟩ ?_;refine hK _ _ ?_;clear hK K;refine dK ?_
  have hs0 : Ed.mul dd (2 ^ (c + 1)) P = part rs k 0:=by rw [Kv hP.on,hsum,<-Lo hok]
  refine kB (m:=λs : Nat × Nat × List Nat=>rs.length - s.1) (F:=IF gs rs.length c0 g1 g2 i) (R:=IR w gs t g1 g2 rs i k) ?_ (0,c + 1,m) ⟨dC _,by show c + 1 <= i + 1; omega,⟨P,hP,hs0⟩,hU,hT,hb,b1,b2⟩;clear hU hT hb b1 b2 hw14 w14 hP hsum hs0
  rintro ⟨j,c,m⟩ V1 ⟨hj,hc,⟨P,hP,hsum⟩,hU,hT,hb,b1,b2⟩
  simp only at hj hc hP hsum b2;refine aM λK hK=>?_;refine dB ?_
  by_cases hjn : j < rs.length
  ·refine fN (j : Int) (rs.length : Int) true rfl rfl rfl rfl rfl rfl (decide_eq_true (by omega)) ?_
   refine bI λw11 hw11=>hK _ _ ?_;clear hK K;replace b1:=b1.later hw11;replace b2:=b2.later hw11;replace hT:=hT.below hw11;replace hU:=hU.step hw11;replace hb:=hb.later hw11;refine aM λK hK=>?_;refine cB true rfl ?_;refine eZ ?_;refine hK _ _ ?_;clear hK K;refine aM λK5 hK5=>?_;refine dK ?_;refine aM λK hK=>?_;refine dB ?_;refine aK (.int .i64 (j : Int)) rfl rfl rfl rfl rfl ?_;refine bU (.int .i64 (j : Int)) rfl rfl rfl rfl rfl ?_;refine bI λw12 hw12=>hK _ _ ?_;clear hK K;replace b1:=b1.later hw12;replace b2:=b2.later hw12;replace hT:=hT.below hw12;replace hU:=hU.step hw12;replace hb:=hb.later hw12;have hr : rs[j]? = some rs[j]:=bC hjn;have hrok:=hok _ (xS hjn);generalize rs[j] = r at hr hrok;have cd:=MY hb hok hr (m:=k) (by omega);have hodd:=hrok.odd k (by omega);have hstep:=Di hok hr (k:=k) (by omega);have hsame:=Lp hok hr (k:=k) (by omega);generalize r.d[k]! = v at *;refine aM λK hK=>?_;refine dB ?_;refine aK (.slice (some ⟨gs,0,none⟩) rs.length c0) rfl rfl rfl rfl rfl ?_;refine aK (.int .i64 (j : Int)) rfl rfl rfl rfl rfl ?_;refine aK (.int .i64 (i : Int)) rfl rfl rfl rfl rfl ?_;refine oS 255 (i : Int) (k : Int) rfl rfl rfl rfl rfl rfl (by rw [i64_left,wrap64_in _ (by omega)]; omega) ?_;refine tF _ (j : Int) ⟨gs,416 * j,none⟩ rfl rfl rfl rfl rfl rfl (RX _ _ _ j hjn) ?_;refine fT gs (416 * j) (416 * j + 160) rfl rfl rfl rfl rfl (λw1=>VT _ _ w1) ?_;refine tF _ (k : Int) ⟨gs,416 * j + 160 + k,none⟩ rfl rfl rfl rfl rfl rfl (VP _ _ k (by omega)) ?_;refine cX ⟨gs,416 * j + 160 + k,none⟩ (.int .u8 (v : Int)) (by decide) rfl rfl rfl rfl rfl (λ_ h1=>(h1.cell hb.lt).trans cd) ?_;refine bU (.int .u8 (v : Int)) rfl rfl rfl rfl rfl ?_;refine bI λw13 hw13=>hK _ _ ?_;clear hK K;replace b1:=b1.later hw13;replace b2:=b2.later hw13;replace hT:=hT.below hw13;replace hU:=hU.step hw13;replace hb:=hb.later hw13;refine aM λK hK=>?_;refine dB ?_;refine aK (.int .u8 (v : Int)) rfl rfl rfl rfl rfl ?_
   by_cases hv : 0 < v
   ·refine OI (v : Int) 0 true rfl rfl rfl rfl rfl rfl (decide_eq_true (by omega)) ?_
    refine bI λw14 hw14=>hK _ _ ?_;clear hK K;replace b1:=b1.later hw14;replace b2:=b2.later hw14;replace hT:=hT.below hw14;replace hU:=hU.step hw14;replace hb:=hb.later hw14;refine cB true rfl ?_;refine aM λK hK=>?_
    have hvo : v % 2 = 1 /\ v < 16:=by omega
    have hmu:=hrok.ms (v / 2) (by omega);rw [show 2 * (v / 2) + 1 = v from by omega] at hmu;have hmr:=P7 (i:=v / 2) hb hok hr (by omega);have hml:=hmu.len;refine c_t 12 (by decide) (by kernel_rfl) (cC (by kernel_rfl)) (λ_ _ d _ _ h=>by cases d <;> exact h) ?_;refine rD g2 0 hP.len rfl rfl rfl rfl rfl (λ_ h1=>(h1.blk b2).range) ?_;refine aK (.int .i64 (c : Int)) rfl rfl rfl rfl rfl ?_;refine eV #[.agg (Us m).toArray,.int .i64 (c : Int)] (PB · (Ed.mul dd (2 ^ c) P)) rfl rfl rfl qR (λw1 h1=>vR hP c (by omega) w1 (hT.below h1)) rfl rfl λr30 v30=>?_;refine aK (.slice (some ⟨gs,0,none⟩) rs.length c0) rfl rfl rfl rfl rfl ?_;refine aK (.int .i64 (j : Int)) rfl rfl rfl rfl rfl ?_;refine aK (.int .u8 (v : Int)) rfl rfl rfl rfl rfl ?_;refine TD (v : Int) 2 ((v / 2 : Nat) : Int) (by decide) rfl rfl rfl rfl rfl rfl (VH v hvo.2) ?_;refine tF _ (j : Int) ⟨gs,416 * j,none⟩ rfl rfl rfl rfl rfl rfl (RX _ _ _ j hjn) ?_;refine fT gs (416 * j) (416 * j) rfl rfl rfl rfl rfl (λw1=>Vm _ _ w1) ?_;refine U6 _ (.int .u8 ((v / 2 : Nat) : Int)) ⟨gs,416 * j + 20 * (v / 2),none⟩ rfl rfl rfl rfl rfl rfl (VQ _ _ (v / 2) (by omega)) ?_;refine U9 gs (416 * j + 20 * (v / 2)) hml rfl rfl rfl rfl rfl (λ_ h1 q u hu=>(h1.cell hb.lt).trans (hmr q u hu)) ?_;refine eV #[.agg (Us r30).toArray,.agg (Us r.M[v / 2]!).toArray] (QB · (Ed.add dd (Ed.mul dd (2 ^ c) P) (Ed.mul dd v r.A))) rfl rfl rfl Gd (λw1 h1=>Kx v30 hmu w1 (hT.below h1)) rfl rfl λr39 v39=>?_;refine iC g2 _ ((Us r39).toArray) rfl rfl rfl rfl rfl b2 (dR v39.len) ((aT hP.len).trans (aT v39.len).symm) (bP _) λw61 hw61 c61=>?_;replace hb:=(hb.later hw61).aR hne2 (Us r39).toArray;replace b1:=(b1.later hw61).aR n1_2 ((Us r39).toArray);replace b2:=c61;replace hT:=(hT.below hw61).row (g:=g2) (by have:=hw0; omega) ((Us r39).toArray);replace hU:=cM (hU.step hw61) q2 ((Us r39).toArray);clear hw61 c61;generalize w61.setRow g2 ((Us r39).toArray) = W61 at *;rw [hsum,<-hstep] at v39;refine bG ?_;refine hK _ _ ?_;clear hK K;refine dB ?_;refine bU (.int .i64 0) rfl rfl rfl rfl rfl ?_;refine bI λw18 hw18=>?_;replace b1:=b1.later hw18;replace b2:=b2.later hw18;replace hT:=hT.below hw18;replace hU:=hU.step hw18;replace hb:=hb.later hw18;refine hK5 _ _ ?_;refine dB ?_;refine gW (j : Int) 1 ((j + 1 : Nat) : Int) rfl rfl rfl rfl rfl rfl (CW j 1 (by omega)) ?_;refine aK (.int .i64 ((j + 1 : Nat) : Int)) rfl rfl rfl rfl rfl ?_;refine bI λw20 hw20=>?_;replace b1:=b1.later hw20;replace b2:=b2.later hw20;replace hT:=hT.below hw20;replace hU:=hU.step hw20;replace hb:=hb.later hw20;exact gD (m:=λs : Nat × Nat × List Nat=>rs.length - s.1) (F:=IF gs rs.length c0 g1 g2 i) (R:=IR w gs t g1 g2 rs i k) (s:=(j,_,_)) (j + 1,0,r39) ⟨rfl,rfl,rfl,rfl,rfl,rfl,rfl,rfl,trivial⟩ ⟨hjn,dC _,⟨_,.inr v39,by rw [qG,Ed.Gs iL]⟩,hU,hT,hb,b1,b2⟩ (by show rs.length - (j + 1) < rs.length - j; omega)
   ·refine OI (v : Int) 0 false rfl rfl rfl rfl rfl rfl (decide_eq_false (by omega)) ?_
    refine bI λw14 hw14=>hK _ _ ?_;clear hK K;replace b1:=b1.later hw14;replace b2:=b2.later hw14;replace hT:=hT.below hw14;replace hU:=hU.step hw14;replace hb:=hb.later hw14;refine cB false rfl ?_;refine eZ ?_;rw [<-hsame (by omega)] at hsum;refine hK5 _ _ ?_;refine dB ?_;refine gW (j : Int) 1 ((j + 1 : Nat) : Int) rfl rfl rfl rfl rfl rfl (CW j 1 (by omega)) ?_;refine aK (.int .i64 ((j + 1 : Nat) : Int)) rfl rfl rfl rfl rfl ?_;refine bI λw20 hw20=>?_;replace b1:=b1.later hw20;replace b2:=b2.later hw20;replace hT:=hT.below hw20;replace hU:=hU.step hw20;replace hb:=hb.later hw20;exact gD (m:=λs : Nat × Nat × List Nat=>rs.length - s.1) (F:=IF gs rs.length c0 g1 g2 i) (R:=IR w gs t g1 g2 rs i k) (s:=(j,_,_)) (j + 1,c,m) ⟨rfl,rfl,rfl,rfl,rfl,rfl,rfl,rfl,trivial⟩ ⟨hjn,hc,⟨P,hP,hsum⟩,hU,hT,hb,b1,b2⟩ (by show rs.length - (j + 1) < rs.length - j; omega)
  ·refine fN (j : Int) (rs.length : Int) false rfl rfl rfl rfl rfl rfl (decide_eq_false (by omega)) ?_
   refine bI λw11 hw11=>hK _ _ ?_;clear hK K;replace b1:=b1.later hw11;replace b2:=b2.later hw11;replace hT:=hT.below hw11;replace hU:=hU.step hw11;replace hb:=hb.later hw11;refine aM λK hK=>?_;refine cB false rfl ?_;refine kC ?_
   show kF K3 45 _ _
   refine hK3 _ _ ?_
   obtain rfl : j = rs.length:=by omega
   rw [Nu] at hsum;refine dB ?_;refine gW (i : Int) 1 ((i + 1 : Nat) : Int) rfl rfl rfl rfl rfl rfl (CW i 1 (by omega)) ?_;refine aK (.int .i64 ((i + 1 : Nat) : Int)) rfl rfl rfl rfl rfl ?_;refine bI λw20 hw20=>?_;replace b1:=b1.later hw20;replace b2:=b2.later hw20;replace hT:=hT.below hw20;replace hU:=hU.step hw20;replace hb:=hb.later hw20;exact gD (m:=λs : Nat × Nat × List Nat=>256 - s.1) (F:=TF gs rs.length c0 g1 g2) (R:=TR w gs t g1 g2 rs) (s:=(i,_,_)) (i + 1,c,m) ⟨rfl,rfl,rfl,rfl,rfl,trivial⟩ ⟨hin,hc,⟨P,hP,by rw [hsum]; congr 1; omega⟩,hU,hT,hb,b1,b2⟩ (by show 256 - (i + 1) < 256 - i; omega)
 ·refine fN (i : Int) 256 false rfl rfl rfl rfl rfl rfl (decide_eq_false (by omega)) ?_
  refine bI λw11 hw11=>hK _ _ ?_;clear hK K;replace b1:=b1.later hw11;replace b2:=b2.later hw11;replace hT:=hT.below hw11;replace hU:=hU.step hw11;replace hb:=hb.later hw11;refine aM λK hK=>?_;refine cB false rfl ?_;refine kC ?_
  show kF K1 45 _ _
  refine hK1 _ _ ?_;clear hK1 K1 hK K
  obtain rfl : i = 256:=by omega
  refine aM λK hK=>?_;refine k8 3 ?_;refine rD g2 0 hP.len rfl rfl rfl rfl rfl (λ_ h1=>(h1.blk b2).range) ?_;refine aK (.int .i64 (c : Int)) rfl rfl rfl rfl rfl ?_;refine eV #[.agg (Us m).toArray,.int .i64 (c : Int)] (PB · (Ed.mul dd (2 ^ c) P)) rfl rfl rfl qR (λw1 h1=>vR hP c (by omega) w1 (hT.below h1)) rfl rfl λr30 v30=>?_;refine iC g1 _ ((Us r30).toArray) rfl rfl rfl rfl rfl b1 (dR v30.len) ((aT eX).trans (aT v30.len).symm) (bP _) λw81 hw81 c81=>?_;replace b1:=c81;replace hT:=(hT.below hw81).row (g:=g1) (by have:=hw0; omega) ((Us r30).toArray);replace hU:=cM (hU.step hw81) q1 ((Us r30).toArray);clear hw81 c81;generalize w81.setRow g1 ((Us r30).toArray) = W81 at *;rw [hsum,Nat.sub_self] at v30;refine bG ?_;refine hK _ _ ?_;clear hK K;refine gI (eC g1 _ rfl rfl b1 Tryd.underlying77 rfl (dR v30.len) ⟨_,v30,rfl,hU⟩)
theorem Of : (Tryd.prog.info? 116).map (λi=>(i.zero,i.size)) = some (some (.agg pS),416):=by kernel_rfl
theorem uC : ∃ i,Tryd.prog.info? 116 = some i /\ i.zero = some (.agg pS) /\ i.size = 416:=by
 have h:=Of
 cases hi : Tryd.prog.info? 116 with
 | none=>rw [hi] at h; cases h
 | some i =>
  rw [hi] at h;simp only [Option.map_some,bH,Prod.mk.injEq] at h;exact ⟨i,rfl,h.1,h.2⟩
theorem Qf (z : Array Value) (n : Nat) (hn : z.size = n) : ((Bd (1 * n)).map (λx=>z[x % z.size]!)) = ([] ++ (z.toList ++ [])).toArray:=by
 apply Array.ext
 ·simp [hn]
 ·intro i h1 h2
  simp only [jD,cD,bA,Array.length_toList] at h2
  simp [bS h2,h2]
theorem Qe (z : Array Value) (n : Nat) (hn : z.size = n) : ((Bd (2 * n)).map (λx=>z[x % z.size]!)) = ([] ++ (z.toList ++ (z.toList ++ []))).toArray:=by
 apply Array.ext
 ·simp [hn]
  omega
 ·intro i h1 h2
  simp only [Array.size_map,Array.size_range] at h1;simp only [Array.getElem_map,Array.getElem_range,jD,cD,List.getElem_toArray]
  by_cases hi : i < z.size
  ·rw [bS hi,List.getElem_append_left (by simpa using hi)]
   simp [hi]
  ·have h3 : i % z.size = i - z.size:=by rw [Nat.mod_eq_sub_mod (by omega),bS (by omega)]
   have h4 : i - z.size < z.size:=by omega
   rw [h3,List.getElem_append_right (by simpa using hi)]
   simp [h4]
theorem FK {r : RS} (h : r.Ok) (w : World) : (mX 130 1 #[(0,.agg (j4 r.M r.d).toArray)]).run Tryd.prog w = .ok (.slice (some ⟨w.heap.size,0,none⟩) 1 1) (w.alloc (.cells (kV [r]).toArray 116)):=by
 obtain ⟨i,hi,hz,hs⟩:=uC;have hl:=tU h.m8 h.dl;refine run_buildSlice w 130 116 1 _ _ i (.agg pS) Tryd.underlying130 hi hz (by rw [hs]; decide) (by rw [hs]; decide) ?_;rw [hs]
 show gC _ ((Bd (1 * 416)).map (λx=>pS[x % pS.size]!)) [(0,.agg (j4 r.M r.d).toArray)] = _
 rw [Qf pS 416 pF,lH (λi=>some (i * 416,416)) 0 416 [] pS.toList [] (j4 r.M r.d) [] rfl hl (by have:=pF; simpa using this),gC]
 simp [kV]
theorem FJ {r s : RS} (h : r.Ok) (h2 : s.Ok) (w : World) : (mX 130 2 #[(0,.agg (j4 r.M r.d).toArray),(1,.agg (j4 s.M s.d).toArray)]).run Tryd.prog w = .ok (.slice (some ⟨w.heap.size,0,none⟩) 2 2) (w.alloc (.cells (kV [r,s]).toArray 116)):=by
 obtain ⟨i,hi,hz,hs⟩:=uC;have hl:=tU h.m8 h.dl;have hl2:=tU h2.m8 h2.dl
 have hz0 : pS.toList.length = 416:=by have:=pF; simpa using this
 refine run_buildSlice w 130 116 2 _ _ i (.agg pS) Tryd.underlying130 hi hz (by rw [hs]; decide) (by rw [hs]; decide) ?_;rw [hs]
 show gC _ ((Bd (2 * 416)).map (λx=>pS[x % pS.size]!)) [(0,.agg (j4 r.M r.d).toArray),(1,.agg (j4 s.M s.d).toArray)] = _
 rw [Qe pS 416 pF,lH (λi=>some (i * 416,416)) 0 416 [] pS.toList (pS.toList ++ []) (j4 r.M r.d) _ rfl hl hz0,jD,lH (λi=>some (i * 416,416)) 1 416 (j4 r.M r.d) pS.toList [] (j4 s.M s.d) [] (by rw [hl]) hl2 hz0,gC]
 simp [kV]
theorem T9 (r : RS) : zA [r] 0 = Ed.mul dd (mZ r.d) r.A:=by
 show Ed.add dd (Ed.mul dd (mZ (r.d.drop 0)) r.A) Ed.zero = _
 rw [Ed.add_zero iL,qI]
theorem T8 (r s : RS) : zA [r,s] 0 = Ed.add dd (Ed.mul dd (mZ r.d) r.A) (Ed.mul dd (mZ s.d) s.A):=by
 show Ed.add dd (Ed.mul dd (mZ (r.d.drop 0)) r.A) (Ed.add dd (Ed.mul dd (mZ (s.d.drop 0)) s.A) Ed.zero) = _
 rw [Ed.add_zero iL,qI,qI]
theorem TV {l : List Nat} {A : Ed.Pt p} {b : List UInt8} (hP : PB l A) (hb : b.length = 32) (w : World) (hT : Tw w) :
  Calls Tryd.prog 50 #[.agg (Us l).toArray,.agg (By b).toArray] w λe w'=>∃ r,PB r (Ed.mul dd (le b) A) /\ e = .returned (.agg (Us r).toArray) /\ Below w.heap.size w w':=by
 refine e9 (vs:=[.agg (Us l).toArray,.agg (By b).toArray]) 10 Tryd.func50 rfl (by rw [Tryd.ntmps50]; rfl) ?_;have hw0:=hT.lt;refine aM λK hK=>?_;refine eQ ?_;refine gB ((Us l).toArray) rfl rfl rfl rfl rfl λW1 g1 hw1 hg1 b1=>?_;clear hg1;replace hT:=hT.below hw1;have hU : Up w _:=hw1;refine gB ((By b).toArray) rfl rfl rfl rfl rfl λW2 g2 hw2 hg2 b2=>?_;clear hg2;replace b1:=b1.later hw2;replace hT:=hT.below hw2;replace hU:=hU.step hw2;refine cT ((Us pz).toArray) rfl rfl rfl rfl (by kernel_rfl) λW3 g3 hw3 hg3 b3=>?_
 have q3 : w.heap.size <= g3:=by rw [hg3]; exact hU.size
 clear hg3;replace b1:=b1.later hw3;replace b2:=b2.later hw3;replace hT:=hT.below hw3;replace hU:=hU.step hw3;refine bG ?_;refine hK _ _ ?_;clear hK K;refine aM λK hK=>?_;refine k8 3 ?_;refine rD g1 0 hP.len rfl rfl rfl rfl rfl (λ_ h1=>(h1.blk b1).range) ?_;refine tG g2 0 hb rfl rfl rfl rfl rfl (λ_ h1=>(h1.blk b2).range) ?_;refine sW #[.agg (Us l).toArray,.agg (By b).toArray] (λv=>∃ r : RS,r.Ok /\ r.A = A /\ mZ r.d = le b /\ v = .agg (j4 r.M r.d).toArray) rfl rfl rfl Er (λw1 h1=>(MZ hP hb w1 (hT.below h1)).mono λe w' ⟨r,h1,h2,h3,h4,h5⟩=>⟨_,h4,⟨r,h1,h2,h3,rfl⟩,h5⟩) rfl rfl ?_
 rintro _ ⟨r,or,ar,sr,rfl⟩
 refine uJ λw4 hw4=>?_;replace b3:=b3.later hw4;replace hT:=hT.below hw4;replace hU:=hU.step hw4;refine nH (w':=w4.alloc (.cells (kV [r]).toArray 116)) (.slice (some ⟨w4.heap.size,0,none⟩) 1 1) rfl rfl rfl (λa ha=>by have h:=(FK or w4); unfold execOp; simp only [eD,cH,gK,ha.eval (x:=.tmp 7) rfl,aJ,h,aG,aI]) ?_;have hbs:=Blk.new w4 116 (kV [r]).toArray;have hal : Up w4 (w4.alloc (.cells (kV [r]).toArray 116)):=(Up.refl _).alloc _;replace b3:=b3.later hal;replace hT:=hT.below hal;replace hU:=hU.step hal;generalize w4.alloc (.cells (kV [r]).toArray 116) = W4 at *;generalize w4.heap.size = gs at *;refine J7 #[.slice (some ⟨gs,0,none⟩) 1 1] rfl rfl rfl Dl (Jy (rs:=[r]) (c0:=1) (by simpa using or) (by simp) W4 hT hbs) rfl rfl ?_
 rintro e V ⟨u,hu,rfl,hV⟩
 refine ⟨_,rfl,?_⟩;replace b3:=b3.later hV;replace hT:=hT.below hV;replace hU:=hU.step hV;rw [T9,ar,sr] at hu;refine mH g3 _ (Us u).toArray rfl rfl rfl rfl rfl b3 (dR hu.len) (aT eX |>.trans (aT hu.len).symm) (bP _) ?_;replace b3:=b3.row (Us u).toArray;replace hU:=cM hU q3 (Us u).toArray;refine bG ?_;refine hK _ _ ?_;refine gI (eC g3 _ rfl rfl b3 Tryd.underlying77 rfl (dR hu.len) ⟨_,hu,rfl,hU⟩)
theorem Rm {l : List Nat} {A : Ed.Pt p} {n m : List UInt8} (hn : n.length = 32) (hP : PB l A) (hm : m.length = 32) (w : World) (hT : Tw w) :
  Calls Tryd.prog 40 #[.agg (By n).toArray,.agg (Us l).toArray,.agg (By m).toArray] w λe w'=>∃ r,PB r (Ed.add dd (Ed.mul dd (le n) base) (Ed.mul dd (le m) A)) /\ e = .returned (.agg (Us r).toArray) /\ Below w.heap.size w w':=by
 refine e9 (vs:=[.agg (By n).toArray,.agg (Us l).toArray,.agg (By m).toArray]) 15 Tryd.func40 rfl (by rw [Tryd.ntmps40]; rfl) ?_;have hw0:=hT.lt;refine aM λK hK=>?_;refine eQ ?_;refine gB ((By n).toArray) rfl rfl rfl rfl rfl λW1 g1 hw1 hg1 b1=>?_;clear hg1;replace hT:=hT.below hw1;have hU : Up w _:=hw1;refine gB ((Us l).toArray) rfl rfl rfl rfl rfl λW2 g2 hw2 hg2 b2=>?_;clear hg2;replace b1:=b1.later hw2;replace hT:=hT.below hw2;replace hU:=hU.step hw2;refine gB ((By m).toArray) rfl rfl rfl rfl rfl λW3 g3 hw3 hg3 b3=>?_;clear hg3;replace b1:=b1.later hw3;replace b2:=b2.later hw3;replace hT:=hT.below hw3;replace hU:=hU.step hw3;refine cT ((Us pz).toArray) rfl rfl rfl rfl (by kernel_rfl) λW4 g4 hw4 hg4 b4=>?_
 have q4 : w.heap.size <= g4:=by rw [hg4]; exact hU.size
 clear hg4;replace b1:=b1.later hw4;replace b2:=b2.later hw4;replace b3:=b3.later hw4;replace hT:=hT.below hw4;replace hU:=hU.step hw4;refine bG ?_;refine hK _ _ ?_;clear hK K;refine aM λK hK=>?_;refine c_t 6 (by decide) (by kernel_rfl) (cC (by kernel_rfl)) (λ_ _ d _ _ h=>by cases d <;> exact h) ?_;refine eV #[] (QB · base) rfl rfl rfl Dq (λw1 h1=>KC w1) rfl rfl λr7 v7=>?_;refine tG g1 0 hn rfl rfl rfl rfl rfl (λ_ h1=>(h1.blk b1).range) ?_;refine sW #[.agg (Us r7).toArray,.agg (By n).toArray] (λv=>∃ r : RS,r.Ok /\ r.A = base /\ mZ r.d = le n /\ v = .agg (j4 r.M r.d).toArray) rfl rfl rfl Er (λw1 h1=>(MZ (.inr v7) hn w1 (hT.below h1)).mono λe w' ⟨r,h1,h2,h3,h4,h5⟩=>⟨_,h4,⟨r,h1,h2,h3,rfl⟩,h5⟩) rfl rfl ?_
 rintro _ ⟨r,or,ar,sr,rfl⟩
 refine rD g2 0 hP.len rfl rfl rfl rfl rfl (λ_ h1=>(h1.blk b2).range) ?_;refine tG g3 0 hm rfl rfl rfl rfl rfl (λ_ h1=>(h1.blk b3).range) ?_;refine sW #[.agg (Us l).toArray,.agg (By m).toArray] (λv=>∃ r : RS,r.Ok /\ r.A = A /\ mZ r.d = le m /\ v = .agg (j4 r.M r.d).toArray) rfl rfl rfl Er (λw1 h1=>(MZ hP hm w1 (hT.below h1)).mono λe w' ⟨r,h1,h2,h3,h4,h5⟩=>⟨_,h4,⟨r,h1,h2,h3,rfl⟩,h5⟩) rfl rfl ?_
 rintro _ ⟨q,oq,aq,sq,rfl⟩
 refine uJ λw5 hw5=>?_;replace b4:=b4.later hw5;replace hT:=hT.below hw5;replace hU:=hU.step hw5;refine nH (w':=w5.alloc (.cells (kV [r,q]).toArray 116)) (.slice (some ⟨w5.heap.size,0,none⟩) 2 2) rfl rfl rfl (λa ha=>by have h:=(FJ or oq w5); unfold execOp; simp only [eD,cH,gK,ha.eval (x:=.tmp 9) rfl,ha.eval (x:=.tmp 12) rfl,aJ,h,aG,aI]) ?_;have hbs:=Blk.new w5 116 (kV [r,q]).toArray;have hal : Up w5 (w5.alloc (.cells (kV [r,q]).toArray 116)):=(Up.refl _).alloc _;replace b4:=b4.later hal;replace hT:=hT.below hal;replace hU:=hU.step hal;generalize w5.alloc (.cells (kV [r,q]).toArray 116) = W5 at *;generalize w5.heap.size = gs at *;refine J7 #[.slice (some ⟨gs,0,none⟩) 2 2] rfl rfl rfl Dl (Jy (rs:=[r,q]) (c0:=2) (by intro x hx; simp only [List.mem_cons,List.not_mem_nil,or_false] at hx; rcases hx with rfl | rfl; exact or; exact oq) (by simp) W5 hT hbs) rfl rfl ?_
 rintro e V ⟨u,hu,rfl,hV⟩
 refine ⟨_,rfl,?_⟩;replace b4:=b4.later hV;replace hT:=hT.below hV;replace hU:=hU.step hV;rw [T8,ar,sr,aq,sq] at hu;refine mH g4 _ (Us u).toArray rfl rfl rfl rfl rfl b4 (dR hu.len) (aT eX |>.trans (aT hu.len).symm) (bP _) ?_;replace b4:=b4.row (Us u).toArray;replace hU:=cM hU q4 (Us u).toArray;refine bG ?_;refine hK _ _ ?_;refine gI (eC g4 _ rfl rfl b4 Tryd.underlying77 rfl (dR hu.len) ⟨_,hu,rfl,hU⟩)
end Go.Proofs.YtfkchihlchlfdaaDoor
namespace Go.Proofs.YtfkchihlchlfdaaDoor
open Go.RowKit Go.IntWalk
section
variable {P : Program} {Q : Exit -> Act -> World -> Prop}
def HO (P : Program) (Q : Exit -> Act -> World -> Prop) (w : World) (t t2 : Tmp) (ty : TypeId) (x y : Operand) (n : Nat) (a' : Act) : Prop :=
  ∃ (cells : Array Value) (v2 : Value),(∀ v,(a'.put (some t) v).eval (.tmp t) = v) /\ (∀ v,(a'.put (some t) v).eval x = .agg cells) /\ (∀ v,(a'.put (some t) v).eval y = v2) /\ n = cells.size /\ (P.info? ty).map (·.size) = some cells.size /\ (∀ v ∈ cells.toList,v.oneCell' = true) /\
    ∀ g w',w.heap.size <= g -> Up w w' -> Blk w' g ty cells -> Q .normal ((a'.put (some t) (.pointer (some ⟨g,0,none⟩))).put (some t2) v2) w'
theorem Qb {id : Nat} {a : Act} {w : World} {l : List Oper} {oa os ot : Oper} (n : Nat) (t t2 : Tmp) (ty : TypeId) (x y : Operand) (zs : Array Value) (hl : l = l.take n ++ [oa,os,ot]) (hn : (l.take n).length = n)
  (hop : os.op = .store ty (.tmp t) x) (hot : ot.op = .assign y) (hsg : os.guard = none) (htg : ot.guard = none) (hsd : os.dst = none) (htd : ot.dst = some t2) (hag : oa.guard = none) (had : oa.dst = some t) (hm : P.follows .mixedOrders = true)
  (hs : s8 l.toArray = true) (hh : Cf .any l.toArray n l 0 = true) (hch : chainB .any l 0 none = true)
  (hr0 : bQ .any l.toArray (marks n 0 (bD l.toArray.size false)) = [n])
  (hr1 : bQ .any l.toArray ((marks n 0 (bD l.toArray.size false)).setIfInBounds n true) = [n + 1])
  (hr2 : bQ .any l.toArray (((marks n 0 (bD l.toArray.size false)).setIfInBounds n true).setIfInBounds (n + 1) true) = [n + 2])
  (hr3 : bQ .any l.toArray ((((marks n 0 (bD l.toArray.size false)).setIfInBounds n true).setIfInBounds (n + 1) true).setIfInBounds (n + 2) true) = [])
  (hQ : ∀ c a d v w,Q (.panic c) (a.put d v) w -> Q (.panic c) a w)
  (hrun : ∀ (a : Act) w,(execOp a.eval oa).run P w = .ok (.value (.pointer (some ⟨w.heap.size,0,none⟩))) (w.alloc (.cells zs ty)))
  (h : wpB P l.toArray (Up w) (HO P Q w t t2 ty x y zs.size) (l.take n) a) : (Code.region id l.toArray true).wp P Q a w:=by
 have hB : Cg .any l.toArray n 0 (bD l.toArray.size false) = true:=yT (by simpa using hch) n l 0 _ Inv.start (by simp) hh;generalize l.take n = L at *;subst hl;subst hn;refine wp_region_any hm ?_
 have hoa : (L ++ [oa,os,ot]).toArray[L.length]? = some oa:=by simp
 have hos : (L ++ [oa,os,ot]).toArray[L.length + 1]? = some os:=by simp
 have hoT : (L ++ [oa,os,ot]).toArray[L.length + 2]? = some ot:=by simp
 have hz : (L ++ [oa,os,ot]).toArray.size = 3 + L.length:=by simp; omega
 have hG : lB P .any (L ++ [oa,os,ot]).toArray (Up w) Q (3 + L.length) 0 (3 + L.length) w.drew (bD (L ++ [oa,os,ot]).toArray.size false) a:=by
  refine oH (λ_ _ h k=>h.step k) hs hQ 3 w.drew (Up.drew w) L 0 _ a (jA.none _) (by omega) (λj hj=>by simp [List.getElem?_append_left hj]) hB ?_;refine kE (λa' h'=>⟨by rw [hr0]; exact C4 _ _,λi hi=>?_⟩) L a h;rw [hr0,cG] at hi;subst hi;obtain ⟨cells,v2,h1,h2,h2y,hsz,hi,ho,hk⟩:=h';refine wV (base:=w.heap.size) hoa hag hrun (λ_ _ h k=>h.step k) (λ_ h=>h.size) (Up.drew w) λw1 hw1 hC1 hp=>⟨by rw [hr1]; exact C4 _ _,λi hi=>?_⟩;have hb1 : Blk (w1.alloc (.cells zs ty)) w1.heap.size ty zs:=Blk.new w1 _ _;rw [hr1,cG] at hi;subst hi;rw [had];generalize w1.heap.size = g at *
  intro w2 hw2
  have hb2:=hb1.later hw2;have hC2 : Up w w2:=(hC1.alloc _).step hw2
  unfold wpOp
  simp only [hos];rw [if_pos (by simp [aL,hsg])];refine .inl ?_;have hst:=rB (P:=P) w2 ty g cells zs ty hb2 (by rw [hi]) hsz ho
  unfold lR execOp
  simp only [hop,h1,h2,aJ,hst,aG,aI,jR];rw [hsd];have hC3 : Up w (w2.setRow g cells):=cM hC2 hp _;have hb3 : Blk (w2.setRow g cells) g ty cells:=hb2.row _;refine ⟨hC3,by rw [hr2]; exact C4 _ _,λi hi=>?_⟩;rw [hr2,cG] at hi;subst hi
  intro w4 hw4
  have hb4:=hb3.later hw4;have hC4 : Up w w4:=hC3.step hw4
  unfold wpOp
  simp only [hoT];rw [if_pos (by simp [aL,htg])];refine .inl ?_
  unfold lR execOp
  simp only [hot,aI,jR];refine ⟨hC4,?_⟩;refine ⟨λj hj=>?_,λw5 hw5=>⟨hr3,?_⟩⟩
  ·rw [hr3] at hj
   cases hj
  rw [htd];have e : (Act.put (Act.put a' (some t) (.pointer (some ⟨g,0,none⟩))) none undef).eval y = v2:=h2y _;rw [e];exact hk g w5 hp (hC4.step hw5) (hb4.later hw5)
 have h2:=pN (3 + L.length) _ a w.drew hG;rw [cW,<-hz] at h2;exact h2
end
end Go.Proofs.YtfkchihlchlfdaaDoor
namespace Go.Proofs.YtfkchihlchlfdaaDoor
open Go.RowKit Go.IntWalk Nums
theorem OV {l : List Nat} {A : Ed.Pt p} (hP : PB l A) (w : World) (hT : Tw w) :
  Calls Tryd.prog 37 #[.agg (Us l).toArray] w λe w'=>e = .returned (.bool (decide (eN (Ed.mul dd 8 A) = eN Ed.zero))) /\ Below w.heap.size w w':=by
 refine e9 (vs:=[.agg (Us l).toArray]) 12 Tryd.func37 rfl (by rw [Tryd.ntmps37]; rfl) ?_;have hw0:=hT.lt;refine aM λK hK=>?_;refine eQ ?_;refine gB ((Us l).toArray) rfl rfl rfl rfl rfl λW1 g1 hw1 hg1 b1=>?_
 have q1 : w.heap.size <= g1:=by rw [hg1]; exact aF _
 clear hg1;replace hT:=hT.below hw1;have hU : Up w _:=hw1;refine cP (.bool false) rfl rfl rfl rfl rfl ?_;refine bG ?_;refine hK _ _ ?_;clear hK K;refine aM λK hK=>?_;refine k8 2 ?_;refine rD g1 0 hP.len rfl rfl rfl rfl rfl (λ_ h1=>(h1.blk b1).range) ?_;refine eV #[.agg (Us l).toArray,.int .i64 3] (PB · (Ed.mul dd 8 A)) rfl rfl rfl qR (λw1 h1=>vR hP 3 (by decide) w1 (hT.below h1)) rfl rfl λr4 v4=>?_;refine iC g1 _ ((Us r4).toArray) rfl rfl rfl rfl rfl b1 (dR v4.len) ((aT hP.len).trans (aT v4.len).symm) (bP _) λw2 hw2 c2=>?_;replace b1:=c2;replace hT:=(hT.below hw2).row (g:=g1) (by have:=hw0; omega) ((Us r4).toArray);replace hU:=cM (hU.step hw2) q1 ((Us r4).toArray);clear hw2 c2;generalize w2.setRow g1 ((Us r4).toArray) = W2 at *;have hon8:=v4.on;obtain ⟨X1,Y1,Z1,T1,x1,y1,z1,t1,rfl,hX1,hY1,hZ1,hT1,hiff⟩:=v4.yz;have hiff2 : y1 = z1 ↔ eN (Ed.mul dd 8 A) = eN Ed.zero:=hiff.trans ⟨congrArg eN,uK hon8 Ed.sS⟩;refine bG ?_;refine hK _ _ ?_;clear hK K;refine aM λK hK=>?_;refine c_q (by kernel_rfl) (cC (by kernel_rfl)) (λ_ _ d _ _ h=>by cases d <;> exact h) ?_;refine fT g1 0 5 rfl rfl rfl rfl rfl (λw1=>CV _ w1) ?_;refine dL g1 5 hY1.len rfl rfl rfl rfl rfl (λ_ h1=>(h1.blk b1).cy hX1.len) ?_;refine dG #[.agg (Us Y1).toArray] (.agg (By (enc y1)).toArray) rfl rfl rfl yM (λw1 _=>EM hY1 w1) rfl rfl ?_;refine fT g1 0 10 rfl rfl rfl rfl rfl (λw1=>G9 _ w1) ?_;refine dL g1 10 hZ1.len rfl rfl rfl rfl rfl (λ_ h1=>(h1.blk b1).cz hX1.len hY1.len) ?_;refine dG #[.agg (Us Z1).toArray] (.agg (By (enc z1)).toArray) rfl rfl rfl yM (λw1 _=>EM hZ1 w1) rfl rfl ?_;refine LZ (By (enc y1)).toArray (By (enc z1)).toArray rfl rfl rfl rfl rfl rfl (by kernel_rfl) (eqd y1 z1) ?_;refine bU (.bool (decide (y1 = z1))) rfl rfl rfl rfl rfl ?_;refine bI λw9 hw9=>hK _ _ ?_;clear hK K;replace hT:=hT.below hw9;replace hU:=hU.step hw9;rw [decide_eq_decide.2 hiff2];exact gI λa ha=>bodyPost_ret (results_tmp rfl _ _ _) ha.defers ⟨congrArg Ending.returned (ha.get 2 _ rfl),hU⟩
theorem KB {l : List Nat} {A : Ed.Pt p} (hP : PB l A) (w : World) (hT : Tw w) :
  Calls Tryd.prog 43 #[.agg (Us l).toArray] w λe w'=>e = .returned (.agg (By (eN A)).toArray) /\ Below w.heap.size w w':=by
 refine e9 (vs:=[.agg (Us l).toArray]) 25 Tryd.func43 rfl (by rw [Tryd.ntmps43]; rfl) ?_;have hw0:=hT.lt;refine aM λK hK=>?_;refine eQ ?_;refine gB ((Us l).toArray) rfl rfl rfl rfl rfl λW1 g1 hw1 hg1 b1=>?_
 have q1 : w.heap.size <= g1:=by rw [hg1]; exact aF _
 clear hg1;replace hT:=hT.below hw1;have hU : Up w _:=hw1;refine cT z32 rfl rfl rfl rfl (by kernel_rfl) λW2 g2 hw2 hg2 b2=>?_
 have q2 : w.heap.size <= g2:=by rw [hg2]; exact hU.size
 have n1_2 : g1 ≠ g2:=by have:=b1.lt; omega
 clear hg2;replace b1:=b1.later hw2;replace hT:=hT.below hw2;replace hU:=hU.step hw2;refine bG ?_;refine hK _ _ ?_;clear hK K;refine aM λK hK=>?_;refine k8 2 ?_;refine rD g1 0 hP.len rfl rfl rfl rfl rfl (λ_ h1=>(h1.blk b1).range) ?_;refine eV #[.agg (Us l).toArray] (QB · A) rfl rfl rfl sR (λw1 h1=>yH hP w1) rfl rfl λr6 v6=>?_;refine iC g1 _ ((Us r6).toArray) rfl rfl rfl rfl rfl b1 (dR v6.len) ((aT hP.len).trans (aT v6.len).symm) (bP _) λw3 hw3 c3=>?_;replace b2:=(b2.later hw3).aR (jK n1_2) ((Us r6).toArray);replace b1:=c3;replace hT:=(hT.below hw3).row (g:=g1) (by have:=hw0; omega) ((Us r6).toArray);replace hU:=cM (hU.step hw3) q1 ((Us r6).toArray);clear hw3 c3;generalize w3.setRow g1 ((Us r6).toArray) = W3 at *;obtain ⟨⟨X1,Y1,Z1,T1,x1,y1,z1,t1,rfl,hX1,hY1,hZ1,hT1,hR1,ht1⟩,hon1⟩:=v6;have haf:=hR1.aff gT;refine bG ?_;refine hK _ _ ?_;clear hK K;refine aM λK hK=>?_;refine sY 3 [nvE 3] (by decide) ⟨⟨rfl,rfl,rfl,rfl,by kernel_rfl⟩,trivial⟩ ?_;refine fT g1 0 10 rfl rfl rfl rfl rfl (λw1=>G9 _ w1) ?_;refine dL g1 10 hZ1.len rfl rfl rfl rfl rfl (λ_ h1=>(h1.blk b1).cz hX1.len hY1.len) ?_;refine eV #[.agg (Us Z1).toArray] (EB · (kR z1)) rfl rfl rfl Nz (λw1 h1=>Rb hZ1 w1) rfl rfl λr9 v9=>?_;refine oL [.tmp 9] [(Us r9).toArray] ⟨rfl,trivial⟩ (by decide) ⟨⟨rfl,rfl,rfl⟩,rfl⟩ ⟨⟨rfl,(aT fR).trans (aT v9.len).symm,fS v9.len,bP _⟩,trivial⟩ λf4 W4 hg4 hd4 hw4 hb4=>?_;have b400 : Blk W4 (f4 0) 75 ((Us r9).toArray):=hb4.1;clear hb4;replace b1:=b1.later hw4;replace b2:=b2.later hw4;replace hT:=hT.below hw4;replace hU:=hU.step hw4;clear hg4 hd4 hw4;generalize hf400 : f4 0 = g400 at *;simp only [lO,hf400];clear hf400 f4;refine bG ?_;refine dT (E':=[(1,.pointer (some ⟨g1,0,none⟩)),(2,.pointer (some ⟨g2,0,none⟩)),(3,.pointer (some ⟨g400,0,none⟩))]) ⟨rfl,rfl,rfl,trivial⟩ ?_;refine hK _ _ ?_;clear hK K;refine aM λK hK=>?_;refine sY 5 [nvH 4] (by decide) ⟨⟨rfl,rfl,rfl,rfl,by kernel_rfl⟩,trivial⟩ ?_;refine fT g1 0 5 rfl rfl rfl rfl rfl (λw1=>CV _ w1) ?_;refine dL g1 5 hY1.len rfl rfl rfl rfl rfl (λ_ h1=>(h1.blk b1).cy hX1.len) ?_;refine dL g400 0 v9.len rfl rfl rfl rfl rfl (λ_ h1=>(h1.blk b400).range) ?_;refine eV #[.agg (Us Y1).toArray,.agg (Us r9).toArray] (EB · A.y) rfl rfl rfl bK (λw1 h1=>(by have:=dA hY1 v9 w1; rwa [haf.2] at this)) rfl rfl λr13 v13=>?_;refine dG #[.agg (Us r13).toArray] (.agg (By (enc A.y)).toArray) rfl rfl rfl yM (λw1 _=>EM v13 w1) rfl rfl ?_;refine oL [.tmp 14] [(By (enc A.y)).toArray] ⟨rfl,trivial⟩ (by decide) ⟨⟨rfl,rfl,rfl⟩,rfl⟩ ⟨⟨rfl,(iY (l:=aD 32 0) rfl).trans (iY (kW _)).symm,lC (kW _),kD _⟩,trivial⟩ λf5 W5 hg5 hd5 hw5 hb5=>?_;have b500 : Blk W5 (f5 0) 24 ((By (enc A.y)).toArray):=hb5.1
 clear hb5;have q500 : w.heap.size <= f5 0:=jL hU.size (hg5 0 (by decide))
 have n2_500 : g2 ≠ f5 0:=by have:=b2.lt; have:=hg5 0 (by decide); omega
 replace b1:=b1.later hw5;replace b2:=b2.later hw5;replace b400:=b400.later hw5;replace hT:=hT.below hw5;replace hU:=hU.step hw5;clear hg5 hd5 hw5;generalize hf500 : f5 0 = g500 at *;simp only [lO,hf500];clear hf500 f5;refine bG ?_;refine dT (E':=[(1,.pointer (some ⟨g1,0,none⟩)),(2,.pointer (some ⟨g2,0,none⟩)),(3,.pointer (some ⟨g400,0,none⟩)),(4,.pointer (some ⟨g500,0,none⟩))]) ⟨rfl,rfl,rfl,rfl,trivial⟩ ?_;refine hK _ _ ?_;clear hK K;refine aM λK0 hK0=>?_;refine aM λK hK=>?_;refine dB ?_;refine fT g1 0 0 rfl rfl rfl rfl rfl (λw1=>EY _ w1) ?_;refine dL g1 0 hX1.len rfl rfl rfl rfl rfl (λ_ h1=>(h1.blk b1).cx) ?_;refine dL g400 0 v9.len rfl rfl rfl rfl rfl (λ_ h1=>(h1.blk b400).range) ?_;refine eV #[.agg (Us X1).toArray,.agg (Us r9).toArray] (EB · A.x) rfl rfl rfl bK (λw1 h1=>(by have:=dA hX1 v9 w1; rwa [haf.1] at this)) rfl rfl λr18 v18=>?_;refine dG #[.agg (Us r18).toArray] (.bool (decide (A.x.val % 2 = 1))) rfl rfl rfl vF (λw1 _=>Du v18 w1) rfl rfl ?_;refine bI λw9 hw9=>hK _ _ ?_;clear hK K;replace b2:=b2.later hw9;replace b500:=b500.later hw9;replace hT:=hT.below hw9;replace hU:=hU.step hw9;have h31:=EV A.y
 by_cases hodd : A.x.val % 2 = 1
 ·refine cB (decide (A.x.val % 2 = 1)) rfl ?_
  rw [decide_eq_true hodd,if_pos rfl]
  have e31 : ((aX (((enc A.y)[31]!).toNat + 128)).toNat : Int) = ((((enc A.y)[31]!).toNat + 128 : Nat) : Int):=by rw [Hs (by show _ < 256; omega)]
  have c31:=(b500.cell 31).trans (fU (l:=enc A.y) (j:=31) (by rw [kW]; decide));refine k8 4 ?_;refine tF _ 31 ⟨g500,31,none⟩ rfl rfl rfl rfl rfl rfl (ixH _ 31 (by decide)) ?_;refine cX ⟨g500,31,none⟩ (.int .u8 (((enc A.y)[31]!).toNat : Int)) (by decide) rfl rfl rfl rfl rfl (λ_ h1=>(h1.cell b500.lt).trans c31) ?_;refine Kn _ 128 ((((enc A.y)[31]!).toNat + 128 : Nat) : Int) rfl rfl rfl rfl rfl rfl (VY _ h31) ?_;refine tF _ 31 ⟨g500,31,none⟩ rfl rfl rfl rfl rfl rfl (ixH _ 31 (by decide)) ?_;refine mA ⟨g500,31,none⟩ ((((enc A.y)[31]!).toNat + 128 : Nat) : Int) _ (.inr ⟨rfl,rfl⟩) rfl rfl rfl rfl rfl c31 (b500.free 31) b500.lt λw8 hw8=>?_;replace b2:=b2.later hw8;replace b500:=b500.later hw8;replace hT:=hT.below hw8;replace hU:=hU.step hw8;replace b2:=b2.far (p:=⟨g500,31,none⟩) n2_500 (.int .u8 ((((enc A.y)[31]!).toNat + 128 : Nat) : Int));replace b500:=b500.set 31 (.int .u8 ((((enc A.y)[31]!).toNat + 128 : Nat) : Int));rw [<-e31,rG,<-OO hodd] at b500;rw [<-e31] at b2 ⊢;replace hU : Up w _:=hU.setCell (p:=⟨g500,31,none⟩) q500 (.int .u8 ((aX (((enc A.y)[31]!).toNat + 128)).toNat : Int));generalize w8.setCell ⟨g500,31,none⟩ (.int .u8 ((aX (((enc A.y)[31]!).toNat + 128)).toNat : Int)) = W8 at *;refine hK0 _ _ ?_;clear hK0 K0;refine aM λK hK=>?_;refine k8 1 ?_;refine tG g500 0 (gH A) rfl rfl rfl rfl rfl (λ_ h1=>(h1.blk b500).range) ?_;refine iC g2 _ ((By (eN A)).toArray) rfl rfl rfl rfl rfl b2 (lC (gH A)) ((iY (l:=aD 32 0) rfl).trans (iY (gH A)).symm) (kD _) λw6 hw6 c6=>?_;replace b500:=(b500.later hw6).aR (jK n2_500) ((By (eN A)).toArray);replace b2:=c6;replace hU:=cM (hU.step hw6) q2 ((By (eN A)).toArray);clear hw6 c6;generalize w6.setRow g2 ((By (eN A)).toArray) = W6 at *;refine bG ?_;refine hK _ _ ?_;clear hK K;refine gI (eC g2 _ rfl rfl b2 Tryd.underlying24 rfl (lC (gH A)) ⟨rfl,hU⟩)
 ·refine cB (decide (A.x.val % 2 = 1)) rfl ?_
  rw [decide_eq_false hodd,if_neg (by decide)];refine eZ ?_;refine hK0 _ _ ?_;clear hK0 K0;rw [<-L3 hodd] at b500;refine aM λK hK=>?_;refine k8 1 ?_;refine tG g500 0 (gH A) rfl rfl rfl rfl rfl (λ_ h1=>(h1.blk b500).range) ?_;refine iC g2 _ ((By (eN A)).toArray) rfl rfl rfl rfl rfl b2 (lC (gH A)) ((iY (l:=aD 32 0) rfl).trans (iY (gH A)).symm) (kD _) λw6 hw6 c6=>?_;replace b2:=c6;replace hU:=cM (hU.step hw6) q2 ((By (eN A)).toArray);clear hw6 c6;generalize w6.setRow g2 ((By (eN A)).toArray) = W6 at *;refine bG ?_;refine hK _ _ ?_;clear hK K;refine gI (eC g2 _ rfl rfl b2 Tryd.underlying24 rfl (lC (gH A)) ⟨rfl,hU⟩)
section
variable {P : Program} {Q : Exit -> Act -> World -> Prop} {N : Nat} {E : List (Nat × Value)} {w : World}
theorem Vr {id : Nat} {l : List Oper} {oa os ot : Oper} (n : Nat) (t t2 : Tmp) (ty : TypeId) (x y : Operand) (zs : Array Value) (hl : l = l.take n ++ [oa,os,ot]) (hn : (l.take n).length = n)
  (hop : os.op = .store ty (.tmp t) x) (hot : ot.op = .assign y) (hsg : os.guard = none) (htg : ot.guard = none) (hsd : os.dst = none) (htd : ot.dst = some t2) (hag : oa.guard = none) (had : oa.dst = some t) (hm : P.follows .mixedOrders = true)
  (hs : s8 l.toArray = true) (hh : Cf .any l.toArray n l 0 = true) (hch : chainB .any l 0 none = true)
  (hr0 : bQ .any l.toArray (marks n 0 (bD l.toArray.size false)) = [n])
  (hr1 : bQ .any l.toArray ((marks n 0 (bD l.toArray.size false)).setIfInBounds n true) = [n + 1])
  (hr2 : bQ .any l.toArray (((marks n 0 (bD l.toArray.size false)).setIfInBounds n true).setIfInBounds (n + 1) true) = [n + 2])
  (hr3 : bQ .any l.toArray ((((marks n 0 (bD l.toArray.size false)).setIfInBounds n true).setIfInBounds (n + 1) true).setIfInBounds (n + 2) true) = [])
  (hQ : ∀ c a d v w,Q (.panic c) (a.put d v) w -> Q (.panic c) a w) (hoa : oa.op = .alloc ty) (hz : (P.info? ty).bind (λi=>i.zero.map (·.cells)) = some zs)
  (h : bF P l.toArray (Up w) (HO P Q w t t2 ty x y zs.size) (l.take n) N E) : cF P (.region id l.toArray true) Q N E w:=λa ha =>
 Qb n t t2 ty x y zs hl hn hop hot hsg htg hsd htd hag had hm hs hh hch hr0 hr1 hr2 hr3 hQ (c9 hoa hz) (h a ha)
theorem GY {ops : Array Oper} {t t2 : Tmp} {ty : TypeId} {x y : Operand} {n : Nat} (cells : Array Value) (v2 : Value) (ht : aQ t N = true) (ht2 : aQ t2 N = true) (hx : ∀ v,ev ((t,v) :: E) x = some (.agg cells)) (hy : ∀ v,ev ((t,v) :: E) y = some v2) (hn : n = cells.size)
  (hi : (P.info? ty).map (·.size) = some cells.size) (h1 : ∀ v ∈ cells.toList,v.oneCell' = true) (h : ∀ g w',w.heap.size <= g -> Up w w' -> Blk w' g ty cells -> kF (Q .normal) N ((t2,v2) :: (t,.pointer (some ⟨g,0,none⟩)) :: E) w') :
  bF P ops (Up w) (HO P Q w t t2 ty x y n) [] N E:=λa ha=>cL ⟨cells,v2,λv=>(ha.put ht v).get t v (by rw [fL,if_pos rfl]),λv=>(ha.put ht v).eval (hx v),λv=>(ha.put ht v).eval (hy v),hn,hi,h1,
   λg w' hg hU hb=>h g w' hg hU hb _ ((ha.put ht _).put ht2 _)⟩
end
theorem Rf {a b : List Nat} {y : F} (hA : EB a (y * y - 1)) (hB : EB b (y * y * dd + 1)) :
  ((∃ x,x.val % 2 = 0 /\ Ed.On dd ⟨x,y⟩ /\ ∀ w,Tw w -> Calls Tryd.prog 61 #[.agg (Us a).toArray,.agg (Us b).toArray] w λe w'=>∃ r,EB r x /\ e = .returned (.tuple #[.agg (Us r).toArray,.bool true]) /\ Below w.heap.size w w') \/
   ((∀ x,¬ Ed.On dd ⟨x,y⟩) /\ ∀ w,Tw w -> Calls Tryd.prog 61 #[.agg (Us a).toArray,.agg (Us b).toArray] w λe w'=>e = .returned (.tuple #[.agg z5,.bool false]) /\ Below w.heap.size w w')):=by
 have hv:=Jt y
 by_cases hx : ∃ x,Ed.On dd ⟨x,y⟩
 ·left
  obtain ⟨x0,h0⟩:=hx
  have key : ∀ x : F,(y * y * dd + 1) * x * x = y * y - 1 /\ x.val % 2 = 0 -> x = xM x0:=λx hx=>by
   have h1:=xE.1 h0
   have h2 : x * x = x0 * x0:=by
    refine cancel gT hv ?_
    have e1 : x * x * (y * y * dd + 1) = (y * y * dd + 1) * x * x:=by grind only
    have e2 : x0 * x0 * (y * y * dd + 1) = (y * y * dd + 1) * x0 * x0:=by grind only
    rw [e1,e2,hx.1,h1]
   exact FT (h2.trans (DQ x0).symm) (by rw [hx.2,AP])
  refine ⟨xM x0,AP x0,?_,λw hT=>(G5 hA hB w hT).mono λe w' ⟨h,hw⟩=>?_⟩
  ·rw [Ew,DQ]
   exact (Ew _ _).1 h0
  ·rcases h with ⟨r,x,hr,_,hx,he⟩ | ⟨h,_⟩
   ·exact ⟨r,key x hx ▸ hr,he,hw⟩
   ·rcases h with h | h
    ·exact absurd h hv
    ·exact absurd (xE.1 h0) (h x0)
 ·right
  refine ⟨λx h=>hx ⟨x,h⟩,λw hT=>(G5 hA hB w hT).mono λe w' ⟨h,hw⟩=>?_⟩
  rcases h with ⟨r,x,_,_,h,_⟩ | ⟨_,he⟩
  ·exact absurd ⟨x,xE.2 h.1⟩ hx
  ·exact ⟨he,hw⟩
theorem DS {b : List UInt8} (hb : b.length = 32) (w : World) (hT : Tw w) :
  Calls Tryd.prog 36 #[.agg (By b).toArray] w λe w'=>((∃ l A,QB l A /\ eN A = b /\ e = .returned (.tuple #[.agg (Us l).toArray,.int .i64 0])) \/ ((¬ ∃ A,Ed.On dd A /\ eN A = b) /\ e = .returned (.tuple #[.agg (Us pz).toArray,.int .i64 50]))) /\ Below w.heap.size w w':=by
 refine e9 (vs:=[.agg (By b).toArray]) 57 Tryd.func36 rfl (by rw [Tryd.ntmps36]; rfl) ?_;have hw0:=hT.lt;have hle:=EH hb;have hng:=NM hb;have hgc:=LN hb;have hcl:=G8 hb;have hlt:=(b[31]!).toNat_lt;have h31:=fU (l:=b) (j:=31) (by omega)
 have hcut : (By b).toArray.setIfInBounds 31 (.int .u8 (((b[31]!).toNat % 128 : Nat) : Int)) = (By (sA b)).toArray:=by rw [sA,<-rG,Hs (by show _ < 256; omega)]
 generalize (b[31]!).toNat = hi at *;refine aM λK hK=>?_;refine eQ ?_;refine gB ((By b).toArray) rfl rfl rfl rfl rfl λW1 g1 hw1 hg1 b1=>?_
 have q1 : w.heap.size <= g1:=by rw [hg1]; exact aF _
 clear hg1;replace hT:=hT.below hw1;have hU : Up w _:=hw1;refine cT ((Us pz).toArray) rfl rfl rfl rfl (by kernel_rfl) λW2 g2 hw2 hg2 b2=>?_
 have q2 : w.heap.size <= g2:=by rw [hg2]; exact hU.size
 have n1_2 : g1 ≠ g2:=by have:=b1.lt; omega
 clear hg2;replace b1:=b1.later hw2;replace hT:=hT.below hw2;replace hU:=hU.step hw2;refine cP (.int .i64 0) rfl rfl rfl rfl rfl ?_;refine bG ?_;refine hK _ _ ?_;clear hK K;have c31:=(b1.cell 31).trans h31;refine aM λK hK=>?_;refine dB ?_;refine tF _ 31 ⟨g1,31,none⟩ rfl rfl rfl rfl rfl rfl (ixH _ 31 (by decide)) ?_;refine cX ⟨g1,31,none⟩ (.int .u8 (hi : Int)) (by decide) rfl rfl rfl rfl rfl (λ_ h1=>(h1.cell b1.lt).trans c31) ?_;refine OA .u64 (.inr rfl) (hi : Int) 7 ((hi / 128 : Nat) : Int) (by decide) rfl rfl rfl rfl rfl rfl (by show (hi : Int) / 128 = _; omega) ?_;refine I1 _ 1 (decide (hi / 128 = 1)) rfl rfl rfl rfl rfl rfl (by rw [decide_eq_decide]; omega) ?_;refine bU (.bool (decide (hi / 128 = 1))) rfl rfl rfl rfl rfl ?_;refine bI λw9 hw9=>hK _ _ ?_;clear hK K;replace b1:=b1.later hw9;replace b2:=b2.later hw9;replace hT:=hT.below hw9;replace hU:=hU.step hw9;have c31:=(b1.cell 31).trans h31;refine aM λK hK=>?_;refine k8 4 ?_;refine tF _ 31 ⟨g1,31,none⟩ rfl rfl rfl rfl rfl rfl (ixH _ 31 (by decide)) ?_;refine cX ⟨g1,31,none⟩ (.int .u8 (hi : Int)) (by decide) rfl rfl rfl rfl rfl (λ_ h1=>(h1.cell b1.lt).trans c31) ?_;refine EU _ 127 ((hi % 128 : Nat) : Int) rfl rfl rfl rfl rfl rfl (UO _ (by omega)) ?_;refine tF _ 31 ⟨g1,31,none⟩ rfl rfl rfl rfl rfl rfl (ixH _ 31 (by decide)) ?_;refine mA ⟨g1,31,none⟩ ((hi % 128 : Nat) : Int) _ (.inr ⟨rfl,rfl⟩) rfl rfl rfl rfl rfl c31 (b1.free 31) b1.lt λw8 hw8=>?_;replace b1:=b1.later hw8;replace b2:=b2.later hw8;replace hT:=hT.below hw8;replace hU:=hU.step hw8;replace b2:=b2.far (p:=⟨g1,31,none⟩) (jK n1_2) (.int .u8 ((hi % 128 : Nat) : Int));replace b1:=b1.set 31 (.int .u8 ((hi % 128 : Nat) : Int));rw [hcut] at b1;replace hU : Up w _:=hU.setCell (p:=⟨g1,31,none⟩) q1 (.int .u8 ((hi % 128 : Nat) : Int));replace hT:=hT.only ((uQ.refl w8 g1).set 31 (.int .u8 ((hi % 128 : Nat) : Int))) (by omega);generalize w8.setCell ⟨g1,31,none⟩ (.int .u8 ((hi % 128 : Nat) : Int)) = W8 at *;clear c31 h31 hcut;refine hK _ _ ?_;clear hK K;refine aM λK hK=>?_
 by_cases hg : le (sA b) < p
 ·have hgd : qD (sA b) = true:=by rw [hgc,decide_eq_true hg]
  have hval : fof (le (sA b) % 57896044618658097711785492504343953926634992332820282019728792003956564819968) = fof (le (sA b)):=by rw [bS hle.2]
  have hle2 : le b = (fof (le (sA b))).val + 57896044618658097711785492504343953926634992332820282019728792003956564819968 * (hi / 128):=by rw [vO,bS hg]; exact hle.1
  have hNew:=λw1=>vG hcl hgd hval w1;clear hgd hval hgc hng hle hg;generalize fof (le (sA b)) = y at *;refine sY 5 [nvE 5] (by decide) ⟨⟨rfl,rfl,rfl,rfl,by kernel_rfl⟩,trivial⟩ ?_;refine tG g1 0 hcl rfl rfl rfl rfl rfl (λ_ h1=>(h1.blk b1).range) ?_;refine GZ #[.agg (By (sA b)).toArray] y rfl rfl rfl rR (λw1 _=>hNew w1) rfl rfl λr20 v20=>?_;refine aK (.tuple #[.agg (Us r20).toArray,.bool true]) rfl rfl rfl rfl rfl ?_;refine dQ (.agg (Us r20).toArray) rfl rfl rfl rfl rfl rfl ?_;refine dQ (.bool true) rfl rfl rfl rfl rfl rfl ?_;refine oL [.tmp 21] [(Us r20).toArray] ⟨rfl,trivial⟩ (by decide) ⟨⟨rfl,rfl,rfl⟩,rfl⟩ ⟨⟨rfl,(aT fR).trans (aT v20.len).symm,fS v20.len,bP _⟩,trivial⟩ λf11 W11 hg11 hd11 hw11 hb11=>?_;have b1100 : Blk W11 (f11 0) 75 ((Us r20).toArray):=hb11.1;clear hb11
  have n2_1100 : g2 ≠ f11 0:=by have:=b2.lt; have:=hg11 0 (by decide); omega
  replace b1:=b1.later hw11;replace b2:=b2.later hw11;replace hT:=hT.below hw11;replace hU:=hU.step hw11;clear hg11 hd11 hw11;generalize hf1100 : f11 0 = g1100 at *;simp only [lO,hf1100];clear hf1100 f11;refine cP (.bool true) rfl rfl rfl rfl rfl ?_;refine bG ?_;refine dT (E':=[(1,.pointer (some ⟨g1,0,none⟩)),(2,.pointer (some ⟨g2,0,none⟩)),(3,.int .i64 0),(4,.bool (decide (hi / 128 = 1))),(5,.pointer (some ⟨g1100,0,none⟩)),(6,.bool true)]) ⟨rfl,rfl,rfl,rfl,rfl,rfl,trivial⟩ ?_;refine hK _ _ ?_;clear hK K;refine aM λK0 hK0=>?_;refine aM λK hK=>?_;refine dB ?_;refine aK (.bool true) rfl rfl rfl rfl rfl ?_;refine DP true false rfl rfl rfl rfl rfl rfl ?_;refine bI λw12 hw12=>hK _ _ ?_;clear hK K;replace b1:=b1.later hw12;replace b2:=b2.later hw12;replace b1100:=b1100.later hw12;replace hT:=hT.below hw12;replace hU:=hU.step hw12;refine cB false rfl ?_;rw [if_neg (by decide)];refine eZ ?_;refine hK0 _ _ ?_;clear hK0 K0;refine aM λK hK=>?_;refine AQ 4 [nvE 7,nvE 8] (by decide) (by decide) ⟨⟨rfl,rfl,rfl,rfl,by kernel_rfl⟩,⟨rfl,rfl,rfl,rfl,by kernel_rfl⟩,trivial⟩ (by kernel_rfl) (cC (by kernel_rfl)) (by kernel_rfl) (λ_ _ d _ _ h=>by cases d <;> exact h) ?_;refine eV #[.int .u64 1] (EB · 1) rfl rfl rfl zQ (λw1 _=>BB w1) rfl rfl λr26 v26=>?_;refine dL g1100 0 v20.len rfl rfl rfl rfl rfl (λ_ h1=>(h1.blk b1100).range) ?_;refine dL g1100 0 v20.len rfl rfl rfl rfl rfl (λ_ h1=>(h1.blk b1100).range) ?_;refine eV #[.agg (Us r20).toArray,.agg (Us r20).toArray] (EB · (y * y)) rfl rfl rfl bK (λw1 h1=>dA v20 v20 w1) rfl rfl λr29 v29=>?_;refine oL [.tmp 26,.tmp 29] [(Us r26).toArray,(Us r29).toArray] ⟨rfl,rfl,trivial⟩ (by decide) ⟨⟨rfl,rfl,rfl⟩,⟨rfl,rfl,rfl⟩,rfl⟩ ⟨⟨rfl,(aT fR).trans (aT v26.len).symm,fS v26.len,bP _⟩,⟨rfl,(aT fR).trans (aT v29.len).symm,fS v29.len,bP _⟩,trivial⟩ λf13 W13 hg13 hd13 hw13 hb13=>?_;have b1300 : Blk W13 (f13 0) 75 ((Us r26).toArray):=hb13.1;have b1301 : Blk W13 (f13 1) 75 ((Us r29).toArray):=hb13.2.1;clear hb13;replace b1:=b1.later hw13;replace b2:=b2.later hw13;replace b1100:=b1100.later hw13;replace hT:=hT.below hw13;replace hU:=hU.step hw13;clear hg13 hd13 hw13;generalize hf1300 : f13 0 = g1300 at *;generalize hf1301 : f13 1 = g1301 at *;simp only [lO,Nat.reduceAdd,hf1300,hf1301];clear hf1300 hf1301 f13;refine bG ?_;refine dT (E':=[(1,.pointer (some ⟨g1,0,none⟩)),(2,.pointer (some ⟨g2,0,none⟩)),(3,.int .i64 0),(4,.bool (decide (hi / 128 = 1))),(5,.pointer (some ⟨g1100,0,none⟩)),(6,.bool true),(7,.pointer (some ⟨g1300,0,none⟩)),(8,.pointer (some ⟨g1301,0,none⟩))]) ⟨rfl,rfl,rfl,rfl,rfl,rfl,rfl,rfl,trivial⟩ ?_;refine hK _ _ ?_;clear hK K;refine aM λK hK=>?_;refine Vr 12 9 6 75 (.tmp 40) (.tmp 41) z5 rfl rfl rfl rfl rfl rfl rfl rfl rfl rfl (by kernel_rfl) (by kernel_rfl) (by kernel_rfl) (by kernel_rfl) (by kernel_rfl) (by kernel_rfl) (by kernel_rfl) (by kernel_rfl) (λ_ _ d _ _ h=>by cases d <;> exact h) rfl (by kernel_rfl) ?_
  refine dL g1301 0 v29.len rfl rfl rfl rfl rfl (λ_ h1=>(h1.blk b1301).range) ?_;refine dL g1300 0 v26.len rfl rfl rfl rfl rfl (λ_ h1=>(h1.blk b1300).range) ?_;refine eV #[.agg (Us r29).toArray,.agg (Us r26).toArray] (EB · ((y * y) - 1)) rfl rfl rfl iO (λw1 h1=>mB v29 v26 w1 (hT.below h1)) rfl rfl λr33 v33=>?_;refine dL g1301 0 v29.len rfl rfl rfl rfl rfl (λ_ h1=>(h1.blk b1301).range) ?_;refine eV #[] (EB · dd) rfl rfl rfl BT (λw1 h1=>GX w1) rfl rfl λr35 v35=>?_;refine eV #[.agg (Us r29).toArray,.agg (Us r35).toArray] (EB · ((y * y) * dd)) rfl rfl rfl bK (λw1 h1=>dA v29 v35 w1) rfl rfl λr36 v36=>?_;refine dL g1300 0 v26.len rfl rfl rfl rfl rfl (λ_ h1=>(h1.blk b1300).range) ?_;refine eV #[.agg (Us r36).toArray,.agg (Us r26).toArray] (EB · (((y * y) * dd) + 1)) rfl rfl rfl kN (λw1 h1=>oB v36 v26 w1) rfl rfl λr38 v38=>?_;have hRt:=Rf v33 v38
  rcases hRt with ⟨x,hev,hon,hRoot⟩ | ⟨hnone,hRoot⟩
  ·refine GZ #[.agg (Us r33).toArray,.agg (Us r38).toArray] x rfl rfl rfl Dm (λw1 h1=>hRoot w1 (hT.below h1)) rfl rfl λr39 v39=>?_
   refine aK (.tuple #[.agg (Us r39).toArray,.bool true]) rfl rfl rfl rfl rfl ?_;refine dQ (.agg (Us r39).toArray) rfl rfl rfl rfl rfl rfl ?_;refine dQ (.bool true) rfl rfl rfl rfl rfl rfl ?_;refine GY (Us r39).toArray (.bool true) rfl rfl (λ_=>rfl) (λ_=>rfl) (aT (l:=zl) rfl |>.trans (aT v39.len).symm) (fS v39.len) (bP _) λg14 W14 hg14 hw14 b14=>?_;have q14 : w.heap.size <= g14:=jL hU.size hg14
   have n1_14 : g1 ≠ g14:=by have:=b1.lt; omega
   have n2_14 : g2 ≠ g14:=by have:=b2.lt; omega
   have n1100_14 : g1100 ≠ g14:=by have:=b1100.lt; omega
   replace b1:=b1.later hw14;replace b2:=b2.later hw14;replace b1100:=b1100.later hw14;replace hT:=hT.below hw14;replace hU:=hU.step hw14;refine dT (E':=[(1,.pointer (some ⟨g1,0,none⟩)),(2,.pointer (some ⟨g2,0,none⟩)),(3,.int .i64 0),(4,.bool (decide (hi / 128 = 1))),(5,.pointer (some ⟨g1100,0,none⟩)),(6,.bool true),(9,.pointer (some ⟨g14,0,none⟩))]) ⟨rfl,rfl,rfl,rfl,rfl,rfl,rfl,trivial⟩ ?_;refine hK _ _ ?_;clear hK K;refine aM λK0 hK0=>?_;refine aM λK hK=>?_;refine dB ?_;refine aK (.bool true) rfl rfl rfl rfl rfl ?_;refine DP true false rfl rfl rfl rfl rfl rfl ?_;refine bI λw15 hw15=>hK _ _ ?_;clear hK K;replace b1:=b1.later hw15;replace b2:=b2.later hw15;replace b1100:=b1100.later hw15;replace b14:=b14.later hw15;replace hT:=hT.below hw15;replace hU:=hU.step hw15;refine cB false rfl ?_;rw [if_neg (by decide)];refine eZ ?_;refine hK0 _ _ ?_;clear hK0 K0;refine aM λK0 hK0=>?_;refine aM λK hK=>?_;refine dB ?_;refine aK (.bool (decide (hi / 128 = 1))) rfl rfl rfl rfl rfl ?_;refine bI λw16 hw16=>hK _ _ ?_;clear hK K;replace b1:=b1.later hw16;replace b2:=b2.later hw16;replace b1100:=b1100.later hw16;replace b14:=b14.later hw16;replace hT:=hT.below hw16;replace hU:=hU.step hw16
   by_cases hodd : hi / 128 = 1
   ·rw [decide_eq_true hodd]
    refine cB true rfl ?_;rw [if_pos rfl];refine k8 3 ?_;refine gO [] (Us zl).toArray rfl rfl rfl rfl rfl iZ ?_;refine dL g14 0 v39.len rfl rfl rfl rfl rfl (λ_ h1=>(h1.blk b14).range) ?_;refine eV #[.agg (Us zl).toArray,.agg (Us r39).toArray] (EB · (0 - x)) rfl rfl rfl iO (λw1 h1=>mB mC v39 w1 (hT.below h1)) rfl rfl λr48 v48=>?_;refine iC g14 _ ((Us r48).toArray) rfl rfl rfl rfl rfl b14 (fS v48.len) ((aT v39.len).trans (aT v48.len).symm) (bP _) λw17 hw17 c17=>?_;replace b1:=(b1.later hw17).aR n1_14 ((Us r48).toArray);replace b2:=(b2.later hw17).aR n2_14 ((Us r48).toArray);replace b1100:=(b1100.later hw17).aR n1100_14 ((Us r48).toArray);replace b14:=c17;replace hT:=(hT.below hw17).row (g:=g14) (by have:=hw0; omega) ((Us r48).toArray);replace hU:=cM (hU.step hw17) q14 ((Us r48).toArray);clear hw17 c17;generalize w17.setRow g14 ((Us r48).toArray) = W17 at *;refine bG ?_;refine hK0 _ _ ?_;clear hK0 K0
    by_cases hx0 : x = 0
    ·have hp0 : decide ((0 - x : F).val % 2 = 1) = false:=by rw [hx0]; decide
     refine aM λK0 hK0=>?_;refine aM λK hK=>?_;refine dB ?_;refine dL g14 0 v48.len rfl rfl rfl rfl rfl (λ_ h1=>(h1.blk b14).range) ?_;refine dG #[.agg (Us r48).toArray] (.bool (decide ((0 - x).val % 2 = 1))) rfl rfl rfl vF (λw1 _=>Du v48 w1) rfl rfl ?_;refine aK (.bool true) rfl rfl rfl rfl rfl ?_;refine I0 (decide ((0 - x).val % 2 = 1)) true true rfl rfl rfl rfl rfl rfl (by rw [hp0]; rfl) ?_;refine bI λw18 hw18=>hK _ _ ?_;clear hK K;replace b1:=b1.later hw18;replace b2:=b2.later hw18;replace b1100:=b1100.later hw18;replace b14:=b14.later hw18;replace hT:=hT.below hw18;replace hU:=hU.step hw18
     have hno : ¬ ∃ A,Ed.On dd A /\ eN A = b:=by
      rintro ⟨A,hA,hAb⟩
      obtain ⟨e1,e2⟩:=Se hle2 hAb
      have h3 : Ed.On dd ⟨A.x,y⟩:=by rw [<-e1]; exact hA
      have h4:=xE.1 h3;have h5:=xE.1 hon;rw [<-h5,hx0] at h4
      have h6 : A.x = 0:=by
       by_cases h : A.x = 0
       ·exact h
       ·exact absurd (h4.trans (by grind only)) (eJ gT (eJ gT (Jt y) h) h)
      rw [h6,hodd] at e2
      revert e2
      decide
     refine cB true rfl ?_;rw [if_pos rfl];refine aM λK2 hK2=>?_;refine k8 1 ?_;refine gO [] (Us pz).toArray rfl rfl rfl rfl rfl sZ ?_;refine iC g2 _ ((Us pz).toArray) rfl rfl rfl rfl rfl b2 (dR eX) ((aT eX).trans (aT eX).symm) (bP _) λw19 hw19 c19=>?_;replace b1:=(b1.later hw19).aR n1_2 ((Us pz).toArray);replace b1100:=(b1100.later hw19).aR (jK n2_1100) ((Us pz).toArray);replace b14:=(b14.later hw19).aR (jK n2_14) ((Us pz).toArray);replace b2:=c19;replace hT:=(hT.below hw19).row (g:=g2) (by have:=hw0; omega) ((Us pz).toArray);replace hU:=cM (hU.step hw19) q2 ((Us pz).toArray);clear hw19 c19;generalize w19.setRow g2 ((Us pz).toArray) = W19 at *;refine cP (.int .i64 50) rfl rfl rfl rfl rfl ?_;refine bG ?_;refine hK2 _ _ ?_;refine gI (lG (qC g2 _ rfl rfl rfl b2 Tryd.underlying77 rfl (dR eX) ⟨.inr ⟨hno,rfl⟩,hU⟩))
    ·have hpo : (0 - x : F).val % 2 = 1:=by rw [show (0 - x : F) = -x from by grind only,Bk hx0,hev]
     have hp0 : decide ((0 - x : F).val % 2 = 1) = true:=decide_eq_true hpo;refine aM λK0 hK0=>?_;refine aM λK hK=>?_;refine dB ?_;refine dL g14 0 v48.len rfl rfl rfl rfl rfl (λ_ h1=>(h1.blk b14).range) ?_;refine dG #[.agg (Us r48).toArray] (.bool (decide ((0 - x).val % 2 = 1))) rfl rfl rfl vF (λw1 _=>Du v48 w1) rfl rfl ?_;refine aK (.bool true) rfl rfl rfl rfl rfl ?_;refine I0 (decide ((0 - x).val % 2 = 1)) true false rfl rfl rfl rfl rfl rfl (by rw [hp0]; rfl) ?_;refine bI λw18 hw18=>hK _ _ ?_;clear hK K;replace b1:=b1.later hw18;replace b2:=b2.later hw18;replace b1100:=b1100.later hw18;replace b14:=b14.later hw18;replace hT:=hT.below hw18;replace hU:=hU.step hw18;refine cB false rfl ?_;rw [if_neg (by decide)];refine eZ ?_;refine hK0 _ _ ?_;clear hK0 K0;refine aM λK hK=>?_;refine k8 3 ?_;refine dL g14 0 v48.len rfl rfl rfl rfl rfl (λ_ h1=>(h1.blk b14).range) ?_;refine dL g1100 0 v20.len rfl rfl rfl rfl rfl (λ_ h1=>(h1.blk b1100).range) ?_;refine eV #[.agg (Us r48).toArray,.agg (Us r20).toArray] (QB · ⟨0 - x,y⟩) rfl rfl rfl Ev (λw1 h1=>Ry v48 v20 (xE.2 (by rw [<-xE.1 hon]; grind only)) w1) rfl rfl λr56 v56=>?_;refine iC g2 _ ((Us r56).toArray) rfl rfl rfl rfl rfl b2 (dR v56.len) ((aT eX).trans (aT v56.len).symm) (bP _) λw19 hw19 c19=>?_;replace b1:=(b1.later hw19).aR n1_2 ((Us r56).toArray);replace b1100:=(b1100.later hw19).aR (jK n2_1100) ((Us r56).toArray);replace b14:=(b14.later hw19).aR (jK n2_14) ((Us r56).toArray);replace b2:=c19;replace hT:=(hT.below hw19).row (g:=g2) (by have:=hw0; omega) ((Us r56).toArray);replace hU:=cM (hU.step hw19) q2 ((Us r56).toArray);clear hw19 c19;generalize w19.setRow g2 ((Us r56).toArray) = W19 at *;refine cP (.int .i64 0) rfl rfl rfl rfl rfl ?_;refine bG ?_;refine hK _ _ ?_;refine gI (qC g2 _ rfl rfl rfl b2 Tryd.underlying77 rfl (dR v56.len) ⟨.inl ⟨_,_,v56,Ku hb (s:=1) (by rw [<-hodd]; exact hle2) hpo,rfl⟩,hU⟩)
   ·rw [decide_eq_false hodd]
    refine cB false rfl ?_;rw [if_neg (by decide)];refine eZ ?_;refine hK0 _ _ ?_;clear hK0 K0;have hp0 : decide (x.val % 2 = 1) = false:=decide_eq_false (by omega)
    have h00 : hi / 128 = 0:=by omega
    refine aM λK0 hK0=>?_;refine aM λK hK=>?_;refine dB ?_;refine dL g14 0 v39.len rfl rfl rfl rfl rfl (λ_ h1=>(h1.blk b14).range) ?_;refine dG #[.agg (Us r39).toArray] (.bool (decide ((x).val % 2 = 1))) rfl rfl rfl vF (λw1 _=>Du v39 w1) rfl rfl ?_;refine aK (.bool false) rfl rfl rfl rfl rfl ?_;refine I0 (decide ((x).val % 2 = 1)) false false rfl rfl rfl rfl rfl rfl (by rw [hp0]; rfl) ?_;refine bI λw17 hw17=>hK _ _ ?_;clear hK K;replace b1:=b1.later hw17;replace b2:=b2.later hw17;replace b1100:=b1100.later hw17;replace b14:=b14.later hw17;replace hT:=hT.below hw17;replace hU:=hU.step hw17;refine cB false rfl ?_;rw [if_neg (by decide)];refine eZ ?_;refine hK0 _ _ ?_;clear hK0 K0;refine aM λK hK=>?_;refine k8 3 ?_;refine dL g14 0 v39.len rfl rfl rfl rfl rfl (λ_ h1=>(h1.blk b14).range) ?_;refine dL g1100 0 v20.len rfl rfl rfl rfl rfl (λ_ h1=>(h1.blk b1100).range) ?_;refine eV #[.agg (Us r39).toArray,.agg (Us r20).toArray] (QB · ⟨x,y⟩) rfl rfl rfl Ev (λw1 h1=>Ry v39 v20 hon w1) rfl rfl λr56 v56=>?_;refine iC g2 _ ((Us r56).toArray) rfl rfl rfl rfl rfl b2 (dR v56.len) ((aT eX).trans (aT v56.len).symm) (bP _) λw18 hw18 c18=>?_;replace b1:=(b1.later hw18).aR n1_2 ((Us r56).toArray);replace b1100:=(b1100.later hw18).aR (jK n2_1100) ((Us r56).toArray);replace b14:=(b14.later hw18).aR (jK n2_14) ((Us r56).toArray);replace b2:=c18;replace hT:=(hT.below hw18).row (g:=g2) (by have:=hw0; omega) ((Us r56).toArray);replace hU:=cM (hU.step hw18) q2 ((Us r56).toArray);clear hw18 c18;generalize w18.setRow g2 ((Us r56).toArray) = W18 at *;refine cP (.int .i64 0) rfl rfl rfl rfl rfl ?_;refine bG ?_;refine hK _ _ ?_;refine gI (qC g2 _ rfl rfl rfl b2 Tryd.underlying77 rfl (dR v56.len) ⟨.inl ⟨_,_,v56,Ku hb (s:=0) (by rw [<-h00]; exact hle2) hev,rfl⟩,hU⟩)
  ·have hno : ¬ ∃ A,Ed.On dd A /\ eN A = b:=by
    rintro ⟨A,hA,hAb⟩
    obtain ⟨e1,_⟩:=Se hle2 hAb;exact hnone A.x (by rw [<-e1]; exact hA)
   refine dG #[.agg (Us r33).toArray,.agg (Us r38).toArray] (.tuple #[.agg (Us zl).toArray,.bool false]) rfl rfl rfl Dm (λw1 h1=>hRoot w1 (hT.below h1)) rfl rfl ?_;refine aK (.tuple #[.agg (Us zl).toArray,.bool false]) rfl rfl rfl rfl rfl ?_;refine dQ (.agg (Us zl).toArray) rfl rfl rfl rfl rfl rfl ?_;refine dQ (.bool false) rfl rfl rfl rfl rfl rfl ?_;refine GY (Us zl).toArray (.bool false) rfl rfl (λ_=>rfl) (λ_=>rfl) (aT (l:=zl) rfl |>.trans (aT fR).symm) (fS fR) (bP _) λg14 W14 hg14 hw14 b14=>?_;replace b1:=b1.later hw14;replace b2:=b2.later hw14;replace b1100:=b1100.later hw14;replace hT:=hT.below hw14;replace hU:=hU.step hw14;refine dT (E':=[(1,.pointer (some ⟨g1,0,none⟩)),(2,.pointer (some ⟨g2,0,none⟩)),(3,.int .i64 0),(4,.bool (decide (hi / 128 = 1))),(5,.pointer (some ⟨g1100,0,none⟩)),(6,.bool false),(9,.pointer (some ⟨g14,0,none⟩))]) ⟨rfl,rfl,rfl,rfl,rfl,rfl,rfl,trivial⟩ ?_;refine hK _ _ ?_;clear hK K;refine aM λK0 hK0=>?_;refine aM λK hK=>?_;refine dB ?_;refine aK (.bool false) rfl rfl rfl rfl rfl ?_;refine DP false true rfl rfl rfl rfl rfl rfl ?_;refine bI λw15 hw15=>hK _ _ ?_;clear hK K;replace b1:=b1.later hw15;replace b2:=b2.later hw15;replace b1100:=b1100.later hw15;replace hT:=hT.below hw15;replace hU:=hU.step hw15;refine cB true rfl ?_;rw [if_pos rfl];refine aM λK2 hK2=>?_;refine k8 1 ?_;refine gO [] (Us pz).toArray rfl rfl rfl rfl rfl sZ ?_;refine iC g2 _ ((Us pz).toArray) rfl rfl rfl rfl rfl b2 (dR eX) ((aT eX).trans (aT eX).symm) (bP _) λw16 hw16 c16=>?_;replace b1:=(b1.later hw16).aR n1_2 ((Us pz).toArray);replace b1100:=(b1100.later hw16).aR (jK n2_1100) ((Us pz).toArray);replace b2:=c16;replace hT:=(hT.below hw16).row (g:=g2) (by have:=hw0; omega) ((Us pz).toArray);replace hU:=cM (hU.step hw16) q2 ((Us pz).toArray);clear hw16 c16;generalize w16.setRow g2 ((Us pz).toArray) = W16 at *;refine cP (.int .i64 50) rfl rfl rfl rfl rfl ?_;refine bG ?_;refine hK2 _ _ ?_;refine gI (lG (qC g2 _ rfl rfl rfl b2 Tryd.underlying77 rfl (dR eX) ⟨.inr ⟨hno,rfl⟩,hU⟩))
 ·have hno:=hng hg
  have hNew : ∀ w1,Calls Tryd.prog 58 #[.agg (By (sA b)).toArray] w1 λe w'=>e = .returned (.tuple #[.agg (Us zl).toArray,.bool false]) /\ Below w1.heap.size w1 w':=λw1=>(RR hcl w1).mono λe w' ⟨h,hw⟩=>by
   rcases h with ⟨h,_⟩ | ⟨_,h⟩
   ·rw [hgc,decide_eq_false hg] at h; cases h
   ·exact ⟨h,hw⟩
  refine sY 5 [nvE 5] (by decide) ⟨⟨rfl,rfl,rfl,rfl,by kernel_rfl⟩,trivial⟩ ?_;refine tG g1 0 hcl rfl rfl rfl rfl rfl (λ_ h1=>(h1.blk b1).range) ?_;refine dG #[.agg (By (sA b)).toArray] (.tuple #[.agg (Us zl).toArray,.bool false]) rfl rfl rfl rR (λw1 _=>hNew w1) rfl rfl ?_;refine aK (.tuple #[.agg (Us zl).toArray,.bool false]) rfl rfl rfl rfl rfl ?_;refine dQ (.agg (Us zl).toArray) rfl rfl rfl rfl rfl rfl ?_;refine dQ (.bool false) rfl rfl rfl rfl rfl rfl ?_;refine oL [.tmp 21] [(Us zl).toArray] ⟨rfl,trivial⟩ (by decide) ⟨⟨rfl,rfl,rfl⟩,rfl⟩ ⟨⟨rfl,rfl,fS fR,bP _⟩,trivial⟩ λf11 W11 hg11 hd11 hw11 hb11=>?_;have b1100 : Blk W11 (f11 0) 75 ((Us zl).toArray):=hb11.1;clear hb11;replace b2:=b2.later hw11;replace hT:=hT.below hw11;replace hU:=hU.step hw11;clear hg11 hd11 hw11;generalize hf1100 : f11 0 = g1100 at *;simp only [lO,hf1100];clear hf1100 f11;refine cP (.bool false) rfl rfl rfl rfl rfl ?_;refine bG ?_;refine dT (E':=[(1,.pointer (some ⟨g1,0,none⟩)),(2,.pointer (some ⟨g2,0,none⟩)),(3,.int .i64 0),(4,.bool (decide (hi / 128 = 1))),(5,.pointer (some ⟨g1100,0,none⟩)),(6,.bool false)]) ⟨rfl,rfl,rfl,rfl,rfl,rfl,trivial⟩ ?_;refine hK _ _ ?_;clear hK K;refine aM λK0 hK0=>?_;refine aM λK hK=>?_;refine dB ?_;refine aK (.bool false) rfl rfl rfl rfl rfl ?_;refine DP false true rfl rfl rfl rfl rfl rfl ?_;refine bI λw12 hw12=>hK _ _ ?_;clear hK K;replace b2:=b2.later hw12;replace hT:=hT.below hw12;replace hU:=hU.step hw12;refine cB true rfl ?_;rw [if_pos rfl];refine aM λK2 hK2=>?_;refine k8 1 ?_;refine gO [] (Us pz).toArray rfl rfl rfl rfl rfl sZ ?_;refine iC g2 _ ((Us pz).toArray) rfl rfl rfl rfl rfl b2 (dR eX) ((aT eX).trans (aT eX).symm) (bP _) λw13 hw13 c13=>?_;replace b2:=c13;replace hT:=(hT.below hw13).row (g:=g2) (by have:=hw0; omega) ((Us pz).toArray);replace hU:=cM (hU.step hw13) q2 ((Us pz).toArray);clear hw13 c13;generalize w13.setRow g2 ((Us pz).toArray) = W13 at *;refine cP (.int .i64 50) rfl rfl rfl rfl rfl ?_;refine bG ?_;refine hK2 _ _ ?_;refine gI (lG (qC g2 _ rfl rfl rfl b2 Tryd.underlying77 rfl (dR eX) ⟨.inr ⟨hno,rfl⟩,hU⟩))
section
variable {P : Program} {ops : Array Oper} {C0 : World -> Prop} {Q : Act -> Prop} {N : Nat} {E : List (Nat × Value)} {o : Oper} {rest : List Oper} {k : Nat}
theorem TE {c x y : Operand} (v : Value) (hg : o.guard = none) (hd : o.dst = some k) (hk : aQ k N = true) (ho : o.op = .pick c x y) (hc : ev E c = some (.bool true)) (hx : ev E x = some v) (hn : bF P ops C0 Q rest N ((k,v) :: E)) : bF P ops C0 Q (o :: rest) N E :=
 dM _ hg hd hk (λa ha w _=>by
  have h1:=ha.eval hc;have h2:=ha.eval hx
  unfold execOp
  simp only [ho,h1,h2]
  go_simp) hn
end
section
variable {ops : Array Oper} {C0 : World -> Prop} {Q : Act -> Prop} {N : Nat} {E : List (Nat × Value)} {o : Oper} {rest : List Oper} {k : Nat}
theorem U8 {t t' : TypeId} {x y : Operand} (l m : List UInt8) (hg : o.guard = none) (hd : o.dst = some k) (hk : aQ k N = true) (ho : o.op = .binOp .eql t x y t') (ht : t = 24) (hx : ev E x = some (.agg (By l).toArray)) (hy : ev E y = some (.agg (By m).toArray))
  (hl : l.length = 32) (hm : m.length = 32) (hn : bF Tryd.prog ops C0 Q rest N ((k,.bool (decide (l = m))) :: E)) : bF Tryd.prog ops C0 Q (o :: rest) N E:=by
 subst ht;exact LZ (By l).toArray (By m).toArray hg hd hk ho hx hy (by kernel_rfl) (λw=>Bn l m hl hm w) hn
end
theorem Dp : Own 43:=λ_ _=>by go_simp
theorem Iw : Own 37:=λ_ _=>by go_simp
theorem NB : Own 50:=λ_ _=>by go_simp
theorem AE : Own 36:=λ_ _=>by go_simp
theorem Rj {A : Ed.Pt p} (hA : Ed.On dd A) (w : World) (hT : Tw w) : Calls Tryd.prog 36 #[.agg (By (eN A)).toArray] w λe w'=>∃ v,e = .returned v /\ (∃ l,QB l A /\ v = .tuple #[.agg (Us l).toArray,.int .i64 0]) /\ Below w.heap.size w w' :=
 (DS (gH A) w hT).mono λe w' ⟨h,hw⟩=>by
  rcases h with ⟨l,B,hl,hB,he⟩ | ⟨h,_⟩
  ·have : B = A:=uK hl.on hA hB
   subst this;exact ⟨_,he,⟨l,hl,rfl⟩,hw⟩
  ·exact absurd ⟨A,hA,rfl⟩ h
theorem Rk {b : List UInt8} (hb : b.length = 32) (hn : ¬ ∃ A,Ed.On dd A /\ eN A = b) (w : World) (hT : Tw w) : Calls Tryd.prog 36 #[.agg (By b).toArray] w λe w'=>e = .returned (.tuple #[.agg (Us pz).toArray,.int .i64 50]) /\ Below w.heap.size w w' :=
 (DS hb w hT).mono λe w' ⟨h,hw⟩=>by
  rcases h with ⟨l,B,hl,hB,he⟩ | ⟨_,he⟩
  ·exact absurd ⟨B,hl.on,hB⟩ hn
  ·exact ⟨he,hw⟩
end Go.Proofs.YtfkchihlchlfdaaDoor
namespace Go.Proofs.YtfkchihlchlfdaaDoor
open Go.RowKit Nums
theorem S9 (n : Nat) : Ed.mul dd (n % LL) base = Ed.mul dd n base:=(Ed.mul_mod iL l8 order n).symm
theorem EF (n : Nat) : n % LL < LL:=eR _ (by decide)
def m1 : Ed.Pt p:=⟨0, -1⟩
end Go.Proofs.YtfkchihlchlfdaaDoor
namespace Go.Proofs.YtfkchihlchlfdaaDoor
open Go.RowKit Go.IntWalk
theorem vB (x y b : Nat) (hb : b <= 1) (w : World) : (callFunc 94 #[.int .u64 x,.int .u64 y,.int .u64 b]).run Tryd.prog w =
  .ok (.value (.tuple #[.int .u64 (((x + 18446744073709551616 - y - b) % 18446744073709551616 : Nat) : Int),.int .u64 ((if x < y + b then 1 else 0 : Nat) : Int)])) w:=by
 rw [run_callFunc_extern Tryd.func94 (by kernel_rfl) (by kernel_rfl) (by kernel_rfl) (e:=FA) (by kernel_rfl),P5 x y b hb]
 rfl
end Go.Proofs.YtfkchihlchlfdaaDoor
namespace Go.Proofs.YtfkchihlchlfdaaDoor
open Go.RowKit Go.IntWalk Nums
theorem x8 (cs : Array Value) (h : cs.size = 4) : (Tryd.prog.info? 55).map (·.size) = some cs.size:=by
 rw [h]
 kernel_rfl
theorem fH (cs : Array Value) (h : cs.size = 4) : (Tryd.prog.info? 57).map (·.size) = some cs.size:=by
 rw [h]
 kernel_rfl
def z4 : Array Value:=(Us [0,0,0,0]).toArray
theorem kQ {l : List Nat} (h : l.length = 4) : (Us l).toArray.size = 4:=by rw [bA,cY,h]
theorem Mk {A B : Nat} (hA : A < 115792089237316195423570985008687907853269984665640564039457584007913129639936) (hB : B < 115792089237316195423570985008687907853269984665640564039457584007913129639936) (w : World) :
  Calls Tryd.prog 73 #[.agg (Us (ws A)).toArray,.agg (Us (ws B)).toArray] w λe w'=>e = .returned (.agg (Us (ws ((A + B) % 115792089237316195423570985008687907853269984665640564039457584007913129639936))).toArray) /\ Below w.heap.size w w':=by
 rw [<-Sr hA hB];have ha:=λk=>pD A (k:=k);have hb:=λk=>pD B (k:=k);have la:=eT A;have lb:=eT B;have hc:=sup_le ha hb;clear hA hB;generalize ws A = a at *;generalize ws B = b at *
 go_enter Tryd.func73,Tryd.ntmps73
 go_wp2
 go_loopw [7,5] (λi u wr=>∃ k : Nat,k <= 4 /\ i = .int .i64 k /\ u = .int .u64 (sup a b k : Nat) /\ Blk wr w.heap.size 55 (Us (mxl (swd a b) a k)).toArray /\ Blk wr (w.heap.size + 1) 55 (Us b).toArray /\ Blk wr (w.heap.size + 1 + 1) 55 z4 /\ Below w.heap.size w wr) (λi _ _=>4 - (intOf i).toNat)
 case atStart =>
  refine ⟨0,by omega,rfl,rfl,?_,lI w _ _ _ _,lV w _ _ _ _,(((Below.refl _ _).alloc (aF _) _).alloc (by simp) _).alloc (by simp; omega) _⟩;rw [pZ];exact mV w _ _ _ _
 case round =>
  obtain ⟨k,hk,rfl,rfl,h0,h1,h2,hbel⟩:=hrel
  by_cases hlt : k < 4
  ·have hN:=mP (swd a b) a (k:=k)
   have hU : sup a b (k + 1) = (a[k]! + b[k]! + sup a b k) / 18446744073709551616:=rfl;have hS : swd a b k = (a[k]! + b[k]! + sup a b k) % 18446744073709551616:=rfl;have hg:=yO (swd a b) a (k:=k) (by omega);have c0:=(h0.drew.cell k).trans (iE (by rw [dY]; omega));rw [hg] at c0;have c1:=(h1.drew.cell k).trans (iE (by omega));have b0:=ha k hlt;have b1:=hb k hlt;have b2:=hc k (by omega);have hf:=h0.drew.free k;rw [hS] at hN;generalize a[k]! = u at *;generalize b[k]! = v at *;generalize sup a b k = c at *;have hA:=sF u v c b2
   have q2 : (0 : Int) <= (k : Int):=by omega
   have HK:=aH (aY h0 (aY h1 (aY h2 (aY hbel (aY hN hU)))));clear h0 h1 h2 hbel hN hg hU hS ha hb hc;generalize (u + v + c) % 18446744073709551616 = s at *;generalize (u + v + c) / 18446744073709551616 = t at *
   go_wp2
   go_region_with (simp only [hA])
   all_goals (
    go_wp2
    go_roundw
    case rel =>
     obtain ⟨h0,h1,h2,hbel,hN,hU⟩:=HK.out;have h4:=h0.set k (.int .u64 ((s : Nat) : Int));rw [uP,hN] at h4;exact ⟨k + 1,by omega,by go_num,by rw [hU],h4,h1.far (by simp) _,h2.far (by simp; omega) _,(hbel.setCell (by simp) _).drew⟩
    case measure=>simp [intOf]; omega)
  ·obtain rfl : k = 4:=by omega
   have hz : (Us (mxl (swd a b) a 4)).toArray.size = 4:=kQ (by rw [dY,la])
   go_wp2_with (first
    | (refine wpList_load_row rfl 55 _ rfl w.heap.size rfl 55 (Us (mxl (swd a b) a 4)).toArray (0,0) _ h0 Tryd.underlying55 rfl (x8 _ hz) ?_)
    | (refine wpList_store_row rfl 55 _ _ rfl (w.heap.size + 1 + 1) rfl (Us (mxl (swd a b) a 4)).toArray rfl 55 _ h2 (x8 _ hz) (by rw [hz]; rfl) (cJ _) ?_))
   refine bodyPost_ret (results_cell_row rfl _ _ (w.heap.size + 1 + 1) 55 (Us (mxl (swd a b) a 4)).toArray (0,0) _ rfl (h2.row _) Tryd.underlying55 rfl (x8 _ hz)) rfl ⟨rfl,?_⟩;exact below_setRow hbel (by omega) _
theorem Uh : ws LL = [6346243789798364141,1503914060200516822,0,1152921504606846976]:=by decide
theorem wK (a b c d : Nat) : (Us [a,b,c,d]).toArray = #[.int .u64 (a : Int),.int .u64 (b : Int),.int .u64 (c : Int),.int .u64 (d : Int)]:=rfl
theorem Tb (a : Nat) (ha : a < 18446744073709551616) : bits .and .u64 (a : Int) 1152921504606846975 = ((a % 1152921504606846976 : Nat) : Int):=by
 have h:=u64_and_nat a 1152921504606846975 ha (by omega);have e : a &&& 1152921504606846975 = a % 1152921504606846976:=Nat.and_two_pow_sub_one_eq_mod a 60;rw [e] at h;exact h
theorem RM {v0 v1 v2 v3 u : Nat} (h0 : v0 < 18446744073709551616) (h1 : v1 < 18446744073709551616) (h2 : v2 < 18446744073709551616) (h3 : v3 < 18446744073709551616) (hu : u < 1073741824) (w : World) :
  Calls Tryd.prog 74 #[.agg (Us [v0,v1,v2,v3,u]).toArray] w λe w'=>e = .returned (.agg (Us (ws ((v4 v0 v1 v2 v3 + 115792089237316195423570985008687907853269984665640564039457584007913129639936 * u) % LL))).toArray) /\ Below w.heap.size w w':=by
 obtain ⟨t,ht⟩ : ∃ t,t = u * 16 + v3 / 1152921504606846976:=⟨_,rfl⟩
 have htb : t < 34359738368:=by omega
 have qt : bits .or .u64 ((u : Int) * 16) ((v3 : Int) / 1152921504606846976) = (t : Int):=by
  have e:=orW 4 (u * 16) (v3 / 1152921504606846976) (by omega) (by omega) (by omega) (by omega);rw [ht,<-e]
  rfl
 have HM0:=λw1=>aH (vI t 6346243789798364141 (by omega) (by omega) w1);have HM1:=λw1=>aH (vI t 1503914060200516822 (by omega) (by omega) w1);obtain ⟨V,hV⟩ : ∃ V,V = v4 v0 v1 v2 v3 + 115792089237316195423570985008687907853269984665640564039457584007913129639936 * u:=⟨_,rfl⟩;rw [<-hV]
 have hV2 : V = v4 v0 v1 v2 (v3 % 1152921504606846976) + 7237005577332262213973186563042994240829374041602535252466099000494570602496 * t:=by
  rw [hV,ht]
  unfold v4
  omega
 have q3:=Tb v3 h3
 have hv3 : v3 % 1152921504606846976 < 1152921504606846976:=by omega
 obtain ⟨m0,hm0⟩ : ∃ m,m = t * 6346243789798364141:=⟨_,rfl⟩;obtain ⟨m1,hm1⟩ : ∃ m,m = t * 1503914060200516822:=⟨_,rfl⟩;rw [<-hm0] at HM0;rw [<-hm1] at HM1;obtain ⟨p1,hp1⟩ : ∃ p,p = m1 % 18446744073709551616 + m0 / 18446744073709551616:=⟨_,rfl⟩
 have hA : ∀ w1,(callFunc 92 #[.int .u64 ((m1 % 18446744073709551616 : Nat) : Int),.int .u64 ((m0 / 18446744073709551616 : Nat) : Int),.int .u64 0]).run Tryd.prog w1 = .ok (.value (.tuple #[.int .u64 ((p1 % 18446744073709551616 : Nat) : Int),.int .u64 ((p1 / 18446744073709551616 : Nat) : Int)])) w1:=by
  rw [hp1];exact λw1=>sF (m1 % 18446744073709551616) (m0 / 18446744073709551616) 0 (by omega) w1
 have qd : IntKind.u64.wrap (((m1 / 18446744073709551616 : Nat) : Int) + ((p1 / 18446744073709551616 : Nat) : Int)) = ((m1 / 18446744073709551616 + p1 / 18446744073709551616 : Nat) : Int):=by
  rw [IntKind.wrap_u64]
  omega
 obtain ⟨r0,l0,hr0,hl0,H0⟩ : ∃ r0 l0 : Nat,r0 = (v0 + 18446744073709551616 - m0 % 18446744073709551616 - 0) % 18446744073709551616 /\ l0 = (if v0 < m0 % 18446744073709551616 + 0 then 1 else 0) /\
   ∀ w1,(callFunc 94 #[.int .u64 (v0 : Int),.int .u64 ((m0 % 18446744073709551616 : Nat) : Int),.int .u64 0]).run Tryd.prog w1 = .ok (.value (.tuple #[.int .u64 (r0 : Int),.int .u64 (l0 : Int)])) w1 :=
  ⟨_,_,rfl,rfl,λw1=>vB v0 (m0 % 18446744073709551616) 0 (by omega) w1⟩
 have b0 : l0 <= 1:=by rw [hl0]; split <;> omega
 obtain ⟨r1,l1,hr1,hl1,H1⟩ : ∃ r1 l1 : Nat,r1 = (v1 + 18446744073709551616 - p1 % 18446744073709551616 - l0) % 18446744073709551616 /\ l1 = (if v1 < p1 % 18446744073709551616 + l0 then 1 else 0) /\
   ∀ w1,(callFunc 94 #[.int .u64 (v1 : Int),.int .u64 ((p1 % 18446744073709551616 : Nat) : Int),.int .u64 (l0 : Int)]).run Tryd.prog w1 = .ok (.value (.tuple #[.int .u64 (r1 : Int),.int .u64 (l1 : Int)])) w1 :=
  ⟨_,_,rfl,rfl,λw1=>vB v1 (p1 % 18446744073709551616) l0 b0 w1⟩
 have b1 : l1 <= 1:=by rw [hl1]; split <;> omega
 obtain ⟨r2,l2,hr2,hl2,H2⟩ : ∃ r2 l2 : Nat,r2 = (v2 + 18446744073709551616 - (m1 / 18446744073709551616 + p1 / 18446744073709551616) - l1) % 18446744073709551616 /\ l2 = (if v2 < m1 / 18446744073709551616 + p1 / 18446744073709551616 + l1 then 1 else 0) /\
   ∀ w1,(callFunc 94 #[.int .u64 (v2 : Int),.int .u64 ((m1 / 18446744073709551616 + p1 / 18446744073709551616 : Nat) : Int),.int .u64 (l1 : Int)]).run Tryd.prog w1 = .ok (.value (.tuple #[.int .u64 (r2 : Int),.int .u64 (l2 : Int)])) w1 :=
  ⟨_,_,rfl,rfl,λw1=>vB v2 (m1 / 18446744073709551616 + p1 / 18446744073709551616) l1 b1 w1⟩
 have b2 : l2 <= 1:=by rw [hl2]; split <;> omega
 obtain ⟨r3,l3,hr3,hl3,H3⟩ : ∃ r3 l3 : Nat,r3 = (v3 % 1152921504606846976 + 18446744073709551616 - 0 - l2) % 18446744073709551616 /\ l3 = (if v3 % 1152921504606846976 < 0 + l2 then 1 else 0) /\
   ∀ w1,(callFunc 94 #[.int .u64 ((v3 % 1152921504606846976 : Nat) : Int),.int .u64 0,.int .u64 (l2 : Int)]).run Tryd.prog w1 = .ok (.value (.tuple #[.int .u64 (r3 : Int),.int .u64 (l3 : Int)])) w1 :=
  ⟨_,_,rfl,rfl,λw1=>vB (v3 % 1152921504606846976) 0 l2 b2 w1⟩
 obtain ⟨e0,e1,b3,_,_,_,c0,c1,c2,c3⟩:=SM (V:=V) h0 h1 h2 hv3 htb hm0 hm1 hp1 hl0 hr0 hl1 hr1 hl2 hr2 hl3 hr3 hV2
 have hR : v4 r0 r1 r2 r3 < 115792089237316195423570985008687907853269984665640564039457584007913129639936:=by unfold v4; omega
 have HW:=λw1=>Mk hR (B:=LL) (by rw [zE]; omega) w1;rw [Ml c0 c1 c2 c3,Uh,wK,wK] at HW;have hwR:=Ml c0 c1 c2 c3;clear hm0 hm1 hp1 hl0 hr0 hl1 hr1 hl2 hr2 hl3 hr3 hV2 hV ht htb;generalize hmh0 : m0 / 18446744073709551616 = mh0 at *;generalize hml0 : m0 % 18446744073709551616 = ml0 at *;generalize hmh1 : m1 / 18446744073709551616 = mh1 at *;generalize hml1 : m1 % 18446744073709551616 = ml1 at *;generalize hph1 : p1 / 18446744073709551616 = ph1 at *;generalize hpl1 : p1 % 18446744073709551616 = pl1 at *;generalize mh1 + ph1 = d at *;generalize v3 % 1152921504606846976 = v3' at *;clear hmh0 hml0 hmh1 hml1 hph1 hpl1;have e0' : (Us [v0,v1,v2,v3,u]).toArray = #[.int .u64 (v0 : Int),.int .u64 (v1 : Int),.int .u64 (v2 : Int),.int .u64 (v3 : Int),.int .u64 (u : Int)]:=rfl;rw [e0'];clear e0'
 rcases (show l3 = 0 \/ l3 = 1 by omega) with rfl | rfl
 ·have hF:=e0 rfl
  rw [<-hF,hwR,wK];have HK:=aH (aY hF hR);clear e0 e1 HW hF hR hwR
  go_enter Tryd.func74,Tryd.ntmps74
  go_wp2_with (fail)
  refine (HM0 _).out.mono ?_
  rintro e w1 ⟨rfl,rfl⟩
  go_wp2_with (fail)
  refine (HM1 _).out.mono ?_
  rintro e w1 ⟨rfl,rfl⟩
  go_wp2_with (fail)
  refine bodyPost_ret (results_cell_row rfl _ _ (w.heap.size + 1) 57 _ (0,0) _ rfl (lI w _ _ _ _) Tryd.underlying57 rfl (fH _ rfl)) rfl ⟨rfl,?_⟩;exact (((Below.refl _ _).alloc (aF _) _).alloc (by simp) _).alloc (by simp; omega) _
 ·have hF:=e1 rfl
  rw [hF] at HW;rw [<-hF];have hn : V % LL < 115792089237316195423570985008687907853269984665640564039457584007913129639936:=Nat.lt_trans (eR _ (by decide)) (by decide);rw [hF];obtain ⟨x0,x1,x2,x3,_,hx,_⟩:=tL hn;rw [hx,wK] at HW ⊢;have HW:=λw1=>aH (HW w1);clear e0 e1 hF hR hwR hx hn
  go_enter Tryd.func74,Tryd.ntmps74
  go_wp2_with (fail)
  refine (HM0 _).out.mono ?_
  rintro e w1 ⟨rfl,rfl⟩
  go_wp2_with (fail)
  refine (HM1 _).out.mono ?_
  rintro e w1 ⟨rfl,rfl⟩
  go_wp2_with (fail)
  refine (HW _).out.mono ?_
  rintro e w1 ⟨rfl,hw1⟩
  have k1:=(lI w 57 (Us [0,0,0,0]).toArray (.cells (Us [v0,v1,v2,v3,u]).toArray 73) (.cells (Us [r0,r1,r2,r3]).toArray 55)).later hw1;have k2:=(lV w 55 (Us [r0,r1,r2,r3]).toArray (.cells (Us [v0,v1,v2,v3,u]).toArray 73) (.cells (Us [0,0,0,0]).toArray 57)).later hw1;have hbe:=a6 ((((Below.refl w.heap.size w).alloc (aF _) _).alloc (by simp) _).alloc (by simp; omega) _) hw1;have k1':=k1.aR (g':=w.heap.size + 1 + 1) (by omega) (Us [x0,x1,x2,x3]).toArray;have k2':=k2.row (Us [x0,x1,x2,x3]).toArray;have hbe':=below_setRow hbe (g:=w.heap.size + 1 + 1) (cs:=(Us [x0,x1,x2,x3]).toArray) (by omega);clear hw1
  go_wp2_with (first
   | (refine wpList_store_row rfl 55 _ _ rfl (w.heap.size + 1 + 1) rfl (Us [x0,x1,x2,x3]).toArray rfl 55 _ k2 (x8 _ rfl) rfl (cJ _) ?_)
   | (refine wpList_load_row rfl 55 _ rfl (w.heap.size + 1 + 1) rfl 55 #[.int .u64 (x0 : Int),.int .u64 (x1 : Int),.int .u64 (x2 : Int),.int .u64 (x3 : Int)] (0,0) _ k2' Tryd.underlying55 rfl (x8 _ rfl) ?_)
   | (refine wpList_store_row rfl 57 _ _ rfl (w.heap.size + 1) rfl (Us [x0,x1,x2,x3]).toArray rfl 57 _ k1' (fH _ rfl) rfl (cJ _) ?_))
  refine bodyPost_ret (results_cell_row rfl _ _ (w.heap.size + 1) 57 (Us [x0,x1,x2,x3]).toArray (0,0) _ rfl (k1'.row _) Tryd.underlying57 rfl (fH _ rfl)) rfl ⟨rfl,?_⟩;exact below_setRow hbe' (by omega) _
end Go.Proofs.YtfkchihlchlfdaaDoor
