import Derived.Test.YtfkchihlchlfdaaGreatDoorMg
import Derived.Test.YtfkchihlchlfdaaGreatDoorMa
set_option maxRecDepth 100000
set_option maxHeartbeats 4000000
open Go.Act renaming put->aG
open Go.Instr renaming field->NP
open Go.IntKind renaming wrap_u64->aP
open Go.Lib renaming hid->aL
open Go.Obj renaming cells->gZ
open Go.Op renaming equalIn->fH
open Go.Region renaming wanted->aN
open Go.Result renaming andThen_ok->aF
open Go.Sem renaming run_bind->aJ,run_pure->aK
open Go.Value renaming bool->jU
open Go.World renaming size_alloc->aZ,setRow->dT
open List renaming setIfInBounds_toArray->aA,set_cons_zero->aB,set_cons_succ->aC,take_succ_cons->a6,mem_cons_of_mem->bL,take_zero->bP,take_of_length_le->bW,mem_cons_self->cB,mem_range'_1->oA,forIn_cons->NG
open Nat renaming le_refl->aH,lt_of_lt_of_le->bM,pow_succ->dD,le_of_lt->fJ,le_trans->j6,pow_zero->mS,ne_of_lt->nO
open Std.Legacy.Range renaming size->jS
namespace Go.Proofs.YtfkchihlchlfdaaGreatDoor
open Go.RowKit Go.IntWalk Nums
def W2 (s : Nat) : Array Value:=(Us [s / 18446744073709551616,s % 18446744073709551616]).toArray
theorem oV (s : Nat) : (W2 s).size = 2:=rfl
theorem Dl (s : Nat) : ∀ u ∈ (W2 s).toList,u.oneCell' = true:=cO _
theorem Co (s a b : Nat) (ha : a < 18446744073709551616) (hb : b < 18446744073709551616) (hs : s + a * b < 340282366920938463463374607431768211456) (w : World) :
  Calls Tryz.prog 109 #[.agg (W2 s),.int .u64 a,.int .u64 b] w λe w'=>e = .returned (.agg (W2 (s + a * b))) /\ Below w.heap.size w w':=by
 refine (Pg (s / 18446744073709551616) (s % 18446744073709551616) a b (by omega) (by omega) ha hb w).mono ?_
 rintro e w' ⟨rfl,hw⟩
 refine ⟨?_,hw⟩
 unfold W2
 generalize a * b = m at *
 have e1 : (s / 18446744073709551616 + m / 18446744073709551616 + (s % 18446744073709551616 + m % 18446744073709551616) / 18446744073709551616) % 18446744073709551616 = (s + m) / 18446744073709551616:=by omega
 have e2 : (s % 18446744073709551616 + m % 18446744073709551616) % 18446744073709551616 = (s + m) % 18446744073709551616:=by omega
 rw [e1,e2]
theorem Hx (s : Nat) (w : World) :
  Calls Tryz.prog 110 #[.agg (W2 s)] w λe w'=>e = .returned (.int .u64 ((s % 2251799813685248 : Nat) : Int)) /\ Below w.heap.size w w':=by
 refine (Tp (s / 18446744073709551616) (s % 18446744073709551616) (by omega) w).mono ?_
 rintro e w' ⟨rfl,hw⟩
 refine ⟨?_,hw⟩
 have e1 : s % 18446744073709551616 % 2251799813685248 = s % 2251799813685248:=by omega
 rw [e1]
theorem CN (s : Nat) (hs : s < 41538374868278621028243970633760768) (w : World) :
  Calls Tryz.prog 111 #[.agg (W2 s)] w λe w'=>e = .returned (.int .u64 ((s / 2251799813685248 : Nat) : Int)) /\ Below w.heap.size w w':=by
 refine (Qq (s / 18446744073709551616) (s % 18446744073709551616) (by omega) (by omega) w).mono ?_
 rintro e w' ⟨rfl,hw⟩
 refine ⟨?_,hw⟩
 have e1 : s / 18446744073709551616 * 8192 + s % 18446744073709551616 / 2251799813685248 = s / 2251799813685248:=by omega
 rw [e1]
theorem Lh : ∀ (l : List Nat) {k : Nat},k < l.length -> lv (l.take (k + 1)) = lv (l.take k) + 2251799813685248 ^ k * l[k]!
 | d :: ds,0,_=>by simp [lv]
 | d :: ds,k + 1,h=>by
  have ih:=Lh ds (k:=k) (by simpa using h)
  show d + 2251799813685248 * lv (ds.take (k + 1)) = d + 2251799813685248 * lv (ds.take k) + 2251799813685248 ^ (k + 1) * ds[k]!
  rw [ih,dD]
  grind only
structure MM (a : List Nat) (y : F) (k c0 c1 c2 c3 c4 s0 s1 s2 s3 s4 : Nat) : Prop where
  cv : fof (lv [c0,c1,c2,c3,c4]) = fof (2251799813685248 ^ k) * y
  sv : fof (lv [s0,s1,s2,s3,s4]) = fof (lv (a.take k)) * y
  c0b : c0 < 42784196465000448
  c1b : c1 < 42784196465000448
  c2b : c2 < 42784196465000448
  c3b : c3 < 42784196465000448
  c4b : c4 < 42784196465000448
  c0u : k <= 0 -> c0 < 2251799813947392
  c1u : k <= 1 -> c1 < 2251799813947392
  c2u : k <= 2 -> c2 < 2251799813947392
  c3u : k <= 3 -> c3 < 2251799813947392
  c4u : k <= 4 -> c4 < 2251799813947392
  s0b : s0 <= k * 96341445640026967064998646153216
  s1b : s1 <= k * 96341445640026967064998646153216
  s2b : s2 <= k * 96341445640026967064998646153216
  s3b : s3 <= k * 96341445640026967064998646153216
  s4b : s4 <= k * 96341445640026967064998646153216
theorem oS {v c : Nat} (hv : v < 2251799813947392) (hc : c < 42784196465000448) : v * c <= 96341445640026967064998646153216 :=
 j6 (Nat.mul_le_mul (fJ hv) (fJ hc)) (by decide)
theorem MM.next {a : List Nat} {x y : F} {k c0 c1 c2 c3 c4 s0 s1 s2 s3 s4 : Nat} (h : MM a y k c0 c1 c2 c3 c4 s0 s1 s2 s3 s4) (ha : EB a x) (hk : k < 5) :
  MM a y (k + 1) (19 * c4) c0 c1 c2 c3 (s0 + a[k]! * c0) (s1 + a[k]! * c1) (s2 + a[k]! * c2) (s3 + a[k]! * c3) (s4 + a[k]! * c4):=by
 obtain ⟨cv,sv,g0,g1,g2,g3,g4,u0,u1,u2,u3,u4,t0,t1,t2,t3,t4⟩:=h;have hv:=rV ha hk;have p0:=oS hv g0;have p1:=oS hv g1;have p2:=oS hv g2;have p3:=oS hv g3;have p4:=oS hv g4
 have hm : (k + 1) * 96341445640026967064998646153216 = k * 96341445640026967064998646153216 + 96341445640026967064998646153216:=by omega
 have:=u4 (by omega);refine ⟨?_,?_,by omega,g0,g1,g2,g3,by omega,by omega,by omega,by omega,by omega,by omega,by omega,by omega,by omega,by omega⟩
 ·rw [Sd,cv,dD,jV]
  generalize fof (2251799813685248 ^ k) = u;generalize fof 2251799813685248 = v
  grind only
 ·rw [To,pQ,sv,jV,cv,Lh a (by rw [ha.len]; exact hk),pQ,jV]
  generalize fof (lv (a.take k)) = u;generalize fof (2251799813685248 ^ k) = v;generalize fof (a[k]!) = z
  grind only
theorem MM.start {a : List Nat} {b0 b1 b2 b3 b4 : Nat} {y : F} (h0 : b0 < 2251799813947392) (h1 : b1 < 2251799813947392) (h2 : b2 < 2251799813947392) (h3 : b3 < 2251799813947392) (h4 : b4 < 2251799813947392) (hb : fof (lv [b0,b1,b2,b3,b4]) = y) :
  MM a y 0 b0 b1 b2 b3 b4 0 0 0 0 0:=by
 refine ⟨?_,?_,by omega,by omega,by omega,by omega,by omega,λ_=>h0,λ_=>h1,λ_=>h2,λ_=>h3,λ_=>h4,by omega,by omega,by omega,by omega,by omega⟩
 ·rw [hb,mS,oT]
  grind only
 ·have e1 : fof (lv [0,0,0,0,0]) = 0:=vB
  have e2 : fof (lv (a.take 0)) = 0:=vB;rw [e1,e2]
  grind only
theorem MM.fin {a : List Nat} {x y : F} {c0 c1 c2 c3 c4 s0 s1 s2 s3 s4 : Nat} (h : MM a y 5 c0 c1 c2 c3 c4 s0 s1 s2 s3 s4) (ha : EB a x) :
  fof (lv (crd s0 s1 s2 s3 s4)) = x * y /\ s0 < 41538374868278621028243970633760768 /\ s1 < 41538374868278621028243970633760768 /\ s2 < 41538374868278621028243970633760768 /\ s3 < 41538374868278621028243970633760768 /\ s4 < 41538374868278621028243970633760768 /\
   s0 / 2251799813685248 < 400000000000000000 /\ s1 / 2251799813685248 < 400000000000000000 /\ s2 / 2251799813685248 < 400000000000000000 /\ s3 / 2251799813685248 < 400000000000000000 /\ s4 / 2251799813685248 < 400000000000000000:=by
 have e : a.take 5 = a:=bW (by rw [ha.len]; omega);obtain ⟨cv,sv,g0,g1,g2,g3,g4,u0,u1,u2,u3,u4,t0,t1,t2,t3,t4⟩:=h;rw [e,ha.val] at sv;exact ⟨by rw [Q9,sv],by omega,by omega,by omega,by omega,by omega,by omega,by omega,by omega,by omega,by omega⟩
structure MSt (w wr : World) (a : List Nat) (s0 s1 s2 s3 s4 : Nat) : Prop where
  ba : Blk wr w.heap.size 116 (Us a).toArray
  br : Blk wr (w.heap.size + 1 + 1) 116 z5
  k0 : Blk wr (w.heap.size + 1 + 1 + 1) 159 (W2 s0)
  k1 : Blk wr (w.heap.size + 1 + 1 + 1 + 1) 159 (W2 s1)
  k2 : Blk wr (w.heap.size + 1 + 1 + 1 + 1 + 1) 159 (W2 s2)
  k3 : Blk wr (w.heap.size + 1 + 1 + 1 + 1 + 1 + 1) 159 (W2 s3)
  k4 : Blk wr (w.heap.size + 1 + 1 + 1 + 1 + 1 + 1 + 1) 159 (W2 s4)
  be : Below w.heap.size w wr
section
variable {w wr w1 : World} {a : List Nat} {s0 s1 s2 s3 s4 : Nat}
theorem MSt.step (h : MSt w wr a s0 s1 s2 s3 s4) (hw : Below wr.heap.size wr w1) : MSt w w1 a s0 s1 s2 s3 s4 :=
 ⟨h.ba.below hw h.ba.lt,h.br.below hw h.br.lt,h.k0.below hw h.k0.lt,h.k1.below hw h.k1.lt,h.k2.below hw h.k2.lt,h.k3.below hw h.k3.lt,h.k4.below hw h.k4.lt,h.be.trans (hw.mono h.be.size)⟩
theorem MSt.Yu (h : MSt w wr a s0 s1 s2 s3 s4) (s : Nat) : MSt w (wr.setRow (w.heap.size + 1 + 1 + 1) (W2 s)) a s s1 s2 s3 s4 :=
 ⟨h.ba.aT (by omega) _,h.br.aT (by omega) _,h.k0.row _,h.k1.aT (by omega) _,h.k2.aT (by omega) _,h.k3.aT (by omega) _,h.k4.aT (by omega) _,below_setRow h.be (by omega) _⟩
theorem MSt.Yt (h : MSt w wr a s0 s1 s2 s3 s4) (s : Nat) : MSt w (wr.setRow (w.heap.size + 1 + 1 + 1 + 1) (W2 s)) a s0 s s2 s3 s4 :=
 ⟨h.ba.aT (by omega) _,h.br.aT (by omega) _,h.k0.aT (by omega) _,h.k1.row _,h.k2.aT (by omega) _,h.k3.aT (by omega) _,h.k4.aT (by omega) _,below_setRow h.be (by omega) _⟩
theorem MSt.Ys (h : MSt w wr a s0 s1 s2 s3 s4) (s : Nat) : MSt w (wr.setRow (w.heap.size + 1 + 1 + 1 + 1 + 1) (W2 s)) a s0 s1 s s3 s4 :=
 ⟨h.ba.aT (by omega) _,h.br.aT (by omega) _,h.k0.aT (by omega) _,h.k1.aT (by omega) _,h.k2.row _,h.k3.aT (by omega) _,h.k4.aT (by omega) _,below_setRow h.be (by omega) _⟩
theorem MSt.Yr (h : MSt w wr a s0 s1 s2 s3 s4) (s : Nat) : MSt w (wr.setRow (w.heap.size + 1 + 1 + 1 + 1 + 1 + 1) (W2 s)) a s0 s1 s2 s s4 :=
 ⟨h.ba.aT (by omega) _,h.br.aT (by omega) _,h.k0.aT (by omega) _,h.k1.aT (by omega) _,h.k2.aT (by omega) _,h.k3.row _,h.k4.aT (by omega) _,below_setRow h.be (by omega) _⟩
theorem MSt.Yq (h : MSt w wr a s0 s1 s2 s3 s4) (s : Nat) : MSt w (wr.setRow (w.heap.size + 1 + 1 + 1 + 1 + 1 + 1 + 1) (W2 s)) a s0 s1 s2 s3 s :=
 ⟨h.ba.aT (by omega) _,h.br.aT (by omega) _,h.k0.aT (by omega) _,h.k1.aT (by omega) _,h.k2.aT (by omega) _,h.k3.aT (by omega) _,h.k4.row _,below_setRow h.be (by omega) _⟩
end
theorem M1 (w : World) (a : List Nat) (o : Obj) :
  MSt w ((((((((w.alloc (.cells (Us a).toArray 116)).alloc o).alloc (.cells z5 116)).alloc (.cells (W2 0) 159)).alloc (.cells (W2 0) 159)).alloc (.cells (W2 0) 159)).alloc (.cells (W2 0) 159)).alloc (.cells (W2 0) 159)).drew a 0 0 0 0 0 where
 ba:=(((((((Blk.new w _ _).alloc _).alloc _).alloc _).alloc _).alloc _).alloc _).alloc _
 br:=by
  have h:=(((((Blk.new ((w.alloc (.cells (Us a).toArray 116)).alloc o) 116 z5).alloc (.cells (W2 0) 159)).alloc (.cells (W2 0) 159)).alloc (.cells (W2 0) 159)).alloc (.cells (W2 0) 159)).alloc (.cells (W2 0) 159);rw [aZ,aZ] at h;exact h
 k0:=by
  have h:=((((Blk.new (((w.alloc (.cells (Us a).toArray 116)).alloc o).alloc (.cells z5 116)) 159 (W2 0)).alloc (.cells (W2 0) 159)).alloc (.cells (W2 0) 159)).alloc (.cells (W2 0) 159)).alloc (.cells (W2 0) 159);rw [aZ,aZ,aZ] at h;exact h
 k1:=by
  have h:=(((Blk.new ((((w.alloc (.cells (Us a).toArray 116)).alloc o).alloc (.cells z5 116)).alloc (.cells (W2 0) 159)) 159 (W2 0)).alloc (.cells (W2 0) 159)).alloc (.cells (W2 0) 159)).alloc (.cells (W2 0) 159);rw [aZ,aZ,aZ,aZ] at h;exact h
 k2:=by
  have h:=((Blk.new (((((w.alloc (.cells (Us a).toArray 116)).alloc o).alloc (.cells z5 116)).alloc (.cells (W2 0) 159)).alloc (.cells (W2 0) 159)) 159 (W2 0)).alloc (.cells (W2 0) 159)).alloc (.cells (W2 0) 159);rw [aZ,aZ,aZ,aZ,aZ] at h;exact h
 k3:=by
  have h:=(Blk.new ((((((w.alloc (.cells (Us a).toArray 116)).alloc o).alloc (.cells z5 116)).alloc (.cells (W2 0) 159)).alloc (.cells (W2 0) 159)).alloc (.cells (W2 0) 159)) 159 (W2 0)).alloc (.cells (W2 0) 159);rw [aZ,aZ,aZ,aZ,aZ,aZ] at h;exact h
 k4:=by
  have h:=Blk.new (((((((w.alloc (.cells (Us a).toArray 116)).alloc o).alloc (.cells z5 116)).alloc (.cells (W2 0) 159)).alloc (.cells (W2 0) 159)).alloc (.cells (W2 0) 159)).alloc (.cells (W2 0) 159)) 159 (W2 0);rw [aZ,aZ,aZ,aZ,aZ,aZ,aZ] at h;exact h
 be:=(((((((((Below.refl _ _).alloc (aH _) _).alloc (by simp) _).alloc (by simp; omega) _).alloc (by simp; omega) _).alloc (by simp; omega) _).alloc (by simp; omega) _).alloc (by simp; omega) _).alloc (by simp; omega) _).drew
theorem zA : Own 110:=λ_ _=>by go_simp
theorem uU : Own 111:=λ_ _=>by go_simp
theorem Hl : Own 112:=λ_ _=>by go_simp
theorem D9 : Own 113:=λ_ _=>by go_simp
theorem bO : Own 90:=λ_ _=>by go_simp
theorem lA : Own 97:=λ_ _=>by go_simp
theorem jF : Own 95:=λ_ _=>by go_simp
theorem zC : Own 91:=λ_ _=>by go_simp
theorem Ao : Own 93:=λ_ _=>by go_simp
section
variable {ops : Array Oper} {C0 : World -> Prop} {Q : Act -> Prop} {a : Act} {o : Oper} {rest : List Oper}
theorem WI {x y : Operand} {t : TypeId} (p q : Nat) (hg : aN o (yielded ops a.tmps) = true) (ho : o.op = .binOp .mul 48 x y t) (hx : a.eval x = .int .u64 (p : Int)) (hy : a.eval y = .int .u64 (q : Int)) (hb : p * q < 18446744073709551616)
  (hk : wpB Tryz.prog ops C0 Q rest (a.put o.dst (.int .u64 ((p * q : Nat) : Int)))) : wpB Tryz.prog ops C0 Q (o :: rest) a :=
 k5 hg (λw _=>by
  have e : IntKind.u64.wrap ((p : Int) * (q : Int)) = ((p * q : Nat) : Int):=by rw [aP,<-Int.natCast_mul]; omega
  unfold execOp
  simp only [ho,hx,hy]
  go_simp) hk
theorem Dd {x y : Operand} {t : TypeId} (p q : Nat) (hg : aN o (yielded ops a.tmps) = true) (ho : o.op = .binOp .add 48 x y t) (hx : a.eval x = .int .u64 (p : Int)) (hy : a.eval y = .int .u64 (q : Int)) (hb : p + q < 18446744073709551616)
  (hk : wpB Tryz.prog ops C0 Q rest (a.put o.dst (.int .u64 ((p + q : Nat) : Int)))) : wpB Tryz.prog ops C0 Q (o :: rest) a :=
 k5 hg (λw _=>by
  have e : IntKind.u64.wrap ((p : Int) + (q : Int)) = ((p + q : Nat) : Int):=by rw [aP]; omega
  unfold execOp
  simp only [ho,hx,hy]
  go_simp) hk
theorem gO {l : List Nat} (g : Nat) (hl : l.length = 5) (x : Operand) (hg : aN o (yielded ops a.tmps) = true) (ho : o.op = .load 116 x) (hx : a.eval x = .pointer (some ⟨g,0,none⟩))
  (hc : ∀ w,C0 w -> Blk w g 116 (Us l).toArray) (hk : wpB Tryz.prog ops C0 Q rest (a.put o.dst (.agg (Us l).toArray))) : wpB Tryz.prog ops C0 Q (o :: rest) a :=
 zU hg 116 x ho g 0 hx (Us l) _ (λw h=>(hc w h).range) Tryz.underlying116 rfl (bT (Us l).toArray (by rw [List.size_toArray,dB,hl])) hk
theorem xI {s : Nat} (g : Nat) (x : Operand) (hg : aN o (yielded ops a.tmps) = true) (ho : o.op = .load 159 x) (hx : a.eval x = .pointer (some ⟨g,0,none⟩))
  (hc : ∀ w,C0 w -> Blk w g 159 (W2 s)) (hk : wpB Tryz.prog ops C0 Q rest (a.put o.dst (.agg (W2 s)))) : wpB Tryz.prog ops C0 Q (o :: rest) a :=
 zU hg 159 x ho g 0 hx (Us [s / 18446744073709551616,s % 18446744073709551616]) _ (λw h=>Blk.range (hc w h)) Tryz.underlying159 rfl (kZ _ rfl) hk
theorem iX {f : FuncId} {xs : Array Operand} {ats : Array TypeId} {args : Array Value} {x : F} (hg : aN o (yielded ops a.tmps) = true)
  (hf : Own f) (hc : ∀ w,C0 w -> Calls Tryz.prog f args w (λe w'=>∃ r,EB r x /\ e = .returned (.agg (Us r).toArray) /\ Below w.heap.size w w'))
  (ho : o.op = .call { callee:=.value (.func f),args:=xs,argTypes:=ats }) (hx : xs.toList.map a.eval = args.toList) (hk : ∀ r,EB r x -> wpB Tryz.prog ops C0 Q rest (a.put o.dst (.agg (Us r).toArray))) : wpB Tryz.prog ops C0 Q (o :: rest) a:=by
 refine Ru (f:=f) (args:=args) (λv=>∃ r,EB r x /\ v = .agg (Us r).toArray) hg (by rw [ho]; rfl) (λw hw=>(hc w hw).mono ?_) (λw=>by rw [kD hf ho,oZ hx]) ?_
 ·rintro e w2 ⟨r,hr,rfl,hw2⟩
  exact ⟨_,rfl,⟨r,hr,rfl⟩,hw2⟩
 ·rintro _ ⟨r,hr,rfl⟩
  exact hk r hr
end
theorem IG (v0 v1 v2 v3 v4 : Int) : Tryz.prog.built 114 [(0,.int .u64 v0),(1,.int .u64 v1),(2,.int .u64 v2),(3,.int .u64 v3),(4,.int .u64 v4)] = some #[.int .u64 v0,.int .u64 v1,.int .u64 v2,.int .u64 v3,.int .u64 v4]:=by kernel_rfl
theorem IH (v0 v1 v2 v3 v4 : Int) : Tryz.prog.built 116 [(0,.agg #[.int .u64 v0,.int .u64 v1,.int .u64 v2,.int .u64 v3,.int .u64 v4])] = some #[.int .u64 v0,.int .u64 v1,.int .u64 v2,.int .u64 v3,.int .u64 v4]:=by kernel_rfl
theorem jR : Tryz.prog.built 116 [] = some z5:=by kernel_rfl
theorem dF {a b : List Nat} {x y : F} (ha : EB a x) (hb : EB b y) (w : World) :
  Calls Tryz.prog 90 #[.agg (Us a).toArray,.agg (Us b).toArray] w λe w'=>∃ r,EB r (x * y) /\ e = .returned (.agg (Us r).toArray) /\ Below w.heap.size w w':=by
 obtain ⟨b0,b1,b2,b3,b4,rfl,r0,r1,r2,r3,r4,rv⟩:=hb.Bv;have e0 : (Us [b0,b1,b2,b3,b4]).toArray = #[.int .u64 (b0 : Int),.int .u64 (b1 : Int),.int .u64 (b2 : Int),.int .u64 (b3 : Int),.int .u64 (b4 : Int)]:=rfl;rw [e0]
 go_enter Tryz.func90,Tryz.ntmps90
 go_wp2
 go_region
 go_wp2
 go_loopw [32,5,6,7,8,9] (λi v5 v6 v7 v8 v9 wr=>∃ k : Nat,k <= 5 /\ i = .int .i64 k /\ ∃ c0 c1 c2 c3 c4 s0 s1 s2 s3 s4 : Nat,v5 = .int .u64 c0 /\ v6 = .int .u64 c1 /\ v7 = .int .u64 c2 /\ v8 = .int .u64 c3 /\ v9 = .int .u64 c4 /\ MM a y k c0 c1 c2 c3 c4 s0 s1 s2 s3 s4 /\ MSt w wr a s0 s1 s2 s3 s4) (λi _ _ _ _ _ _=>5 - (intOf i).toNat)
 case atStart =>
  exact ⟨0,by omega,rfl,b0,b1,b2,b3,b4,0,0,0,0,0,rfl,rfl,rfl,rfl,rfl,MM.start r0 r1 r2 r3 r4 rv,M1 w a _⟩
 case round =>
  obtain ⟨k,hk,rfl,c0,c1,c2,c3,c4,s0,s1,s2,s3,s4,rfl,rfl,rfl,rfl,rfl,hM,hS⟩:=hrel
  by_cases hlt : k < 5
  ·have hN:=hM.next ha hlt
   have hd:=(hS.ba.cell k).trans (iY (by rw [ha.len]; exact hlt));have hv:=rV ha hlt
   obtain ⟨g0,g1,g2,g3,g4,u4,t0,t1,t2,t3,t4⟩ : c0 < 42784196465000448 /\ c1 < 42784196465000448 /\ c2 < 42784196465000448 /\ c3 < 42784196465000448 /\ c4 < 42784196465000448 /\ c4 < 2251799813947392 /\ s0 < 41538374868278621028243970633760768 /\ s1 < 41538374868278621028243970633760768 /\ s2 < 41538374868278621028243970633760768 /\ s3 < 41538374868278621028243970633760768 /\ s4 < 41538374868278621028243970633760768:=by
    obtain ⟨_,_,g0,g1,g2,g3,g4,u0,u1,u2,u3,u4,t0,t1,t2,t3,t4⟩:=hM;exact ⟨g0,g1,g2,g3,g4,u4 (by omega),by omega,by omega,by omega,by omega,by omega⟩
   have p0:=oS hv g0;have p1:=oS hv g1;have p2:=oS hv g2;have p3:=oS hv g3;have p4:=oS hv g4;generalize a[k]! = v at *;have HP0:=λw1=>aL (Co s0 v c0 (by omega) (by omega) (by omega) w1);have HP1:=λw1=>aL (Co s1 v c1 (by omega) (by omega) (by omega) w1);have HP2:=λw1=>aL (Co s2 v c2 (by omega) (by omega) (by omega) w1);have HP3:=λw1=>aL (Co s3 v c3 (by omega) (by omega) (by omega) w1);have HP4:=λw1=>aL (Co s4 v c4 (by omega) (by omega) (by omega) w1);have HN:=aL hN
   have q1 : IntKind.u64.wrap (19 * (c4 : Int)) = ((19 * c4 : Nat) : Int):=by rw [aP]; omega
   have q2 : (0 : Int) <= (k : Int):=by omega
   clear hN hM p0 p1 p2 p3 p4 g0 g1 g2 g3 g4 u4 t0 t1 t2 t3 t4 hv rv r0 r1 r2 r3 r4 hb;generalize s0 + v * c0 = n0 at *;generalize s1 + v * c1 = n1 at *;generalize s2 + v * c2 = n2 at *;generalize s3 + v * c3 = n3 at *;generalize s4 + v * c4 = n4 at *;generalize 19 * c4 = d at *;have hk0:=hS.k0;have HS:=aL hS;clear hS
   go_wp2_with (refine wpList_load_row rfl 159 _ rfl (w.heap.size + 1 + 1 + 1) rfl 159 (W2 s0) (0,0) _ hk0 Tryz.underlying159 rfl (kZ _ (oV _)) ?_)
   refine (HP0 _).out.mono ?_
   rintro e w1 ⟨rfl,hw⟩
   have hS:=HS.out.step hw;have hk:=hS.k0;have hS2:=hS.Yu n0;have hk2:=hS2.k1;clear HS hw hS;have HS:=aL hS2;clear hS2
   go_wp2_with (first
    | (refine wpList_store_row rfl 159 _ _ rfl (w.heap.size + 1 + 1 + 1) rfl (W2 n0) rfl 159 _ hk (kZ _ (oV _)) rfl (Dl _) ?_)
    | (refine wpList_load_row rfl 159 _ rfl (w.heap.size + 1 + 1 + 1 + 1) rfl 159 (W2 s1) (0,0) _ hk2 Tryz.underlying159 rfl (kZ _ (oV _)) ?_))
   clear hk hk2;refine (HP1 _).out.mono ?_
   rintro e w2 ⟨rfl,hw⟩
   have hS:=HS.out.step hw;have hk:=hS.k1;have hS2:=hS.Yt n1;have hk2:=hS2.k2;clear HS hw hS;have HS:=aL hS2;clear hS2
   go_wp2_with (first
    | (refine wpList_store_row rfl 159 _ _ rfl (w.heap.size + 1 + 1 + 1 + 1) rfl (W2 n1) rfl 159 _ hk (kZ _ (oV _)) rfl (Dl _) ?_)
    | (refine wpList_load_row rfl 159 _ rfl (w.heap.size + 1 + 1 + 1 + 1 + 1) rfl 159 (W2 s2) (0,0) _ hk2 Tryz.underlying159 rfl (kZ _ (oV _)) ?_))
   clear hk hk2;refine (HP2 _).out.mono ?_
   rintro e w3 ⟨rfl,hw⟩
   have hS:=HS.out.step hw;have hk:=hS.k2;have hS2:=hS.Ys n2;have hk2:=hS2.k3;clear HS hw hS;have HS:=aL hS2;clear hS2
   go_wp2_with (first
    | (refine wpList_store_row rfl 159 _ _ rfl (w.heap.size + 1 + 1 + 1 + 1 + 1) rfl (W2 n2) rfl 159 _ hk (kZ _ (oV _)) rfl (Dl _) ?_)
    | (refine wpList_load_row rfl 159 _ rfl (w.heap.size + 1 + 1 + 1 + 1 + 1 + 1) rfl 159 (W2 s3) (0,0) _ hk2 Tryz.underlying159 rfl (kZ _ (oV _)) ?_))
   clear hk hk2;refine (HP3 _).out.mono ?_
   rintro e w4 ⟨rfl,hw⟩
   have hS:=HS.out.step hw;have hk:=hS.k3;have hS2:=hS.Yr n3;have hk2:=hS2.k4;clear HS hw hS;have HS:=aL hS2;clear hS2
   go_wp2_with (first
    | (refine wpList_store_row rfl 159 _ _ rfl (w.heap.size + 1 + 1 + 1 + 1 + 1 + 1) rfl (W2 n3) rfl 159 _ hk (kZ _ (oV _)) rfl (Dl _) ?_)
    | (refine wpList_load_row rfl 159 _ rfl (w.heap.size + 1 + 1 + 1 + 1 + 1 + 1 + 1) rfl 159 (W2 s4) (0,0) _ hk2 Tryz.underlying159 rfl (kZ _ (oV _)) ?_))
   clear hk hk2;refine (HP4 _).out.mono ?_
   rintro e w5 ⟨rfl,hw⟩
   have hS:=HS.out.step hw;have hk:=hS.k4;have hS2:=hS.Yq n4;clear HS hw hS;have HS:=aL hS2;clear hS2
   go_wp2_with (refine wpList_store_row rfl 159 _ _ rfl (w.heap.size + 1 + 1 + 1 + 1 + 1 + 1 + 1) rfl (W2 n4) rfl 159 _ hk (kZ _ (oV _)) rfl (Dl _) ?_)
   clear hk
   go_roundw
   case rel =>
    exact ⟨k + 1,by omega,by go_num,d,c0,c1,c2,c3,n0,n1,n2,n3,n4,rfl,rfl,rfl,rfl,rfl,HN.out,HS.out⟩
   case measure=>simp [intOf]; omega
  ·obtain rfl : k = 5:=by omega
   obtain ⟨hv,m0,m1,m2,m3,m4,d0,d1,d2,d3,d4⟩:=hM.fin ha;obtain ⟨hba,hbr,k0,k1,k2,k3,k4,hbe⟩:=hS;have hE:=Kd (a0:=s0 % 2251799813685248 + 19 * (s4 / 2251799813685248)) (a1:=s1 % 2251799813685248 + s0 / 2251799813685248) (a2:=s2 % 2251799813685248 + s1 / 2251799813685248) (a3:=s3 % 2251799813685248 + s2 / 2251799813685248) (a4:=s4 % 2251799813685248 + s3 / 2251799813685248) (by omega) (by omega) (by omega) (by omega) (by omega)
   have hE2 : EB (crd (s0 % 2251799813685248 + 19 * (s4 / 2251799813685248)) (s1 % 2251799813685248 + s0 / 2251799813685248) (s2 % 2251799813685248 + s1 / 2251799813685248) (s3 % 2251799813685248 + s2 / 2251799813685248) (s4 % 2251799813685248 + s3 / 2251799813685248)) (x * y):=by
    have h : fof (lv (crd s0 s1 s2 s3 s4)) = x * y:=hv
    unfold crd at h
    rw [h] at hE;exact hE
   have HC:=λw1=>AK (s0 % 2251799813685248 + 19 * (s4 / 2251799813685248)) (s1 % 2251799813685248 + s0 / 2251799813685248) (s2 % 2251799813685248 + s1 / 2251799813685248) (s3 % 2251799813685248 + s2 / 2251799813685248) (s4 % 2251799813685248 + s3 / 2251799813685248) (by omega) (by omega) (by omega) (by omega) (by omega) w1;generalize crd (s0 % 2251799813685248 + 19 * (s4 / 2251799813685248)) (s1 % 2251799813685248 + s0 / 2251799813685248) (s2 % 2251799813685248 + s1 / 2251799813685248) (s3 % 2251799813685248 + s2 / 2251799813685248) (s4 % 2251799813685248 + s3 / 2251799813685248) = r at *;clear hE hv hM hba rv r0 r1 r2 r3 r4 hb;have HC2:=aL HC;have HE:=aL hE2;clear HC hE2
   go_wp2
   refine vZ 29 (.tmp 4) 116 (.tmp 94) rfl rfl rfl rfl (by kernel_rfl) (cJ (by kernel_rfl)) (λ_ _ d _ _ h=>by cases d <;> exact h) ?_;simp only [a6,bP];refine xI (w.heap.size + 1 + 1 + 1) _ rfl rfl rfl (λ_ h=>h.blk k0) ?_; simp only [aG,aA,aB,aC];refine kE rfl zA (λw1=>Hx s0 w1) rfl rfl ?_; simp only [aG,aA,aB,aC];refine xI (w.heap.size + 1 + 1 + 1 + 1 + 1 + 1 + 1) _ rfl rfl rfl (λ_ h=>h.blk k4) ?_; simp only [aG,aA,aB,aC];refine kE rfl uU (λw1=>CN s4 m4 w1) rfl rfl ?_; simp only [aG,aA,aB,aC];refine WI 19 (s4 / 2251799813685248) rfl rfl rfl rfl (by omega) ?_; simp only [aG,aA,aB,aC];refine Dd (s0 % 2251799813685248) (19 * (s4 / 2251799813685248)) rfl rfl rfl rfl (by omega) ?_; simp only [aG,aA,aB,aC];refine xI (w.heap.size + 1 + 1 + 1 + 1) _ rfl rfl rfl (λ_ h=>h.blk k1) ?_; simp only [aG,aA,aB,aC];refine kE rfl zA (λw1=>Hx s1 w1) rfl rfl ?_; simp only [aG,aA,aB,aC];refine xI (w.heap.size + 1 + 1 + 1) _ rfl rfl rfl (λ_ h=>h.blk k0) ?_; simp only [aG,aA,aB,aC];refine kE rfl uU (λw1=>CN s0 m0 w1) rfl rfl ?_; simp only [aG,aA,aB,aC];refine Dd (s1 % 2251799813685248) (s0 / 2251799813685248) rfl rfl rfl rfl (by omega) ?_; simp only [aG,aA,aB,aC];refine xI (w.heap.size + 1 + 1 + 1 + 1 + 1) _ rfl rfl rfl (λ_ h=>h.blk k2) ?_; simp only [aG,aA,aB,aC];refine kE rfl zA (λw1=>Hx s2 w1) rfl rfl ?_; simp only [aG,aA,aB,aC];refine xI (w.heap.size + 1 + 1 + 1 + 1) _ rfl rfl rfl (λ_ h=>h.blk k1) ?_; simp only [aG,aA,aB,aC];refine kE rfl uU (λw1=>CN s1 m1 w1) rfl rfl ?_; simp only [aG,aA,aB,aC];refine Dd (s2 % 2251799813685248) (s1 / 2251799813685248) rfl rfl rfl rfl (by omega) ?_; simp only [aG,aA,aB,aC];refine xI (w.heap.size + 1 + 1 + 1 + 1 + 1 + 1) _ rfl rfl rfl (λ_ h=>h.blk k3) ?_; simp only [aG,aA,aB,aC]
   refine kE rfl zA (λw1=>Hx s3 w1) rfl rfl ?_; simp only [aG,aA,aB,aC];refine xI (w.heap.size + 1 + 1 + 1 + 1 + 1) _ rfl rfl rfl (λ_ h=>h.blk k2) ?_; simp only [aG,aA,aB,aC];refine kE rfl uU (λw1=>CN s2 m2 w1) rfl rfl ?_; simp only [aG,aA,aB,aC];refine Dd (s3 % 2251799813685248) (s2 / 2251799813685248) rfl rfl rfl rfl (by omega) ?_; simp only [aG,aA,aB,aC];refine xI (w.heap.size + 1 + 1 + 1 + 1 + 1 + 1 + 1) _ rfl rfl rfl (λ_ h=>h.blk k4) ?_; simp only [aG,aA,aB,aC];refine kE rfl zA (λw1=>Hx s4 w1) rfl rfl ?_; simp only [aG,aA,aB,aC];refine xI (w.heap.size + 1 + 1 + 1 + 1 + 1 + 1) _ rfl rfl rfl (λ_ h=>h.blk k3) ?_; simp only [aG,aA,aB,aC];refine kE rfl uU (λw1=>CN s3 m3 w1) rfl rfl ?_; simp only [aG,aA,aB,aC];refine Dd (s4 % 2251799813685248) (s3 / 2251799813685248) rfl rfl rfl rfl (by omega) ?_; simp only [aG,aA,aB,aC];refine tQ _ _ rfl rfl rfl (IG _ _ _ _ _) ?_; simp only [aG,aA,aB,aC];refine tQ _ _ rfl rfl rfl (IH _ _ _ _ _) ?_; simp only [aG,aA,aB,aC];refine kE rfl Hl (λw1=>HC2.out w1) rfl rfl ?_; simp only [aG,aA,aB,aC];have hzr:=cG HE.out.len;refine cQ ⟨_,z5,(Us r).toArray,rfl,rfl,hbr,by rw [hzr]; rfl,bT _ hzr,cO _,λw1 hw1=>?_⟩;have hfin:=hw1.blk hbr;have hbe2:=bA hbe hw1
   go_wp2
   refine bodyPost_ret (results_cell_row rfl _ _ (w.heap.size + 1 + 1) 116 (Us r).toArray (0,0) _ rfl (hfin.row _) Tryz.underlying116 rfl (bT _ hzr)) rfl ⟨r,HE.out,rfl,?_⟩;exact below_setRow hbe2 (by omega) _
theorem fT : Own 107:=λ_ _=>by go_simp
theorem Hf : Own 108:=λ_ _=>by go_simp
theorem JF : Own 115:=λ_ _=>by go_simp
theorem lJ {a b : List Nat} {x : F} {d e : Nat} (ha : EB a (gC x d)) (hb : EB b (gC x e)) (w : World) :
  Calls Tryz.prog 90 #[.agg (Us a).toArray,.agg (Us b).toArray] w λe' w'=>∃ r,EB r (gC x (d + e)) /\ e' = .returned (.agg (Us r).toArray) /\ Below w.heap.size w w':=by
 rw [sI];exact dF ha hb w
theorem DZ {a : List Nat} {x : F} (ha : EB a x) (n : Nat) (hn : n < 300) (w : World) :
  Calls Tryz.prog 107 #[.agg (Us a).toArray,.int .i64 n] w λe w'=>∃ r,EB r (gC x (2 ^ n)) /\ e = .returned (.agg (Us r).toArray) /\ Below w.heap.size w w':=by
 have hs : ∀ k,gC x (2 ^ (k + 1)) = gC x (2 ^ k) * gC x (2 ^ k):=λk=>by rw [<-sI,dD]; congr 1; omega
 have HS:=aL hs;clear hs
 go_enter Tryz.func107,Tryz.ntmps107
 go_wp2
 go_loopw [6] (λi wr=>∃ k : Nat,k <= n /\ i = .int .i64 k /\ ∃ r,EB r (gC x (2 ^ k)) /\ Blk wr w.heap.size 116 (Us r).toArray /\ Blk wr (w.heap.size + 1) 116 z5 /\ Below w.heap.size w wr) (λi _=>n - (intOf i).toNat)
 case atStart =>
  refine ⟨0,by omega,rfl,a,?_,heap_alloc2_old w _ _,heap_alloc2_new w _ _,((Below.refl _ _).alloc (aH _) _).alloc (by simp) _⟩;rw [mS,zL];exact ha
 case round =>
  obtain ⟨k,hk,rfl,r,hr,h0,h1,hbel⟩:=hrel
  by_cases hlt : k < n
  ·have HM:=λw1=>aL (dF hr hr w1)
   rw [<-HS.out k] at HM;have hzr:=cG hr.len;have HK:=aL (And.intro h0 (And.intro h1 hbel))
   have q0 : (k : Int) < (n : Int):=by omega
   clear h1 hbel
   go_wp2_with (refine wpList_load_row rfl 116 _ rfl w.heap.size rfl 116 (Us r).toArray (0,0) _ h0 Tryz.underlying116 rfl (bT _ hzr) ?_)
   refine (HM _).out.mono ?_
   rintro e w2 ⟨r1,hr1,rfl,hw2⟩
   have hz1:=cG hr1.len;obtain ⟨h0,h1,hbel⟩:=HK.out;have k0:=h0.below hw2 h0.lt;have k1:=h1.below hw2 h1.lt;have kb:=hbel.trans (hw2.mono hbel.size)
   have HR:=aL (show Blk (w2.setRow w.heap.size (Us r1).toArray) w.heap.size 116 (Us r1).toArray /\ Blk (w2.setRow w.heap.size (Us r1).toArray) (w.heap.size + 1) 116 z5 /\ Below w.heap.size w (w2.setRow w.heap.size (Us r1).toArray) from
    ⟨k0.row _,k1.aT (by omega) _,below_setRow kb (aH _) _⟩)
   clear HM HK h0 h1 hbel k1 kb hw2
   go_wp2_with (refine wpList_store_row rfl 116 _ _ rfl w.heap.size rfl (Us r1).toArray rfl 116 _ k0 (bT _ hz1) (by rw [hz1,hzr]) (cO _) ?_)
   go_roundw
   case rel=>exact ⟨k + 1,by omega,by go_num,r1,hr1,HR.out⟩
   case measure=>simp [intOf]; omega
  ·obtain rfl : k = n:=by omega
   have hzr:=cG hr.len
   go_wp2_with (first
    | (refine wpList_load_row rfl 116 _ rfl w.heap.size rfl 116 (Us r).toArray (0,0) _ h0 Tryz.underlying116 rfl (bT _ hzr) ?_)
    | (refine wpList_store_row rfl 116 _ _ rfl (w.heap.size + 1) rfl (Us r).toArray rfl 116 _ h1 (bT _ hzr) (by rw [hzr]; rfl) (cO _) ?_))
   refine bodyPost_ret (results_cell_row rfl _ _ (w.heap.size + 1) 116 (Us r).toArray (0,0) _ rfl (h1.row _) Tryz.underlying116 rfl (bT _ hzr)) rfl ⟨r,hr,rfl,?_⟩;exact below_setRow hbel (by omega) _
theorem jE {a : List Nat} {x : F} {d : Nat} (ha : EB a (gC x d)) (n : Nat) (hn : n < 300) (w : World) :
  Calls Tryz.prog 107 #[.agg (Us a).toArray,.int .i64 n] w λe w'=>∃ r,EB r (gC x (d * 2 ^ n)) /\ e = .returned (.agg (Us r).toArray) /\ Below w.heap.size w w':=by
 rw [CV];exact DZ ha n hn w
theorem PH {r : List Nat} {x : F} (h : EB r (gC x ((1267650600228229401496703205375 * 2 ^ 100 + 1267650600228229401496703205375) * 2 ^ 50 + 1125899906842623))) : EB r (gC x (2 ^ 250 - 1)):=by
 rw [show (2 : Nat) ^ 250 - 1 = ((1267650600228229401496703205375 * 2 ^ 100 + 1267650600228229401496703205375) * 2 ^ 50 + 1125899906842623) from by decide];exact h
theorem J9 {r : List Nat} {x : F} (h : EB r (gC (gC x (2 ^ 250 - 1)) (2 ^ 2) * x)) : EB r (gC x (2 ^ 252 - 3)):=by
 rw [show (2 : Nat) ^ 252 - 3 = (2 ^ 250 - 1) * 2 ^ 2 + 1 from by decide,iG,CV];exact h
theorem PG {a : List Nat} {x : F} (hA1 : EB a x) (w : World) :
  Calls Tryz.prog 108 #[.agg (Us a).toArray] w λe w'=>∃ r,EB r (gC x (2 ^ 250 - 1)) /\ e = .returned (.agg (Us r).toArray) /\ Below w.heap.size w w':=by
 have hA : EB a (gC x 1):=by rw [zL]; exact hA1
 go_enter Tryz.func108,Tryz.ntmps108
 refine wp_seq_k λK hK=>?_;refine wp_region_lit ?_;refine kI (Us a).toArray rfl rfl rfl ?_;refine dV (zs:=z5) rfl rfl (by kernel_rfl) ?_;refine dX ?_
 go_simp
 refine hK _ _ ?_;clear hK K
 refine p9 (λW=>Blk W w.heap.size 116 (Us a).toArray /\ Blk W (w.heap.size + 1) 116 z5 /\ Below w.heap.size w W)
  ⟨heap_alloc2_old w _ _,heap_alloc2_new w _ _,((Below.refl _ _).alloc (aH _) _).alloc (by simp) _⟩ ?_
 rintro W ⟨ha,ho,hbe⟩
 -- walk ones
 refine wp_seq_k λK hK=>?_;refine nF 4 3 116 (.tmp 14) z5 rfl rfl rfl rfl rfl rfl rfl (by kernel_rfl) (cJ (by kernel_rfl)) (by kernel_rfl) (λ_ _ d _ _ h=>by cases d <;> exact h) (dE rfl (by kernel_rfl)) ?_;simp only [a6,bP];refine gO w.heap.size hA.len _ rfl rfl rfl (λ_ h=>h.blk ha) ?_;simp only [aG,aA,aB,aC];refine iX rfl fT (λw1 _=>jE hA 1 (by omega) w1) rfl rfl ?_
 intro r1 v1
 simp only [aG,aA,aB,aC];refine gO w.heap.size hA.len _ rfl rfl rfl (λ_ h=>h.blk ha) ?_;simp only [aG,aA,aB,aC];refine iX rfl bO (λw1 _=>lJ v1 hA w1) rfl rfl ?_
 intro r2 v2
 simp only [aG,aA,aB,aC];refine cQ ⟨(Us r2).toArray,λ_=>rfl,λ_=>rfl,(cG v2.len).symm,bT _ (cG v2.len),cO _,λgtwo W1 hgtwo hw1 hbtwo=>?_⟩;simp only [Exit.then,aG,aA,aB,aC];refine hK _ _ ?_;clear hK K;have ha:=hw1.blk ha;have ho:=hw1.blk ho;have hbe:=bA hbe hw1;clear hw1;have v2 : EB r2 (gC x 3):=v2;refine wp_seq_k λK hK=>?_;refine nF 4 4 116 (.tmp 18) z5 rfl rfl rfl rfl rfl rfl rfl (by kernel_rfl) (cJ (by kernel_rfl)) (by kernel_rfl) (λ_ _ d _ _ h=>by cases d <;> exact h) (dE rfl (by kernel_rfl)) ?_;simp only [a6,bP];refine gO gtwo v2.len _ rfl rfl rfl (λ_ h=>h.blk hbtwo) ?_;simp only [aG,aA,aB,aC];refine iX rfl fT (λw1 _=>jE v2 2 (by omega) w1) rfl rfl ?_
 intro r3 v3
 simp only [aG,aA,aB,aC];refine gO gtwo v2.len _ rfl rfl rfl (λ_ h=>h.blk hbtwo) ?_;simp only [aG,aA,aB,aC];refine iX rfl bO (λw1 _=>lJ v3 v2 w1) rfl rfl ?_
 intro r4 v4
 simp only [aG,aA,aB,aC];refine cQ ⟨(Us r4).toArray,λ_=>rfl,λ_=>rfl,(cG v4.len).symm,bT _ (cG v4.len),cO _,λgfour W1 hgfour hw1 hbfour=>?_⟩;simp only [Exit.then,aG,aA,aB,aC];refine hK _ _ ?_;clear hK K;have ha:=hw1.blk ha;have hbtwo:=hw1.blk hbtwo;have ho:=hw1.blk ho;have hbe:=bA hbe hw1;clear hw1;have v4 : EB r4 (gC x 15):=v4;refine wp_seq_k λK hK=>?_;refine nF 4 5 116 (.tmp 22) z5 rfl rfl rfl rfl rfl rfl rfl (by kernel_rfl) (cJ (by kernel_rfl)) (by kernel_rfl) (λ_ _ d _ _ h=>by cases d <;> exact h) (dE rfl (by kernel_rfl)) ?_;simp only [a6,bP];refine gO gfour v4.len _ rfl rfl rfl (λ_ h=>h.blk hbfour) ?_;simp only [aG,aA,aB,aC];refine iX rfl fT (λw1 _=>jE v4 1 (by omega) w1) rfl rfl ?_
 intro r5 v5
 simp only [aG,aA,aB,aC];refine gO w.heap.size hA.len _ rfl rfl rfl (λ_ h=>h.blk ha) ?_;simp only [aG,aA,aB,aC];refine iX rfl bO (λw1 _=>lJ v5 hA w1) rfl rfl ?_
 intro r6 v6
 simp only [aG,aA,aB,aC];refine cQ ⟨(Us r6).toArray,λ_=>rfl,λ_=>rfl,(cG v6.len).symm,bT _ (cG v6.len),cO _,λgfive W1 hgfive hw1 hbfive=>?_⟩;simp only [Exit.then,aG,aA,aB,aC];refine hK _ _ ?_;clear hK K;have ha:=hw1.blk ha;have hbtwo:=hw1.blk hbtwo;have hbfour:=hw1.blk hbfour;have ho:=hw1.blk ho;have hbe:=bA hbe hw1;clear hw1;have v6 : EB r6 (gC x 31):=v6;refine wp_seq_k λK hK=>?_;refine nF 4 6 116 (.tmp 26) z5 rfl rfl rfl rfl rfl rfl rfl (by kernel_rfl) (cJ (by kernel_rfl)) (by kernel_rfl) (λ_ _ d _ _ h=>by cases d <;> exact h) (dE rfl (by kernel_rfl)) ?_;simp only [a6,bP];refine gO gfive v6.len _ rfl rfl rfl (λ_ h=>h.blk hbfive) ?_;simp only [aG,aA,aB,aC];refine iX rfl fT (λw1 _=>jE v6 5 (by omega) w1) rfl rfl ?_
 intro r7 v7
 simp only [aG,aA,aB,aC];refine gO gfive v6.len _ rfl rfl rfl (λ_ h=>h.blk hbfive) ?_;simp only [aG,aA,aB,aC];refine iX rfl bO (λw1 _=>lJ v7 v6 w1) rfl rfl ?_
 intro r8 v8
 simp only [aG,aA,aB,aC];refine cQ ⟨(Us r8).toArray,λ_=>rfl,λ_=>rfl,(cG v8.len).symm,bT _ (cG v8.len),cO _,λgten W1 hgten hw1 hbten=>?_⟩;simp only [Exit.then,aG,aA,aB,aC];refine hK _ _ ?_;clear hK K;have ha:=hw1.blk ha;have hbtwo:=hw1.blk hbtwo;have hbfour:=hw1.blk hbfour;have hbfive:=hw1.blk hbfive;have ho:=hw1.blk ho;have hbe:=bA hbe hw1;clear hw1;have v8 : EB r8 (gC x 1023):=v8;refine wp_seq_k λK hK=>?_;refine nF 4 7 116 (.tmp 30) z5 rfl rfl rfl rfl rfl rfl rfl (by kernel_rfl) (cJ (by kernel_rfl)) (by kernel_rfl) (λ_ _ d _ _ h=>by cases d <;> exact h) (dE rfl (by kernel_rfl)) ?_;simp only [a6,bP];refine gO gten v8.len _ rfl rfl rfl (λ_ h=>h.blk hbten) ?_;simp only [aG,aA,aB,aC];refine iX rfl fT (λw1 _=>jE v8 10 (by omega) w1) rfl rfl ?_
 intro r9 v9
 simp only [aG,aA,aB,aC];refine gO gten v8.len _ rfl rfl rfl (λ_ h=>h.blk hbten) ?_;simp only [aG,aA,aB,aC];refine iX rfl bO (λw1 _=>lJ v9 v8 w1) rfl rfl ?_
 intro r10 v10
 simp only [aG,aA,aB,aC];refine cQ ⟨(Us r10).toArray,λ_=>rfl,λ_=>rfl,(cG v10.len).symm,bT _ (cG v10.len),cO _,λgtwenty W1 hgtwenty hw1 hbtwenty=>?_⟩;simp only [Exit.then,aG,aA,aB,aC];refine hK _ _ ?_;clear hK K;have ha:=hw1.blk ha;have hbtwo:=hw1.blk hbtwo;have hbfour:=hw1.blk hbfour;have hbfive:=hw1.blk hbfive;have hbten:=hw1.blk hbten;have ho:=hw1.blk ho;have hbe:=bA hbe hw1;clear hw1;have v10 : EB r10 (gC x 1048575):=v10;refine wp_seq_k λK hK=>?_;refine nF 4 8 116 (.tmp 34) z5 rfl rfl rfl rfl rfl rfl rfl (by kernel_rfl) (cJ (by kernel_rfl)) (by kernel_rfl) (λ_ _ d _ _ h=>by cases d <;> exact h) (dE rfl (by kernel_rfl)) ?_;simp only [a6,bP];refine gO gtwenty v10.len _ rfl rfl rfl (λ_ h=>h.blk hbtwenty) ?_;simp only [aG,aA,aB,aC];refine iX rfl fT (λw1 _=>jE v10 20 (by omega) w1) rfl rfl ?_
 intro r11 v11
 simp only [aG,aA,aB,aC];refine gO gtwenty v10.len _ rfl rfl rfl (λ_ h=>h.blk hbtwenty) ?_;simp only [aG,aA,aB,aC];refine iX rfl bO (λw1 _=>lJ v11 v10 w1) rfl rfl ?_
 intro r12 v12
 simp only [aG,aA,aB,aC];refine cQ ⟨(Us r12).toArray,λ_=>rfl,λ_=>rfl,(cG v12.len).symm,bT _ (cG v12.len),cO _,λgforty W1 hgforty hw1 hbforty=>?_⟩;simp only [Exit.then,aG,aA,aB,aC];refine hK _ _ ?_;clear hK K;have ha:=hw1.blk ha;have hbtwo:=hw1.blk hbtwo;have hbfour:=hw1.blk hbfour;have hbfive:=hw1.blk hbfive;have hbten:=hw1.blk hbten;have hbtwenty:=hw1.blk hbtwenty;have ho:=hw1.blk ho;have hbe:=bA hbe hw1;clear hw1;have v12 : EB r12 (gC x 1099511627775):=v12;refine wp_seq_k λK hK=>?_;refine nF 4 9 116 (.tmp 38) z5 rfl rfl rfl rfl rfl rfl rfl (by kernel_rfl) (cJ (by kernel_rfl)) (by kernel_rfl) (λ_ _ d _ _ h=>by cases d <;> exact h) (dE rfl (by kernel_rfl)) ?_;simp only [a6,bP];refine gO gforty v12.len _ rfl rfl rfl (λ_ h=>h.blk hbforty) ?_;simp only [aG,aA,aB,aC];refine iX rfl fT (λw1 _=>jE v12 10 (by omega) w1) rfl rfl ?_
 intro r13 v13
 simp only [aG,aA,aB,aC];refine gO gten v8.len _ rfl rfl rfl (λ_ h=>h.blk hbten) ?_;simp only [aG,aA,aB,aC];refine iX rfl bO (λw1 _=>lJ v13 v8 w1) rfl rfl ?_
 intro r14 v14
 simp only [aG,aA,aB,aC];refine cQ ⟨(Us r14).toArray,λ_=>rfl,λ_=>rfl,(cG v14.len).symm,bT _ (cG v14.len),cO _,λgfifty W1 hgfifty hw1 hbfifty=>?_⟩;simp only [Exit.then,aG,aA,aB,aC];refine hK _ _ ?_;clear hK K;have ha:=hw1.blk ha;have hbtwo:=hw1.blk hbtwo;have hbfour:=hw1.blk hbfour;have hbfive:=hw1.blk hbfive;have hbten:=hw1.blk hbten;have hbtwenty:=hw1.blk hbtwenty;have hbforty:=hw1.blk hbforty;have ho:=hw1.blk ho;have hbe:=bA hbe hw1;clear hw1;have v14 : EB r14 (gC x 1125899906842623):=v14;refine wp_seq_k λK hK=>?_;refine nF 4 10 116 (.tmp 42) z5 rfl rfl rfl rfl rfl rfl rfl (by kernel_rfl) (cJ (by kernel_rfl)) (by kernel_rfl) (λ_ _ d _ _ h=>by cases d <;> exact h) (dE rfl (by kernel_rfl)) ?_;simp only [a6,bP];refine gO gfifty v14.len _ rfl rfl rfl (λ_ h=>h.blk hbfifty) ?_;simp only [aG,aA,aB,aC];refine iX rfl fT (λw1 _=>jE v14 50 (by omega) w1) rfl rfl ?_
 intro r15 v15
 simp only [aG,aA,aB,aC];refine gO gfifty v14.len _ rfl rfl rfl (λ_ h=>h.blk hbfifty) ?_;simp only [aG,aA,aB,aC];refine iX rfl bO (λw1 _=>lJ v15 v14 w1) rfl rfl ?_
 intro r16 v16
 simp only [aG,aA,aB,aC];refine cQ ⟨(Us r16).toArray,λ_=>rfl,λ_=>rfl,(cG v16.len).symm,bT _ (cG v16.len),cO _,λghundred W1 hghundred hw1 hbhundred=>?_⟩;simp only [Exit.then,aG,aA,aB,aC];refine hK _ _ ?_;clear hK K;have ha:=hw1.blk ha;have hbtwo:=hw1.blk hbtwo;have hbfour:=hw1.blk hbfour;have hbfive:=hw1.blk hbfive;have hbten:=hw1.blk hbten;have hbtwenty:=hw1.blk hbtwenty;have hbforty:=hw1.blk hbforty;have hbfifty:=hw1.blk hbfifty;have ho:=hw1.blk ho;have hbe:=bA hbe hw1;clear hw1;have v16 : EB r16 (gC x 1267650600228229401496703205375):=v16;refine wp_seq_k λK hK=>?_;refine vZ 7 (.tmp 2) 116 (.tmp 49) rfl rfl rfl rfl (by kernel_rfl) (cJ (by kernel_rfl)) (λ_ _ d _ _ h=>by cases d <;> exact h) ?_;simp only [a6,bP];refine gO ghundred v16.len _ rfl rfl rfl (λ_ h=>h.blk hbhundred) ?_;simp only [aG,aA,aB,aC];refine iX rfl fT (λw1 _=>jE v16 100 (by omega) w1) rfl rfl ?_
 intro r17 v17
 simp only [aG,aA,aB,aC];refine gO ghundred v16.len _ rfl rfl rfl (λ_ h=>h.blk hbhundred) ?_;simp only [aG,aA,aB,aC];refine iX rfl bO (λw1 _=>lJ v17 v16 w1) rfl rfl ?_
 intro r18 v18
 simp only [aG,aA,aB,aC];refine iX rfl fT (λw1 _=>jE v18 50 (by omega) w1) rfl rfl ?_
 intro r19 v19
 simp only [aG,aA,aB,aC];refine gO gfifty v14.len _ rfl rfl rfl (λ_ h=>h.blk hbfifty) ?_;simp only [aG,aA,aB,aC];refine iX rfl bO (λw1 _=>lJ v19 v14 w1) rfl rfl ?_
 intro r20 v20
 simp only [aG,aA,aB,aC];refine cQ ⟨(w.heap.size + 1),_,_,rfl,rfl,ho,(cG v20.len).symm,bT _ (cG v20.len),cO _,λW1 hw1=>?_⟩;simp only [Exit.then];refine hK _ _ ?_;clear hK K;have ho:=hw1.blk ho;have hbe:=bA hbe hw1;refine wp_ret ?_;refine bodyPost_ret (results_cell_row rfl _ _ (w.heap.size + 1) 116 (Us r20).toArray (0,0) _ rfl (ho.row _) Tryz.underlying116 rfl (bT _ (cG v20.len))) rfl ⟨r20,PH v20,rfl,?_⟩;exact below_setRow hbe (by omega) _
 -- end ones
theorem Q0 {a : List Nat} {x : F} (hA : EB a x) (w : World) :
  Calls Tryz.prog 115 #[.agg (Us a).toArray] w λe w'=>∃ r,EB r (gC x (2 ^ 252 - 3)) /\ e = .returned (.agg (Us r).toArray) /\ Below w.heap.size w w':=by
 go_enter Tryz.func115,Tryz.ntmps115
 refine wp_seq_k λK hK=>?_;refine wp_region_lit ?_;refine kI (Us a).toArray rfl rfl rfl ?_;refine dV (zs:=z5) rfl rfl (by kernel_rfl) ?_;refine dX ?_
 go_simp
 refine hK _ _ ?_;clear hK K
 refine p9 (λW=>Blk W w.heap.size 116 (Us a).toArray /\ Blk W (w.heap.size + 1) 116 z5 /\ Below w.heap.size w W)
  ⟨heap_alloc2_old w _ _,heap_alloc2_new w _ _,((Below.refl _ _).alloc (aH _) _).alloc (by simp) _⟩ ?_
 rintro W ⟨ha,ho,hbe⟩
 -- walk eighth
 refine wp_seq_k λK hK=>?_;refine vZ 5 (.tmp 2) 116 (.tmp 7) rfl rfl rfl rfl (by kernel_rfl) (cJ (by kernel_rfl)) (λ_ _ d _ _ h=>by cases d <;> exact h) ?_;simp only [a6,bP];refine gO w.heap.size hA.len _ rfl rfl rfl (λ_ h=>h.blk ha) ?_;simp only [aG,aA,aB,aC];refine iX rfl Hf (λw1 _=>PG hA w1) rfl rfl ?_
 intro r1 v1
 simp only [aG,aA,aB,aC];refine iX rfl fT (λw1 _=>DZ v1 2 (by omega) w1) rfl rfl ?_
 intro r2 v2
 simp only [aG,aA,aB,aC];refine gO w.heap.size hA.len _ rfl rfl rfl (λ_ h=>h.blk ha) ?_;simp only [aG,aA,aB,aC];refine iX rfl bO (λw1 _=>dF v2 hA w1) rfl rfl ?_
 intro r3 v3
 simp only [aG,aA,aB,aC];refine cQ ⟨(w.heap.size + 1),_,_,rfl,rfl,ho,(cG v3.len).symm,bT _ (cG v3.len),cO _,λW1 hw1=>?_⟩;simp only [Exit.then];refine hK _ _ ?_;clear hK K;have ho:=hw1.blk ho;have hbe:=bA hbe hw1;refine wp_ret ?_;refine bodyPost_ret (results_cell_row rfl _ _ (w.heap.size + 1) 116 (Us r3).toArray (0,0) _ rfl (ho.row _) Tryz.underlying116 rfl (bT _ (cG v3.len))) rfl ⟨r3,J9 v3,rfl,?_⟩;exact below_setRow hbe (by omega) _
 -- end eighth
theorem Tz {r : List Nat} {x : F} (h : EB r (gC x ((2 ^ 250 - 1) * 2 ^ 5 + ((1 + 1) * 2 ^ 2 + (1 + 1) + 1)))) : EB r (lE x):=by
 unfold lE
 rw [show p - 2 = (2 ^ 250 - 1) * 2 ^ 5 + ((1 + 1) * 2 ^ 2 + (1 + 1) + 1) from by decide];exact h
theorem T0 {a : List Nat} {x : F} (hA1 : EB a x) (w : World) :
  Calls Tryz.prog 89 #[.agg (Us a).toArray] w λe w'=>∃ r,EB r (lE x) /\ e = .returned (.agg (Us r).toArray) /\ Below w.heap.size w w':=by
 have hA : EB a (gC x 1):=by rw [zL]; exact hA1
 go_enter Tryz.func89,Tryz.ntmps89
 refine wp_seq_k λK hK=>?_;refine wp_region_lit ?_;refine kI (Us a).toArray rfl rfl rfl ?_;refine dV (zs:=z5) rfl rfl (by kernel_rfl) ?_;refine dX ?_
 go_simp
 refine hK _ _ ?_;clear hK K
 refine p9 (λW=>Blk W w.heap.size 116 (Us a).toArray /\ Blk W (w.heap.size + 1) 116 z5 /\ Below w.heap.size w W)
  ⟨heap_alloc2_old w _ _,heap_alloc2_new w _ _,((Below.refl _ _).alloc (aH _) _).alloc (by simp) _⟩ ?_
 rintro W ⟨ha,ho,hbe⟩
 -- walk inv
 refine wp_seq_k λK hK=>?_;refine sE 3 3 116 (.tmp 7) z5 rfl rfl rfl rfl rfl rfl rfl (dE rfl (by kernel_rfl)) ?_;simp only [a6,bP];refine gO w.heap.size hA.len _ rfl rfl rfl (λ_ h=>h.blk ha) ?_;simp only [aG,aA,aB,aC];refine gO w.heap.size hA.len _ rfl rfl rfl (λ_ h=>h.blk ha) ?_;simp only [aG,aA,aB,aC];refine iX rfl bO (λw1 _=>lJ hA hA w1) rfl rfl ?_
 intro r1 v1
 simp only [aG,aA,aB,aC];refine cQ ⟨(Us r1).toArray,λ_=>rfl,λ_=>rfl,(cG v1.len).symm,bT _ (cG v1.len),cO _,λgtwo W1 hgtwo hw1 hbtwo=>?_⟩;simp only [Exit.then,aG,aA,aB,aC];refine hK _ _ ?_;clear hK K;have ha:=hw1.blk ha;have ho:=hw1.blk ho;have hbe:=bA hbe hw1;clear hw1;refine wp_seq_k λK hK=>?_;refine nF 6 4 116 (.tmp 13) z5 rfl rfl rfl rfl rfl rfl rfl (by kernel_rfl) (cJ (by kernel_rfl)) (by kernel_rfl) (λ_ _ d _ _ h=>by cases d <;> exact h) (dE rfl (by kernel_rfl)) ?_;simp only [a6,bP];refine gO gtwo v1.len _ rfl rfl rfl (λ_ h=>h.blk hbtwo) ?_;simp only [aG,aA,aB,aC];refine iX rfl fT (λw1 _=>jE v1 2 (by omega) w1) rfl rfl ?_
 intro r2 v2
 simp only [aG,aA,aB,aC];refine gO gtwo v1.len _ rfl rfl rfl (λ_ h=>h.blk hbtwo) ?_;simp only [aG,aA,aB,aC];refine iX rfl bO (λw1 _=>lJ v2 v1 w1) rfl rfl ?_
 intro r3 v3
 simp only [aG,aA,aB,aC];refine gO w.heap.size hA.len _ rfl rfl rfl (λ_ h=>h.blk ha) ?_;simp only [aG,aA,aB,aC];refine iX rfl bO (λw1 _=>lJ v3 hA w1) rfl rfl ?_
 intro r4 v4
 simp only [aG,aA,aB,aC];refine cQ ⟨(Us r4).toArray,λ_=>rfl,λ_=>rfl,(cG v4.len).symm,bT _ (cG v4.len),cO _,λgeleven W1 hgeleven hw1 hbeleven=>?_⟩;simp only [Exit.then,aG,aA,aB,aC];refine hK _ _ ?_;clear hK K;have ha:=hw1.blk ha;have hbtwo:=hw1.blk hbtwo;have ho:=hw1.blk ho;have hbe:=bA hbe hw1;clear hw1;refine wp_seq_k λK hK=>?_;refine vZ 5 (.tmp 2) 116 (.tmp 18) rfl rfl rfl rfl (by kernel_rfl) (cJ (by kernel_rfl)) (λ_ _ d _ _ h=>by cases d <;> exact h) ?_;simp only [a6,bP];refine gO w.heap.size hA.len _ rfl rfl rfl (λ_ h=>h.blk ha) ?_;simp only [aG,aA,aB,aC];refine iX rfl Hf (λw1 _=>PG hA1 w1) rfl rfl ?_
 intro r90 v90
 simp only [aG,aA,aB,aC];refine iX rfl fT (λw1 _=>jE v90 5 (by omega) w1) rfl rfl ?_
 intro r91 v91
 simp only [aG,aA,aB,aC];refine gO geleven v4.len _ rfl rfl rfl (λ_ h=>h.blk hbeleven) ?_;simp only [aG,aA,aB,aC];refine iX rfl bO (λw1 _=>lJ v91 v4 w1) rfl rfl ?_
 intro r92 v92
 simp only [aG,aA,aB,aC];refine cQ ⟨(w.heap.size + 1),_,_,rfl,rfl,ho,(cG v92.len).symm,bT _ (cG v92.len),cO _,λW1 hw1=>?_⟩;simp only [Exit.then];refine hK _ _ ?_;clear hK K;have ho:=hw1.blk ho;have hbe:=bA hbe hw1;refine wp_ret ?_;refine bodyPost_ret (results_cell_row rfl _ _ (w.heap.size + 1) 116 (Us r92).toArray (0,0) _ rfl (ho.row _) Tryz.underlying116 rfl (bT _ (cG v92.len))) rfl ⟨r92,Tz v92,rfl,?_⟩;exact below_setRow hbe (by omega) _
 -- end inv
theorem V6 : (Tryz.prog.info? 48).map (λi=>(i.zero,i.size,i.bytes)) = some (some (.int .u64 0),1,8):=by kernel_rfl
theorem G6 (w : World) (l : List Nat) (i : Nat) (hi : i < l.length) : (part 48 (Us l).toArray (i * 1)).run Tryz.prog w = .ok (.int .u64 (l[i] : Nat)) w:=by
 have hagg : (isAgg 48).run Tryz.prog w = .ok false w:=by
  unfold isAgg
  rw [aJ,run_underlying Tryz.underlying48 w]
  rfl
 have hc : (Us l)[i]? = some (.int .u64 (l[i] : Nat)):=by simp [Us,List.getElem?_eq_getElem hi]
 unfold part
 simp [aJ,hagg,hc,aK]
theorem Te (d x y : Nat) (w : World) : (fH (d + 1) 48 (.int .u64 (x : Int)) (.int .u64 (y : Int))).run Tryz.prog w = .ok (decide (x = y)) w:=by
 simp [fH,run_underlying Tryz.underlying48]
 by_cases h : x = y
 ·simp [h]
 ·simp [h]
  omega
theorem xD (d n t : Nat) (l m : List Nat) (ht : Tryz.prog.underlying t = some (.array n 48)) (hl : l.length = n) (hm : m.length = n) (w : World) :
  (fH (d + 2) t (.agg (Us l).toArray) (.agg (Us m).toArray)).run Tryz.prog w = .ok (decide (l = m)) w:=by
 obtain ⟨i0,hi0,hz0,hz1,hz2⟩:=info_parts V6
 have hI : ∀ (I : List Nat),(∀ i ∈ I,i < n) -> (forIn I ((none : Option Bool),()) λi _=>do
   let a <-part 48 (Us l).toArray (i * 1)
   let b <-part 48 (Us m).toArray (i * 1)
   let r <-fH (d + 1) 48 a b
   if (!r) = true then pure (ForInStep.done (some false,())) else pure (ForInStep.yield (none,()))).run Tryz.prog w = .ok (if ∀ i ∈ I,l[i]! = m[i]! then (none,()) else (some false,())) w:=by
  intro I
  induction I with
  | nil=>intro _; simp [aK]
  | cons i I ih =>
   intro h
   have hi : i < l.length:=by have:=h i (by simp); omega
   have hj : i < m.length:=by have:=h i (by simp); omega
   have hp:=G6 w l i hi;have hq:=G6 w m i hj;have he:=Te d l[i] m[i] w;have e1 : l[i]! = l[i]:=getElem!_pos l i hi;have e2 : m[i]! = m[i]:=getElem!_pos m i hj
   by_cases hx : l[i] = m[i]
   ·rw [show decide (l[i] = m[i]) = true by simp [hx]] at he
    simp only [NG,aJ,hp,hq,aF,he,Bool.not_true,Bool.false_eq_true,if_false,aK];rw [ih (λj hj=>h j (by simp [hj]))]
    congr 1
    by_cases ha : ∀ i ∈ I,l[i]! = m[i]!
    ·have hb : ∀ j ∈ i :: I,l[j]! = m[j]!:=by
      intro j hj
      rcases List.mem_cons.mp hj with rfl | hj
      ·rw [e1,e2,hx]
      ·exact ha j hj
     rw [if_pos ha,if_pos hb]
    ·rw [if_neg ha,if_neg (λhb=>ha λj hj=>hb j (bL _ hj))]
   ·rw [show decide (l[i] = m[i]) = false by simp [hx]] at he
    simp only [NG,aJ,hp,hq,aF,he,Bool.not_false,if_true,aK];rw [if_neg (λhb=>hx (by have:=hb i (cB ..); rw [e1,e2] at this; exact this))]
 rw [fH];simp only [aJ,run_underlying ht,aF,sizeOf,typeInfo,run_program,hi0,hz1,aK,Std.Legacy.Range.forIn_eq_forIn_range']
 rw [hI _ (λi hi=>by
  have:=oA.1 hi
  simp [jS] at this
  omega)]
 by_cases hlm : l = m
 ·subst hlm
  simp [aK]
 ·have hne : ¬ ∀ i ∈ List.range' 0 n 1,l[i]! = m[i]!:=λha=>hlm (by
   apply List.ext_getElem (by rw [hl,hm])
   intro i h1 h2
   have:=ha i (oA.2 (by omega))
   rwa [getElem!_pos l i h1,getElem!_pos m i h2] at this)
  have hs : jS [:n] = n:=by simp [jS]
  rw [hs,if_neg hne,show decide (l = m) = false by simp [hlm]]
  rfl
theorem Cr (w : World) (l : List Nat) (hl : l.length = 5) : (part 114 (Us l).toArray 0).run Tryz.prog w = .ok (.agg (Us l).toArray) w:=by
 have hagg : (isAgg 114).run Tryz.prog w = .ok true w:=by
  unfold isAgg
  rw [aJ,run_underlying Tryz.underlying114 w]
  rfl
 have hs : (sizeOf 114).run Tryz.prog w = .ok 5 w:=by kernel_rfl
 have he : (Us l).toArray.extract 0 (0 + 5) = (Us l).toArray:=by
  apply Array.ext'
  simp only [List.extract_toArray,List.extract_eq_take_drop,Nat.zero_add,Nat.sub_zero,List.drop_zero];exact bW (by rw [dB,hl]; exact aH _)
 unfold part
 simp only [aJ,hagg,aF,if_true,hs,aK,he]
theorem E6 (l : List Nat) (hl : l.length = 5) (w : World) : (NP 116 (.agg (Us l).toArray) 0).run Tryz.prog w = .ok (.agg (Us l).toArray) w:=by
 have hp:=Cr w l hl
 unfold NP
 simp only [aJ,run_underlying Tryz.underlying116,aF];exact hp
theorem QU (l m : List Nat) (hl : l.length = 5) (hm : m.length = 5) (w : World) :
  (fH 10000 116 (.agg (Us l).toArray) (.agg (Us m).toArray)).run Tryz.prog w = .ok (decide (l = m)) w:=by
 have he:=xD 9997 5 114 l m Tryz.underlying114 hl hm w
 have hst : Tryz.prog.stoodInHeld 116 = false:=by kernel_rfl
 rw [fH];simp only [aJ,run_underlying Tryz.underlying116,aF,run_program,hst];have he' : (fH 9999 114 (.agg (Us l).toArray) (.agg (Us m).toArray)).run Tryz.prog w = .ok (decide (l = m)) w:=he;rw [if_neg (by decide)];have hp:=Cr w l hl;have hq:=Cr w m hm;generalize decide (l = m) = q at *
 cases q <;> simp [aJ,hp,hq,he',aK]
theorem PZ : ∀ {a b : List Nat},a.length = b.length -> (∀ y ∈ a,y < 2251799813685248) -> (∀ y ∈ b,y < 2251799813685248) -> lv a = lv b -> a = b
 | [],[],_,_,_,_=>rfl
 | x :: a,y :: b,hl,ha,hb,h=>by
  have h1:=ha x (cB ..);have h2:=hb y (cB ..);have h3 : x + 2251799813685248 * lv a = y + 2251799813685248 * lv b:=h
  have h4 : x = y:=by omega
  have h5 : lv a = lv b:=by omega
  rw [h4,PZ (by simpa using hl) (λz hz=>ha z (bL _ hz)) (λz hz=>hb z (bL _ hz)) h5]
theorem Me {a b : List Nat} {x y : F} (ha : EB a x) (hb : EB b y) : whole a = whole b ↔ x = y:=by
 obtain ⟨l1,b1,v1⟩:=oD ha;obtain ⟨l2,b2,v2⟩:=oD hb
 constructor
 ·intro h
  apply Fin.ext
  rw [<-v1,<-v2,h]
 ·rintro rfl
  exact PZ (by rw [l1,l2]) b1 b2 (by rw [v1,v2])
theorem Ty {a b : List Nat} {x y : F} (ha : EB a x) (hb : EB b y) (w : World) :
  Calls Tryz.prog 114 #[.agg (Us a).toArray,.agg (Us b).toArray] w λe w'=>e = .returned (.bool (decide (x = y))) /\ Below w.heap.size w w':=by
 have hq : decide (x = y) = decide (whole a = whole b):=decide_eq_decide.2 (Me ha hb).symm;rw [hq];clear hq;have l1:=(oD ha).1;have l2:=(oD hb).1;have hE:=λw1=>QU (whole a) (whole b) l1 l2 w1;have H1:=λw1=>BF ha w1;have H2:=λw1=>BF hb w1;generalize decide (whole a = whole b) = q at *;generalize whole a = u at *;generalize whole b = v at *;have hza:=ha.len;have hzb:=hb.len;have h0 : Blk ((w.alloc (gZ (Us a).toArray 116)).alloc (gZ (Us b).toArray 116)) w.heap.size 116 (Us a).toArray:=heap_alloc2_old w _ _;have h1 : Blk ((w.alloc (gZ (Us a).toArray 116)).alloc (gZ (Us b).toArray 116)) (w.heap.size + 1) 116 (Us b).toArray:=heap_alloc2_new w _ _;have hbel : Below w.heap.size w ((w.alloc (gZ (Us a).toArray 116)).alloc (gZ (Us b).toArray 116)):=((Below.refl _ _).alloc (aH _) _).alloc (by simp) _;clear ha hb
 go_enter Tryz.func114,Tryz.ntmps114
 go_wp2
 refine yW (by kernel_rfl) (cJ (by kernel_rfl)) (λ_ _ d _ _ h=>by cases d <;> exact h) ?_;refine gO w.heap.size hza _ rfl rfl rfl (λ_ h=>h.blk h0) ?_; simp only [aG,aA,aB,aC];refine kE rfl D9 (λw1=>H1 w1) rfl rfl ?_; simp only [aG,aA,aB,aC];refine gO (w.heap.size + 1) hzb _ rfl rfl rfl (λ_ h=>h.blk h1) ?_; simp only [aG,aA,aB,aC];refine kE rfl D9 (λw1=>H2 w1) rfl rfl ?_; simp only [aG,aA,aB,aC];refine YP (Us u).toArray (Us v).toArray rfl rfl rfl rfl (by kernel_rfl) hE ?_; simp only [aG,aA,aB,aC];refine IK rfl rfl ?_; simp only [aG,aA,aB,aC];refine cQ ?_
 intro w1 hw1
 have hb2:=bA hbel hw1
 go_wp2
 go_ret
 exact ⟨rfl,hb2⟩
theorem Md {a : List Nat} {x : F} (ha : EB a x) : (whole a)[0]! % 2 = x.val % 2:=by
 obtain ⟨l1,_,v1⟩:=oD ha;obtain ⟨a0,a1,a2,a3,a4,h⟩:=Bv l1;rw [<-v1,h,lv5]
 show a0 % 2 = _
 omega
theorem Ek {a : List Nat} {x : F} (ha : EB a x) (w : World) :
  Calls Tryz.prog 92 #[.agg (Us a).toArray] w λe w'=>e = .returned (.bool (decide (x.val % 2 = 1))) /\ Below w.heap.size w w':=by
 have ho:=Md ha;obtain ⟨l1,l2,_⟩:=oD ha;have H1:=λw1=>aL (BF ha w1);rw [<-ho];clear ho;obtain ⟨a0,a1,a2,a3,a4,h⟩:=Bv l1;rw [h] at H1 l2 ⊢;have ha0 : a0 < 2251799813685248:=l2 a0 (by simp);have e0 : (Us [a0,a1,a2,a3,a4]).toArray = #[.int .u64 (a0 : Int),.int .u64 (a1 : Int),.int .u64 (a2 : Int),.int .u64 (a3 : Int),.int .u64 (a4 : Int)]:=rfl;have e1 : [a0,a1,a2,a3,a4][0]! = a0:=rfl;rw [e1];rw [e0] at H1;have hza:=cG ha.len;have h0:=Blk.new w 116 (Us a).toArray;have hbel : Below w.heap.size w (w.alloc (gZ (Us a).toArray 116)):=(Below.refl _ _).alloc (aH _) _
 have hand : bits .and .u64 (a0 : Int) 1 = ((a0 % 2 : Nat) : Int):=by
  have h:=u64_and_nat a0 1 (by omega) (by omega);rw [nat_mask1] at h;exact h
 go_enter Tryz.func92,Tryz.ntmps92
 go_wp2_with (refine wpList_load_row rfl 116 _ rfl w.heap.size rfl 116 (Us a).toArray (0,0) _ h0 Tryz.underlying116 rfl (bT _ hza) ?_)
 refine (H1 _).out.mono ?_
 rintro e w1 ⟨rfl,hw1⟩
 have hb2:=bA hbel hw1
 have hfl : ∀ w1,(NP 116 (.agg #[.int .u64 (a0 : Int),.int .u64 (a1 : Int),.int .u64 (a2 : Int),.int .u64 (a3 : Int),.int .u64 (a4 : Int)]) 0).run Tryz.prog w1 = .ok (.agg #[.int .u64 (a0 : Int),.int .u64 (a1 : Int),.int .u64 (a2 : Int),.int .u64 (a3 : Int),.int .u64 (a4 : Int)]) w1 :=
  λw1=>E6 [a0,a1,a2,a3,a4] rfl w1
 have hix : ∀ w1,(Instr.index 114 (.agg #[.int .u64 (a0 : Int),.int .u64 (a1 : Int),.int .u64 (a2 : Int),.int .u64 (a3 : Int),.int .u64 (a4 : Int)]) (.int .i64 0)).run Tryz.prog w1 = .ok (.int .u64 (a0 : Int)) w1:=λw1=>by kernel_rfl
 have hdec : (((a0 % 2 : Nat) : Int) == 1) = decide (a0 % 2 = 1):=by
  rw [Bool.eq_iff_iff]
  simp
  omega
 generalize ha2 : a0 % 2 = m at hand;rw [ha2] at hdec;have HD:=aL (show decide (m = 1) = decide (a0 % 2 = 1) by rw [ha2]);clear ha2
 go_wp2
 go_ret
 exact ⟨congrArg (λq=>Ending.returned (jU q)) HD.out,hb2⟩
theorem Fj : Own 114:=λ_ _=>by go_simp
theorem wC : Own 92:=λ_ _=>by go_simp
theorem PD : Own 89:=λ_ _=>by go_simp
theorem Eb : Own 94:=λ_ _=>by go_simp
theorem mR : EB [0,0,0,0,0] 0:=EB.mk5 (by omega) (by omega) (by omega) (by omega) (by omega) vB
def iml : List Nat:=[1718705420411056,234908883556509,2233514472574048,2117202627021982,765476049583133]
def imf : F:=fof (lv iml)
theorem XZ : EB iml imf:=EB.mk5 (by omega) (by omega) (by omega) (by omega) (by omega) rfl
theorem V7 : imf * imf = -1:=by
 unfold imf
 rw [<-jV];have : fof (lv iml * lv iml) = fof (p - 1):=qU (by decide +kernel);rw [this,BQ (by decide),oT,show fof p = 0 from qU (a:=p) (b:=0) (by decide)];generalize (1 : F) = u
 grind only
theorem Yc (u v : F) (c : F) (hc : gC (u * (v * v * v) * (v * v * v) * v) (2 ^ 252 - 3) = c) :
  u * (v * v * v) * c * (u * (v * v * v) * c) * v = u * gC (u * (v * v * v) * (v * v * v) * v) pq:=by
 have e : pq = (2 ^ 252 - 3) + (2 ^ 252 - 3) + 1:=by decide
 rw [e,iG,sI,hc];generalize hs : u * (v * v * v) * (v * v * v) * v = s;subst hs
 grind only
theorem quarter {u v y : F} (hu : u ≠ 0) (h : v * y * y = u) :
  gC (u * (v * v * v) * (v * v * v) * v) pq = 1 \/ gC (u * (v * v * v) * (v * v * v) * v) pq = -1:=by
 have hs : u * (v * v * v) * (v * v * v) * v = (v * v * v * v * y) * (v * v * v * v * y):=by
  rw [<-h]
  grind only
 have hne : v * v * v * v * y ≠ 0:=by
  intro h0
  apply hu
  rw [<-h]
  by_cases hv : v = 0
  ·rw [hv]
   grind only
  ·have hvv:=eQ iF (eQ iF (eQ iF hv hv) hv) hv
   rcases zero_or iF h0 with h1 | h1
   ·exact absurd h1 hvv
   ·rw [h1]
    grind only
 have h2:=Ip hne;rw [<-VA,CV] at h2;rw [hs];generalize gC (v * v * v * v * y * (v * v * v * v * y)) pq = t at *
 have h3 : t * t = 1 * 1:=by
  rw [show gC t 2 = t * t from by rw [iG,zL]] at h2;rw [h2]
  grind only
 exact KY iF h3
theorem MB {u v X : F} (hX : u * (v * v * v) * gC (u * (v * v * v) * (v * v * v) * v) (2 ^ 252 - 3) = X) (h1 : ¬ X * X * v = u) (h2 : ¬ X * imf * (X * imf) * v = u) (y : F) : v * y * y ≠ u:=by
 intro h
 have hc:=Yc u v _ rfl;rw [hX] at hc
 have hu : u ≠ 0:=by
  rintro rfl
  apply h1
  rw [hc]
  grind only
 rcases quarter hu h with h3 | h3
 ·apply h1
  rw [hc,h3]
  grind only
 ·apply h2
  rw [h3] at hc;have hi:=V7;generalize imf = i at *;clear h h1 h2 hX h3 hu
  grind only
theorem D1 {u v X : F} (h : X * X * v = u) (ho : ¬ X.val % 2 = 1) : v * X * X = u /\ X.val % 2 = 0:=by
 refine ⟨?_,by omega⟩;rw [<-h]
 grind only
theorem GO {u v X : F} (h : X * X * v = u) (ho : X.val % 2 = 1) : v * (0 - X) * (0 - X) = u /\ (0 - X).val % 2 = 0:=by
 have hne : X ≠ 0:=by
  rintro rfl
  revert ho
  decide
 have e : 0 - X = -X:=by grind only
 refine ⟨?_,?_⟩
 ·rw [<-h]
  grind only
 ·rw [e,BP hne]
  omega
theorem Tw.row {w : World} (h : Tw w) {g : Nat} (hg : 2 < g) (cs : Array Value) : Tw (w.setRow g cs) where
 cell:=λi hi=>by
  have hf : (w.setRow g cs).heap[2]? = w.heap[2]?:=by
   rw [dT];simp only [Array.getElem?_modify];rw [if_neg (by omega)]
  rw [World.cell?_of_block (w:=w) (a:=⟨2,i,none⟩) hf];exact h.cell i hi
 lt:=by rw [size_setRow]; exact h.lt
theorem It {a b : List Nat} {u v : F} (hA : EB a u) (hB : EB b v) (w : World) (hT0 : Tw w) :
  Calls Tryz.prog 94 #[.agg (Us a).toArray,.agg (Us b).toArray] w λe w' =>
   ((∃ r x,EB r x /\ v ≠ 0 /\ (v * x * x = u /\ x.val % 2 = 0) /\ e = .returned (.tuple #[.agg (Us r).toArray,.bool true])) \/ ((v = 0 \/ ∀ x,v * x * x ≠ u) /\ e = .returned (.tuple #[.agg z5,.bool false]))) /\ Below w.heap.size w w':=by
 go_enter Tryz.func94,Tryz.ntmps94
 refine wp_seq_k λK hK=>?_;refine wp_region_lit ?_;refine kI (Us a).toArray rfl rfl rfl ?_;refine kI (Us b).toArray rfl rfl rfl ?_;refine dV (zs:=z5) rfl rfl (by kernel_rfl) ?_;refine jN rfl rfl ?_;refine dX ?_
 go_simp
 refine hK _ _ ?_;clear hK K
 refine p9 (λW=>Blk W w.heap.size 116 (Us a).toArray /\ Blk W (w.heap.size + 1) 116 (Us b).toArray /\ Blk W (w.heap.size + 1 + 1) 116 z5 /\ Below w.heap.size w W)
  ⟨nK w _ _ _ _,lW w _ _ _ _,mG w _ _ _ _,(((Below.refl _ _).alloc (aH _) _).alloc (by simp) _).alloc (by simp; omega) _⟩ ?_
 rintro W ⟨hu,hb,ho,hbe⟩
 have hT:=hT0.below hbe
 -- walk root
 refine wp_seq_k λK hK=>?_;refine wp_seq_k λK2 hK2=>?_;refine Fb ?_;refine gO (w.heap.size + 1) hB.len _ rfl rfl rfl (λ_ h=>h.blk hb) ?_;simp only [aG,aA,aB,aC];refine tQ [] z5 rfl rfl rfl jR ?_;simp only [aG,aA,aB,aC];refine kE rfl Fj (λw1=>Ty hB mR w1) rfl rfl ?_;simp only [aG,aA,aB,aC];refine cQ ?_
 intro W1 hw1
 simp only [Exit.then];refine hK2 _ _ ?_;clear hK2 K2;have hu:=hw1.blk hu;have hb:=hw1.blk hb;have ho:=hw1.blk ho;have hT:=hT.below hw1;have hbe:=bA hbe hw1;clear hw1
 by_cases hv : v = 0
 ·refine wp_cond (t:=true) (congrArg jU (decide_eq_true hv)) ?_
  rw [if_pos rfl];refine wp_seq_k λK3 hK3=>?_;refine wp_region_lit ?_;refine vQ [] z5 rfl rfl rfl jR ?_;simp only [aG,aA,aB,aC];refine wpList_store_row rfl 116 _ _ rfl (w.heap.size + 1 + 1) rfl z5 rfl 116 _ ho (bT _ rfl) rfl (cO _) ?_;refine jN rfl rfl ?_;refine dX ?_;simp only [Exit.then,aG,aA,aB,aC];refine hK3 _ _ ?_;refine wp_ret ?_;simp only [Exit.then];refine bodyPost_ret (results_cell_tmp rfl _ _ (w.heap.size + 1 + 1) 116 z5 (0,0) _ (.bool false) rfl rfl (ho.row _) Tryz.underlying116 rfl (bT _ rfl)) rfl ⟨.inr ⟨.inl hv,rfl⟩,?_⟩;exact below_setRow hbe (by omega) _
 ·refine wp_cond (t:=false) (congrArg jU (decide_eq_false hv)) ?_
  rw [if_neg (by decide)];refine wp_skip ?_;simp only [Exit.then];refine hK _ _ ?_;clear hK K;refine wp_seq_k λK hK=>?_;refine nF 5 6 116 (.tmp 16) z5 rfl rfl rfl rfl rfl rfl rfl (by kernel_rfl) (cJ (by kernel_rfl)) (by kernel_rfl) (λ_ _ d _ _ h=>by cases d <;> exact h) (dE rfl (by kernel_rfl)) ?_;simp only [a6,bP];refine gO (w.heap.size + 1) hB.len _ rfl rfl rfl (λ_ h=>h.blk hb) ?_;simp only [aG,aA,aB,aC];refine gO (w.heap.size + 1) hB.len _ rfl rfl rfl (λ_ h=>h.blk hb) ?_;simp only [aG,aA,aB,aC];refine iX rfl bO (λw1 _=>dF hB hB w1) rfl rfl ?_
  intro r1 v1
  simp only [aG,aA,aB,aC];refine gO (w.heap.size + 1) hB.len _ rfl rfl rfl (λ_ h=>h.blk hb) ?_;simp only [aG,aA,aB,aC];refine iX rfl bO (λw1 _=>dF v1 hB w1) rfl rfl ?_
  intro r2 v2
  simp only [aG,aA,aB,aC];refine cQ ⟨(Us r2).toArray,λ_=>rfl,λ_=>rfl,(cG v2.len).symm,bT _ (cG v2.len),cO _,λgthree W1 hgthree hw1 hbthree=>?_⟩;simp only [Exit.then,aG,aA,aB,aC];refine hK _ _ ?_;clear hK K;have hu:=hw1.blk hu;have hb:=hw1.blk hb;have ho:=hw1.blk ho;have hT:=hT.below hw1;have hbe:=bA hbe hw1;clear hw1;refine wp_seq_k λK hK=>?_;refine nF 12 7 116 (.tmp 28) z5 rfl rfl rfl rfl rfl rfl rfl (by kernel_rfl) (cJ (by kernel_rfl)) (by kernel_rfl) (λ_ _ d _ _ h=>by cases d <;> exact h) (dE rfl (by kernel_rfl)) ?_;simp only [a6,bP];refine gO w.heap.size hA.len _ rfl rfl rfl (λ_ h=>h.blk hu) ?_;simp only [aG,aA,aB,aC];refine gO gthree v2.len _ rfl rfl rfl (λ_ h=>h.blk hbthree) ?_;simp only [aG,aA,aB,aC];refine iX rfl bO (λw1 _=>dF hA v2 w1) rfl rfl ?_
  intro r3 v3
  simp only [aG,aA,aB,aC];refine gO w.heap.size hA.len _ rfl rfl rfl (λ_ h=>h.blk hu) ?_;simp only [aG,aA,aB,aC];refine gO gthree v2.len _ rfl rfl rfl (λ_ h=>h.blk hbthree) ?_;simp only [aG,aA,aB,aC];refine iX rfl bO (λw1 _=>dF hA v2 w1) rfl rfl ?_
  intro r4 v4
  simp only [aG,aA,aB,aC];refine gO gthree v2.len _ rfl rfl rfl (λ_ h=>h.blk hbthree) ?_;simp only [aG,aA,aB,aC];refine iX rfl bO (λw1 _=>dF v4 v2 w1) rfl rfl ?_
  intro r5 v5
  simp only [aG,aA,aB,aC];refine gO (w.heap.size + 1) hB.len _ rfl rfl rfl (λ_ h=>h.blk hb) ?_;simp only [aG,aA,aB,aC];refine iX rfl bO (λw1 _=>dF v5 hB w1) rfl rfl ?_
  intro r6 v6
  simp only [aG,aA,aB,aC];refine iX rfl JF (λw1 _=>Q0 v6 w1) rfl rfl ?_
  intro r7 v7
  simp only [aG,aA,aB,aC];refine iX rfl bO (λw1 _=>dF v3 v7 w1) rfl rfl ?_
  intro r8 v8
  simp only [aG,aA,aB,aC];refine cQ ⟨(Us r8).toArray,λ_=>rfl,λ_=>rfl,(cG v8.len).symm,bT _ (cG v8.len),cO _,λgx W1 hgx hw1 hbx=>?_⟩;simp only [Exit.then,aG,aA,aB,aC];refine hK _ _ ?_;clear hK K;have ne_u:=nO (bM (hu).lt hgx);have ne_v:=nO (bM (hb).lt hgx);have ne_three:=nO (bM (hbthree).lt hgx);have ne_o:=nO (bM ho.lt hgx);have hb0:=j6 hbe.size hgx;have hb1:=bM hT.lt hgx;have hu:=hw1.blk hu;have hb:=hw1.blk hb;have hbthree:=hw1.blk hbthree;have ho:=hw1.blk ho;have hT:=hT.below hw1;have hbe:=bA hbe hw1;clear hw1;generalize hX : u * (v * v * v) * gC (u * (v * v * v) * (v * v * v) * v) (2 ^ 252 - 3) = X at v8;refine wp_seq_k λK hK=>?_;refine wp_seq_k λK2 hK2=>?_;refine yW (by kernel_rfl) (cJ (by kernel_rfl)) (λ_ _ d _ _ h=>by cases d <;> exact h) ?_;refine gO gx v8.len _ rfl rfl rfl (λ_ h=>h.blk hbx) ?_;simp only [aG,aA,aB,aC];refine gO gx v8.len _ rfl rfl rfl (λ_ h=>h.blk hbx) ?_;simp only [aG,aA,aB,aC];refine iX rfl bO (λw1 _=>dF v8 v8 w1) rfl rfl ?_
  intro r9 v9
  simp only [aG,aA,aB,aC];refine gO (w.heap.size + 1) hB.len _ rfl rfl rfl (λ_ h=>h.blk hb) ?_;simp only [aG,aA,aB,aC];refine iX rfl bO (λw1 _=>dF v9 hB w1) rfl rfl ?_
  intro r10 v10
  simp only [aG,aA,aB,aC];refine gO w.heap.size hA.len _ rfl rfl rfl (λ_ h=>h.blk hu) ?_;simp only [aG,aA,aB,aC];refine kE rfl Fj (λw1=>Ty v10 hA w1) rfl rfl ?_;simp only [aG,aA,aB,aC];refine Rr _ rfl rfl rfl ?_;simp only [aG,aA,aB,aC];refine cQ ?_
  intro W1 hw1
  simp only [Exit.then];refine hK2 _ _ ?_;clear hK2 K2;have hu:=hw1.blk hu;have hb:=hw1.blk hb;have hbthree:=hw1.blk hbthree;have hbx:=hw1.blk hbx;have ho:=hw1.blk ho;have hT:=hT.below hw1;have hbe:=bA hbe hw1;clear hw1
  by_cases h1 : X * X * v = u
  ·refine wp_cond (t:=false) (congrArg jU (by rw [decide_eq_true h1]; rfl)) ?_
   rw [if_neg (by decide)];refine wp_skip ?_;simp only [Exit.then];refine hK _ _ ?_;clear hK K;refine wp_seq_k λK hK=>?_;refine wp_seq_k λK2 hK2=>?_;refine yW (by kernel_rfl) (cJ (by kernel_rfl)) (λ_ _ d _ _ h=>by cases d <;> exact h) ?_;refine gO gx v8.len _ rfl rfl rfl (λ_ h=>h.blk hbx) ?_;simp only [aG,aA,aB,aC];refine gO gx v8.len _ rfl rfl rfl (λ_ h=>h.blk hbx) ?_;simp only [aG,aA,aB,aC];refine iX rfl bO (λw1 _=>dF v8 v8 w1) rfl rfl ?_
   intro r11 v11
   simp only [aG,aA,aB,aC];refine gO (w.heap.size + 1) hB.len _ rfl rfl rfl (λ_ h=>h.blk hb) ?_;simp only [aG,aA,aB,aC];refine iX rfl bO (λw1 _=>dF v11 hB w1) rfl rfl ?_
   intro r12 v12
   simp only [aG,aA,aB,aC];refine gO w.heap.size hA.len _ rfl rfl rfl (λ_ h=>h.blk hu) ?_;simp only [aG,aA,aB,aC];refine kE rfl Fj (λw1=>Ty v12 hA w1) rfl rfl ?_;simp only [aG,aA,aB,aC];refine Rr _ rfl rfl rfl ?_;simp only [aG,aA,aB,aC];refine cQ ?_
   intro W1 hw1
   simp only [Exit.then];refine hK2 _ _ ?_;clear hK2 K2;have hu:=hw1.blk hu;have hb:=hw1.blk hb;have hbthree:=hw1.blk hbthree;have hbx:=hw1.blk hbx;have ho:=hw1.blk ho;have hT:=hT.below hw1;have hbe:=bA hbe hw1;clear hw1;refine wp_cond (t:=false) (congrArg jU (by rw [decide_eq_true h1]; rfl)) ?_;rw [if_neg (by decide)];refine wp_skip ?_;simp only [Exit.then];refine hK _ _ ?_;clear hK K;refine wp_seq_k λK hK=>?_;refine wp_seq_k λK2 hK2=>?_;refine Fb ?_;refine gO gx v8.len _ rfl rfl rfl (λ_ h=>h.blk hbx) ?_;simp only [aG,aA,aB,aC];refine kE rfl wC (λw1=>Ek v8 w1) rfl rfl ?_;simp only [aG,aA,aB,aC];refine cQ ?_
   intro W1 hw1
   simp only [Exit.then];refine hK2 _ _ ?_;clear hK2 K2;have hu:=hw1.blk hu;have hb:=hw1.blk hb;have hbthree:=hw1.blk hbthree;have hbx:=hw1.blk hbx;have ho:=hw1.blk ho;have hT:=hT.below hw1;have hbe:=bA hbe hw1;clear hw1
   by_cases ho2 : (X).val % 2 = 1
   ·refine wp_cond (t:=true) (congrArg jU (decide_eq_true ho2)) ?_
    rw [if_pos rfl];refine Cl 3 (.tmp 7) 116 (.tmp 54) rfl rfl rfl rfl ?_;simp only [a6,bP];refine tQ [] z5 rfl rfl rfl jR ?_;simp only [aG,aA,aB,aC];refine gO gx v8.len _ rfl rfl rfl (λ_ h=>h.blk hbx) ?_;simp only [aG,aA,aB,aC];refine iX rfl jF (λw1 hw=>mQ mR v8 w1 (hT.below hw)) rfl rfl ?_
    intro r13 v13
    simp only [aG,aA,aB,aC];refine cQ ⟨gx,_,_,rfl,rfl,hbx,(cG v8.len).trans (cG v13.len).symm,bT _ (cG v13.len),cO _,λW1 hw1=>?_⟩;simp only [Exit.then];refine hK _ _ ?_;clear hK K;have hu:=(hw1.blk hu).aT ne_u (g':=gx) (Us r13).toArray;have hb:=(hw1.blk hb).aT ne_v (g':=gx) (Us r13).toArray;have hbthree:=(hw1.blk hbthree).aT ne_three (g':=gx) (Us r13).toArray;have ho:=(hw1.blk ho).aT ne_o (g':=gx) (Us r13).toArray;have hbx:=(hw1.blk hbx).row (Us r13).toArray;have hT:=(hT.below hw1).row hb1 (g:=gx) (Us r13).toArray;have hbe:=below_setRow (bA hbe hw1) hb0 (Us r13).toArray;clear hw1;generalize dT _ gx (Us r13).toArray = W2 at *;refine wp_seq_k λK hK=>?_;refine wp_region_lit ?_;refine wpList_load_row rfl 116 _ rfl gx rfl 116 (Us r13).toArray (0,0) _ hbx Tryz.underlying116 rfl (bT _ (cG v13.len)) ?_;simp only [aG,aA,aB,aC];refine wpList_store_row rfl 116 _ _ rfl (w.heap.size + 1 + 1) rfl (Us r13).toArray rfl 116 _ ho (bT _ (cG v13.len)) (cG v13.len).symm (cO _) ?_;refine jN rfl rfl ?_;refine dX ?_;simp only [Exit.then,aG,aA,aB,aC];refine hK _ _ ?_;clear hK K;refine wp_ret ?_;refine bodyPost_ret (results_cell_tmp rfl _ _ (w.heap.size + 1 + 1) 116 (Us r13).toArray (0,0) _ (.bool true) rfl rfl (ho.row _) Tryz.underlying116 rfl (bT _ (cG v13.len))) rfl ⟨.inl ⟨r13,_,v13,hv,GO h1 ho2,rfl⟩,?_⟩;exact below_setRow hbe (by omega) _
   ·refine wp_cond (t:=false) (congrArg jU (decide_eq_false ho2)) ?_
    rw [if_neg (by decide)];refine wp_skip ?_;simp only [Exit.then];refine hK _ _ ?_;clear hK K;refine wp_seq_k λK hK=>?_;refine wp_region_lit ?_;refine wpList_load_row rfl 116 _ rfl gx rfl 116 (Us r8).toArray (0,0) _ hbx Tryz.underlying116 rfl (bT _ (cG v8.len)) ?_;simp only [aG,aA,aB,aC];refine wpList_store_row rfl 116 _ _ rfl (w.heap.size + 1 + 1) rfl (Us r8).toArray rfl 116 _ ho (bT _ (cG v8.len)) (cG v8.len).symm (cO _) ?_;refine jN rfl rfl ?_;refine dX ?_;simp only [Exit.then,aG,aA,aB,aC];refine hK _ _ ?_;clear hK K;refine wp_ret ?_;refine bodyPost_ret (results_cell_tmp rfl _ _ (w.heap.size + 1 + 1) 116 (Us r8).toArray (0,0) _ (.bool true) rfl rfl (ho.row _) Tryz.underlying116 rfl (bT _ (cG v8.len))) rfl ⟨.inl ⟨r8,_,v8,hv,D1 h1 ho2,rfl⟩,?_⟩;exact below_setRow hbe (by omega) _
  ·refine wp_cond (t:=true) (congrArg jU (by rw [decide_eq_false h1]; rfl)) ?_
   rw [if_pos rfl];refine Cl 4 (.tmp 7) 116 (.tmp 40) rfl rfl rfl rfl ?_;simp only [a6,bP];refine gO gx v8.len _ rfl rfl rfl (λ_ h=>h.blk hbx) ?_;simp only [aG,aA,aB,aC];refine tQ _ _ rfl rfl rfl (IG _ _ _ _ _) ?_;simp only [aG,aA,aB,aC];refine tQ _ _ rfl rfl rfl (IH _ _ _ _ _) ?_;simp only [aG,aA,aB,aC];refine iX rfl bO (λw1 _=>dF v8 XZ w1) rfl rfl ?_
   intro r11 v11
   simp only [aG,aA,aB,aC];refine cQ ⟨gx,_,_,rfl,rfl,hbx,(cG v8.len).trans (cG v11.len).symm,bT _ (cG v11.len),cO _,λW1 hw1=>?_⟩;simp only [Exit.then];refine hK _ _ ?_;clear hK K;have hu:=(hw1.blk hu).aT ne_u (g':=gx) (Us r11).toArray;have hb:=(hw1.blk hb).aT ne_v (g':=gx) (Us r11).toArray;have hbthree:=(hw1.blk hbthree).aT ne_three (g':=gx) (Us r11).toArray;have ho:=(hw1.blk ho).aT ne_o (g':=gx) (Us r11).toArray;have hbx:=(hw1.blk hbx).row (Us r11).toArray;have hT:=(hT.below hw1).row hb1 (g:=gx) (Us r11).toArray;have hbe:=below_setRow (bA hbe hw1) hb0 (Us r11).toArray;clear hw1;generalize dT _ gx (Us r11).toArray = W2 at *;refine wp_seq_k λK hK=>?_;refine wp_seq_k λK2 hK2=>?_;refine yW (by kernel_rfl) (cJ (by kernel_rfl)) (λ_ _ d _ _ h=>by cases d <;> exact h) ?_;refine gO gx v11.len _ rfl rfl rfl (λ_ h=>h.blk hbx) ?_;simp only [aG,aA,aB,aC];refine gO gx v11.len _ rfl rfl rfl (λ_ h=>h.blk hbx) ?_;simp only [aG,aA,aB,aC];refine iX rfl bO (λw1 _=>dF v11 v11 w1) rfl rfl ?_
   intro r12 v12
   simp only [aG,aA,aB,aC];refine gO (w.heap.size + 1) hB.len _ rfl rfl rfl (λ_ h=>h.blk hb) ?_;simp only [aG,aA,aB,aC];refine iX rfl bO (λw1 _=>dF v12 hB w1) rfl rfl ?_
   intro r13 v13
   simp only [aG,aA,aB,aC];refine gO w.heap.size hA.len _ rfl rfl rfl (λ_ h=>h.blk hu) ?_;simp only [aG,aA,aB,aC];refine kE rfl Fj (λw1=>Ty v13 hA w1) rfl rfl ?_;simp only [aG,aA,aB,aC];refine Rr _ rfl rfl rfl ?_;simp only [aG,aA,aB,aC];refine cQ ?_
   intro W1 hw1
   simp only [Exit.then];refine hK2 _ _ ?_;clear hK2 K2;have hu:=hw1.blk hu;have hb:=hw1.blk hb;have hbthree:=hw1.blk hbthree;have hbx:=hw1.blk hbx;have ho:=hw1.blk ho;have hT:=hT.below hw1;have hbe:=bA hbe hw1;clear hw1
   by_cases h2 : (X * imf) * ((X * imf)) * v = u
   ·refine wp_cond (t:=false) (congrArg jU (by rw [decide_eq_true h2]; rfl)) ?_
    rw [if_neg (by decide)];refine wp_skip ?_;simp only [Exit.then];refine hK _ _ ?_;clear hK K;refine wp_seq_k λK hK=>?_;refine wp_seq_k λK2 hK2=>?_;refine Fb ?_;refine gO gx v11.len _ rfl rfl rfl (λ_ h=>h.blk hbx) ?_;simp only [aG,aA,aB,aC];refine kE rfl wC (λw1=>Ek v11 w1) rfl rfl ?_;simp only [aG,aA,aB,aC];refine cQ ?_
    intro W1 hw1
    simp only [Exit.then];refine hK2 _ _ ?_;clear hK2 K2;have hu:=hw1.blk hu;have hb:=hw1.blk hb;have hbthree:=hw1.blk hbthree;have hbx:=hw1.blk hbx;have ho:=hw1.blk ho;have hT:=hT.below hw1;have hbe:=bA hbe hw1;clear hw1
    by_cases ho2 : ((X * imf)).val % 2 = 1
    ·refine wp_cond (t:=true) (congrArg jU (decide_eq_true ho2)) ?_
     rw [if_pos rfl];refine Cl 3 (.tmp 7) 116 (.tmp 54) rfl rfl rfl rfl ?_;simp only [a6,bP];refine tQ [] z5 rfl rfl rfl jR ?_;simp only [aG,aA,aB,aC];refine gO gx v11.len _ rfl rfl rfl (λ_ h=>h.blk hbx) ?_;simp only [aG,aA,aB,aC];refine iX rfl jF (λw1 hw=>mQ mR v11 w1 (hT.below hw)) rfl rfl ?_
     intro r14 v14
     simp only [aG,aA,aB,aC];refine cQ ⟨gx,_,_,rfl,rfl,hbx,(cG v11.len).trans (cG v14.len).symm,bT _ (cG v14.len),cO _,λW1 hw1=>?_⟩;simp only [Exit.then];refine hK _ _ ?_;clear hK K;have hu:=(hw1.blk hu).aT ne_u (g':=gx) (Us r14).toArray;have hb:=(hw1.blk hb).aT ne_v (g':=gx) (Us r14).toArray;have hbthree:=(hw1.blk hbthree).aT ne_three (g':=gx) (Us r14).toArray;have ho:=(hw1.blk ho).aT ne_o (g':=gx) (Us r14).toArray;have hbx:=(hw1.blk hbx).row (Us r14).toArray;have hT:=(hT.below hw1).row hb1 (g:=gx) (Us r14).toArray;have hbe:=below_setRow (bA hbe hw1) hb0 (Us r14).toArray;clear hw1;generalize dT _ gx (Us r14).toArray = W2 at *;refine wp_seq_k λK hK=>?_;refine wp_region_lit ?_;refine wpList_load_row rfl 116 _ rfl gx rfl 116 (Us r14).toArray (0,0) _ hbx Tryz.underlying116 rfl (bT _ (cG v14.len)) ?_;simp only [aG,aA,aB,aC];refine wpList_store_row rfl 116 _ _ rfl (w.heap.size + 1 + 1) rfl (Us r14).toArray rfl 116 _ ho (bT _ (cG v14.len)) (cG v14.len).symm (cO _) ?_;refine jN rfl rfl ?_;refine dX ?_;simp only [Exit.then,aG,aA,aB,aC];refine hK _ _ ?_;clear hK K;refine wp_ret ?_;refine bodyPost_ret (results_cell_tmp rfl _ _ (w.heap.size + 1 + 1) 116 (Us r14).toArray (0,0) _ (.bool true) rfl rfl (ho.row _) Tryz.underlying116 rfl (bT _ (cG v14.len))) rfl ⟨.inl ⟨r14,_,v14,hv,GO h2 ho2,rfl⟩,?_⟩;exact below_setRow hbe (by omega) _
    ·refine wp_cond (t:=false) (congrArg jU (decide_eq_false ho2)) ?_
     rw [if_neg (by decide)];refine wp_skip ?_;simp only [Exit.then];refine hK _ _ ?_;clear hK K;refine wp_seq_k λK hK=>?_;refine wp_region_lit ?_;refine wpList_load_row rfl 116 _ rfl gx rfl 116 (Us r11).toArray (0,0) _ hbx Tryz.underlying116 rfl (bT _ (cG v11.len)) ?_;simp only [aG,aA,aB,aC];refine wpList_store_row rfl 116 _ _ rfl (w.heap.size + 1 + 1) rfl (Us r11).toArray rfl 116 _ ho (bT _ (cG v11.len)) (cG v11.len).symm (cO _) ?_;refine jN rfl rfl ?_;refine dX ?_;simp only [Exit.then,aG,aA,aB,aC];refine hK _ _ ?_;clear hK K;refine wp_ret ?_;refine bodyPost_ret (results_cell_tmp rfl _ _ (w.heap.size + 1 + 1) 116 (Us r11).toArray (0,0) _ (.bool true) rfl rfl (ho.row _) Tryz.underlying116 rfl (bT _ (cG v11.len))) rfl ⟨.inl ⟨r11,_,v11,hv,D1 h2 ho2,rfl⟩,?_⟩;exact below_setRow hbe (by omega) _
   ·refine wp_cond (t:=true) (congrArg jU (by rw [decide_eq_false h2]; rfl)) ?_
    rw [if_pos rfl];refine wp_seq_k λK3 hK3=>?_;refine wp_region_lit ?_;refine vQ [] z5 rfl rfl rfl jR ?_;simp only [aG,aA,aB,aC];refine wpList_store_row rfl 116 _ _ rfl (w.heap.size + 1 + 1) rfl z5 rfl 116 _ ho (bT _ rfl) rfl (cO _) ?_;refine jN rfl rfl ?_;refine dX ?_;simp only [Exit.then,aG,aA,aB,aC];refine hK3 _ _ ?_;refine wp_ret ?_;simp only [Exit.then];refine bodyPost_ret (results_cell_tmp rfl _ _ (w.heap.size + 1 + 1) 116 z5 (0,0) _ (.bool false) rfl rfl (ho.row _) Tryz.underlying116 rfl (bT _ rfl)) rfl ⟨.inr ⟨.inr λx=>MB hX h1 h2 x,rfl⟩,?_⟩;exact below_setRow hbe (by omega) _
 -- end root
end Go.Proofs.YtfkchihlchlfdaaGreatDoor
namespace Nums
namespace Ed
section
variable {n : Nat} [NeZero n] {d : Fin n}
theorem Rep.Xd (hn : dQ n) {x y z t : Fin n} {P : Pt n} (r : Rep x y z P) (ht : t * z = x * y) : t = P.x * P.y * z:=by
 refine cancel hn r.z ?_;rw [ht,r.x,r.y]
 grind only
theorem VC (px py qx qy z1 z2 : Fin n) : (py * z1 + px * z1) * (qy * z2 + qx * z2) - (py * z1 - px * z1) * (qy * z2 - qx * z2) = (px * qy + py * qx) * (2 * (z1 * z2)):=by grind only
theorem VB (px py qx qy z1 z2 : Fin n) : (py * z1 + px * z1) * (qy * z2 + qx * z2) + (py * z1 - px * z1) * (qy * z2 - qx * z2) = (py * qy + px * qx) * (2 * (z1 * z2)):=by grind only
theorem Pf (px py qx qy z1 z2 d : Fin n) : px * py * z1 * ((qx * qy * z2 + qx * qy * z2) * d) = d * px * qx * py * qy * (2 * (z1 * z2)):=by grind only
theorem Pe (z1 z2 : Fin n) : z1 * (z2 + z2) = 2 * (z1 * z2):=by grind only
theorem XR (k u : Fin n) : u + k * u = (1 + k) * u:=by grind only
theorem XS (k u : Fin n) : u - k * u = (1 - k) * u:=by grind only
theorem Rep.XY (g : Good n d) {P Q : Pt n} (hP : On d P) (hQ : On d Q) {e f gg h u : Fin n} (hu : u ≠ 0) (he : e = (P.x * Q.y + P.y * Q.x) * u) (hf : f = (1 - kk d P Q) * u) (hg : gg = (1 + kk d P Q) * u) (hh : h = (P.y * Q.y + P.x * Q.x) * u) :
  Rep (e * f) (gg * h) (f * gg) (Ed.add d P Q):=by
 have hx:=Dh g hP hQ;have hy:=Dg g hP hQ;have n1:=rC g hP hQ;have n2:=nI g hP hQ;subst he hf hg hh;refine ⟨eQ g.pr (eQ g.pr n2 hu) (eQ g.pr n1 hu),?_,?_⟩
 ·rw [<-hx]
  grind only
 ·rw [<-hy]
  grind only
theorem Rep.plus (g : Good n d) {P Q : Pt n} (hP : On d P) (hQ : On d Q) {x1 y1 z1 t1 x2 y2 z2 t2 : Fin n} (r : Rep x1 y1 z1 P) (h1 : t1 * z1 = x1 * y1) (s : Rep x2 y2 z2 Q) (h2 : t2 * z2 = x2 * y2) {un li z t e f gg h : Fin n}
  (hun : un = (y1 - x1) * (y2 - x2)) (hli : li = (y1 + x1) * (y2 + x2)) (hz : z = z1 * (z2 + z2)) (ht : t = t1 * ((t2 + t2) * d)) (he : e = li - un) (hf : f = z - t) (hg : gg = z + t) (hh : h = li + un) :
  Rep (e * f) (gg * h) (f * gg) (Ed.add d P Q) /\ e * h * (f * gg) = e * f * (gg * h):=by
 have e1:=r.Xd g.pr h1;have e2:=s.Xd g.pr h2;have hu : (2 : Fin n) * (z1 * z2) ≠ 0:=eQ g.pr g.two (eQ g.pr r.z s.z);refine ⟨Rep.XY g hP hQ hu ?_ ?_ ?_ ?_,by grind only⟩
 ·rw [he,hli,hun,r.x,r.y,s.x,s.y,VC]
 ·rw [hf,hz,ht,e1,e2,Pf,Pe,<-XS]
  rfl
 ·rw [hg,hz,ht,e1,e2,Pf,Pe,<-XR]
  rfl
 ·rw [hh,hli,hun,r.x,r.y,s.x,s.y,VB]
theorem X8 (px py z : Fin n) : px * z * (py * z) + px * z * (py * z) = (px * py + py * px) * (z * z):=by grind only
theorem X6 (px py z : Fin n) : py * z * (py * z) - px * z * (px * z) = (py * py - px * px) * (z * z):=by grind only
theorem X5 (px py z : Fin n) : py * z * (py * z) + px * z * (px * z) = (py * py + px * px) * (z * z):=by grind only
theorem X7 (k u : Fin n) : u + u - (1 + k) * u = (1 - k) * u:=by grind only
theorem Xs {P : Pt n} (hP : On d P) : P.y * P.y - P.x * P.x = 1 + kk d P P:=by
 have h : P.y*P.y - P.x*P.x = 1 + d*P.x*P.x*P.y*P.y:=hP;rw [h]
 rfl
theorem Rep.dbl (g : Good n d) {P : Pt n} (hP : On d P) {x y z : Fin n} (r : Rep x y z P) {xx yy zz xy e gg h f : Fin n} (hxx : xx = x * x) (hyy : yy = y * y) (hzz : zz = z * z) (hxy : xy = x * y)
  (he : e = xy + xy) (hg : gg = yy - xx) (hh : h = yy + xx) (hf : f = zz + zz - gg) : Rep (e * f) (gg * h) (f * gg) (Ed.add d P P) /\ e * h * (f * gg) = e * f * (gg * h):=by
 have hu : z * z ≠ 0:=eQ g.pr r.z r.z
 have hgg : gg = (1 + kk d P P) * (z * z):=by rw [hg,hyy,hxx,r.x,r.y,X6,Xs hP]
 refine ⟨Rep.XY g hP hP hu ?_ ?_ hgg ?_,by grind only⟩
 ·rw [he,hxy,r.x,r.y,X8]
 ·rw [hf,hzz,hgg,X7]
 ·rw [hh,hyy,hxx,r.x,r.y,X5]
theorem Rep.one (hn : dQ n) (x y : Fin n) : Rep x y 1 ⟨x,y⟩:=⟨λh=>xY hn h.symm,by show x = x * 1; grind only,by show y = y * 1; grind only⟩
theorem WW (g : Good n d) {P : Pt n} (hP : On d P) (hy : P.y = 1) : P = zero:=by
 have h : P.y*P.y - P.x*P.x = 1 + d*P.x*P.x*P.y*P.y:=hP;rw [hy] at h
 have h2 : P.x * P.x * (d + 1) = 0:=by grind only
 have hd : d + 1 ≠ 0:=λh0=>by
  obtain ⟨i,hi⟩:=g.i;refine g.d i ?_;rw [hi]
  grind only
 have hx : P.x = 0:=by
  by_cases hx : P.x = 0
  ·exact hx
  ·exact absurd h2 (eQ g.pr (eQ g.pr hx hx) hd)
 cases P
 simp only at hx hy;rw [hx,hy]
 rfl
theorem Rep.WX (g : Good n d) {P : Pt n} (hP : On d P) {x y z : Fin n} (r : Rep x y z P) : y = z ↔ P = Ed.zero:=by
 constructor
 ·intro h
  refine WW g hP (cancel g.pr r.z ?_);rw [<-r.y,h]
  grind only
 ·rintro rfl
  rw [r.y]
  show 1 * z = z
  grind only
end
end Ed
end Nums
