/-
  SEVERAL TEXTS IN ONE: CpMul, Tup, CpHash, CpTup, CpDec, LawC, LawM, Sub64, Ws, WSum, Red, Next.
-/
import Derived.Test.YtlcbhbahchiofaaDoorMg
import Derived.Great.BuildSlice
import Derived.Test.YtlcbhbahchiofaaDoorMa
import Derived.Test.YtlcbhbahchiofaaDoorMd
import Derived.StillTailTactics
/-
  THE PROGRAM'S POINTS: Mul, Both.
-/
namespace Go.Proofs.YtlcbhbahchiofaaDoor
open Go.RowKit Go.IntWalk Nums

theorem info_row : (Tryd.prog.info? 126).map (fun i=>(i.zero,i.size)) = some (some (.agg rowz),416):=by kernel_rfl
theorem info_row_parts : ∃ i,Tryd.prog.info? 126 = some i ∧ i.zero = some (.agg rowz) ∧ i.size = 416:=by
 have h:=info_row
 cases hi : Tryd.prog.info? 126 with
 | none=>rw [hi] at h; cases h
 | some i =>
  rw [hi] at h;simp only [Option.map_some,Option.some.injEq,Prod.mk.injEq] at h;exact ⟨i,rfl,h.1,h.2⟩
theorem rangeK1 (z : Array Value) (n : Nat) (hn : z.size = n) : ((Array.range (1 * n)).map (fun x=>z[x % z.size]!)) = ([] ++ (z.toList ++ [])).toArray:=by
 apply Array.ext
 ·simp [hn]
 ·intro i h1 h2
  simp only [List.nil_append,List.append_nil,List.size_toArray,Array.length_toList] at h2
  simp [Nat.mod_eq_of_lt h2,h2]
theorem rangeK2 (z : Array Value) (n : Nat) (hn : z.size = n) : ((Array.range (2 * n)).map (fun x=>z[x % z.size]!)) = ([] ++ (z.toList ++ (z.toList ++ []))).toArray:=by
 apply Array.ext
 ·simp [hn]
  omega
 ·intro i h1 h2
  simp only [Array.size_map,Array.size_range] at h1;simp only [Array.getElem_map,Array.getElem_range,List.nil_append,List.append_nil,List.getElem_toArray]
  by_cases hi : i < z.size
  ·rw [Nat.mod_eq_of_lt hi,List.getElem_append_left (by simpa using hi)]
   simp [hi]
  ·have h3 : i % z.size = i - z.size:=by rw [Nat.mod_eq_sub_mod (by omega),Nat.mod_eq_of_lt (by omega)]
   have h4 : i - z.size < z.size:=by omega
   rw [h3,List.getElem_append_right (by simpa using hi)]
   simp [h4]
theorem run_slice1R {r : RS} (h : r.Ok) (w : World) : (Instr.buildSlice 142 1 #[(0,.agg (rowc r.M r.d).toArray)]).run Tryd.prog w = .ok (.slice (some ⟨w.heap.size,0,none⟩) 1 1) (w.alloc (.cells (flatR [r]).toArray 126)):=by
 obtain ⟨i,hi,hz,hs⟩:=info_row_parts;have hl:=rowc_len h.m8 h.dl;refine run_buildSlice w 142 126 1 _ _ i (.agg rowz) Tryd.underlying142 hi hz (by rw [hs]; decide) (by rw [hs]; decide) ?_;rw [hs]
 show Instr.fill _ ((Array.range (1 * 416)).map (fun x=>rowz[x % rowz.size]!)) [(0,.agg (rowc r.M r.d).toArray)] = _
 rw [rangeK1 rowz 416 rowz_size,fill_put (fun i=>some (i * 416,416)) 0 416 [] rowz.toList [] (rowc r.M r.d) [] rfl hl (by have:=rowz_size; simpa using this),Instr.fill]
 simp [flatR]
theorem run_slice2R {r s : RS} (h : r.Ok) (h2 : s.Ok) (w : World) : (Instr.buildSlice 142 2 #[(0,.agg (rowc r.M r.d).toArray),(1,.agg (rowc s.M s.d).toArray)]).run Tryd.prog w = .ok (.slice (some ⟨w.heap.size,0,none⟩) 2 2) (w.alloc (.cells (flatR [r,s]).toArray 126)):=by
 obtain ⟨i,hi,hz,hs⟩:=info_row_parts;have hl:=rowc_len h.m8 h.dl;have hl2:=rowc_len h2.m8 h2.dl
 have hz0 : rowz.toList.length = 416:=by have:=rowz_size; simpa using this
 refine run_buildSlice w 142 126 2 _ _ i (.agg rowz) Tryd.underlying142 hi hz (by rw [hs]; decide) (by rw [hs]; decide) ?_;rw [hs]
 show Instr.fill _ ((Array.range (2 * 416)).map (fun x=>rowz[x % rowz.size]!)) [(0,.agg (rowc r.M r.d).toArray),(1,.agg (rowc s.M s.d).toArray)] = _
 rw [rangeK2 rowz 416 rowz_size,fill_put (fun i=>some (i * 416,416)) 0 416 [] rowz.toList (rowz.toList ++ []) (rowc r.M r.d) _ rfl hl hz0,List.nil_append,fill_put (fun i=>some (i * 416,416)) 1 416 (rowc r.M r.d) rowz.toList [] (rowc s.M s.d) [] (by rw [hl]) hl2 hz0,Instr.fill]
 simp [flatR]
theorem above1 (r : RS) : above [r] 0 = Ed.mul dd (sumD r.d) r.A:=by
 show Ed.add dd (Ed.mul dd (sumD (r.d.drop 0)) r.A) Ed.zero = _
 rw [Ed.add_zero good,List.drop_zero]
theorem above2 (r s : RS) : above [r,s] 0 = Ed.add dd (Ed.mul dd (sumD r.d) r.A) (Ed.mul dd (sumD s.d) s.A):=by
 show Ed.add dd (Ed.mul dd (sumD (r.d.drop 0)) r.A) (Ed.add dd (Ed.mul dd (sumD (s.d.drop 0)) s.A) Ed.zero) = _
 rw [Ed.add_zero good,List.drop_zero,List.drop_zero]

set_option maxRecDepth 100000 in
set_option maxHeartbeats 1000000 in
theorem cmul_f {l : List Nat} {A : Ed.Pt p} {b : List UInt8} (hP : PB l A) (hb : b.length = 32) (w : World) (hT : Tw w) :
  Calls Tryd.prog 47 #[.agg (Us l).toArray,.agg (By b).toArray] w fun e w'=>∃ r,PB r (Ed.mul dd (le b) A) ∧ e = .returned (.agg (Us r).toArray) ∧ Below w.heap.size w w':=by
 refine calls_F (vs:=[.agg (Us l).toArray,.agg (By b).toArray]) 10 Tryd.func47 rfl (by rw [Tryd.ntmps47]; rfl) ?_;have hw0:=hT.lt;refine c_seq fun K hK=>?_;refine c_lit ?_;refine l_boxA ((Us l).toArray) rfl rfl rfl rfl rfl fun W1 g1 hw1 hg1 b1=>?_;clear hg1;replace hT:=hT.below hw1;have hU : Up w _:=hw1;refine l_boxA ((By b).toArray) rfl rfl rfl rfl rfl fun W2 g2 hw2 hg2 b2=>?_;clear hg2;replace b1:=b1.later hw2;replace hT:=hT.below hw2;replace hU:=hU.step hw2;refine l_allocA ((Us pz).toArray) rfl rfl rfl rfl (by kernel_rfl) fun W3 g3 hw3 hg3 b3=>?_
 have q3 : w.heap.size ≤ g3:=by rw [hg3]; exact hU.size
 clear hg3;replace b1:=b1.later hw3;replace b2:=b2.later hw3;replace hT:=hT.below hw3;replace hU:=hU.step hw3;refine l_nil ?_;refine hK _ _ ?_;clear hK K;refine c_seq fun K hK=>?_;refine c_tF 3 ?_;refine f_pt g1 0 hP.len rfl rfl rfl rfl rfl (fun _ h1=>(h1.blk b1).range) ?_;refine f_by g2 0 hb rfl rfl rfl rfl rfl (fun _ h1=>(h1.blk b2).range) ?_;refine f_callV #[.agg (Us l).toArray,.agg (By b).toArray] (fun v=>∃ r : RS,r.Ok ∧ r.A = A ∧ sumD r.d = le b ∧ v = .agg (rowc r.M r.d).toArray) rfl rfl rfl own_row (fun w1 h1=>(row_f hP hb w1 (hT.below h1)).mono fun e w' ⟨r,h1,h2,h3,h4,h5⟩=>⟨_,h4,⟨r,h1,h2,h3,rfl⟩,h5⟩) rfl rfl ?_
 rintro _ ⟨r,or,ar,sr,rfl⟩
 refine f_tail fun w4 hw4=>?_;replace b3:=b3.later hw4;replace hT:=hT.below hw4;replace hU:=hU.step hw4;refine l_val (w':=w4.alloc (.cells (flatR [r]).toArray 126)) (.slice (some ⟨w4.heap.size,0,none⟩) 1 1) rfl rfl rfl (fun a ha=>by have h:=(run_slice1R or w4); unfold execOp; simp only [List.map_toArray,List.map_cons,List.map_nil,ha.eval (x:=.tmp 7) rfl,Sem.run_bind,h,Result.andThen_ok,Sem.run_pure]) ?_;have hbs:=Blk.new w4 126 (flatR [r]).toArray;have hal : Up w4 (w4.alloc (.cells (flatR [r]).toArray 126)):=(Up.refl _).alloc _;replace b3:=b3.later hal;replace hT:=hT.below hal;replace hU:=hU.step hal;generalize w4.alloc (.cells (flatR [r]).toArray 126) = W4 at *;generalize w4.heap.size = gs at *;refine l_callF #[.slice (some ⟨gs,0,none⟩) 1 1] rfl rfl rfl own_total (total_f (rs:=[r]) (c0:=1) (by simpa using or) (by simp) W4 hT hbs) rfl rfl ?_
 rintro e V ⟨u,hu,rfl,hV⟩
 refine ⟨_,rfl,?_⟩;replace b3:=b3.later hV;replace hT:=hT.below hV;replace hU:=hU.step hV;rw [above1,ar,sr] at hu;refine l_set g3 _ (Us u).toArray rfl rfl rfl rfl rfl b3 (size_P hu.len) (us_size pz_len |>.trans (us_size hu.len).symm) (Us_oneA _) ?_;replace b3:=b3.row (Us u).toArray;replace hU:=up_row hU q3 (Us u).toArray;refine l_nil ?_;refine hK _ _ ?_;refine c_ret (k_ret_row g3 _ rfl rfl b3 Tryd.underlying92 rfl (size_P hu.len) ⟨_,hu,rfl,hU⟩)

set_option maxRecDepth 100000 in
set_option maxHeartbeats 1000000 in
theorem cboth_f {l : List Nat} {A : Ed.Pt p} {n m : List UInt8} (hn : n.length = 32) (hP : PB l A) (hm : m.length = 32) (w : World) (hT : Tw w) :
  Calls Tryd.prog 40 #[.agg (By n).toArray,.agg (Us l).toArray,.agg (By m).toArray] w fun e w'=>∃ r,PB r (Ed.add dd (Ed.mul dd (le n) base) (Ed.mul dd (le m) A)) ∧ e = .returned (.agg (Us r).toArray) ∧ Below w.heap.size w w':=by
 refine calls_F (vs:=[.agg (By n).toArray,.agg (Us l).toArray,.agg (By m).toArray]) 15 Tryd.func40 rfl (by rw [Tryd.ntmps40]; rfl) ?_;have hw0:=hT.lt;refine c_seq fun K hK=>?_;refine c_lit ?_;refine l_boxA ((By n).toArray) rfl rfl rfl rfl rfl fun W1 g1 hw1 hg1 b1=>?_;clear hg1;replace hT:=hT.below hw1;have hU : Up w _:=hw1;refine l_boxA ((Us l).toArray) rfl rfl rfl rfl rfl fun W2 g2 hw2 hg2 b2=>?_;clear hg2;replace b1:=b1.later hw2;replace hT:=hT.below hw2;replace hU:=hU.step hw2;refine l_boxA ((By m).toArray) rfl rfl rfl rfl rfl fun W3 g3 hw3 hg3 b3=>?_;clear hg3;replace b1:=b1.later hw3;replace b2:=b2.later hw3;replace hT:=hT.below hw3;replace hU:=hU.step hw3;refine l_allocA ((Us pz).toArray) rfl rfl rfl rfl (by kernel_rfl) fun W4 g4 hw4 hg4 b4=>?_
 have q4 : w.heap.size ≤ g4:=by rw [hg4]; exact hU.size
 clear hg4;replace b1:=b1.later hw4;replace b2:=b2.later hw4;replace b3:=b3.later hw4;replace hT:=hT.below hw4;replace hU:=hU.step hw4;refine l_nil ?_;refine hK _ _ ?_;clear hK K;refine c_seq fun K hK=>?_;refine c_t 6 (by decide) (by kernel_rfl) (tail_ok (by kernel_rfl)) (fun _ _ d _ _ h=>by cases d <;> exact h) ?_;refine f_us #[] (QB · base) rfl rfl rfl own_cbase (fun w1 h1=>cbase_f w1) rfl rfl fun r7 v7=>?_;refine f_by g1 0 hn rfl rfl rfl rfl rfl (fun _ h1=>(h1.blk b1).range) ?_;refine f_callV #[.agg (Us r7).toArray,.agg (By n).toArray] (fun v=>∃ r : RS,r.Ok ∧ r.A = base ∧ sumD r.d = le n ∧ v = .agg (rowc r.M r.d).toArray) rfl rfl rfl own_row (fun w1 h1=>(row_f (.inr v7) hn w1 (hT.below h1)).mono fun e w' ⟨r,h1,h2,h3,h4,h5⟩=>⟨_,h4,⟨r,h1,h2,h3,rfl⟩,h5⟩) rfl rfl ?_
 rintro _ ⟨r,or,ar,sr,rfl⟩
 refine f_pt g2 0 hP.len rfl rfl rfl rfl rfl (fun _ h1=>(h1.blk b2).range) ?_;refine f_by g3 0 hm rfl rfl rfl rfl rfl (fun _ h1=>(h1.blk b3).range) ?_;refine f_callV #[.agg (Us l).toArray,.agg (By m).toArray] (fun v=>∃ r : RS,r.Ok ∧ r.A = A ∧ sumD r.d = le m ∧ v = .agg (rowc r.M r.d).toArray) rfl rfl rfl own_row (fun w1 h1=>(row_f hP hm w1 (hT.below h1)).mono fun e w' ⟨r,h1,h2,h3,h4,h5⟩=>⟨_,h4,⟨r,h1,h2,h3,rfl⟩,h5⟩) rfl rfl ?_
 rintro _ ⟨q,oq,aq,sq,rfl⟩
 refine f_tail fun w5 hw5=>?_;replace b4:=b4.later hw5;replace hT:=hT.below hw5;replace hU:=hU.step hw5;refine l_val (w':=w5.alloc (.cells (flatR [r,q]).toArray 126)) (.slice (some ⟨w5.heap.size,0,none⟩) 2 2) rfl rfl rfl (fun a ha=>by have h:=(run_slice2R or oq w5); unfold execOp; simp only [List.map_toArray,List.map_cons,List.map_nil,ha.eval (x:=.tmp 9) rfl,ha.eval (x:=.tmp 12) rfl,Sem.run_bind,h,Result.andThen_ok,Sem.run_pure]) ?_;have hbs:=Blk.new w5 126 (flatR [r,q]).toArray;have hal : Up w5 (w5.alloc (.cells (flatR [r,q]).toArray 126)):=(Up.refl _).alloc _;replace b4:=b4.later hal;replace hT:=hT.below hal;replace hU:=hU.step hal;generalize w5.alloc (.cells (flatR [r,q]).toArray 126) = W5 at *;generalize w5.heap.size = gs at *;refine l_callF #[.slice (some ⟨gs,0,none⟩) 2 2] rfl rfl rfl own_total (total_f (rs:=[r,q]) (c0:=2) (by intro x hx; simp only [List.mem_cons,List.not_mem_nil,or_false] at hx; rcases hx with rfl | rfl; exact or; exact oq) (by simp) W5 hT hbs) rfl rfl ?_
 rintro e V ⟨u,hu,rfl,hV⟩
 refine ⟨_,rfl,?_⟩;replace b4:=b4.later hV;replace hT:=hT.below hV;replace hU:=hU.step hV;rw [above2,ar,sr,aq,sq] at hu;refine l_set g4 _ (Us u).toArray rfl rfl rfl rfl rfl b4 (size_P hu.len) (us_size pz_len |>.trans (us_size hu.len).symm) (Us_oneA _) ?_;replace b4:=b4.row (Us u).toArray;replace hU:=up_row hU q4 (Us u).toArray;refine l_nil ?_;refine hK _ _ ?_;refine c_ret (k_ret_row g4 _ rfl rfl b4 Tryd.underlying92 rfl (size_P hu.len) ⟨_,hu,rfl,hU⟩)
end Go.Proofs.YtlcbhbahchiofaaDoor
/-
  REGIONS THAT DRAW THEIR ORDER: 'x, ok := f(..)', where what is stored need not wait for the second part.
-/
namespace Go.Proofs.YtlcbhbahchiofaaDoor
open Go.RowKit Go.IntWalk

section
variable {P : Program} {Q : Exit → Act → World → Prop}

def tupEnd (P : Program) (Q : Exit → Act → World → Prop) (w : World) (t t2 : Tmp) (ty : TypeId) (x y : Operand) (n : Nat) (a' : Act) : Prop :=
  ∃ (cells : Array Value) (v2 : Value),(∀ v,(a'.put (some t) v).eval (.tmp t) = v) ∧ (∀ v,(a'.put (some t) v).eval x = .agg cells) ∧ (∀ v,(a'.put (some t) v).eval y = v2) ∧ n = cells.size ∧ (P.info? ty).map (·.size) = some cells.size ∧ (∀ v ∈ cells.toList,v.oneCell' = true) ∧
    ∀ g w',w.heap.size ≤ g → Up w w' → Blk w' g ty cells → Q .normal ((a'.put (some t) (.pointer (some ⟨g,0,none⟩))).put (some t2) v2) w'

theorem reg_tup {id : Nat} {a : Act} {w : World} {l : List Oper} {oa os ot : Oper} (n : Nat) (t t2 : Tmp) (ty : TypeId) (x y : Operand) (zs : Array Value) (hl : l = l.take n ++ [oa,os,ot]) (hn : (l.take n).length = n)
  (hop : os.op = .store ty (.tmp t) x) (hot : ot.op = .assign y) (hsg : os.guard = none) (htg : ot.guard = none) (hsd : os.dst = none) (htd : ot.dst = some t2) (hag : oa.guard = none) (had : oa.dst = some t) (hm : P.follows .mixedOrders = true)
  (hs : Region.noSelect l.toArray = true) (hh : headC .any l.toArray n l 0 = true) (hch : chainB .any l 0 none = true)
  (hr0 : Region.ready .any l.toArray (marks n 0 (Array.replicate l.toArray.size false)) = [n])
  (hr1 : Region.ready .any l.toArray ((marks n 0 (Array.replicate l.toArray.size false)).setIfInBounds n true) = [n + 1])
  (hr2 : Region.ready .any l.toArray (((marks n 0 (Array.replicate l.toArray.size false)).setIfInBounds n true).setIfInBounds (n + 1) true) = [n + 2])
  (hr3 : Region.ready .any l.toArray ((((marks n 0 (Array.replicate l.toArray.size false)).setIfInBounds n true).setIfInBounds (n + 1) true).setIfInBounds (n + 2) true) = [])
  (hQ : ∀ c a d v w,Q (.panic c) (a.put d v) w → Q (.panic c) a w)
  (hrun : ∀ (a : Act) w,(execOp a.eval oa).run P w = .ok (.value (.pointer (some ⟨w.heap.size,0,none⟩))) (w.alloc (.cells zs ty)))
  (h : wpB P l.toArray (Up w) (tupEnd P Q w t t2 ty x y zs.size) (l.take n) a) : (Code.region id l.toArray true).wp P Q a w:=by
 have hB : headB .any l.toArray n 0 (Array.replicate l.toArray.size false) = true:=headB_of (by simpa using hch) n l 0 _ Inv.start (by simp) hh;generalize l.take n = L at *;subst hl;subst hn;refine wp_region_any hm ?_
 have hoa : (L ++ [oa,os,ot]).toArray[L.length]? = some oa:=by simp
 have hos : (L ++ [oa,os,ot]).toArray[L.length + 1]? = some os:=by simp
 have hoT : (L ++ [oa,os,ot]).toArray[L.length + 2]? = some ot:=by simp
 have hz : (L ++ [oa,os,ot]).toArray.size = 3 + L.length:=by simp; omega
 have hG : wpAnyU P .any (L ++ [oa,os,ot]).toArray (Up w) Q (3 + L.length) 0 (3 + L.length) w.drew (Array.replicate (L ++ [oa,os,ot]).toArray.size false) a:=by
  refine wpAnyU_head (fun _ _ h k=>h.step k) hs hQ 3 w.drew (Up.drew w) L 0 _ a (Closed.none _) (by omega) (fun j hj=>by simp [List.getElem?_append_left hj]) hB ?_;refine wpB_mono (fun a' h'=>⟨by rw [hr0]; exact List.cons_ne_nil _ _,fun i hi=>?_⟩) L a h;rw [hr0,List.mem_singleton] at hi;subst hi;obtain ⟨cells,v2,h1,h2,h2y,hsz,hi,ho,hk⟩:=h';refine wpAnyU_new (base:=w.heap.size) hoa hag hrun (fun _ _ h k=>h.step k) (fun _ h=>h.size) (Up.drew w) fun w1 hw1 hC1 hp=>⟨by rw [hr1]; exact List.cons_ne_nil _ _,fun i hi=>?_⟩;have hb1 : Blk (w1.alloc (.cells zs ty)) w1.heap.size ty zs:=Blk.new w1 _ _;rw [hr1,List.mem_singleton] at hi;subst hi;rw [had];generalize w1.heap.size = g at *
  intro w2 hw2
  have hb2:=hb1.later hw2;have hC2 : Up w w2:=(hC1.alloc _).step hw2
  unfold wpOp
  simp only [hos];rw [if_pos (by simp [Region.wanted,hsg])];refine .inl ?_;have hst:=run_store_row (P:=P) w2 ty g cells zs ty hb2 (by rw [hi]) hsz ho
  unfold Oper.wp execOp
  simp only [hop,h1,h2,Sem.run_bind,hst,Result.andThen_ok,Sem.run_pure,Oper.upon];rw [hsd];have hC3 : Up w (w2.setRow g cells):=up_row hC2 hp _;have hb3 : Blk (w2.setRow g cells) g ty cells:=hb2.row _;refine ⟨hC3,by rw [hr2]; exact List.cons_ne_nil _ _,fun i hi=>?_⟩;rw [hr2,List.mem_singleton] at hi;subst hi
  intro w4 hw4
  have hb4:=hb3.later hw4;have hC4 : Up w w4:=hC3.step hw4
  unfold wpOp
  simp only [hoT];rw [if_pos (by simp [Region.wanted,htg])];refine .inl ?_
  unfold Oper.wp execOp
  simp only [hot,Sem.run_pure,Oper.upon];refine ⟨hC4,?_⟩;refine ⟨fun j hj=>?_,fun w5 hw5=>⟨hr3,?_⟩⟩
  ·rw [hr3] at hj
   cases hj
  rw [htd];have e : (Act.put (Act.put a' (some t) (.pointer (some ⟨g,0,none⟩))) none undef).eval y = v2:=h2y _;rw [e];exact hk g w5 hp (hC4.step hw5) (hb4.later hw5)
 have h2:=wpAny_of_U (3 + L.length) _ a w.drew hG;rw [Nat.zero_add,← hz] at h2;exact h2
end
end Go.Proofs.YtlcbhbahchiofaaDoor
/-
  THE PROGRAM'S POINTS: Small, Hash.
-/
namespace Go.Proofs.YtlcbhbahchiofaaDoor
open Go.RowKit Go.IntWalk Nums

set_option maxRecDepth 100000 in
set_option maxHeartbeats 1000000 in
theorem csmall_f {l : List Nat} {A : Ed.Pt p} (hP : PB l A) (w : World) (hT : Tw w) :
  Calls Tryd.prog 38 #[.agg (Us l).toArray] w fun e w'=>e = .returned (.bool (decide (encP (Ed.mul dd 8 A) = encP Ed.zero))) ∧ Below w.heap.size w w':=by
 refine calls_F (vs:=[.agg (Us l).toArray]) 12 Tryd.func38 rfl (by rw [Tryd.ntmps38]; rfl) ?_;have hw0:=hT.lt;refine c_seq fun K hK=>?_;refine c_lit ?_;refine l_boxA ((Us l).toArray) rfl rfl rfl rfl rfl fun W1 g1 hw1 hg1 b1=>?_
 have q1 : w.heap.size ≤ g1:=by rw [hg1]; exact Nat.le_refl _
 clear hg1;replace hT:=hT.below hw1;have hU : Up w _:=hw1;refine l_assign (.bool false) rfl rfl rfl rfl rfl ?_;refine l_nil ?_;refine hK _ _ ?_;clear hK K;refine c_seq fun K hK=>?_;refine c_tF 2 ?_;refine f_pt g1 0 hP.len rfl rfl rfl rfl rfl (fun _ h1=>(h1.blk b1).range) ?_;refine f_us #[.agg (Us l).toArray,.int .i64 3] (PB · (Ed.mul dd 8 A)) rfl rfl rfl own_doubled (fun w1 h1=>doubled_f hP 3 (by decide) w1 (hT.below h1)) rfl rfl fun r4 v4=>?_;refine f_set g1 _ ((Us r4).toArray) rfl rfl rfl rfl rfl b1 (size_P v4.len) ((us_size hP.len).trans (us_size v4.len).symm) (Us_oneA _) fun w2 hw2 c2=>?_;replace b1:=c2;replace hT:=(hT.below hw2).row (g:=g1) (by have:=hw0; omega) ((Us r4).toArray);replace hU:=up_row (hU.step hw2) q1 ((Us r4).toArray);clear hw2 c2;generalize w2.setRow g1 ((Us r4).toArray) = W2 at *;have hon8:=v4.on;obtain ⟨X1,Y1,Z1,T1,x1,y1,z1,t1,rfl,hX1,hY1,hZ1,hT1,hiff⟩:=v4.yz;have hiff2 : y1 = z1 ↔ encP (Ed.mul dd 8 A) = encP Ed.zero:=hiff.trans ⟨congrArg encP,encP_inj hon8 Ed.on_zero⟩;refine l_nil ?_;refine hK _ _ ?_;clear hK K;refine c_seq fun K hK=>?_;refine c_q (by kernel_rfl) (tail_ok (by kernel_rfl)) (fun _ _ d _ _ h=>by cases d <;> exact h) ?_;refine f_fld g1 0 5 rfl rfl rfl rfl rfl (fun w1=>cpf1 _ w1) ?_;refine f_el g1 5 hY1.len rfl rfl rfl rfl rfl (fun _ h1=>(h1.blk b1).cy hX1.len) ?_;refine f_call #[.agg (Us Y1).toArray] (.agg (By (enc y1)).toArray) rfl rfl rfl own_hash (fun w1 _=>hash_f hY1 w1) rfl rfl ?_;refine f_fld g1 0 10 rfl rfl rfl rfl rfl (fun w1=>cpf2 _ w1) ?_;refine f_el g1 10 hZ1.len rfl rfl rfl rfl rfl (fun _ h1=>(h1.blk b1).cz hX1.len hY1.len) ?_;refine f_call #[.agg (Us Z1).toArray] (.agg (By (enc z1)).toArray) rfl rfl rfl own_hash (fun w1 _=>hash_f hZ1 w1) rfl rfl ?_;refine f_eq (By (enc y1)).toArray (By (enc z1)).toArray rfl rfl rfl rfl rfl rfl (by kernel_rfl) (eqd y1 z1) ?_;refine f_assign (.bool (decide (y1 = z1))) rfl rfl rfl rfl rfl ?_;refine f_end fun w9 hw9=>hK _ _ ?_;clear hK K;replace hT:=hT.below hw9;replace hU:=hU.step hw9;rw [decide_eq_decide.2 hiff2];exact c_ret fun a ha=>bodyPost_ret (results_tmp rfl _ _ _) ha.defers ⟨congrArg Ending.returned (ha.get 2 _ rfl),hU⟩

set_option maxRecDepth 100000 in
set_option maxHeartbeats 1000000 in
theorem chash_f {l : List Nat} {A : Ed.Pt p} (hP : PB l A) (w : World) (hT : Tw w) :
  Calls Tryd.prog 42 #[.agg (Us l).toArray] w fun e w'=>e = .returned (.agg (By (encP A)).toArray) ∧ Below w.heap.size w w':=by
 refine calls_F (vs:=[.agg (Us l).toArray]) 25 Tryd.func42 rfl (by rw [Tryd.ntmps42]; rfl) ?_;have hw0:=hT.lt;refine c_seq fun K hK=>?_;refine c_lit ?_;refine l_boxA ((Us l).toArray) rfl rfl rfl rfl rfl fun W1 g1 hw1 hg1 b1=>?_
 have q1 : w.heap.size ≤ g1:=by rw [hg1]; exact Nat.le_refl _
 clear hg1;replace hT:=hT.below hw1;have hU : Up w _:=hw1;refine l_allocA z32 rfl rfl rfl rfl (by kernel_rfl) fun W2 g2 hw2 hg2 b2=>?_
 have q2 : w.heap.size ≤ g2:=by rw [hg2]; exact hU.size
 have n1_2 : g1 ≠ g2:=by have:=b1.lt; omega
 clear hg2;replace b1:=b1.later hw2;replace hT:=hT.below hw2;replace hU:=hU.step hw2;refine l_nil ?_;refine hK _ _ ?_;clear hK K;refine c_seq fun K hK=>?_;refine c_tF 2 ?_;refine f_pt g1 0 hP.len rfl rfl rfl rfl rfl (fun _ h1=>(h1.blk b1).range) ?_;refine f_us #[.agg (Us l).toArray] (QB · A) rfl rfl rfl own_pwhole (fun w1 h1=>pwhole_f hP w1) rfl rfl fun r6 v6=>?_;refine f_set g1 _ ((Us r6).toArray) rfl rfl rfl rfl rfl b1 (size_P v6.len) ((us_size hP.len).trans (us_size v6.len).symm) (Us_oneA _) fun w3 hw3 c3=>?_;replace b2:=(b2.later hw3).rowFar (Ne.symm n1_2) ((Us r6).toArray);replace b1:=c3;replace hT:=(hT.below hw3).row (g:=g1) (by have:=hw0; omega) ((Us r6).toArray);replace hU:=up_row (hU.step hw3) q1 ((Us r6).toArray);clear hw3 c3;generalize w3.setRow g1 ((Us r6).toArray) = W3 at *;obtain ⟨⟨X1,Y1,Z1,T1,x1,y1,z1,t1,rfl,hX1,hY1,hZ1,hT1,hR1,ht1⟩,hon1⟩:=v6;have haf:=hR1.aff prime_p;refine l_nil ?_;refine hK _ _ ?_;clear hK K;refine c_seq fun K hK=>?_;refine c_newF 3 [nvE 3] (by decide) ⟨⟨rfl,rfl,rfl,rfl,by kernel_rfl⟩,trivial⟩ ?_;refine f_fld g1 0 10 rfl rfl rfl rfl rfl (fun w1=>cpf2 _ w1) ?_;refine f_el g1 10 hZ1.len rfl rfl rfl rfl rfl (fun _ h1=>(h1.blk b1).cz hX1.len hY1.len) ?_;refine f_us #[.agg (Us Z1).toArray] (EB · (finv z1)) rfl rfl rfl own_inv3 (fun w1 h1=>elinv_f hZ1 w1) rfl rfl fun r9 v9=>?_;refine f_new [.tmp 9] [(Us r9).toArray] ⟨rfl,trivial⟩ (by decide) ⟨⟨rfl,rfl,rfl⟩,rfl⟩ ⟨⟨rfl,(us_size zl_len).trans (us_size v9.len).symm,size_E v9.len,Us_oneA _⟩,trivial⟩ fun f4 W4 hg4 hd4 hw4 hb4=>?_;have b400 : Blk W4 (f4 0) 90 ((Us r9).toArray):=hb4.1;clear hb4;replace b1:=b1.later hw4;replace b2:=b2.later hw4;replace hT:=hT.below hw4;replace hU:=hU.step hw4;clear hg4 hd4 hw4;generalize hf400 : f4 0 = g400 at *;simp only [ptrs,hf400];clear hf400 f4;refine l_nil ?_;refine k_sub (E':=[(1,.pointer (some ⟨g1,0,none⟩)),(2,.pointer (some ⟨g2,0,none⟩)),(3,.pointer (some ⟨g400,0,none⟩))]) ⟨rfl,rfl,rfl,trivial⟩ ?_;refine hK _ _ ?_;clear hK K;refine c_seq fun K hK=>?_;refine c_newF 5 [nvH 4] (by decide) ⟨⟨rfl,rfl,rfl,rfl,by kernel_rfl⟩,trivial⟩ ?_;refine f_fld g1 0 5 rfl rfl rfl rfl rfl (fun w1=>cpf1 _ w1) ?_;refine f_el g1 5 hY1.len rfl rfl rfl rfl rfl (fun _ h1=>(h1.blk b1).cy hX1.len) ?_;refine f_el g400 0 v9.len rfl rfl rfl rfl rfl (fun _ h1=>(h1.blk b400).range) ?_;refine f_us #[.agg (Us Y1).toArray,.agg (Us r9).toArray] (EB · A.y) rfl rfl rfl own_elmul (fun w1 h1=>(by have:=elmul_f hY1 v9 w1; rwa [haf.2] at this)) rfl rfl fun r13 v13=>?_;refine f_call #[.agg (Us r13).toArray] (.agg (By (enc A.y)).toArray) rfl rfl rfl own_hash (fun w1 _=>hash_f v13 w1) rfl rfl ?_;refine f_new [.tmp 14] [(By (enc A.y)).toArray] ⟨rfl,trivial⟩ (by decide) ⟨⟨rfl,rfl,rfl⟩,rfl⟩ ⟨⟨rfl,(len_by (l:=List.replicate 32 0) rfl).trans (len_by (enc_len _)).symm,size_H (enc_len _),By_oneA _⟩,trivial⟩ fun f5 W5 hg5 hd5 hw5 hb5=>?_;have b500 : Blk W5 (f5 0) 40 ((By (enc A.y)).toArray):=hb5.1
 clear hb5;have q500 : w.heap.size ≤ f5 0:=Nat.le_trans hU.size (hg5 0 (by decide))
 have n2_500 : g2 ≠ f5 0:=by have:=b2.lt; have:=hg5 0 (by decide); omega
 replace b1:=b1.later hw5;replace b2:=b2.later hw5;replace b400:=b400.later hw5;replace hT:=hT.below hw5;replace hU:=hU.step hw5;clear hg5 hd5 hw5;generalize hf500 : f5 0 = g500 at *;simp only [ptrs,hf500];clear hf500 f5;refine l_nil ?_;refine k_sub (E':=[(1,.pointer (some ⟨g1,0,none⟩)),(2,.pointer (some ⟨g2,0,none⟩)),(3,.pointer (some ⟨g400,0,none⟩)),(4,.pointer (some ⟨g500,0,none⟩))]) ⟨rfl,rfl,rfl,rfl,trivial⟩ ?_;refine hK _ _ ?_;clear hK K;refine c_seq fun K0 hK0=>?_;refine c_seq fun K hK=>?_;refine c_qF ?_;refine f_fld g1 0 0 rfl rfl rfl rfl rfl (fun w1=>cpf0 _ w1) ?_;refine f_el g1 0 hX1.len rfl rfl rfl rfl rfl (fun _ h1=>(h1.blk b1).cx) ?_;refine f_el g400 0 v9.len rfl rfl rfl rfl rfl (fun _ h1=>(h1.blk b400).range) ?_;refine f_us #[.agg (Us X1).toArray,.agg (Us r9).toArray] (EB · A.x) rfl rfl rfl own_elmul (fun w1 h1=>(by have:=elmul_f hX1 v9 w1; rwa [haf.1] at this)) rfl rfl fun r18 v18=>?_;refine f_call #[.agg (Us r18).toArray] (.bool (decide (A.x.val % 2 = 1))) rfl rfl rfl own_odd (fun w1 _=>odd_f v18 w1) rfl rfl ?_;refine f_end fun w9 hw9=>hK _ _ ?_;clear hK K;replace b2:=b2.later hw9;replace b500:=b500.later hw9;replace hT:=hT.below hw9;replace hU:=hU.step hw9;have h31:=enc_top A.y
 by_cases hodd : A.x.val % 2 = 1
 ·refine c_cond (decide (A.x.val % 2 = 1)) rfl ?_
  rw [decide_eq_true hodd,if_pos rfl]
  have e31 : ((UInt8.ofNat (((enc A.y)[31]!).toNat + 128)).toNat : Int) = ((((enc A.y)[31]!).toNat + 128 : Nat) : Int):=by rw [UInt8.toNat_ofNat_of_lt' (by show _ < 256; omega)]
  have c31:=(b500.cell 31).trans (By_get (l:=enc A.y) (j:=31) (by rw [enc_len]; decide));refine c_tF 4 ?_;refine f_ix _ 31 ⟨g500,31,none⟩ rfl rfl rfl rfl rfl rfl (ixH _ 31 (by decide)) ?_;refine f_load ⟨g500,31,none⟩ (.int .u8 (((enc A.y)[31]!).toNat : Int)) (by decide) rfl rfl rfl rfl rfl (fun _ h1=>(h1.cell b500.lt).trans c31) ?_;refine f_orB _ 128 ((((enc A.y)[31]!).toNat + 128 : Nat) : Int) rfl rfl rfl rfl rfl rfl (bit7 _ h31) ?_;refine f_ix _ 31 ⟨g500,31,none⟩ rfl rfl rfl rfl rfl rfl (ixH _ 31 (by decide)) ?_;refine f_store ⟨g500,31,none⟩ ((((enc A.y)[31]!).toNat + 128 : Nat) : Int) _ (.inr ⟨rfl,rfl⟩) rfl rfl rfl rfl rfl c31 (b500.free 31) b500.lt fun w8 hw8=>?_;replace b2:=b2.later hw8;replace b500:=b500.later hw8;replace hT:=hT.below hw8;replace hU:=hU.step hw8;replace b2:=b2.far (p:=⟨g500,31,none⟩) n2_500 (.int .u8 ((((enc A.y)[31]!).toNat + 128 : Nat) : Int));replace b500:=b500.set 31 (.int .u8 ((((enc A.y)[31]!).toNat + 128 : Nat) : Int));rw [← e31,By_set,← encP_odd hodd] at b500;rw [← e31] at b2 ⊢;replace hU : Up w _:=hU.setCell (p:=⟨g500,31,none⟩) q500 (.int .u8 ((UInt8.ofNat (((enc A.y)[31]!).toNat + 128)).toNat : Int));generalize w8.setCell ⟨g500,31,none⟩ (.int .u8 ((UInt8.ofNat (((enc A.y)[31]!).toNat + 128)).toNat : Int)) = W8 at *;refine hK0 _ _ ?_;clear hK0 K0;refine c_seq fun K hK=>?_;refine c_tF 1 ?_;refine f_by g500 0 (encP_len A) rfl rfl rfl rfl rfl (fun _ h1=>(h1.blk b500).range) ?_;refine f_set g2 _ ((By (encP A)).toArray) rfl rfl rfl rfl rfl b2 (size_H (encP_len A)) ((len_by (l:=List.replicate 32 0) rfl).trans (len_by (encP_len A)).symm) (By_oneA _) fun w6 hw6 c6=>?_;replace b500:=(b500.later hw6).rowFar (Ne.symm n2_500) ((By (encP A)).toArray);replace b2:=c6;replace hU:=up_row (hU.step hw6) q2 ((By (encP A)).toArray);clear hw6 c6;generalize w6.setRow g2 ((By (encP A)).toArray) = W6 at *;refine l_nil ?_;refine hK _ _ ?_;clear hK K;refine c_ret (k_ret_row g2 _ rfl rfl b2 Tryd.underlying40 rfl (size_H (encP_len A)) ⟨rfl,hU⟩)
 ·refine c_cond (decide (A.x.val % 2 = 1)) rfl ?_
  rw [decide_eq_false hodd,if_neg (by decide)];refine c_skip ?_;refine hK0 _ _ ?_;clear hK0 K0;rw [← encP_even hodd] at b500;refine c_seq fun K hK=>?_;refine c_tF 1 ?_;refine f_by g500 0 (encP_len A) rfl rfl rfl rfl rfl (fun _ h1=>(h1.blk b500).range) ?_;refine f_set g2 _ ((By (encP A)).toArray) rfl rfl rfl rfl rfl b2 (size_H (encP_len A)) ((len_by (l:=List.replicate 32 0) rfl).trans (len_by (encP_len A)).symm) (By_oneA _) fun w6 hw6 c6=>?_;replace b2:=c6;replace hU:=up_row (hU.step hw6) q2 ((By (encP A)).toArray);clear hw6 c6;generalize w6.setRow g2 ((By (encP A)).toArray) = W6 at *;refine l_nil ?_;refine hK _ _ ?_;clear hK K;refine c_ret (k_ret_row g2 _ rfl rfl b2 Tryd.underlying40 rfl (size_H (encP_len A)) ⟨rfl,hU⟩)
end Go.Proofs.YtlcbhbahchiofaaDoor
/-
  'x, ok := f(..)' OVER FRAMES BY WHAT IS KNOWN OF THEM, the order drawn; the program's Root, by the curve's equation.
-/
namespace Go.Proofs.YtlcbhbahchiofaaDoor
open Go.RowKit Go.IntWalk Nums

section
variable {P : Program} {Q : Exit → Act → World → Prop} {N : Nat} {E : List (Nat × Value)} {w : World}
theorem c_tup {id : Nat} {l : List Oper} {oa os ot : Oper} (n : Nat) (t t2 : Tmp) (ty : TypeId) (x y : Operand) (zs : Array Value) (hl : l = l.take n ++ [oa,os,ot]) (hn : (l.take n).length = n)
  (hop : os.op = .store ty (.tmp t) x) (hot : ot.op = .assign y) (hsg : os.guard = none) (htg : ot.guard = none) (hsd : os.dst = none) (htd : ot.dst = some t2) (hag : oa.guard = none) (had : oa.dst = some t) (hm : P.follows .mixedOrders = true)
  (hs : Region.noSelect l.toArray = true) (hh : headC .any l.toArray n l 0 = true) (hch : chainB .any l 0 none = true)
  (hr0 : Region.ready .any l.toArray (marks n 0 (Array.replicate l.toArray.size false)) = [n])
  (hr1 : Region.ready .any l.toArray ((marks n 0 (Array.replicate l.toArray.size false)).setIfInBounds n true) = [n + 1])
  (hr2 : Region.ready .any l.toArray (((marks n 0 (Array.replicate l.toArray.size false)).setIfInBounds n true).setIfInBounds (n + 1) true) = [n + 2])
  (hr3 : Region.ready .any l.toArray ((((marks n 0 (Array.replicate l.toArray.size false)).setIfInBounds n true).setIfInBounds (n + 1) true).setIfInBounds (n + 2) true) = [])
  (hQ : ∀ c a d v w,Q (.panic c) (a.put d v) w → Q (.panic c) a w) (hoa : oa.op = .alloc ty) (hz : (P.info? ty).bind (fun i=>i.zero.map (·.cells)) = some zs)
  (h : bF P l.toArray (Up w) (tupEnd P Q w t t2 ty x y zs.size) (l.take n) N E) : cF P (.region id l.toArray true) Q N E w:=fun a ha =>
 reg_tup n t t2 ty x y zs hl hn hop hot hsg htg hsd htd hag had hm hs hh hch hr0 hr1 hr2 hr3 hQ (exec_alloc hoa hz) (h a ha)
theorem f_tupEnd {ops : Array Oper} {t t2 : Tmp} {ty : TypeId} {x y : Operand} {n : Nat} (cells : Array Value) (v2 : Value) (ht : Nat.blt t N = true) (ht2 : Nat.blt t2 N = true) (hx : ∀ v,ev ((t,v) :: E) x = some (.agg cells)) (hy : ∀ v,ev ((t,v) :: E) y = some v2) (hn : n = cells.size)
  (hi : (P.info? ty).map (·.size) = some cells.size) (h1 : ∀ v ∈ cells.toList,v.oneCell' = true) (h : ∀ g w',w.heap.size ≤ g → Up w w' → Blk w' g ty cells → kF (Q .normal) N ((t2,v2) :: (t,.pointer (some ⟨g,0,none⟩)) :: E) w') :
  bF P ops (Up w) (tupEnd P Q w t t2 ty x y n) [] N E:=fun a ha=>wpB_nil ⟨cells,v2,fun v=>(ha.put ht v).get t v (by rw [look_cons,if_pos rfl]),fun v=>(ha.put ht v).eval (hx v),fun v=>(ha.put ht v).eval (hy v),hn,hi,h1,
   fun g w' hg hU hb=>h g w' hg hU hb _ ((ha.put ht _).put ht2 _)⟩
end
theorem croot_f {a b : List Nat} {y : F} (hA : EB a (y * y - 1)) (hB : EB b (y * y * dd + 1)) :
  ((∃ x,x.val % 2 = 0 ∧ Ed.On dd ⟨x,y⟩ ∧ ∀ w,Tw w → Calls Tryd.prog 56 #[.agg (Us a).toArray,.agg (Us b).toArray] w fun e w'=>∃ r,EB r x ∧ e = .returned (.tuple #[.agg (Us r).toArray,.bool true]) ∧ Below w.heap.size w w') ∨
   ((∀ x,¬ Ed.On dd ⟨x,y⟩) ∧ ∀ w,Tw w → Calls Tryd.prog 56 #[.agg (Us a).toArray,.agg (Us b).toArray] w fun e w'=>e = .returned (.tuple #[.agg z5,.bool false]) ∧ Below w.heap.size w w')):=by
 have hv:=vv_ne y
 by_cases hx : ∃ x,Ed.On dd ⟨x,y⟩
 ·left
  obtain ⟨x0,h0⟩:=hx
  have key : ∀ x : F,(y * y * dd + 1) * x * x = y * y - 1 ∧ x.val % 2 = 0 → x = evenOf x0:=fun x hx=>by
   have h1:=on_vxx.1 h0
   have h2 : x * x = x0 * x0:=by
    refine cancel prime_p hv ?_
    have e1 : x * x * (y * y * dd + 1) = (y * y * dd + 1) * x * x:=by grind only
    have e2 : x0 * x0 * (y * y * dd + 1) = (y * y * dd + 1) * x0 * x0:=by grind only
    rw [e1,e2,hx.1,h1]
   exact root_one (h2.trans (evenOf_sq x0).symm) (by rw [hx.2,evenOf_even])
  refine ⟨evenOf x0,evenOf_even x0,?_,fun w hT=>(elroot_f hA hB w hT).mono fun e w' ⟨h,hw⟩=>?_⟩
  ·rw [on_iff,evenOf_sq]
   exact (on_iff _ _).1 h0
  ·rcases h with ⟨r,x,hr,_,hx,he⟩ | ⟨h,_⟩
   ·exact ⟨r,key x hx ▸ hr,he,hw⟩
   ·rcases h with h | h
    ·exact absurd h hv
    ·exact absurd (on_vxx.1 h0) (h x0)
 ·right
  refine ⟨fun x h=>hx ⟨x,h⟩,fun w hT=>(elroot_f hA hB w hT).mono fun e w' ⟨h,hw⟩=>?_⟩
  rcases h with ⟨r,x,_,_,h,_⟩ | ⟨_,he⟩
  ·exact absurd ⟨x,on_vxx.2 h.1⟩ hx
  ·exact ⟨he,hw⟩
end Go.Proofs.YtlcbhbahchiofaaDoor
/-
  THE PROGRAM'S POINTS: Decode.
-/
namespace Go.Proofs.YtlcbhbahchiofaaDoor
open Go.RowKit Go.IntWalk Nums

set_option maxRecDepth 100000 in
set_option maxHeartbeats 4000000 in
theorem cdecode_f {b : List UInt8} (hb : b.length = 32) (w : World) (hT : Tw w) :
  Calls Tryd.prog 37 #[.agg (By b).toArray] w fun e w'=>((∃ l A,QB l A ∧ encP A = b ∧ e = .returned (.tuple #[.agg (Us l).toArray,.int .i64 0])) ∨ ((¬ ∃ A,Ed.On dd A ∧ encP A = b) ∧ e = .returned (.tuple #[.agg (Us pz).toArray,.int .i64 50]))) ∧ Below w.heap.size w w':=by
 refine calls_F (vs:=[.agg (By b).toArray]) 57 Tryd.func37 rfl (by rw [Tryd.ntmps37]; rfl) ?_;have hw0:=hT.lt;have hle:=le_cutb hb;have hng:=not_good hb;have hgc:=good_cutb hb;have hcl:=cutb_len hb;have hlt:=(b[31]!).toNat_lt;have h31:=By_get (l:=b) (j:=31) (by omega)
 have hcut : (By b).toArray.setIfInBounds 31 (.int .u8 (((b[31]!).toNat % 128 : Nat) : Int)) = (By (cutb b)).toArray:=by rw [cutb,← By_set,UInt8.toNat_ofNat_of_lt' (by show _ < 256; omega)]
 generalize (b[31]!).toNat = hi at *;refine c_seq fun K hK=>?_;refine c_lit ?_;refine l_boxA ((By b).toArray) rfl rfl rfl rfl rfl fun W1 g1 hw1 hg1 b1=>?_
 have q1 : w.heap.size ≤ g1:=by rw [hg1]; exact Nat.le_refl _
 clear hg1;replace hT:=hT.below hw1;have hU : Up w _:=hw1;refine l_allocA ((Us pz).toArray) rfl rfl rfl rfl (by kernel_rfl) fun W2 g2 hw2 hg2 b2=>?_
 have q2 : w.heap.size ≤ g2:=by rw [hg2]; exact hU.size
 have n1_2 : g1 ≠ g2:=by have:=b1.lt; omega
 clear hg2;replace b1:=b1.later hw2;replace hT:=hT.below hw2;replace hU:=hU.step hw2;refine l_assign (.int .i64 0) rfl rfl rfl rfl rfl ?_;refine l_nil ?_;refine hK _ _ ?_;clear hK K;have c31:=(b1.cell 31).trans h31;refine c_seq fun K hK=>?_;refine c_qF ?_;refine f_ix _ 31 ⟨g1,31,none⟩ rfl rfl rfl rfl rfl rfl (ixH _ 31 (by decide)) ?_;refine f_load ⟨g1,31,none⟩ (.int .u8 (hi : Int)) (by decide) rfl rfl rfl rfl rfl (fun _ h1=>(h1.cell b1.lt).trans c31) ?_;refine f_shrB .u64 (.inr rfl) (hi : Int) 7 ((hi / 128 : Nat) : Int) (by decide) rfl rfl rfl rfl rfl rfl (by show (hi : Int) / 128 = _; omega) ?_;refine f_eqlB _ 1 (decide (hi / 128 = 1)) rfl rfl rfl rfl rfl rfl (by rw [decide_eq_decide]; omega) ?_;refine f_assign (.bool (decide (hi / 128 = 1))) rfl rfl rfl rfl rfl ?_;refine f_end fun w9 hw9=>hK _ _ ?_;clear hK K;replace b1:=b1.later hw9;replace b2:=b2.later hw9;replace hT:=hT.below hw9;replace hU:=hU.step hw9;have c31:=(b1.cell 31).trans h31;refine c_seq fun K hK=>?_;refine c_tF 4 ?_;refine f_ix _ 31 ⟨g1,31,none⟩ rfl rfl rfl rfl rfl rfl (ixH _ 31 (by decide)) ?_;refine f_load ⟨g1,31,none⟩ (.int .u8 (hi : Int)) (by decide) rfl rfl rfl rfl rfl (fun _ h1=>(h1.cell b1.lt).trans c31) ?_;refine f_andB _ 127 ((hi % 128 : Nat) : Int) rfl rfl rfl rfl rfl rfl (low7 _ (by omega)) ?_;refine f_ix _ 31 ⟨g1,31,none⟩ rfl rfl rfl rfl rfl rfl (ixH _ 31 (by decide)) ?_;refine f_store ⟨g1,31,none⟩ ((hi % 128 : Nat) : Int) _ (.inr ⟨rfl,rfl⟩) rfl rfl rfl rfl rfl c31 (b1.free 31) b1.lt fun w8 hw8=>?_;replace b1:=b1.later hw8;replace b2:=b2.later hw8;replace hT:=hT.below hw8;replace hU:=hU.step hw8;replace b2:=b2.far (p:=⟨g1,31,none⟩) (Ne.symm n1_2) (.int .u8 ((hi % 128 : Nat) : Int));replace b1:=b1.set 31 (.int .u8 ((hi % 128 : Nat) : Int));rw [hcut] at b1;replace hU : Up w _:=hU.setCell (p:=⟨g1,31,none⟩) q1 (.int .u8 ((hi % 128 : Nat) : Int));replace hT:=hT.only ((OnlyG.refl w8 g1).set 31 (.int .u8 ((hi % 128 : Nat) : Int))) (by omega);generalize w8.setCell ⟨g1,31,none⟩ (.int .u8 ((hi % 128 : Nat) : Int)) = W8 at *;clear c31 h31 hcut;refine hK _ _ ?_;clear hK K;refine c_seq fun K hK=>?_
 by_cases hg : le (cutb b) < p
 ·have hgd : isGood (cutb b) = true:=by rw [hgc,decide_eq_true hg]
  have hval : fof (le (cutb b) % 57896044618658097711785492504343953926634992332820282019728792003956564819968) = fof (le (cutb b)):=by rw [Nat.mod_eq_of_lt hle.2]
  have hle2 : le b = (fof (le (cutb b))).val + 57896044618658097711785492504343953926634992332820282019728792003956564819968 * (hi / 128):=by rw [fof_val,Nat.mod_eq_of_lt hg]; exact hle.1
  have hNew:=fun w1=>new_const hcl hgd hval w1;clear hgd hval hgc hng hle hg;generalize fof (le (cutb b)) = y at *;refine c_newF 5 [nvE 5] (by decide) ⟨⟨rfl,rfl,rfl,rfl,by kernel_rfl⟩,trivial⟩ ?_;refine f_by g1 0 hcl rfl rfl rfl rfl rfl (fun _ h1=>(h1.blk b1).range) ?_;refine f_tup #[.agg (By (cutb b)).toArray] y rfl rfl rfl own_elnew (fun w1 _=>hNew w1) rfl rfl fun r20 v20=>?_;refine f_move (.tuple #[.agg (Us r20).toArray,.bool true]) rfl rfl rfl rfl rfl ?_;refine f_extract (.agg (Us r20).toArray) rfl rfl rfl rfl rfl rfl ?_;refine f_extract (.bool true) rfl rfl rfl rfl rfl rfl ?_;refine f_new [.tmp 21] [(Us r20).toArray] ⟨rfl,trivial⟩ (by decide) ⟨⟨rfl,rfl,rfl⟩,rfl⟩ ⟨⟨rfl,(us_size zl_len).trans (us_size v20.len).symm,size_E v20.len,Us_oneA _⟩,trivial⟩ fun f11 W11 hg11 hd11 hw11 hb11=>?_;have b1100 : Blk W11 (f11 0) 90 ((Us r20).toArray):=hb11.1;clear hb11
  have n2_1100 : g2 ≠ f11 0:=by have:=b2.lt; have:=hg11 0 (by decide); omega
  replace b1:=b1.later hw11;replace b2:=b2.later hw11;replace hT:=hT.below hw11;replace hU:=hU.step hw11;clear hg11 hd11 hw11;generalize hf1100 : f11 0 = g1100 at *;simp only [ptrs,hf1100];clear hf1100 f11;refine l_assign (.bool true) rfl rfl rfl rfl rfl ?_;refine l_nil ?_;refine k_sub (E':=[(1,.pointer (some ⟨g1,0,none⟩)),(2,.pointer (some ⟨g2,0,none⟩)),(3,.int .i64 0),(4,.bool (decide (hi / 128 = 1))),(5,.pointer (some ⟨g1100,0,none⟩)),(6,.bool true)]) ⟨rfl,rfl,rfl,rfl,rfl,rfl,trivial⟩ ?_;refine hK _ _ ?_;clear hK K;refine c_seq fun K0 hK0=>?_;refine c_seq fun K hK=>?_;refine c_qF ?_;refine f_move (.bool true) rfl rfl rfl rfl rfl ?_;refine f_not true false rfl rfl rfl rfl rfl rfl ?_;refine f_end fun w12 hw12=>hK _ _ ?_;clear hK K;replace b1:=b1.later hw12;replace b2:=b2.later hw12;replace b1100:=b1100.later hw12;replace hT:=hT.below hw12;replace hU:=hU.step hw12;refine c_cond false rfl ?_;rw [if_neg (by decide)];refine c_skip ?_;refine hK0 _ _ ?_;clear hK0 K0;refine c_seq fun K hK=>?_;refine c_new 4 [nvE 7,nvE 8] (by decide) (by decide) ⟨⟨rfl,rfl,rfl,rfl,by kernel_rfl⟩,⟨rfl,rfl,rfl,rfl,by kernel_rfl⟩,trivial⟩ (by kernel_rfl) (tail_ok (by kernel_rfl)) (by kernel_rfl) (fun _ _ d _ _ h=>by cases d <;> exact h) ?_;refine f_us #[.int .u64 1] (EB · 1) rfl rfl rfl own_small (fun w1 _=>small1_f w1) rfl rfl fun r26 v26=>?_;refine f_el g1100 0 v20.len rfl rfl rfl rfl rfl (fun _ h1=>(h1.blk b1100).range) ?_;refine f_el g1100 0 v20.len rfl rfl rfl rfl rfl (fun _ h1=>(h1.blk b1100).range) ?_;refine f_us #[.agg (Us r20).toArray,.agg (Us r20).toArray] (EB · (y * y)) rfl rfl rfl own_elmul (fun w1 h1=>elmul_f v20 v20 w1) rfl rfl fun r29 v29=>?_;refine f_new [.tmp 26,.tmp 29] [(Us r26).toArray,(Us r29).toArray] ⟨rfl,rfl,trivial⟩ (by decide) ⟨⟨rfl,rfl,rfl⟩,⟨rfl,rfl,rfl⟩,rfl⟩ ⟨⟨rfl,(us_size zl_len).trans (us_size v26.len).symm,size_E v26.len,Us_oneA _⟩,⟨rfl,(us_size zl_len).trans (us_size v29.len).symm,size_E v29.len,Us_oneA _⟩,trivial⟩ fun f13 W13 hg13 hd13 hw13 hb13=>?_;have b1300 : Blk W13 (f13 0) 90 ((Us r26).toArray):=hb13.1;have b1301 : Blk W13 (f13 1) 90 ((Us r29).toArray):=hb13.2.1;clear hb13;replace b1:=b1.later hw13;replace b2:=b2.later hw13;replace b1100:=b1100.later hw13;replace hT:=hT.below hw13;replace hU:=hU.step hw13;clear hg13 hd13 hw13;generalize hf1300 : f13 0 = g1300 at *;generalize hf1301 : f13 1 = g1301 at *;simp only [ptrs,Nat.reduceAdd,hf1300,hf1301];clear hf1300 hf1301 f13;refine l_nil ?_;refine k_sub (E':=[(1,.pointer (some ⟨g1,0,none⟩)),(2,.pointer (some ⟨g2,0,none⟩)),(3,.int .i64 0),(4,.bool (decide (hi / 128 = 1))),(5,.pointer (some ⟨g1100,0,none⟩)),(6,.bool true),(7,.pointer (some ⟨g1300,0,none⟩)),(8,.pointer (some ⟨g1301,0,none⟩))]) ⟨rfl,rfl,rfl,rfl,rfl,rfl,rfl,rfl,trivial⟩ ?_;refine hK _ _ ?_;clear hK K;refine c_seq fun K hK=>?_;refine c_tup 12 9 6 90 (.tmp 40) (.tmp 41) z5 rfl rfl rfl rfl rfl rfl rfl rfl rfl rfl (by kernel_rfl) (by kernel_rfl) (by kernel_rfl) (by kernel_rfl) (by kernel_rfl) (by kernel_rfl) (by kernel_rfl) (by kernel_rfl) (fun _ _ d _ _ h=>by cases d <;> exact h) rfl (by kernel_rfl) ?_
  refine f_el g1301 0 v29.len rfl rfl rfl rfl rfl (fun _ h1=>(h1.blk b1301).range) ?_;refine f_el g1300 0 v26.len rfl rfl rfl rfl rfl (fun _ h1=>(h1.blk b1300).range) ?_;refine f_us #[.agg (Us r29).toArray,.agg (Us r26).toArray] (EB · ((y * y) - 1)) rfl rfl rfl own_elsub (fun w1 h1=>elsub_f v29 v26 w1 (hT.below h1)) rfl rfl fun r33 v33=>?_;refine f_el g1301 0 v29.len rfl rfl rfl rfl rfl (fun _ h1=>(h1.blk b1301).range) ?_;refine f_us #[] (EB · dd) rfl rfl rfl own_factor (fun w1 h1=>factor_f w1) rfl rfl fun r35 v35=>?_;refine f_us #[.agg (Us r29).toArray,.agg (Us r35).toArray] (EB · ((y * y) * dd)) rfl rfl rfl own_elmul (fun w1 h1=>elmul_f v29 v35 w1) rfl rfl fun r36 v36=>?_;refine f_el g1300 0 v26.len rfl rfl rfl rfl rfl (fun _ h1=>(h1.blk b1300).range) ?_;refine f_us #[.agg (Us r36).toArray,.agg (Us r26).toArray] (EB · (((y * y) * dd) + 1)) rfl rfl rfl own_eladd (fun w1 h1=>eladd_f v36 v26 w1) rfl rfl fun r38 v38=>?_;have hRt:=croot_f v33 v38
  rcases hRt with ⟨x,hev,hon,hRoot⟩ | ⟨hnone,hRoot⟩
  ·refine f_tup #[.agg (Us r33).toArray,.agg (Us r38).toArray] x rfl rfl rfl own_root3 (fun w1 h1=>hRoot w1 (hT.below h1)) rfl rfl fun r39 v39=>?_
   refine f_move (.tuple #[.agg (Us r39).toArray,.bool true]) rfl rfl rfl rfl rfl ?_;refine f_extract (.agg (Us r39).toArray) rfl rfl rfl rfl rfl rfl ?_;refine f_extract (.bool true) rfl rfl rfl rfl rfl rfl ?_;refine f_tupEnd (Us r39).toArray (.bool true) rfl rfl (fun _=>rfl) (fun _=>rfl) (us_size (l:=zl) rfl |>.trans (us_size v39.len).symm) (size_E v39.len) (Us_oneA _) fun g14 W14 hg14 hw14 b14=>?_;have q14 : w.heap.size ≤ g14:=Nat.le_trans hU.size hg14
   have n1_14 : g1 ≠ g14:=by have:=b1.lt; omega
   have n2_14 : g2 ≠ g14:=by have:=b2.lt; omega
   have n1100_14 : g1100 ≠ g14:=by have:=b1100.lt; omega
   replace b1:=b1.later hw14;replace b2:=b2.later hw14;replace b1100:=b1100.later hw14;replace hT:=hT.below hw14;replace hU:=hU.step hw14;refine k_sub (E':=[(1,.pointer (some ⟨g1,0,none⟩)),(2,.pointer (some ⟨g2,0,none⟩)),(3,.int .i64 0),(4,.bool (decide (hi / 128 = 1))),(5,.pointer (some ⟨g1100,0,none⟩)),(6,.bool true),(9,.pointer (some ⟨g14,0,none⟩))]) ⟨rfl,rfl,rfl,rfl,rfl,rfl,rfl,trivial⟩ ?_;refine hK _ _ ?_;clear hK K;refine c_seq fun K0 hK0=>?_;refine c_seq fun K hK=>?_;refine c_qF ?_;refine f_move (.bool true) rfl rfl rfl rfl rfl ?_;refine f_not true false rfl rfl rfl rfl rfl rfl ?_;refine f_end fun w15 hw15=>hK _ _ ?_;clear hK K;replace b1:=b1.later hw15;replace b2:=b2.later hw15;replace b1100:=b1100.later hw15;replace b14:=b14.later hw15;replace hT:=hT.below hw15;replace hU:=hU.step hw15;refine c_cond false rfl ?_;rw [if_neg (by decide)];refine c_skip ?_;refine hK0 _ _ ?_;clear hK0 K0;refine c_seq fun K0 hK0=>?_;refine c_seq fun K hK=>?_;refine c_qF ?_;refine f_move (.bool (decide (hi / 128 = 1))) rfl rfl rfl rfl rfl ?_;refine f_end fun w16 hw16=>hK _ _ ?_;clear hK K;replace b1:=b1.later hw16;replace b2:=b2.later hw16;replace b1100:=b1100.later hw16;replace b14:=b14.later hw16;replace hT:=hT.below hw16;replace hU:=hU.step hw16
   by_cases hodd : hi / 128 = 1
   ·rw [decide_eq_true hodd]
    refine c_cond true rfl ?_;rw [if_pos rfl];refine c_tF 3 ?_;refine f_build [] (Us zl).toArray rfl rfl rfl rfl rfl built_zero ?_;refine f_el g14 0 v39.len rfl rfl rfl rfl rfl (fun _ h1=>(h1.blk b14).range) ?_;refine f_us #[.agg (Us zl).toArray,.agg (Us r39).toArray] (EB · (0 - x)) rfl rfl rfl own_elsub (fun w1 h1=>elsub_f eb_zero v39 w1 (hT.below h1)) rfl rfl fun r48 v48=>?_;refine f_set g14 _ ((Us r48).toArray) rfl rfl rfl rfl rfl b14 (size_E v48.len) ((us_size v39.len).trans (us_size v48.len).symm) (Us_oneA _) fun w17 hw17 c17=>?_;replace b1:=(b1.later hw17).rowFar n1_14 ((Us r48).toArray);replace b2:=(b2.later hw17).rowFar n2_14 ((Us r48).toArray);replace b1100:=(b1100.later hw17).rowFar n1100_14 ((Us r48).toArray);replace b14:=c17;replace hT:=(hT.below hw17).row (g:=g14) (by have:=hw0; omega) ((Us r48).toArray);replace hU:=up_row (hU.step hw17) q14 ((Us r48).toArray);clear hw17 c17;generalize w17.setRow g14 ((Us r48).toArray) = W17 at *;refine l_nil ?_;refine hK0 _ _ ?_;clear hK0 K0
    by_cases hx0 : x = 0
    ·have hp0 : decide ((0 - x : F).val % 2 = 1) = false:=by rw [hx0]; decide
     refine c_seq fun K0 hK0=>?_;refine c_seq fun K hK=>?_;refine c_qF ?_;refine f_el g14 0 v48.len rfl rfl rfl rfl rfl (fun _ h1=>(h1.blk b14).range) ?_;refine f_call #[.agg (Us r48).toArray] (.bool (decide ((0 - x).val % 2 = 1))) rfl rfl rfl own_odd (fun w1 _=>odd_f v48 w1) rfl rfl ?_;refine f_move (.bool true) rfl rfl rfl rfl rfl ?_;refine f_neqb (decide ((0 - x).val % 2 = 1)) true true rfl rfl rfl rfl rfl rfl (by rw [hp0]; rfl) ?_;refine f_end fun w18 hw18=>hK _ _ ?_;clear hK K;replace b1:=b1.later hw18;replace b2:=b2.later hw18;replace b1100:=b1100.later hw18;replace b14:=b14.later hw18;replace hT:=hT.below hw18;replace hU:=hU.step hw18
     have hno : ¬ ∃ A,Ed.On dd A ∧ encP A = b:=by
      rintro ⟨A,hA,hAb⟩
      obtain ⟨e1,e2⟩:=dec_y hle2 hAb
      have h3 : Ed.On dd ⟨A.x,y⟩:=by rw [← e1]; exact hA
      have h4:=on_vxx.1 h3;have h5:=on_vxx.1 hon;rw [← h5,hx0] at h4
      have h6 : A.x = 0:=by
       by_cases h : A.x = 0
       ·exact h
       ·exact absurd (h4.trans (by grind only)) (mul_ne prime_p (mul_ne prime_p (vv_ne y) h) h)
      rw [h6,hodd] at e2
      revert e2
      decide
     refine c_cond true rfl ?_;rw [if_pos rfl];refine c_seq fun K2 hK2=>?_;refine c_tF 1 ?_;refine f_build [] (Us pz).toArray rfl rfl rfl rfl rfl builtP0 ?_;refine f_set g2 _ ((Us pz).toArray) rfl rfl rfl rfl rfl b2 (size_P pz_len) ((us_size pz_len).trans (us_size pz_len).symm) (Us_oneA _) fun w19 hw19 c19=>?_;replace b1:=(b1.later hw19).rowFar n1_2 ((Us pz).toArray);replace b1100:=(b1100.later hw19).rowFar (Ne.symm n2_1100) ((Us pz).toArray);replace b14:=(b14.later hw19).rowFar (Ne.symm n2_14) ((Us pz).toArray);replace b2:=c19;replace hT:=(hT.below hw19).row (g:=g2) (by have:=hw0; omega) ((Us pz).toArray);replace hU:=up_row (hU.step hw19) q2 ((Us pz).toArray);clear hw19 c19;generalize w19.setRow g2 ((Us pz).toArray) = W19 at *;refine l_assign (.int .i64 50) rfl rfl rfl rfl rfl ?_;refine l_nil ?_;refine hK2 _ _ ?_;refine c_ret (k_then_ret (k_ret_row2 g2 _ rfl rfl rfl b2 Tryd.underlying92 rfl (size_P pz_len) ⟨.inr ⟨hno,rfl⟩,hU⟩))
    ·have hpo : (0 - x : F).val % 2 = 1:=by rw [show (0 - x : F) = -x from by grind only,neg_odd hx0,hev]
     have hp0 : decide ((0 - x : F).val % 2 = 1) = true:=decide_eq_true hpo;refine c_seq fun K0 hK0=>?_;refine c_seq fun K hK=>?_;refine c_qF ?_;refine f_el g14 0 v48.len rfl rfl rfl rfl rfl (fun _ h1=>(h1.blk b14).range) ?_;refine f_call #[.agg (Us r48).toArray] (.bool (decide ((0 - x).val % 2 = 1))) rfl rfl rfl own_odd (fun w1 _=>odd_f v48 w1) rfl rfl ?_;refine f_move (.bool true) rfl rfl rfl rfl rfl ?_;refine f_neqb (decide ((0 - x).val % 2 = 1)) true false rfl rfl rfl rfl rfl rfl (by rw [hp0]; rfl) ?_;refine f_end fun w18 hw18=>hK _ _ ?_;clear hK K;replace b1:=b1.later hw18;replace b2:=b2.later hw18;replace b1100:=b1100.later hw18;replace b14:=b14.later hw18;replace hT:=hT.below hw18;replace hU:=hU.step hw18;refine c_cond false rfl ?_;rw [if_neg (by decide)];refine c_skip ?_;refine hK0 _ _ ?_;clear hK0 K0;refine c_seq fun K hK=>?_;refine c_tF 3 ?_;refine f_el g14 0 v48.len rfl rfl rfl rfl rfl (fun _ h1=>(h1.blk b14).range) ?_;refine f_el g1100 0 v20.len rfl rfl rfl rfl rfl (fun _ h1=>(h1.blk b1100).range) ?_;refine f_us #[.agg (Us r48).toArray,.agg (Us r20).toArray] (QB · ⟨0 - x,y⟩) rfl rfl rfl own_at (fun w1 h1=>at_f v48 v20 (on_vxx.2 (by rw [← on_vxx.1 hon]; grind only)) w1) rfl rfl fun r56 v56=>?_;refine f_set g2 _ ((Us r56).toArray) rfl rfl rfl rfl rfl b2 (size_P v56.len) ((us_size pz_len).trans (us_size v56.len).symm) (Us_oneA _) fun w19 hw19 c19=>?_;replace b1:=(b1.later hw19).rowFar n1_2 ((Us r56).toArray);replace b1100:=(b1100.later hw19).rowFar (Ne.symm n2_1100) ((Us r56).toArray);replace b14:=(b14.later hw19).rowFar (Ne.symm n2_14) ((Us r56).toArray);replace b2:=c19;replace hT:=(hT.below hw19).row (g:=g2) (by have:=hw0; omega) ((Us r56).toArray);replace hU:=up_row (hU.step hw19) q2 ((Us r56).toArray);clear hw19 c19;generalize w19.setRow g2 ((Us r56).toArray) = W19 at *;refine l_assign (.int .i64 0) rfl rfl rfl rfl rfl ?_;refine l_nil ?_;refine hK _ _ ?_;refine c_ret (k_ret_row2 g2 _ rfl rfl rfl b2 Tryd.underlying92 rfl (size_P v56.len) ⟨.inl ⟨_,_,v56,dec_enc hb (s:=1) (by rw [← hodd]; exact hle2) hpo,rfl⟩,hU⟩)
   ·rw [decide_eq_false hodd]
    refine c_cond false rfl ?_;rw [if_neg (by decide)];refine c_skip ?_;refine hK0 _ _ ?_;clear hK0 K0;have hp0 : decide (x.val % 2 = 1) = false:=decide_eq_false (by omega)
    have h00 : hi / 128 = 0:=by omega
    refine c_seq fun K0 hK0=>?_;refine c_seq fun K hK=>?_;refine c_qF ?_;refine f_el g14 0 v39.len rfl rfl rfl rfl rfl (fun _ h1=>(h1.blk b14).range) ?_;refine f_call #[.agg (Us r39).toArray] (.bool (decide ((x).val % 2 = 1))) rfl rfl rfl own_odd (fun w1 _=>odd_f v39 w1) rfl rfl ?_;refine f_move (.bool false) rfl rfl rfl rfl rfl ?_;refine f_neqb (decide ((x).val % 2 = 1)) false false rfl rfl rfl rfl rfl rfl (by rw [hp0]; rfl) ?_;refine f_end fun w17 hw17=>hK _ _ ?_;clear hK K;replace b1:=b1.later hw17;replace b2:=b2.later hw17;replace b1100:=b1100.later hw17;replace b14:=b14.later hw17;replace hT:=hT.below hw17;replace hU:=hU.step hw17;refine c_cond false rfl ?_;rw [if_neg (by decide)];refine c_skip ?_;refine hK0 _ _ ?_;clear hK0 K0;refine c_seq fun K hK=>?_;refine c_tF 3 ?_;refine f_el g14 0 v39.len rfl rfl rfl rfl rfl (fun _ h1=>(h1.blk b14).range) ?_;refine f_el g1100 0 v20.len rfl rfl rfl rfl rfl (fun _ h1=>(h1.blk b1100).range) ?_;refine f_us #[.agg (Us r39).toArray,.agg (Us r20).toArray] (QB · ⟨x,y⟩) rfl rfl rfl own_at (fun w1 h1=>at_f v39 v20 hon w1) rfl rfl fun r56 v56=>?_;refine f_set g2 _ ((Us r56).toArray) rfl rfl rfl rfl rfl b2 (size_P v56.len) ((us_size pz_len).trans (us_size v56.len).symm) (Us_oneA _) fun w18 hw18 c18=>?_;replace b1:=(b1.later hw18).rowFar n1_2 ((Us r56).toArray);replace b1100:=(b1100.later hw18).rowFar (Ne.symm n2_1100) ((Us r56).toArray);replace b14:=(b14.later hw18).rowFar (Ne.symm n2_14) ((Us r56).toArray);replace b2:=c18;replace hT:=(hT.below hw18).row (g:=g2) (by have:=hw0; omega) ((Us r56).toArray);replace hU:=up_row (hU.step hw18) q2 ((Us r56).toArray);clear hw18 c18;generalize w18.setRow g2 ((Us r56).toArray) = W18 at *;refine l_assign (.int .i64 0) rfl rfl rfl rfl rfl ?_;refine l_nil ?_;refine hK _ _ ?_;refine c_ret (k_ret_row2 g2 _ rfl rfl rfl b2 Tryd.underlying92 rfl (size_P v56.len) ⟨.inl ⟨_,_,v56,dec_enc hb (s:=0) (by rw [← h00]; exact hle2) hev,rfl⟩,hU⟩)
  ·have hno : ¬ ∃ A,Ed.On dd A ∧ encP A = b:=by
    rintro ⟨A,hA,hAb⟩
    obtain ⟨e1,_⟩:=dec_y hle2 hAb;exact hnone A.x (by rw [← e1]; exact hA)
   refine f_call #[.agg (Us r33).toArray,.agg (Us r38).toArray] (.tuple #[.agg (Us zl).toArray,.bool false]) rfl rfl rfl own_root3 (fun w1 h1=>hRoot w1 (hT.below h1)) rfl rfl ?_;refine f_move (.tuple #[.agg (Us zl).toArray,.bool false]) rfl rfl rfl rfl rfl ?_;refine f_extract (.agg (Us zl).toArray) rfl rfl rfl rfl rfl rfl ?_;refine f_extract (.bool false) rfl rfl rfl rfl rfl rfl ?_;refine f_tupEnd (Us zl).toArray (.bool false) rfl rfl (fun _=>rfl) (fun _=>rfl) (us_size (l:=zl) rfl |>.trans (us_size zl_len).symm) (size_E zl_len) (Us_oneA _) fun g14 W14 hg14 hw14 b14=>?_;replace b1:=b1.later hw14;replace b2:=b2.later hw14;replace b1100:=b1100.later hw14;replace hT:=hT.below hw14;replace hU:=hU.step hw14;refine k_sub (E':=[(1,.pointer (some ⟨g1,0,none⟩)),(2,.pointer (some ⟨g2,0,none⟩)),(3,.int .i64 0),(4,.bool (decide (hi / 128 = 1))),(5,.pointer (some ⟨g1100,0,none⟩)),(6,.bool false),(9,.pointer (some ⟨g14,0,none⟩))]) ⟨rfl,rfl,rfl,rfl,rfl,rfl,rfl,trivial⟩ ?_;refine hK _ _ ?_;clear hK K;refine c_seq fun K0 hK0=>?_;refine c_seq fun K hK=>?_;refine c_qF ?_;refine f_move (.bool false) rfl rfl rfl rfl rfl ?_;refine f_not false true rfl rfl rfl rfl rfl rfl ?_;refine f_end fun w15 hw15=>hK _ _ ?_;clear hK K;replace b1:=b1.later hw15;replace b2:=b2.later hw15;replace b1100:=b1100.later hw15;replace hT:=hT.below hw15;replace hU:=hU.step hw15;refine c_cond true rfl ?_;rw [if_pos rfl];refine c_seq fun K2 hK2=>?_;refine c_tF 1 ?_;refine f_build [] (Us pz).toArray rfl rfl rfl rfl rfl builtP0 ?_;refine f_set g2 _ ((Us pz).toArray) rfl rfl rfl rfl rfl b2 (size_P pz_len) ((us_size pz_len).trans (us_size pz_len).symm) (Us_oneA _) fun w16 hw16 c16=>?_;replace b1:=(b1.later hw16).rowFar n1_2 ((Us pz).toArray);replace b1100:=(b1100.later hw16).rowFar (Ne.symm n2_1100) ((Us pz).toArray);replace b2:=c16;replace hT:=(hT.below hw16).row (g:=g2) (by have:=hw0; omega) ((Us pz).toArray);replace hU:=up_row (hU.step hw16) q2 ((Us pz).toArray);clear hw16 c16;generalize w16.setRow g2 ((Us pz).toArray) = W16 at *;refine l_assign (.int .i64 50) rfl rfl rfl rfl rfl ?_;refine l_nil ?_;refine hK2 _ _ ?_;refine c_ret (k_then_ret (k_ret_row2 g2 _ rfl rfl rfl b2 Tryd.underlying92 rfl (size_P pz_len) ⟨.inr ⟨hno,rfl⟩,hU⟩))
 ·have hno:=hng hg
  have hNew : ∀ w1,Calls Tryd.prog 53 #[.agg (By (cutb b)).toArray] w1 fun e w'=>e = .returned (.tuple #[.agg (Us zl).toArray,.bool false]) ∧ Below w1.heap.size w1 w':=fun w1=>(new_f hcl w1).mono fun e w' ⟨h,hw⟩=>by
   rcases h with ⟨h,_⟩ | ⟨_,h⟩
   ·rw [hgc,decide_eq_false hg] at h; cases h
   ·exact ⟨h,hw⟩
  refine c_newF 5 [nvE 5] (by decide) ⟨⟨rfl,rfl,rfl,rfl,by kernel_rfl⟩,trivial⟩ ?_;refine f_by g1 0 hcl rfl rfl rfl rfl rfl (fun _ h1=>(h1.blk b1).range) ?_;refine f_call #[.agg (By (cutb b)).toArray] (.tuple #[.agg (Us zl).toArray,.bool false]) rfl rfl rfl own_elnew (fun w1 _=>hNew w1) rfl rfl ?_;refine f_move (.tuple #[.agg (Us zl).toArray,.bool false]) rfl rfl rfl rfl rfl ?_;refine f_extract (.agg (Us zl).toArray) rfl rfl rfl rfl rfl rfl ?_;refine f_extract (.bool false) rfl rfl rfl rfl rfl rfl ?_;refine f_new [.tmp 21] [(Us zl).toArray] ⟨rfl,trivial⟩ (by decide) ⟨⟨rfl,rfl,rfl⟩,rfl⟩ ⟨⟨rfl,rfl,size_E zl_len,Us_oneA _⟩,trivial⟩ fun f11 W11 hg11 hd11 hw11 hb11=>?_;have b1100 : Blk W11 (f11 0) 90 ((Us zl).toArray):=hb11.1;clear hb11;replace b2:=b2.later hw11;replace hT:=hT.below hw11;replace hU:=hU.step hw11;clear hg11 hd11 hw11;generalize hf1100 : f11 0 = g1100 at *;simp only [ptrs,hf1100];clear hf1100 f11;refine l_assign (.bool false) rfl rfl rfl rfl rfl ?_;refine l_nil ?_;refine k_sub (E':=[(1,.pointer (some ⟨g1,0,none⟩)),(2,.pointer (some ⟨g2,0,none⟩)),(3,.int .i64 0),(4,.bool (decide (hi / 128 = 1))),(5,.pointer (some ⟨g1100,0,none⟩)),(6,.bool false)]) ⟨rfl,rfl,rfl,rfl,rfl,rfl,trivial⟩ ?_;refine hK _ _ ?_;clear hK K;refine c_seq fun K0 hK0=>?_;refine c_seq fun K hK=>?_;refine c_qF ?_;refine f_move (.bool false) rfl rfl rfl rfl rfl ?_;refine f_not false true rfl rfl rfl rfl rfl rfl ?_;refine f_end fun w12 hw12=>hK _ _ ?_;clear hK K;replace b2:=b2.later hw12;replace hT:=hT.below hw12;replace hU:=hU.step hw12;refine c_cond true rfl ?_;rw [if_pos rfl];refine c_seq fun K2 hK2=>?_;refine c_tF 1 ?_;refine f_build [] (Us pz).toArray rfl rfl rfl rfl rfl builtP0 ?_;refine f_set g2 _ ((Us pz).toArray) rfl rfl rfl rfl rfl b2 (size_P pz_len) ((us_size pz_len).trans (us_size pz_len).symm) (Us_oneA _) fun w13 hw13 c13=>?_;replace b2:=c13;replace hT:=(hT.below hw13).row (g:=g2) (by have:=hw0; omega) ((Us pz).toArray);replace hU:=up_row (hU.step hw13) q2 ((Us pz).toArray);clear hw13 c13;generalize w13.setRow g2 ((Us pz).toArray) = W13 at *;refine l_assign (.int .i64 50) rfl rfl rfl rfl rfl ?_;refine l_nil ?_;refine hK2 _ _ ?_;refine c_ret (k_then_ret (k_ret_row2 g2 _ rfl rfl rfl b2 Tryd.underlying92 rfl (size_P pz_len) ⟨.inr ⟨hno,rfl⟩,hU⟩))
end Go.Proofs.YtlcbhbahchiofaaDoor
/-
  STEPS OF THE CURVE's LAWS over frames by what is known of them: guarded operations, choices, '==' of what is equal; points of both makes; first.
-/
namespace Go.Proofs.YtlcbhbahchiofaaDoor
open Go.RowKit Go.IntWalk Nums

section
variable {P : Program} {ops : Array Oper} {C0 : World → Prop} {Q : Act → Prop} {N : Nat} {E : List (Nat × Value)} {o : Oper} {rest : List Oper} {k : Nat}
theorem f_pick {c x y : Operand} (v : Value) (hg : o.guard = none) (hd : o.dst = some k) (hk : Nat.blt k N = true) (ho : o.op = .pick c x y) (hc : ev E c = some (.bool true)) (hx : ev E x = some v) (hn : bF P ops C0 Q rest N ((k,v) :: E)) : bF P ops C0 Q (o :: rest) N E :=
 f_val _ hg hd hk (fun a ha w _=>by
  have h1:=ha.eval hc;have h2:=ha.eval hx
  unfold execOp
  simp only [ho,h1,h2]
  go_simp) hn
end
section
variable {ops : Array Oper} {C0 : World → Prop} {Q : Act → Prop} {N : Nat} {E : List (Nat × Value)} {o : Oper} {rest : List Oper} {k : Nat}
theorem f_eqd {t t' : TypeId} {x y : Operand} (l m : List UInt8) (hg : o.guard = none) (hd : o.dst = some k) (hk : Nat.blt k N = true) (ho : o.op = .binOp .eql t x y t') (ht : t = 40) (hx : ev E x = some (.agg (By l).toArray)) (hy : ev E y = some (.agg (By m).toArray))
  (hl : l.length = 32) (hm : m.length = 32) (hn : bF Tryd.prog ops C0 Q rest N ((k,.bool (decide (l = m))) :: E)) : bF Tryd.prog ops C0 Q (o :: rest) N E:=by
 subst ht;exact f_eq (By l).toArray (By m).toArray hg hd hk ho hx hy (by kernel_rfl) (fun w=>equal32 l m hl hm w) hn
end
theorem own_chash : Own 42:=fun _ _=>by go_simp
theorem own_csmall : Own 38:=fun _ _=>by go_simp
theorem own_cmul : Own 47:=fun _ _=>by go_simp
theorem own_cdecode : Own 37:=fun _ _=>by go_simp

/-! ### Known bytes -/
/-! ### Decode, where the bytes are known -/
theorem cdec_pt {A : Ed.Pt p} (hA : Ed.On dd A) (w : World) (hT : Tw w) : Calls Tryd.prog 37 #[.agg (By (encP A)).toArray] w fun e w'=>∃ v,e = .returned v ∧ (∃ l,QB l A ∧ v = .tuple #[.agg (Us l).toArray,.int .i64 0]) ∧ Below w.heap.size w w' :=
 (cdecode_f (encP_len A) w hT).mono fun e w' ⟨h,hw⟩=>by
  rcases h with ⟨l,B,hl,hB,he⟩ | ⟨h,_⟩
  ·have : B = A:=encP_inj hl.on hA hB
   subst this;exact ⟨_,he,⟨l,hl,rfl⟩,hw⟩
  ·exact absurd ⟨A,hA,rfl⟩ h
theorem cdec_no {b : List UInt8} (hb : b.length = 32) (hn : ¬ ∃ A,Ed.On dd A ∧ encP A = b) (w : World) (hT : Tw w) : Calls Tryd.prog 37 #[.agg (By b).toArray] w fun e w'=>e = .returned (.tuple #[.agg (Us pz).toArray,.int .i64 50]) ∧ Below w.heap.size w w' :=
 (cdecode_f hb w hT).mono fun e w' ⟨h,hw⟩=>by
  rcases h with ⟨l,B,hl,hB,he⟩ | ⟨_,he⟩
  ·exact absurd ⟨B,hl.on,hB⟩ hn
  ·exact ⟨he,hw⟩
end Go.Proofs.YtlcbhbahchiofaaDoor
/-
  PLAIN NUMBERS of the curve's laws.
-/
namespace Go.Proofs.YtlcbhbahchiofaaDoor
open Go.RowKit Nums

theorem mul_ll (n : Nat) : Ed.mul dd (n % LL) base = Ed.mul dd n base:=(Ed.mul_mod good on_base order n).symm
theorem ll_mod (n : Nat) : n % LL < LL:=Nat.mod_lt _ (by decide)
/-! ### Points of small order -/
def m1 : Ed.Pt p:=⟨0, -1⟩
end Go.Proofs.YtlcbhbahchiofaaDoor
/-
  WORDS OF 64 BITS: the library's Sub64; calls of the library inside regions.
-/
namespace Go.Proofs.YtlcbhbahchiofaaDoor
open Go.RowKit Go.IntWalk

theorem sub64_run (x y b : Nat) (hb : b ≤ 1) (w : World) : (callFunc 75 #[.int .u64 x,.int .u64 y,.int .u64 b]).run Tryd.prog w =
  .ok (.value (.tuple #[.int .u64 (((x + 18446744073709551616 - y - b) % 18446744073709551616 : Nat) : Int),.int .u64 ((if x < y + b then 1 else 0 : Nat) : Int)])) w:=by
 rw [run_callFunc_extern Tryd.func75 (by kernel_rfl) (by kernel_rfl) (by kernel_rfl) (e:=subEntry) (by kernel_rfl),run_sub x y b hb]
 rfl

end Go.Proofs.YtlcbhbahchiofaaDoor
/-
  PLAIN NUMBERS: a number as four words of 64 bits; sums with carries; the number modulo L out of five words. No program is imported.
-/
namespace Nums

def ws (n : Nat) : List Nat:=[n % 18446744073709551616,n / 18446744073709551616 % 18446744073709551616,n / 340282366920938463463374607431768211456 % 18446744073709551616,n / 6277101735386680763835789423207666416102355444464034512896 % 18446744073709551616]
def v4 (a b c d : Nat) : Nat:=a + 18446744073709551616 * b + 340282366920938463463374607431768211456 * c + 6277101735386680763835789423207666416102355444464034512896 * d
theorem ws_len (n : Nat) : (ws n).length = 4:=rfl
theorem ws_v4 {a b c d : Nat} (h0 : a < 18446744073709551616) (h1 : b < 18446744073709551616) (h2 : c < 18446744073709551616) (h3 : d < 18446744073709551616) : ws (v4 a b c d) = [a,b,c,d]:=by
 unfold ws v4
 have e0 : (a + 18446744073709551616 * b + 340282366920938463463374607431768211456 * c + 6277101735386680763835789423207666416102355444464034512896 * d) % 18446744073709551616 = a:=by omega
 have e1 : (a + 18446744073709551616 * b + 340282366920938463463374607431768211456 * c + 6277101735386680763835789423207666416102355444464034512896 * d) / 18446744073709551616 % 18446744073709551616 = b:=by omega
 have e2 : (a + 18446744073709551616 * b + 340282366920938463463374607431768211456 * c + 6277101735386680763835789423207666416102355444464034512896 * d) / 340282366920938463463374607431768211456 % 18446744073709551616 = c:=by omega
 have e3 : (a + 18446744073709551616 * b + 340282366920938463463374607431768211456 * c + 6277101735386680763835789423207666416102355444464034512896 * d) / 6277101735386680763835789423207666416102355444464034512896 % 18446744073709551616 = d:=by omega
 rw [e0,e1,e2,e3]
theorem ws_cut {n : Nat} (h : n < 115792089237316195423570985008687907853269984665640564039457584007913129639936) :
  ∃ a b c d,n = v4 a b c d ∧ ws n = [a,b,c,d] ∧ a < 18446744073709551616 ∧ b < 18446744073709551616 ∧ c < 18446744073709551616 ∧ d < 18446744073709551616:=by
 refine ⟨_,_,_,_,?_,rfl,Nat.mod_lt _ (by decide),Nat.mod_lt _ (by decide),Nat.mod_lt _ (by decide),Nat.mod_lt _ (by decide)⟩
 unfold v4
 omega
theorem ws_lt (n : Nat) : ∀ y ∈ ws n,y < 18446744073709551616:=by
 intro y hy
 simp only [ws,List.mem_cons,List.not_mem_nil,or_false] at hy
 rcases hy with rfl | rfl | rfl | rfl <;> exact Nat.mod_lt _ (by decide)
theorem ws_get_lt (n : Nat) {k : Nat} (hk : k < 4) : (ws n)[k]! < 18446744073709551616 :=
 ws_lt n _ (by rw [getElem!_pos (ws n) k hk]; exact List.getElem_mem _)

/-! ### Rows whose first k words have turned -/
def mxl (f : Nat → Nat) (l : List Nat) (k : Nat) : List Nat:=(List.range l.length).map fun j=>if j < k then f j else l[j]!
theorem mxl_len (f : Nat → Nat) (l : List Nat) (k : Nat) : (mxl f l k).length = l.length:=by simp [mxl]
theorem mxl_zero (f : Nat → Nat) (l : List Nat) : mxl f l 0 = l:=by
 apply List.ext_getElem (by simp [mxl])
 intro i h1 h2
 simp [mxl,h2]
theorem mxl_get (f : Nat → Nat) (l : List Nat) {k : Nat} (h : k < l.length) : (mxl f l k)[k]! = l[k]!:=by
 rw [getElem!_pos _ k (by rw [mxl_len]; exact h)]
 simp [mxl]
theorem mxl_set (f : Nat → Nat) (l : List Nat) {k : Nat} : (mxl f l k).set k (f k) = mxl f l (k + 1):=by
 apply List.ext_getElem (by simp [mxl])
 intro j h1 h2
 rw [List.getElem_set];simp only [mxl,List.getElem_map,List.getElem_range]
 by_cases hjk : k = j
 ·subst hjk
  simp
 ·rw [if_neg hjk]
  by_cases hlt : j < k
  ·rw [if_pos hlt,if_pos (by omega)]
  ·rw [if_neg hlt,if_neg (by omega)]

/-! ### Sums -/
def sup (a b : List Nat) : Nat → Nat
  | 0=>0
  | k + 1=>(a[k]! + b[k]! + sup a b k) / 18446744073709551616
def swd (a b : List Nat) (k : Nat) : Nat:=(a[k]! + b[k]! + sup a b k) % 18446744073709551616
theorem sup_le {a b : List Nat} (ha : ∀ k,k < 4 → a[k]! < 18446744073709551616) (hb : ∀ k,k < 4 → b[k]! < 18446744073709551616) : ∀ k,k ≤ 4 → sup a b k ≤ 1
 | 0,_=>Nat.zero_le _
 | k + 1,hk=>by
  have:=sup_le ha hb k (by omega);have:=ha k (by omega);have:=hb k (by omega)
  show (a[k]! + b[k]! + sup a b k) / 18446744073709551616 ≤ 1
  omega
theorem sum_ws {A B : Nat} (hA : A < 115792089237316195423570985008687907853269984665640564039457584007913129639936) (hB : B < 115792089237316195423570985008687907853269984665640564039457584007913129639936) :
  mxl (swd (ws A) (ws B)) (ws A) 4 = ws ((A + B) % 115792089237316195423570985008687907853269984665640564039457584007913129639936):=by
 obtain ⟨a0,a1,a2,a3,eA,wA,p0,p1,p2,p3⟩:=ws_cut hA;obtain ⟨b0,b1,b2,b3,eB,wB,q0,q1,q2,q3⟩:=ws_cut hB;rw [wA,wB];have e : mxl (swd [a0,a1,a2,a3] [b0,b1,b2,b3]) [a0,a1,a2,a3] 4 = [swd [a0,a1,a2,a3] [b0,b1,b2,b3] 0,swd [a0,a1,a2,a3] [b0,b1,b2,b3] 1,swd [a0,a1,a2,a3] [b0,b1,b2,b3] 2,swd [a0,a1,a2,a3] [b0,b1,b2,b3] 3]:=rfl;have g0 : sup [a0,a1,a2,a3] [b0,b1,b2,b3] 0 = 0:=rfl;have g1 : sup [a0,a1,a2,a3] [b0,b1,b2,b3] 1 = (a0 + b0 + sup [a0,a1,a2,a3] [b0,b1,b2,b3] 0) / 18446744073709551616:=rfl;have g2 : sup [a0,a1,a2,a3] [b0,b1,b2,b3] 2 = (a1 + b1 + sup [a0,a1,a2,a3] [b0,b1,b2,b3] 1) / 18446744073709551616:=rfl;have g3 : sup [a0,a1,a2,a3] [b0,b1,b2,b3] 3 = (a2 + b2 + sup [a0,a1,a2,a3] [b0,b1,b2,b3] 2) / 18446744073709551616:=rfl;have s0 : swd [a0,a1,a2,a3] [b0,b1,b2,b3] 0 = (a0 + b0 + sup [a0,a1,a2,a3] [b0,b1,b2,b3] 0) % 18446744073709551616:=rfl;have s1 : swd [a0,a1,a2,a3] [b0,b1,b2,b3] 1 = (a1 + b1 + sup [a0,a1,a2,a3] [b0,b1,b2,b3] 1) % 18446744073709551616:=rfl;have s2 : swd [a0,a1,a2,a3] [b0,b1,b2,b3] 2 = (a2 + b2 + sup [a0,a1,a2,a3] [b0,b1,b2,b3] 2) % 18446744073709551616:=rfl;have s3 : swd [a0,a1,a2,a3] [b0,b1,b2,b3] 3 = (a3 + b3 + sup [a0,a1,a2,a3] [b0,b1,b2,b3] 3) % 18446744073709551616:=rfl;rw [e];generalize swd [a0,a1,a2,a3] [b0,b1,b2,b3] 0 = x0 at *;generalize swd [a0,a1,a2,a3] [b0,b1,b2,b3] 1 = x1 at *;generalize swd [a0,a1,a2,a3] [b0,b1,b2,b3] 2 = x2 at *;generalize swd [a0,a1,a2,a3] [b0,b1,b2,b3] 3 = x3 at *;generalize sup [a0,a1,a2,a3] [b0,b1,b2,b3] 0 = c0 at *;generalize sup [a0,a1,a2,a3] [b0,b1,b2,b3] 1 = c1 at *;generalize sup [a0,a1,a2,a3] [b0,b1,b2,b3] 2 = c2 at *;generalize sup [a0,a1,a2,a3] [b0,b1,b2,b3] 3 = c3 at *
 have hx : (A + B) % 115792089237316195423570985008687907853269984665640564039457584007913129639936 = v4 x0 x1 x2 x3:=by
  rw [eA,eB]
  unfold v4
  clear e wA wB hA hB eA eB
  omega
 rw [hx,ws_v4 (by omega) (by omega) (by omega) (by omega)]

/-! ### Five words modulo L -/
theorem LL_eq : LL = 7237005577332262213973186563042994240857116359379907606001950938285454250989:=rfl
theorem rest_L {v0 v1 v2 v3 t m0 m1 p1 r0 r1 r2 r3 l0 l1 l2 l3 V : Nat} (h0 : v0 < 18446744073709551616) (h1 : v1 < 18446744073709551616) (h2 : v2 < 18446744073709551616) (h3 : v3 < 1152921504606846976) (ht : t < 34359738368)
  (hm0 : m0 = t * 6346243789798364141) (hm1 : m1 = t * 1503914060200516822) (hp1 : p1 = m1 % 18446744073709551616 + m0 / 18446744073709551616)
  (hl0 : l0 = if v0 < m0 % 18446744073709551616 + 0 then 1 else 0) (hr0 : r0 = (v0 + 18446744073709551616 - m0 % 18446744073709551616 - 0) % 18446744073709551616)
  (hl1 : l1 = if v1 < p1 % 18446744073709551616 + l0 then 1 else 0) (hr1 : r1 = (v1 + 18446744073709551616 - p1 % 18446744073709551616 - l0) % 18446744073709551616)
  (hl2 : l2 = if v2 < m1 / 18446744073709551616 + p1 / 18446744073709551616 + l1 then 1 else 0) (hr2 : r2 = (v2 + 18446744073709551616 - (m1 / 18446744073709551616 + p1 / 18446744073709551616) - l1) % 18446744073709551616)
  (hl3 : l3 = if v3 < 0 + l2 then 1 else 0) (hr3 : r3 = (v3 + 18446744073709551616 - 0 - l2) % 18446744073709551616)
  (hV : V = v4 v0 v1 v2 v3 + 7237005577332262213973186563042994240829374041602535252466099000494570602496 * t) :
  (l3 = 0 → v4 r0 r1 r2 r3 = V % LL) ∧ (l3 = 1 → (v4 r0 r1 r2 r3 + LL) % 115792089237316195423570985008687907853269984665640564039457584007913129639936 = V % LL) ∧ l3 ≤ 1 ∧ l0 ≤ 1 ∧ l1 ≤ 1 ∧ l2 ≤ 1 ∧
   r0 < 18446744073709551616 ∧ r1 < 18446744073709551616 ∧ r2 < 18446744073709551616 ∧ r3 < 18446744073709551616:=by
 have b0 : l0 ≤ 1:=by rw [hl0]; split <;> omega
 have b1 : l1 ≤ 1:=by rw [hl1]; split <;> omega
 have b2 : l2 ≤ 1:=by rw [hl2]; split <;> omega
 have b3 : l3 ≤ 1:=by rw [hl3]; split <;> omega
 have d0 : r0 + m0 % 18446744073709551616 = v0 + 18446744073709551616 * l0:=by rw [hr0,hl0]; split <;> omega
 have d1 : r1 + p1 % 18446744073709551616 + l0 = v1 + 18446744073709551616 * l1:=by rw [hr1,hl1]; split <;> omega
 have hm : m1 / 18446744073709551616 < 17179869184:=by omega
 have hp : p1 / 18446744073709551616 < 2:=by omega
 have d2 : r2 + (m1 / 18446744073709551616 + p1 / 18446744073709551616) + l1 = v2 + 18446744073709551616 * l2:=by rw [hr2,hl2]; split <;> omega
 have d3 : r3 + l2 = v3 + 18446744073709551616 * l3:=by rw [hr3,hl3]; split <;> omega
 have c0 : r0 < 18446744073709551616:=by omega
 have c1 : r1 < 18446744073709551616:=by omega
 have c2 : r2 < 18446744073709551616:=by omega
 have c3 : r3 < 18446744073709551616:=by omega
 clear hr0 hr1 hr2 hr3 hl0 hl1 hl2 hl3
 have key : v4 r0 r1 r2 r3 + m0 + 18446744073709551616 * m1 = v4 v0 v1 v2 v3 + 115792089237316195423570985008687907853269984665640564039457584007913129639936 * l3:=by
  unfold v4
  omega
 have hlow : v4 v0 v1 v2 v3 < 7237005577332262213973186563042994240829374041602535252466099000494570602496:=by
  unfold v4
  omega
 have hR : v4 r0 r1 r2 r3 < 115792089237316195423570985008687907853269984665640564039457584007913129639936:=by
  unfold v4
  omega
 clear d0 d1 d2 d3 hp1 hm hp;refine ⟨fun h=>?_,fun h=>?_,b3,b0,b1,b2,c0,c1,c2,c3⟩
 ·have e : V = v4 r0 r1 r2 r3 + LL * t:=by
   rw [hV,LL_eq]
   omega
  rw [e,Nat.add_mul_mod_self_left,Nat.mod_eq_of_lt];rw [LL_eq]
  omega
 ·have hg : 115792089237316195423570985008687907853269984665640564039457584007913129639936 ≤ v4 r0 r1 r2 r3 + LL:=by
   rw [LL_eq]
   omega
  have e : V + LL = (v4 r0 r1 r2 r3 + LL - 115792089237316195423570985008687907853269984665640564039457584007913129639936) + LL * t:=by
   rw [hV,LL_eq] at *
   omega
  have e2 : V % LL = (V + LL) % LL:=by rw [Nat.add_mod_right]
  rw [e2,e,Nat.add_mul_mod_self_left,Nat.mod_eq_sub_mod hg,Nat.mod_eq_of_lt,Nat.mod_eq_of_lt]
  ·rw [LL_eq] at *
   omega
  ·rw [LL_eq] at *
   omega
end Nums
/-
  THE PROGRAM'S SCALARS: sum: four words and four words, modulo 2^256.
-/
namespace Go.Proofs.YtlcbhbahchiofaaDoor
open Go.RowKit Go.IntWalk Nums

theorem size_w4 (cs : Array Value) (h : cs.size = 4) : (Tryd.prog.info? 75).map (·.size) = some cs.size:=by
 rw [h]
 kernel_rfl
theorem size_sc (cs : Array Value) (h : cs.size = 4) : (Tryd.prog.info? 77).map (·.size) = some cs.size:=by
 rw [h]
 kernel_rfl
def z4 : Array Value:=(Us [0,0,0,0]).toArray
theorem len_u4 {l : List Nat} (h : l.length = 4) : (Us l).toArray.size = 4:=by rw [List.size_toArray,Us_len,h]

set_option maxRecDepth 100000 in
set_option maxHeartbeats 1000000 in
theorem wsum_f {A B : Nat} (hA : A < 115792089237316195423570985008687907853269984665640564039457584007913129639936) (hB : B < 115792089237316195423570985008687907853269984665640564039457584007913129639936) (w : World) :
  Calls Tryd.prog 49 #[.agg (Us (ws A)).toArray,.agg (Us (ws B)).toArray] w fun e w'=>e = .returned (.agg (Us (ws ((A + B) % 115792089237316195423570985008687907853269984665640564039457584007913129639936))).toArray) ∧ Below w.heap.size w w':=by
 rw [← sum_ws hA hB];have ha:=fun k=>ws_get_lt A (k:=k);have hb:=fun k=>ws_get_lt B (k:=k);have la:=ws_len A;have lb:=ws_len B;have hc:=sup_le ha hb;clear hA hB;generalize ws A = a at *;generalize ws B = b at *
 go_enter Tryd.func49,Tryd.ntmps49
 go_wp2
 go_loopw [7,5] (fun i u wr=>∃ k : Nat,k ≤ 4 ∧ i = .int .i64 k ∧ u = .int .u64 (sup a b k : Nat) ∧ Blk wr w.heap.size 75 (Us (mxl (swd a b) a k)).toArray ∧ Blk wr (w.heap.size + 1) 75 (Us b).toArray ∧ Blk wr (w.heap.size + 1 + 1) 75 z4 ∧ Below w.heap.size w wr) (fun i _ _=>4 - (intOf i).toNat)
 case atStart =>
  refine ⟨0,by omega,rfl,rfl,?_,blk3_1 w _ _ _ _,blk3_2 w _ _ _ _,(((Below.refl _ _).alloc (Nat.le_refl _) _).alloc (by simp) _).alloc (by simp; omega) _⟩;rw [mxl_zero];exact blk3_0 w _ _ _ _
 case round =>
  obtain ⟨k,hk,rfl,rfl,h0,h1,h2,hbel⟩:=hrel
  by_cases hlt : k < 4
  ·have hN:=mxl_set (swd a b) a (k:=k)
   have hU : sup a b (k + 1) = (a[k]! + b[k]! + sup a b k) / 18446744073709551616:=rfl;have hS : swd a b k = (a[k]! + b[k]! + sup a b k) % 18446744073709551616:=rfl;have hg:=mxl_get (swd a b) a (k:=k) (by omega);have c0:=(h0.drew.cell k).trans (Us_at (by rw [mxl_len]; omega));rw [hg] at c0;have c1:=(h1.drew.cell k).trans (Us_at (by omega));have b0:=ha k hlt;have b1:=hb k hlt;have b2:=hc k (by omega);have hf:=h0.drew.free k;rw [hS] at hN;generalize a[k]! = u at *;generalize b[k]! = v at *;generalize sup a b k = c at *;have hA:=add64_run u v c b2
   have q2 : (0 : Int) ≤ (k : Int):=by omega
   have HK:=Lib.hid (And.intro h0 (And.intro h1 (And.intro h2 (And.intro hbel (And.intro hN hU)))));clear h0 h1 h2 hbel hN hg hU hS ha hb hc;generalize (u + v + c) % 18446744073709551616 = s at *;generalize (u + v + c) / 18446744073709551616 = t at *
   go_wp2
   go_region_with (simp only [hA])
   all_goals (
    go_wp2
    go_roundw
    case rel =>
     obtain ⟨h0,h1,h2,hbel,hN,hU⟩:=HK.out;have h4:=h0.set k (.int .u64 ((s : Nat) : Int));rw [Us_set,hN] at h4;exact ⟨k + 1,by omega,by go_num,by rw [hU],h4,h1.far (by simp) _,h2.far (by simp; omega) _,(hbel.setCell (by simp) _).drew⟩
    case measure=>simp [intOf]; omega)
  ·obtain rfl : k = 4:=by omega
   have hz : (Us (mxl (swd a b) a 4)).toArray.size = 4:=len_u4 (by rw [mxl_len,la])
   go_wp2_with (first
    | (refine wpList_load_row rfl 75 _ rfl w.heap.size rfl 75 (Us (mxl (swd a b) a 4)).toArray (0,0) _ h0 Tryd.underlying75 rfl (size_w4 _ hz) ?_)
    | (refine wpList_store_row rfl 75 _ _ rfl (w.heap.size + 1 + 1) rfl (Us (mxl (swd a b) a 4)).toArray rfl 75 _ h2 (size_w4 _ hz) (by rw [hz]; rfl) (Us_one _) ?_))
   refine bodyPost_ret (results_cell_row rfl _ _ (w.heap.size + 1 + 1) 75 (Us (mxl (swd a b) a 4)).toArray (0,0) _ rfl (h2.row _) Tryd.underlying75 rfl (size_w4 _ hz)) rfl ⟨rfl,?_⟩;exact below_setRow hbel (by omega) _
end Go.Proofs.YtlcbhbahchiofaaDoor
/-
  THE PROGRAM'S SCALARS: reduced: five words modulo L.
-/
namespace Go.Proofs.YtlcbhbahchiofaaDoor
open Go.RowKit Go.IntWalk Nums

theorem ws_LL : ws LL = [6346243789798364141,1503914060200516822,0,1152921504606846976]:=by decide
theorem cell4 (a b c d : Nat) : (Us [a,b,c,d]).toArray = #[.int .u64 (a : Int),.int .u64 (b : Int),.int .u64 (c : Int),.int .u64 (d : Int)]:=rfl

theorem mask60 (a : Nat) (ha : a < 18446744073709551616) : bits .and .u64 (a : Int) 1152921504606846975 = ((a % 1152921504606846976 : Nat) : Int):=by
 have h:=u64_and_nat a 1152921504606846975 ha (by omega);have e : a &&& 1152921504606846975 = a % 1152921504606846976:=Nat.and_two_pow_sub_one_eq_mod a 60;rw [e] at h;exact h

set_option maxRecDepth 100000 in
set_option maxHeartbeats 2000000 in
theorem red_f {v0 v1 v2 v3 u : Nat} (h0 : v0 < 18446744073709551616) (h1 : v1 < 18446744073709551616) (h2 : v2 < 18446744073709551616) (h3 : v3 < 18446744073709551616) (hu : u < 1073741824) (w : World) :
  Calls Tryd.prog 50 #[.agg (Us [v0,v1,v2,v3,u]).toArray] w fun e w'=>e = .returned (.agg (Us (ws ((v4 v0 v1 v2 v3 + 115792089237316195423570985008687907853269984665640564039457584007913129639936 * u) % LL))).toArray) ∧ Below w.heap.size w w':=by
 obtain ⟨t,ht⟩ : ∃ t,t = u * 16 + v3 / 1152921504606846976:=⟨_,rfl⟩
 have htb : t < 34359738368:=by omega
 have qt : bits .or .u64 ((u : Int) * 16) ((v3 : Int) / 1152921504606846976) = (t : Int):=by
  have e:=orW 4 (u * 16) (v3 / 1152921504606846976) (by omega) (by omega) (by omega) (by omega);rw [ht,← e]
  rfl
 have HM0:=fun w1=>Lib.hid (mul64_any t 6346243789798364141 (by omega) (by omega) w1);have HM1:=fun w1=>Lib.hid (mul64_any t 1503914060200516822 (by omega) (by omega) w1);obtain ⟨V,hV⟩ : ∃ V,V = v4 v0 v1 v2 v3 + 115792089237316195423570985008687907853269984665640564039457584007913129639936 * u:=⟨_,rfl⟩;rw [← hV]
 have hV2 : V = v4 v0 v1 v2 (v3 % 1152921504606846976) + 7237005577332262213973186563042994240829374041602535252466099000494570602496 * t:=by
  rw [hV,ht]
  unfold v4
  omega
 have q3:=mask60 v3 h3
 have hv3 : v3 % 1152921504606846976 < 1152921504606846976:=by omega
 obtain ⟨m0,hm0⟩ : ∃ m,m = t * 6346243789798364141:=⟨_,rfl⟩;obtain ⟨m1,hm1⟩ : ∃ m,m = t * 1503914060200516822:=⟨_,rfl⟩;rw [← hm0] at HM0;rw [← hm1] at HM1;obtain ⟨p1,hp1⟩ : ∃ p,p = m1 % 18446744073709551616 + m0 / 18446744073709551616:=⟨_,rfl⟩
 have hA : ∀ w1,(callFunc 73 #[.int .u64 ((m1 % 18446744073709551616 : Nat) : Int),.int .u64 ((m0 / 18446744073709551616 : Nat) : Int),.int .u64 0]).run Tryd.prog w1 = .ok (.value (.tuple #[.int .u64 ((p1 % 18446744073709551616 : Nat) : Int),.int .u64 ((p1 / 18446744073709551616 : Nat) : Int)])) w1:=by
  rw [hp1];exact fun w1=>add64_run (m1 % 18446744073709551616) (m0 / 18446744073709551616) 0 (by omega) w1
 have qd : IntKind.u64.wrap (((m1 / 18446744073709551616 : Nat) : Int) + ((p1 / 18446744073709551616 : Nat) : Int)) = ((m1 / 18446744073709551616 + p1 / 18446744073709551616 : Nat) : Int):=by
  rw [IntKind.wrap_u64]
  omega
 obtain ⟨r0,l0,hr0,hl0,H0⟩ : ∃ r0 l0 : Nat,r0 = (v0 + 18446744073709551616 - m0 % 18446744073709551616 - 0) % 18446744073709551616 ∧ l0 = (if v0 < m0 % 18446744073709551616 + 0 then 1 else 0) ∧
   ∀ w1,(callFunc 75 #[.int .u64 (v0 : Int),.int .u64 ((m0 % 18446744073709551616 : Nat) : Int),.int .u64 0]).run Tryd.prog w1 = .ok (.value (.tuple #[.int .u64 (r0 : Int),.int .u64 (l0 : Int)])) w1 :=
  ⟨_,_,rfl,rfl,fun w1=>sub64_run v0 (m0 % 18446744073709551616) 0 (by omega) w1⟩
 have b0 : l0 ≤ 1:=by rw [hl0]; split <;> omega
 obtain ⟨r1,l1,hr1,hl1,H1⟩ : ∃ r1 l1 : Nat,r1 = (v1 + 18446744073709551616 - p1 % 18446744073709551616 - l0) % 18446744073709551616 ∧ l1 = (if v1 < p1 % 18446744073709551616 + l0 then 1 else 0) ∧
   ∀ w1,(callFunc 75 #[.int .u64 (v1 : Int),.int .u64 ((p1 % 18446744073709551616 : Nat) : Int),.int .u64 (l0 : Int)]).run Tryd.prog w1 = .ok (.value (.tuple #[.int .u64 (r1 : Int),.int .u64 (l1 : Int)])) w1 :=
  ⟨_,_,rfl,rfl,fun w1=>sub64_run v1 (p1 % 18446744073709551616) l0 b0 w1⟩
 have b1 : l1 ≤ 1:=by rw [hl1]; split <;> omega
 obtain ⟨r2,l2,hr2,hl2,H2⟩ : ∃ r2 l2 : Nat,r2 = (v2 + 18446744073709551616 - (m1 / 18446744073709551616 + p1 / 18446744073709551616) - l1) % 18446744073709551616 ∧ l2 = (if v2 < m1 / 18446744073709551616 + p1 / 18446744073709551616 + l1 then 1 else 0) ∧
   ∀ w1,(callFunc 75 #[.int .u64 (v2 : Int),.int .u64 ((m1 / 18446744073709551616 + p1 / 18446744073709551616 : Nat) : Int),.int .u64 (l1 : Int)]).run Tryd.prog w1 = .ok (.value (.tuple #[.int .u64 (r2 : Int),.int .u64 (l2 : Int)])) w1 :=
  ⟨_,_,rfl,rfl,fun w1=>sub64_run v2 (m1 / 18446744073709551616 + p1 / 18446744073709551616) l1 b1 w1⟩
 have b2 : l2 ≤ 1:=by rw [hl2]; split <;> omega
 obtain ⟨r3,l3,hr3,hl3,H3⟩ : ∃ r3 l3 : Nat,r3 = (v3 % 1152921504606846976 + 18446744073709551616 - 0 - l2) % 18446744073709551616 ∧ l3 = (if v3 % 1152921504606846976 < 0 + l2 then 1 else 0) ∧
   ∀ w1,(callFunc 75 #[.int .u64 ((v3 % 1152921504606846976 : Nat) : Int),.int .u64 0,.int .u64 (l2 : Int)]).run Tryd.prog w1 = .ok (.value (.tuple #[.int .u64 (r3 : Int),.int .u64 (l3 : Int)])) w1 :=
  ⟨_,_,rfl,rfl,fun w1=>sub64_run (v3 % 1152921504606846976) 0 l2 b2 w1⟩
 obtain ⟨e0,e1,b3,_,_,_,c0,c1,c2,c3⟩:=rest_L (V:=V) h0 h1 h2 hv3 htb hm0 hm1 hp1 hl0 hr0 hl1 hr1 hl2 hr2 hl3 hr3 hV2
 have hR : v4 r0 r1 r2 r3 < 115792089237316195423570985008687907853269984665640564039457584007913129639936:=by unfold v4; omega
 have HW:=fun w1=>wsum_f hR (B:=LL) (by rw [LL_eq]; omega) w1;rw [ws_v4 c0 c1 c2 c3,ws_LL,cell4,cell4] at HW;have hwR:=ws_v4 c0 c1 c2 c3;clear hm0 hm1 hp1 hl0 hr0 hl1 hr1 hl2 hr2 hl3 hr3 hV2 hV ht htb;generalize hmh0 : m0 / 18446744073709551616 = mh0 at *;generalize hml0 : m0 % 18446744073709551616 = ml0 at *;generalize hmh1 : m1 / 18446744073709551616 = mh1 at *;generalize hml1 : m1 % 18446744073709551616 = ml1 at *;generalize hph1 : p1 / 18446744073709551616 = ph1 at *;generalize hpl1 : p1 % 18446744073709551616 = pl1 at *;generalize mh1 + ph1 = d at *;generalize v3 % 1152921504606846976 = v3' at *;clear hmh0 hml0 hmh1 hml1 hph1 hpl1;have e0' : (Us [v0,v1,v2,v3,u]).toArray = #[.int .u64 (v0 : Int),.int .u64 (v1 : Int),.int .u64 (v2 : Int),.int .u64 (v3 : Int),.int .u64 (u : Int)]:=rfl;rw [e0'];clear e0'
 rcases (show l3 = 0 ∨ l3 = 1 by omega) with rfl | rfl
 ·have hF:=e0 rfl
  rw [← hF,hwR,cell4];have HK:=Lib.hid (And.intro hF hR);clear e0 e1 HW hF hR hwR
  go_enter Tryd.func50,Tryd.ntmps50
  go_wp2_with (fail)
  refine (HM0 _).out.mono ?_
  rintro e w1 ⟨rfl,rfl⟩
  go_wp2_with (fail)
  refine (HM1 _).out.mono ?_
  rintro e w1 ⟨rfl,rfl⟩
  go_wp2_with (fail)
  refine bodyPost_ret (results_cell_row rfl _ _ (w.heap.size + 1) 77 _ (0,0) _ rfl (blk3_1 w _ _ _ _) Tryd.underlying77 rfl (size_sc _ rfl)) rfl ⟨rfl,?_⟩;exact (((Below.refl _ _).alloc (Nat.le_refl _) _).alloc (by simp) _).alloc (by simp; omega) _
 ·have hF:=e1 rfl
  rw [hF] at HW;rw [← hF];have hn : V % LL < 115792089237316195423570985008687907853269984665640564039457584007913129639936:=Nat.lt_trans (Nat.mod_lt _ (by decide)) (by decide);rw [hF];obtain ⟨x0,x1,x2,x3,_,hx,_⟩:=ws_cut hn;rw [hx,cell4] at HW ⊢;have HW:=fun w1=>Lib.hid (HW w1);clear e0 e1 hF hR hwR hx hn
  go_enter Tryd.func50,Tryd.ntmps50
  go_wp2_with (fail)
  refine (HM0 _).out.mono ?_
  rintro e w1 ⟨rfl,rfl⟩
  go_wp2_with (fail)
  refine (HM1 _).out.mono ?_
  rintro e w1 ⟨rfl,rfl⟩
  go_wp2_with (fail)
  refine (HW _).out.mono ?_
  rintro e w1 ⟨rfl,hw1⟩
  have k1:=(blk3_1 w 77 (Us [0,0,0,0]).toArray (.cells (Us [v0,v1,v2,v3,u]).toArray 88) (.cells (Us [r0,r1,r2,r3]).toArray 75)).later hw1;have k2:=(blk3_2 w 75 (Us [r0,r1,r2,r3]).toArray (.cells (Us [v0,v1,v2,v3,u]).toArray 88) (.cells (Us [0,0,0,0]).toArray 77)).later hw1;have hbe:=below_up ((((Below.refl w.heap.size w).alloc (Nat.le_refl _) _).alloc (by simp) _).alloc (by simp; omega) _) hw1;have k1':=k1.rowFar (g':=w.heap.size + 1 + 1) (by omega) (Us [x0,x1,x2,x3]).toArray;have k2':=k2.row (Us [x0,x1,x2,x3]).toArray;have hbe':=below_setRow hbe (g:=w.heap.size + 1 + 1) (cs:=(Us [x0,x1,x2,x3]).toArray) (by omega);clear hw1
  go_wp2_with (first
   | (refine wpList_store_row rfl 75 _ _ rfl (w.heap.size + 1 + 1) rfl (Us [x0,x1,x2,x3]).toArray rfl 75 _ k2 (size_w4 _ rfl) rfl (Us_one _) ?_)
   | (refine wpList_load_row rfl 75 _ rfl (w.heap.size + 1 + 1) rfl 75 #[.int .u64 (x0 : Int),.int .u64 (x1 : Int),.int .u64 (x2 : Int),.int .u64 (x3 : Int)] (0,0) _ k2' Tryd.underlying75 rfl (size_w4 _ rfl) ?_)
   | (refine wpList_store_row rfl 77 _ _ rfl (w.heap.size + 1) rfl (Us [x0,x1,x2,x3]).toArray rfl 77 _ k1' (size_sc _ rfl) rfl (Us_one _) ?_))
  refine bodyPost_ret (results_cell_row rfl _ _ (w.heap.size + 1) 77 (Us [x0,x1,x2,x3]).toArray (0,0) _ rfl (k1'.row _) Tryd.underlying77 rfl (size_sc _ rfl)) rfl ⟨rfl,?_⟩;exact below_setRow hbe' (by omega) _
end Go.Proofs.YtlcbhbahchiofaaDoor
/-
  THE PROGRAM'S SCALARS: next: 2^32 times a number, and half times another.
-/
namespace Nums
def upw (a : List Nat) : Nat → Nat
  | 0=>0
  | k + 1=>a[k]! / 4294967296
def ful (a b : List Nat) (h : Nat) : Nat → Nat
  | 0=>0
  | k + 1=>(b[k]! * h + ful a b h k + (a[k]! % 4294967296 * 4294967296 + upw a k)) / 18446744073709551616
def nxw (a b : List Nat) (h k : Nat) : Nat:=(b[k]! * h + ful a b h k + (a[k]! % 4294967296 * 4294967296 + upw a k)) % 18446744073709551616
theorem upw_lt {a : List Nat} (ha : ∀ k,k < 4 → a[k]! < 18446744073709551616) : ∀ k,k ≤ 4 → upw a k < 4294967296
 | 0,_=>by
  show 0 < 4294967296
  decide
 | k + 1,hk=>by
  have:=ha k (by omega)
  show a[k]! / 4294967296 < 4294967296
  omega
theorem prodh {b h : Nat} (hb : b < 18446744073709551616) (hh : h < 4294967296) : b * h ≤ 18446744073709551615 * 4294967295:=Nat.mul_le_mul (by omega) (by omega)
theorem ful_lt {a b : List Nat} {h : Nat} (ha : ∀ k,k < 4 → a[k]! < 18446744073709551616) (hb : ∀ k,k < 4 → b[k]! < 18446744073709551616) (hh : h < 4294967296) : ∀ k,k ≤ 4 → ful a b h k < 8589934592
 | 0,_=>by
  show 0 < 8589934592
  decide
 | k + 1,hk=>by
  have h0:=ful_lt ha hb hh k (by omega);have h1:=upw_lt ha k (by omega);have h2:=ha k (by omega);have h3:=prodh (hb k (by omega)) hh
  show (b[k]! * h + ful a b h k + (a[k]! % 4294967296 * 4294967296 + upw a k)) / 18446744073709551616 < 8589934592
  omega
theorem mxl5 (f : Nat → Nat) (a0 a1 a2 a3 a4 : Nat) : mxl f [a0,a1,a2,a3,a4] 4 = [f 0,f 1,f 2,f 3,a4]:=rfl
theorem next_v4 {A B h : Nat} (hA : A < 115792089237316195423570985008687907853269984665640564039457584007913129639936) (hB : B < 115792089237316195423570985008687907853269984665640564039457584007913129639936) :
  v4 (nxw (ws A) (ws B) h 0) (nxw (ws A) (ws B) h 1) (nxw (ws A) (ws B) h 2) (nxw (ws A) (ws B) h 3) + 115792089237316195423570985008687907853269984665640564039457584007913129639936 * (ful (ws A) (ws B) h 4 + upw (ws A) 4) = 4294967296 * A + B * h:=by
 obtain ⟨a0,a1,a2,a3,eA,wA,p0,p1,p2,p3⟩:=ws_cut hA;obtain ⟨b0,b1,b2,b3,eB,wB,q0,q1,q2,q3⟩:=ws_cut hB;rw [wA,wB];have u0 : upw [a0,a1,a2,a3] 0 = 0:=rfl;have u1 : upw [a0,a1,a2,a3] 1 = a0 / 4294967296:=rfl;have u2 : upw [a0,a1,a2,a3] 2 = a1 / 4294967296:=rfl;have u3 : upw [a0,a1,a2,a3] 3 = a2 / 4294967296:=rfl;have u4 : upw [a0,a1,a2,a3] 4 = a3 / 4294967296:=rfl;have f0 : ful [a0,a1,a2,a3] [b0,b1,b2,b3] h 0 = 0:=rfl;have f1 : ful [a0,a1,a2,a3] [b0,b1,b2,b3] h 1 = (b0 * h + ful [a0,a1,a2,a3] [b0,b1,b2,b3] h 0 + (a0 % 4294967296 * 4294967296 + upw [a0,a1,a2,a3] 0)) / 18446744073709551616:=rfl;have f2 : ful [a0,a1,a2,a3] [b0,b1,b2,b3] h 2 = (b1 * h + ful [a0,a1,a2,a3] [b0,b1,b2,b3] h 1 + (a1 % 4294967296 * 4294967296 + upw [a0,a1,a2,a3] 1)) / 18446744073709551616:=rfl;have f3 : ful [a0,a1,a2,a3] [b0,b1,b2,b3] h 3 = (b2 * h + ful [a0,a1,a2,a3] [b0,b1,b2,b3] h 2 + (a2 % 4294967296 * 4294967296 + upw [a0,a1,a2,a3] 2)) / 18446744073709551616:=rfl;have f4 : ful [a0,a1,a2,a3] [b0,b1,b2,b3] h 4 = (b3 * h + ful [a0,a1,a2,a3] [b0,b1,b2,b3] h 3 + (a3 % 4294967296 * 4294967296 + upw [a0,a1,a2,a3] 3)) / 18446744073709551616:=rfl;have n0 : nxw [a0,a1,a2,a3] [b0,b1,b2,b3] h 0 = (b0 * h + ful [a0,a1,a2,a3] [b0,b1,b2,b3] h 0 + (a0 % 4294967296 * 4294967296 + upw [a0,a1,a2,a3] 0)) % 18446744073709551616:=rfl;have n1 : nxw [a0,a1,a2,a3] [b0,b1,b2,b3] h 1 = (b1 * h + ful [a0,a1,a2,a3] [b0,b1,b2,b3] h 1 + (a1 % 4294967296 * 4294967296 + upw [a0,a1,a2,a3] 1)) % 18446744073709551616:=rfl;have n2 : nxw [a0,a1,a2,a3] [b0,b1,b2,b3] h 2 = (b2 * h + ful [a0,a1,a2,a3] [b0,b1,b2,b3] h 2 + (a2 % 4294967296 * 4294967296 + upw [a0,a1,a2,a3] 2)) % 18446744073709551616:=rfl;have n3 : nxw [a0,a1,a2,a3] [b0,b1,b2,b3] h 3 = (b3 * h + ful [a0,a1,a2,a3] [b0,b1,b2,b3] h 3 + (a3 % 4294967296 * 4294967296 + upw [a0,a1,a2,a3] 3)) % 18446744073709551616:=rfl
 have eBh : B * h = b0 * h + 18446744073709551616 * (b1 * h) + 340282366920938463463374607431768211456 * (b2 * h) + 6277101735386680763835789423207666416102355444464034512896 * (b3 * h):=by
  rw [eB]
  unfold v4
  grind only
 rw [eBh,eA];generalize nxw [a0,a1,a2,a3] [b0,b1,b2,b3] h 0 = x0 at *;generalize nxw [a0,a1,a2,a3] [b0,b1,b2,b3] h 1 = x1 at *;generalize nxw [a0,a1,a2,a3] [b0,b1,b2,b3] h 2 = x2 at *;generalize nxw [a0,a1,a2,a3] [b0,b1,b2,b3] h 3 = x3 at *;generalize ful [a0,a1,a2,a3] [b0,b1,b2,b3] h 0 = c0 at *;generalize ful [a0,a1,a2,a3] [b0,b1,b2,b3] h 1 = c1 at *;generalize ful [a0,a1,a2,a3] [b0,b1,b2,b3] h 2 = c2 at *;generalize ful [a0,a1,a2,a3] [b0,b1,b2,b3] h 3 = c3 at *;generalize ful [a0,a1,a2,a3] [b0,b1,b2,b3] h 4 = c4 at *;generalize upw [a0,a1,a2,a3] 0 = y0 at *;generalize upw [a0,a1,a2,a3] 1 = y1 at *;generalize upw [a0,a1,a2,a3] 2 = y2 at *;generalize upw [a0,a1,a2,a3] 3 = y3 at *;generalize upw [a0,a1,a2,a3] 4 = y4 at *;generalize b0 * h = z0 at *;generalize b1 * h = z1 at *;generalize b2 * h = z2 at *;generalize b3 * h = z3 at *;clear eBh eA eB wA wB hA hB q0 q1 q2 q3
 unfold v4
 omega
end Nums
namespace Go.Proofs.YtlcbhbahchiofaaDoor
open Go.RowKit Go.IntWalk Nums

theorem size_w5 (cs : Array Value) (h : cs.size = 5) : (Tryd.prog.info? 88).map (·.size) = some cs.size:=by
 rw [h]
 kernel_rfl
structure NS (w wr : World) (a b l : List Nat) : Prop where
  ba : Blk wr w.heap.size 77 (Us a).toArray
  bb : Blk wr (w.heap.size + 1) 77 (Us b).toArray
  bo : Blk wr (w.heap.size + 1 + 1) 77 z4
  bv : Blk wr (w.heap.size + 1 + 1 + 1) 88 (Us l).toArray
  be : Below w.heap.size w wr
theorem NS.set {w wr : World} {a b l : List Nat} (h : NS w wr a b l) (k x : Nat) : NS w (wr.setCell ⟨w.heap.size + 1 + 1 + 1,k,none⟩ (.int .u64 (x : Int))) a b (l.set k x) where
 ba:=h.ba.far (by show w.heap.size ≠ w.heap.size + 1 + 1 + 1; omega) _
 bb:=h.bb.far (by show w.heap.size + 1 ≠ w.heap.size + 1 + 1 + 1; omega) _
 bo:=h.bo.far (by show w.heap.size + 1 + 1 ≠ w.heap.size + 1 + 1 + 1; omega) _
 bv:=by
  have h4:=h.bv.set k (.int .u64 (x : Int))
  rwa [Us_set] at h4
 be:=h.be.setCell (by show w.heap.size ≤ w.heap.size + 1 + 1 + 1; omega) _

set_option maxRecDepth 100000 in
set_option maxHeartbeats 2000000 in
theorem next_f {A B h : Nat} (hA : A < LL) (hB : B < LL) (hh : h < 4294967296) (w : World) :
  Calls Tryd.prog 51 #[.agg (Us (ws A)).toArray,.agg (Us (ws B)).toArray,.int .u64 (h : Int)] w fun e w'=>e = .returned (.agg (Us (ws ((4294967296 * A + B * h) % LL))).toArray) ∧ Below w.heap.size w w':=by
 have hA2 : A < 115792089237316195423570985008687907853269984665640564039457584007913129639936:=Nat.lt_trans hA (by decide);have hB2 : B < 115792089237316195423570985008687907853269984665640564039457584007913129639936:=Nat.lt_trans hB (by decide);have hE:=next_v4 (h:=h) hA2 hB2;have ha:=fun k=>ws_get_lt A (k:=k);have hb:=fun k=>ws_get_lt B (k:=k);have la:=ws_len A;have lb:=ws_len B;have hf:=ful_lt ha hb hh;have hu:=upw_lt ha;have hn : ∀ k,nxw (ws A) (ws B) h k < 18446744073709551616:=fun k=>Nat.mod_lt _ (by decide);have hBh : B * h ≤ LL * 4294967296:=Nat.mul_le_mul (Nat.le_of_lt hB) (Nat.le_of_lt hh)
 have hR:=fun w1=>red_f (hn 0) (hn 1) (hn 2) (hn 3) (u:=ful (ws A) (ws B) h 4 + upw (ws A) 4) (by
  unfold v4 at hE
  rw [LL_eq] at hA hB hBh;generalize B * h = z at *
  omega) w1
 rw [hE] at hR;generalize (4294967296 * A + B * h) % LL = res at *;clear hE hBh hA2 hB2 hn hA hB;generalize ws A = a at *;generalize ws B = b at *;have hR:=Lib.hid hR
 go_enter Tryd.func51,Tryd.ntmps51
 go_wp2
 go_loopw [14,8,9] (fun i u8 u9 wr=>∃ k : Nat,k ≤ 4 ∧ i = .int .i64 k ∧ u8 = .int .u64 (upw a k : Nat) ∧ u9 = .int .u64 (ful a b h k : Nat) ∧ NS w wr a b (mxl (nxw a b h) [0,0,0,0,0] k)) (fun i _ _ _=>4 - (intOf i).toNat)
 case atStart =>
  refine ⟨0,by omega,rfl,rfl,rfl,?_,?_,?_,?_,?_⟩
  ·exact blk4_0 w _ _ _ _ _
  ·exact blk4_1 w _ _ _ _ _
  ·exact blk4_2 w _ _ _ _ _
  ·exact blk4_3 w _ _ _ _ _
  ·exact below4 w _ _ _ _
 case round =>
  obtain ⟨k,hk,rfl,rfl,rfl,hS⟩:=hrel
  by_cases hlt : k < 4
  ·have hN:=hS.set k (nxw a b h k)
   rw [mxl_set] at hN;have hU : upw a (k + 1) = a[k]! / 4294967296:=rfl;have hF : ful a b h (k + 1) = (b[k]! * h + ful a b h k + (a[k]! % 4294967296 * 4294967296 + upw a k)) / 18446744073709551616:=rfl;have hX : nxw a b h k = (b[k]! * h + ful a b h k + (a[k]! % 4294967296 * 4294967296 + upw a k)) % 18446744073709551616:=rfl;have c0:=(hS.ba.cell k).trans (Us_at (by omega));have c1:=(hS.bb.cell k).trans (Us_at (by omega));have c2:=(hS.bv.cell k).trans (Us_at (by rw [mxl_len]; simp; omega));have c3:=hS.bv.free k;have b0:=ha k hlt;have b1:=hb k hlt;have b2:=hf k (by omega);have b3:=hu k (by omega);have b4:=prodh b1 hh;have b5:=hf (k + 1) (by omega);rw [hF] at b5;generalize (mxl (nxw a b h) [0,0,0,0,0] k)[k]! = old at *;generalize a[k]! = u at *;generalize b[k]! = v at *;generalize upw a k = y at *;generalize ful a b h k = c at *;generalize nxw a b h k = x at *;have HM:=fun w1=>Lib.hid (mul64_any v h b1 (by omega) w1);generalize v * h = z at *;have hA1:=fun w1=>add64_run (z % 18446744073709551616) c 0 (by omega) w1
   have q1 : IntKind.u64.wrap (((z / 18446744073709551616 : Nat) : Int) + (((z % 18446744073709551616 + c + 0) / 18446744073709551616 : Nat) : Int)) = ((z / 18446744073709551616 + (z % 18446744073709551616 + c + 0) / 18446744073709551616 : Nat) : Int):=by
    rw [IntKind.wrap_u64]
    omega
   have q2 : bits .or .u64 (IntKind.u64.wrap ((u : Int) * 4294967296)) (y : Int) = ((u % 4294967296 * 4294967296 + y : Nat) : Int):=by
    have e1 : IntKind.u64.wrap ((u : Int) * 4294967296) = ((u % 4294967296 * 4294967296 : Nat) : Int):=by
     rw [IntKind.wrap_u64]
     omega
    rw [e1];exact orW 32 _ _ (by omega) (by omega) (by omega) (by omega)
   have hA2:=fun w1=>add64_run ((z % 18446744073709551616 + c + 0) % 18446744073709551616) (u % 4294967296 * 4294967296 + y) 0 (by omega) w1
   have q3 : IntKind.u64.wrap (((z / 18446744073709551616 + (z % 18446744073709551616 + c + 0) / 18446744073709551616 : Nat) : Int) + ((((z % 18446744073709551616 + c + 0) % 18446744073709551616 + (u % 4294967296 * 4294967296 + y) + 0) / 18446744073709551616 : Nat) : Int)) = (((z + c + (u % 4294967296 * 4294967296 + y)) / 18446744073709551616 : Nat) : Int):=by
    rw [IntKind.wrap_u64]
    omega
   have e4 : ((z % 18446744073709551616 + c + 0) % 18446744073709551616 + (u % 4294967296 * 4294967296 + y) + 0) % 18446744073709551616 = x:=by omega
   have q5 : (0 : Int) ≤ (k : Int):=by omega
   have q6 : (u : Int) / 4294967296 = ((u / 4294967296 : Nat) : Int):=div32 u;rw [e4] at hA2;have HK:=Lib.hid (And.intro hN (And.intro hU hF));clear hN hU hF hX hS b4 b5 b2 b3 e4 b0 b1 hf hu ha hb;generalize (z + c + (u % 4294967296 * 4294967296 + y)) / 18446744073709551616 = n9 at *;generalize ((z % 18446744073709551616 + c + 0) % 18446744073709551616 + (u % 4294967296 * 4294967296 + y) + 0) / 18446744073709551616 = m1 at *;generalize u % 4294967296 * 4294967296 + y = m2 at *;generalize z / 18446744073709551616 + (z % 18446744073709551616 + c + 0) / 18446744073709551616 = m3 at *;generalize (z % 18446744073709551616 + c + 0) % 18446744073709551616 = m4 at *;generalize (z % 18446744073709551616 + c + 0) / 18446744073709551616 = m5 at *;generalize z % 18446744073709551616 = m6 at *;generalize z / 18446744073709551616 = m7 at *;generalize u / 4294967296 = m8 at *;replace hA1 : ∀ w1,(callFunc 73 #[.int .u64 (m6 : Int),.int .u64 (c : Int),.int .u64 0]).run Tryd.prog w1 = .ok (.value (.tuple #[.int .u64 (m4 : Int),.int .u64 (m5 : Int)])) w1:=hA1;replace hA2 : ∀ w1,(callFunc 73 #[.int .u64 (m4 : Int),.int .u64 (m2 : Int),.int .u64 0]).run Tryd.prog w1 = .ok (.value (.tuple #[.int .u64 (x : Int),.int .u64 (m1 : Int)])) w1:=hA2
   go_wp2_with (fail)
   refine (HM _).out.mono ?_
   rintro e w1 ⟨rfl,rfl⟩
   go_wp2
   go_roundw
   case rel =>
    obtain ⟨hN,hU,hF⟩:=HK.out;exact ⟨k + 1,by omega,by go_num,by rw [hU],by rw [hF],hN⟩
   case measure=>simp [intOf]; omega
  ·obtain rfl : k = 4:=by omega
   have b2:=hf 4 (by omega);have b3:=hu 4 (by omega);have e5 : mxl (nxw a b h) [0,0,0,0,0] 4 = [nxw a b h 0,nxw a b h 1,nxw a b h 2,nxw a b h 3,0]:=mxl5 _ _ _ _ _ _;rw [e5] at hS;have hN:=hS.set 4 (ful a b h 4 + upw a 4);have c2:=(hS.bv.cell 4).trans (Us_at (by simp));have c3:=hS.bv.free 4
   have q1 : IntKind.u64.wrap (((ful a b h 4 : Nat) : Int) + ((upw a 4 : Nat) : Int)) = ((ful a b h 4 + upw a 4 : Nat) : Int):=by
    rw [IntKind.wrap_u64]
    omega
   have e6 : [nxw a b h 0,nxw a b h 1,nxw a b h 2,nxw a b h 3,0].set 4 (ful a b h 4 + upw a 4) = [nxw a b h 0,nxw a b h 1,nxw a b h 2,nxw a b h 3,ful a b h 4 + upw a 4]:=rfl;rw [e6] at hN;clear e5 e6 hf hu ha hb b2 b3 hS;generalize ful a b h 4 + upw a 4 = s at *;generalize ful a b h 4 = f4 at *;generalize upw a 4 = u4 at *;have hbv:=hN.bv;generalize hl : (Us [nxw a b h 0,nxw a b h 1,nxw a b h 2,nxw a b h 3,s]).toArray = cs at *
   have hcs : cs.size = 5:=by rw [← hl]; rfl
   have HN:=Lib.hid hN;clear hN hl
   go_wp2_with (refine wpList_load_row rfl 88 _ rfl (w.heap.size + 1 + 1 + 1) rfl 88 cs (0,0) _ hbv Tryd.underlying88 rfl (size_w5 _ hcs) ?_)
   refine (hR.out _).mono ?_
   rintro e w1 ⟨rfl,hw1⟩
   have hN:=HN.out;have ho:=hN.bo.later hw1;have hbe:=below_up hN.be hw1;have hz:=len_u4 (ws_len res);clear hN HN hw1 hR
   go_wp2_with (refine wpList_store_row rfl 77 _ _ rfl (w.heap.size + 1 + 1) rfl (Us (ws res)).toArray rfl 77 _ ho (size_sc _ hz) (by rw [hz]; rfl) (Us_one _) ?_)
   refine bodyPost_ret (results_cell_row rfl _ _ (w.heap.size + 1 + 1) 77 (Us (ws res)).toArray (0,0) _ rfl (ho.row _) Tryd.underlying77 rfl (size_sc _ hz)) rfl ⟨rfl,?_⟩;exact below_setRow hbe (by omega) _
end Go.Proofs.YtlcbhbahchiofaaDoor
