/-
  SEVERAL TEXTS IN ONE: CtL, OpenH, OpenP, CtMw.
-/
import Derived.Test.YtlcbhbahchiofaaDoorMn
import Derived.Test.YtlcbhbahchiofaaDoorMo
/-
  CERTIFICATES: shares that come one behind the other (plain).
-/
namespace Go.Proofs.YtlcbhbahchiofaaDoor
open Go.RowKit Go.IntWalk Nums

section
variable (ks : List (List UInt8)) (m : List UInt8) (l : List Share)
theorem firstR_app (key : List UInt8) (i : Int) (x : Share) : firstR key m i (l ++ [x]) = (firstR key m i l).or (if isR key m i x = true then some x.2 else none):=by
 unfold firstR
 rw [List.find?_append]
 cases l.find? (isR key m i) with
 | some y=>rfl
 | none =>
  rw [List.find?_cons,List.find?_nil]
  cases isR key m i x <;> rfl
noncomputable def rightL (n : Nat) : List Bool:=(List.range n).map fun i : Nat=>(firstR (ks[i]!) m i l).isSome
noncomputable def sigsL (n : Nat) : List (List UInt8):=(List.range n).map fun i : Nat=>(firstR (ks[i]!) m i l).getD (List.replicate 64 0)
theorem rightL_len (n : Nat) : (rightL ks m l n).length = n:=by simp [rightL]
theorem sigsL_len (n : Nat) : (sigsL ks m l n).length = n:=by simp [sigsL]
theorem rightL_at {n i : Nat} (h : i < n) : (rightL ks m l n)[i]? = some (firstR (ks[i]!) m i l).isSome:=by simp [rightL,h]
theorem sigsL_at {n i : Nat} (h : i < n) : (sigsL ks m l n)[i]? = some ((firstR (ks[i]!) m i l).getD (List.replicate 64 0)):=by simp [sigsL,h]
theorem gotL_count (n : Nat) : (gotL ks m l n).length = (List.range n).countP fun i : Nat=>(firstR (ks[i]!) m i l).isSome:=by
 induction n with
 | zero=>rfl
 | succ n ih =>
  rw [gotL_next,List.length_append,ih,List.range_succ,List.countP_append]
  congr 1
  rw [List.countP_singleton]
  cases firstR (ks[n]!) m n l <;> rfl
theorem countP_one {p q : Nat → Bool} {i : Nat} (hp : p i = false) (hq : q i = true) (h : ∀ j,j ≠ i → q j = p j) : ∀ n,(List.range n).countP q = (List.range n).countP p + (if i < n then 1 else 0)
 | 0=>rfl
 | n + 1=>by
  rw [List.range_succ,List.countP_append,List.countP_append,countP_one hp hq h n,List.countP_singleton,List.countP_singleton]
  by_cases e : n = i
  ·subst e
   rw [hp,hq,if_neg (Nat.lt_irrefl _),if_pos (Nat.lt_succ_self _)]
   rfl
  ·rw [h n e]
   by_cases hi : i < n
   ·rw [if_pos hi,if_pos (show i < n + 1 by omega)]
    omega
   ·rw [if_neg hi,if_neg (show ¬ i < n + 1 by omega),Nat.add_zero,Nat.add_zero]
variable (x : Share)
theorem isR_far {key : List UInt8} {j : Nat} {i : Int} {s : List UInt8} (h : i ≠ j) : isR key m j (i,s) = false:=by
 simp [isR,h]
theorem firstR_same {n : Nat} {i : Nat} {s : List UInt8} (h : i < n → (firstR (ks[i]!) m i l).isSome = true ∨ rightB (ks[i]!) s m = false) (j : Nat) (hj : j < n) : firstR (ks[j]!) m j (l ++ [((i : Int),s)]) = firstR (ks[j]!) m j l:=by
 rw [firstR_app]
 by_cases e : j = i
 ·subst e
  rcases h hj with h | h
  ·obtain ⟨y,hy⟩:=Option.isSome_iff_exists.1 h
   rw [hy]
   rfl
  ·have e : isR (ks[j]!) m j ((j : Int),s) = false:=by unfold isR; dsimp only; rw [h,Bool.and_false]
   rw [e,if_neg (by decide)]
   cases firstR (ks[j]!) m j l <;> rfl
 ·rw [isR_far m (by omega),if_neg (by decide)]
  cases firstR (ks[j]!) m j l <;> rfl
theorem same_all {n : Nat} {i : Nat} {s : List UInt8} (h : i < n → (firstR (ks[i]!) m i l).isSome = true ∨ rightB (ks[i]!) s m = false) :
  rightL ks m (l ++ [((i : Int),s)]) n = rightL ks m l n ∧ sigsL ks m (l ++ [((i : Int),s)]) n = sigsL ks m l n ∧ (gotL ks m (l ++ [((i : Int),s)]) n).length = (gotL ks m l n).length:=by
 refine ⟨List.map_congr_left fun j hj=>?_,List.map_congr_left fun j hj=>?_,?_⟩
 ·rw [firstR_same ks m l h j (List.mem_range.1 hj)]
 ·rw [firstR_same ks m l h j (List.mem_range.1 hj)]
 ·rw [gotL_count,gotL_count]
  refine List.countP_congr fun j hj=>?_;rw [firstR_same ks m l h j (List.mem_range.1 hj)]
theorem firstR_far {i j : Nat} {s : List UInt8} (h : j ≠ i) : firstR (ks[j]!) m j (l ++ [((i : Int),s)]) = firstR (ks[j]!) m j l:=by
 rw [firstR_app,isR_far m (by omega),if_neg (by decide)]
 cases firstR (ks[j]!) m j l <;> rfl
theorem map_range_set {α : Type} {f g : Nat → α} {i n : Nat} {a : α} (h : ∀ j,j ≠ i → g j = f j) (ha : g i = a) : (List.range n).map g = ((List.range n).map f).set i a:=by
 refine List.ext_getElem (by simp) fun j h1 h2=>?_;rw [List.getElem_map,List.getElem_range,List.getElem_set]
 split
 ·rename_i e
  rw [← e,ha]
 ·rename_i e
  rw [List.getElem_map,List.getElem_range];exact h j fun e'=>e e'.symm
theorem new_one {n i : Nat} {s : List UInt8} (hi : i < n) (h1 : (firstR (ks[i]!) m i l).isSome = false) (h2 : rightB (ks[i]!) s m = true) :
  rightL ks m (l ++ [((i : Int),s)]) n = (rightL ks m l n).set i true ∧ sigsL ks m (l ++ [((i : Int),s)]) n = (sigsL ks m l n).set i s ∧ (gotL ks m (l ++ [((i : Int),s)]) n).length = (gotL ks m l n).length + 1:=by
 have e : isR (ks[i]!) m i ((i : Int),s) = true:=by unfold isR; dsimp only; rw [h2,decide_eq_true rfl]; rfl
 have h3 : firstR (ks[i]!) m i (l ++ [((i : Int),s)]) = some s:=by
  rw [firstR_app,Option.isSome_eq_false_iff.1 h1 |> Option.isNone_iff_eq_none.1,e,if_pos rfl]
  rfl
 refine ⟨map_range_set (fun j hj=>by rw [firstR_far ks m l hj]) (by rw [h3]; rfl),map_range_set (fun j hj=>by rw [firstR_far ks m l hj]) (by rw [h3]; rfl),?_⟩;rw [gotL_count,gotL_count,countP_one (p:=fun i : Nat=>(firstR (ks[i]!) m i l).isSome) h1 (by rw [h3]; rfl) (fun j hj=>by rw [firstR_far ks m l hj]) n,if_pos hi]
noncomputable def wantL (q n : Nat) : List Int:=((gotL ks m l n).take q).map fun x=>(x.1 : Int)
theorem wantL_next (q n : Nat) : wantL ks m l q (n + 1) = wantL ks m l q n ++ (if (firstR (ks[n]!) m n l).isSome = true ∧ (wantL ks m l q n).length < q then [(n : Int)] else []):=by
 unfold wantL
 rw [gotL_next,List.length_map,List.length_take]
 cases h : firstR (ks[n]!) m n l with
 | none =>
  rw [if_neg (by simp)]
  simp
 | some s =>
  by_cases hq : (gotL ks m l n).length < q
  ·rw [if_pos ⟨rfl,by omega⟩,List.take_of_length_le (by rw [List.length_append]; show _ + 1 ≤ q; omega),List.take_of_length_le (by omega),List.map_append]
   rfl
  ·rw [if_neg (by omega),List.take_append_of_le_length (by omega),List.append_nil]
theorem wantL_le (q n : Nat) : (wantL ks m l q n).length ≤ q:=by
 unfold wantL
 rw [List.length_map,List.length_take]
 omega
end
end Go.Proofs.YtlcbhbahchiofaaDoor
/-
  FROM A WALK TO A LAW'S ROW: slices of hashes, opened.
-/
namespace Go.Proofs.YtlcbhbahchiofaaDoor
open Go.RowKit Go.IntWalk
open Go.ChangeShapes Go.WideShapes Go.ChangeAt

theorem pick_list {α : Type} (P : Nat → α → Prop) : ∀ n,(∀ i,i < n → ∃ l,P i l) → ∃ ks : List α,ks.length = n ∧ ∀ i l,ks[i]? = some l → P i l
 | 0,_=>⟨[],rfl,fun i l h=>by simp at h⟩
 | n + 1,h=>by
  obtain ⟨ks,hl,hk⟩:=pick_list P n fun i hi=>h i (by omega);obtain ⟨l,hp⟩:=h n (by omega);refine ⟨ks ++ [l],by simp [hl],fun i x hx=>?_⟩
  by_cases hi : i < ks.length
  ·rw [List.getElem?_append_left hi] at hx
   exact hk i x hx
  ·rw [List.getElem?_append_right (by omega)] at hx
   have h0 : i - ks.length = 0:=by
    by_cases e : i - ks.length = 0
    ·exact e
    ·rw [List.getElem?_eq_none (by simp; omega)] at hx
     cases hx
   rw [h0] at hx
   obtain rfl : l = x:=by simpa using hx
   obtain rfl : i = n:=by omega
   exact hp
end Go.Proofs.YtlcbhbahchiofaaDoor
/-
  FROM A WALK TO A LAW'S ROW: slices of anything, opened.
-/
namespace Go.Proofs.YtlcbhbahchiofaaDoor
open Go.RowKit Go.IntWalk
open Go.ChangeShapes Go.WideShapes Go.ChangeAt

set_option maxRecDepth 20000 in
theorem open_rd {α H : Type} {enc : TypeId × Value → H} {W : World} {held : Bool} {fuel : Nat} {t e : TypeId} {k : Nat} {fe : α → SQ} {cs : List Value} {x : DataW H × List MemPlace} (ht : Tryd.prog.underlying t = some (.slice e)) (hk : Tryd.prog.cellsOf e = k) (hk0 : 0 < k)
  (hel : ∀ n cs x,DataW.trod enc Tryd.prog W 0 (fun _=>true) held n e cs = some x → ∃ a : α,cs = (fe a).cl ∧ OkP (fe a).parts1 ∧ (fe a).cl.length = k)
  (h : DataW.trod enc Tryd.prog W 0 (fun _=>true) held fuel t cs = some x) :
  ∃ (A : Option Addr) (l : List α) (c : Nat),cs = [.slice A l.length c] ∧ Rd k fe A c l W:=by
 rcases DataW.trod_slice ht h with ⟨rfl,_⟩ | ⟨a,len,cap,elems,rest,n,rfl,rfl,rfl,_,hl,hm,hlen,hel2,_⟩
 ·exact ⟨none,[],0,rfl,Rd.nil _ _ _⟩
 ·rw [hk] at hel2
  obtain ⟨ks,hk1,hk2⟩:=pick_list (fun i (y : α)=>(OkP (fe y).parts1 ∧ (fe y).cl.length = k) ∧ W.cells? 0 (a.add (i * k)) k = some (fe y).cl) len fun i hi=>by
   have h0:=hel2 i hi;rw [List.getElem?_eq_getElem (by omega)] at h0
   cases hc : W.cells? 0 (a.add (i * k)) k with
   | none=>rw [hc] at h0; cases h0
   | some cs =>
    rw [hc] at h0;obtain ⟨y,rfl,h1⟩:=hel _ _ _ h0;exact ⟨y,h1,rfl⟩
  subst hk1;refine ⟨some a,ks,cap,rfl,hl,(by unfold maxLen at hm; omega),fun e=>(by cases e),fun y hy=>?_,fun hpos=>?_⟩
  ·obtain ⟨i,hi,rfl⟩:=List.getElem_of_mem hy
   exact (hk2 i _ (List.getElem?_eq_getElem hi)).1
  have hcell : ∀ i y,ks[i]? = some y → ∀ j v,(fe y).cl[j]? = some v → W.cell? (a.add (i * k + j)) = some v:=fun i y hi j v hj=>by
   obtain ⟨⟨_,hkl⟩,hc⟩:=hk2 i y hi;obtain ⟨_,_,h3⟩:=World.cells?_some hc
   have hjk : j < k:=by
    have:=(List.getElem?_eq_some_iff.1 hj).1
    omega
   have:=h3 j hjk;rw [Addr.add_add,hj] at this;exact this
  have h00:=hk2 0 _ (List.getElem?_eq_getElem hpos);have hb:=World.cells?_block h00.2 hk0;rw [Nat.zero_mul] at hb;obtain ⟨b,o,sp⟩:=a
  have hsp0 : sp = none:=by
   obtain ⟨v,hv⟩ : ∃ v,(fe ks[0]).cl[0]? = some v:=⟨_,List.getElem?_eq_getElem (by rw [h00.1.2]; exact hk0)⟩;have:=hcell 0 _ (List.getElem?_eq_getElem hpos) 0 v hv;rw [Nat.zero_mul,show (⟨b,o,sp⟩ : Addr).add (0 + 0) = ⟨b,o,sp⟩ from rfl,World.cell?] at this
   cases sp with
   | none=>rfl
   | some s =>
    exfalso
    dsimp only at this
    split at this
    ·simp at this
    ·cases this
  subst hsp0;refine ⟨b,o,rfl,hb,fun i y hi j v hj=>?_⟩;have:=hcell i y hi j v hj;rw [Addr.add_mid] at this
  rwa [Nat.add_assoc,Nat.mul_comm k i]
abbrev PartV:=Int × Bool × Bool
def eP (p : PartV) : SQ:=.p [.one (.v (.int .i64 p.1)),.one (.b p.2.1),.one (.b p.2.2)]
theorem eP_ok (p : PartV) : OkP (eP p).parts1 ∧ (eP p).cl.length = 3:=⟨fun q hq=>by
 simp only [eP,SQ.parts1,List.mem_cons,List.not_mem_nil,or_false] at hq
 rcases hq with rfl | rfl | rfl <;> exact ⟨trivial,rfl,rfl⟩,rfl⟩
abbrev TurnV:=Int × Int × Int
def eTu (p : TurnV) : SQ:=.p [.one (.v (.int .i64 p.1)),.one (.v (.int .i64 p.2.1)),.one (.v (.int .i64 p.2.2))]
theorem eTu_ok (p : TurnV) : OkP (eTu p).parts1 ∧ (eTu p).cl.length = 3:=⟨fun q hq=>by
 simp only [eTu,SQ.parts1,List.mem_cons,List.not_mem_nil,or_false] at hq
 rcases hq with rfl | rfl | rfl <;> exact ⟨trivial,rfl,rfl⟩,rfl⟩
theorem three_of {α : Type} {l : List α} (h : l.length = 3) : ∃ a b c,l = [a,b,c]:=by
 match l,h with
 | [a,b,c],_=>exact ⟨a,b,c,rfl⟩
set_option maxRecDepth 20000 in
theorem part_cells {H : Type} {enc : TypeId × Value → H} {W : World} {held : Bool} (n : Nat) (cs : List Value) (x : DataW H × List MemPlace) (h : DataW.trod enc Tryd.prog W 0 (fun _=>true) held n 34 cs = some x) :
  ∃ p : PartV,cs = (eP p).cl ∧ OkP (eP p).parts1 ∧ (eP p).cl.length = 3:=by
 obtain ⟨xs,m,_,_,hl,hlen,hf⟩:=DataW.trod_struct Tryd.underlying34 h;obtain ⟨a,b,c,rfl⟩:=three_of (hl.trans (by kernel_rfl));obtain ⟨x0,x1,x2,rfl⟩:=three_of (show xs.length = 3 from hlen)
 have c0 : Tryd.prog.cellsOf 3 = 1:=by kernel_rfl
 have c1 : Tryd.prog.cellsOf 4 = 1:=by kernel_rfl
 have h0 : DataW.trod enc Tryd.prog W 0 (fun _=>true) held m 3 (([a,b,c].drop 0).take (Tryd.prog.cellsOf 3)) = some x0:=hf 0 _ rfl;have h1 : DataW.trod enc Tryd.prog W 0 (fun _=>true) held m 4 (([a,b,c].drop 1).take (Tryd.prog.cellsOf 4)) = some x1:=hf 1 _ rfl;have h2 : DataW.trod enc Tryd.prog W 0 (fun _=>true) held m 4 (([a,b,c].drop 2).take (Tryd.prog.cellsOf 4)) = some x2:=hf 2 _ rfl;rw [c0] at h0;rw [c1] at h1 h2;obtain ⟨n0,e0,_⟩:=DataW.trod_int Tryd.underlying3 h0;obtain ⟨n1,e1,_⟩:=DataW.trod_bool Tryd.underlying4 h1;obtain ⟨n2,e2,_⟩:=DataW.trod_bool Tryd.underlying4 h2
 injection e0 with e0
 injection e1 with e1
 injection e2 with e2
 subst e0 e1 e2;exact ⟨(n0,n1,n2),rfl,eP_ok _⟩
set_option maxRecDepth 20000 in
theorem turn_cells {H : Type} {enc : TypeId × Value → H} {W : World} {held : Bool} (n : Nat) (cs : List Value) (x : DataW H × List MemPlace) (h : DataW.trod enc Tryd.prog W 0 (fun _=>true) held n 53 cs = some x) :
  ∃ p : TurnV,cs = (eTu p).cl ∧ OkP (eTu p).parts1 ∧ (eTu p).cl.length = 3:=by
 obtain ⟨xs,m,_,_,hl,hlen,hf⟩:=DataW.trod_struct Tryd.underlying53 h;obtain ⟨a,b,c,rfl⟩:=three_of (hl.trans (by kernel_rfl));obtain ⟨x0,x1,x2,rfl⟩:=three_of (show xs.length = 3 from hlen)
 have c0 : Tryd.prog.cellsOf 3 = 1:=by kernel_rfl
 have h0 : DataW.trod enc Tryd.prog W 0 (fun _=>true) held m 3 (([a,b,c].drop 0).take (Tryd.prog.cellsOf 3)) = some x0:=hf 0 _ rfl;have h1 : DataW.trod enc Tryd.prog W 0 (fun _=>true) held m 3 (([a,b,c].drop 1).take (Tryd.prog.cellsOf 3)) = some x1:=hf 1 _ rfl;have h2 : DataW.trod enc Tryd.prog W 0 (fun _=>true) held m 3 (([a,b,c].drop 2).take (Tryd.prog.cellsOf 3)) = some x2:=hf 2 _ rfl;rw [c0] at h0 h1 h2;obtain ⟨n0,e0,_⟩:=DataW.trod_int Tryd.underlying3 h0;obtain ⟨n1,e1,_⟩:=DataW.trod_int Tryd.underlying3 h1;obtain ⟨n2,e2,_⟩:=DataW.trod_int Tryd.underlying3 h2
 injection e0 with e0
 injection e1 with e1
 injection e2 with e2
 subst e0 e1 e2;exact ⟨(n0,n1,n2),rfl,eTu_ok _⟩
end Go.Proofs.YtlcbhbahchiofaaDoor
/-
  THE LAW: what is made of shares.
-/
namespace Go.Proofs.YtlcbhbahchiofaaDoor
open Go.RowKit Go.IntWalk Nums

theorem keyL_at {n i : Nat} (h : i < n) : (keyL n)[i]! = sgKey (seedL 2 i):=by simp [keyL,h]
set_option maxRecDepth 100000 in
set_option maxHeartbeats 8000000 in
theorem makes_S (f : Int) {A A2 : Option Addr} {c c2 : Nat} (bd : List UInt8) (pl : List PartV) (hb : bd.length ≤ 140737488355312) : Spec 3 [.int .i64 f,.slice A bd.length c,.slice A2 pl.length c2] [] (fun w=>Ta w ∧ Rd 1 eB A c bd w ∧ Rd 3 eP A2 c2 pl w) (one (.v (.bool true))):=by
 refine spec_S [.c (.v (.int .i64 f)),.c (.v (.slice A bd.length c)),.c (.v (.slice A2 pl.length c2))] 227 Tryd.func3 rfl (by rw [Tryd.ntmps3]; rfl) (more_ok trivial (two_ok trivial trivial)) fun b=>?_;refine s_pure (pl.length ≤ 9223372036854775807) (fun w h _=>Nat.le_trans h.2.2.1 h.2.2.2.1) fun hpl=>?_;refine s_auto TY_ok rfl ?_;refine s_seq fun K hK=>?_;refine s_regA TY_ok rfl fun K1 hK1=>?_;refine l_call0 [] rfl rfl rfl own_first8 rfl rfl (fun _ _=>rfl) first_S (fun w h _=>h.1) fun _=>?_;refine l_autoS TY_ok rfl ?_;refine s_end (hK1 _ ?_);refine s_no rfl ?_;refine s_skip (hK _ ?_);obtain ⟨k,hk, -,hkf⟩:=wrapU_mod f 3 (by decide) (by decide);refine s_regA TY_ok rfl fun K2 hK2=>?_;refine l_num 7 (k : Int) rfl hkf ?_;refine s_end (hK2 _ ?_);obtain ⟨n,hn⟩ : ∃ n,n = 3 * k + 1:=⟨_,rfl⟩
 have hn7 : n ≤ 7:=by omega
 have hq : IntKind.i64.wrap (IntKind.i64.wrap (2 * (k : Int)) + 1) = ((2 * k + 1 : Nat) : Int):=by
  have e : IntKind.i64.wrap (2 * (k : Int)) = 2 * (k : Int):=wrapI rfl (by omega) (by omega);rw [e];exact wrapI (by omega) (by omega) (by omega)
 refine s_regA TY_ok rfl fun K3 hK3=>?_;refine l_call0 [.int .i64 (k : Int)] rfl rfl rfl own_of8 rfl rfl (fun _ _=>rfl) (of_S k n hn hn7) (fun w h _=>h.2.1) fun ⟨r,SA,sc⟩=>?_;refine l_autoS TY_ok rfl ?_;refine s_end (hK3 _ ?_);refine s_auto TY_ok rfl ?_;refine s_nil0 b.B.heap.size 37 65 eSh ?_;refine s_regA TY_ok rfl fun K31 hK31=>?_;refine l_makeS TY_ok b.B.heap.size n false (fe:=eV) rfl rfl rfl rfl rfl rfl rfl rfl (eV_ok false) (by show 1 * n ≤ _; omega) (by omega) (Nat.le_refl _) fun A3=>?_;refine l_autoS TY_ok rfl ?_;refine s_end (hK31 _ ?_);refine s_regA TY_ok rfl fun K32 hK32=>?_;refine l_makeS TY_ok b.B.heap.size n (List.replicate 64 0) (fe:=eY 64) rfl rfl rfl rfl rfl rfl rfl rfl (eY_ok List.length_replicate) (by show 64 * n ≤ _; omega) (by omega) (Nat.le_refl _) fun A4=>?_;refine l_autoS TY_ok rfl ?_;refine s_end (hK32 _ ?_)
 have e1 : List.replicate n false = rightL (keyL n) (msg 5 bd) [] n:=by
  refine (List.ext_getElem (by simp [rightL]) fun i h1 h2=>?_)
  simp [rightL,firstR]
 have e2 : List.replicate n (List.replicate 64 (0 : UInt8)) = sigsL (keyL n) (msg 5 bd) [] n:=by
  refine (List.ext_getElem (by simp [sigsL]) fun i h1 h2=>?_)
  simp [sigsL,firstR]
 have e3 : (gotL (keyL n) (msg 5 bd) [] n).length = 0:=by rw [gotL_count]; simp [firstR]
 rw [e1,e2];refine s_auto TY_ok rfl ?_;refine s_seq fun K4 hK4=>?_
 have hend : ∀ (l : List Share) (B : Option Addr) (d : Nat),l.length ≤ 20 → ∀ e,Weak e ⟨[(1,.v (.slice A bd.length c)),(7,.v (.int .i64 (k : Int))),(8,.v (ptr r.g)),(9,.v (.slice SA n sc)),(10,.v (.slice B l.length d)),(11,.v (.slice A3 n n)),(12,.v (.slice A4 n n)),(13,.v (.int .i64 ((gotL (keyL n) (msg 5 bd) l n).length : Int)))],[],[RingM r.m (keyL n),OwnS b.B.heap.size 35 64 (eY 64) A4 n (sigsL (keyL n) (msg 5 bd) l n),OwnS b.B.heap.size 4 1 eV A3 n (rightL (keyL n) (msg 5 bd) l n),OwnS b.B.heap.size 37 65 eSh B d l],fun w=>Ta w ∧ Rd 1 eB A c bd w ∧ Rd 3 eP A2 c2 pl w,fun w=>RingF r (keyL n) w ∧ Rd 32 (eY 32) SA sc (seedsL 2 n) w⟩ → kS b K4 227 e:=by
  intro l B d hl20 e hw
  refine k_weak hw (hK4 _ ?_);refine s_free 3 rfl ?_;refine s_free 2 rfl ?_;refine s_free 1 rfl ?_;have hM:=make_S2 r (keyL n) (A:=A) (c:=c) (A2:=B) (c2:=d) (bd:=bd) l 5 hb;have hck:=fun cv=>make_check (ks:=(keyL n)) (m:=(msg 5 bd)) (bd:=bd) (l:=l) (cv:=cv)
  have hqn : n - n / 3 = 2 * k + 1:=by omega
  have hmk : makeC (keyL n) (msg 5 bd) bd l = if (gotL (keyL n) (msg 5 bd) l n).length < 2 * k + 1 then none else some ⟨bd,wantL (keyL n) (msg 5 bd) l (2 * k + 1) n,((gotL (keyL n) (msg 5 bd) l n).take (2 * k + 1)).map (·.2)⟩:=by
   unfold makeC wantL
   rw [keyL_len,hqn]
  have hgl:=gotL_le (keyL n) (msg 5 bd) l n;generalize makeC (keyL n) (msg 5 bd) bd l = o at *;refine s_regA TY_ok rfl fun K7 hK7=>?_;refine l_callA [ptr r.g,.int .u8 ((5 : UInt8).toNat : Int),.slice A bd.length c,.slice B l.length d] rfl rfl rfl own_make rfl rfl (fun _ _=>rfl) hM (fun w h hM=>⟨⟨hM.1,h.2.2.2.1,h.2.2.2.2.1⟩,h.2.2.1⟩) fun ci=>?_;refine l_autoS TY_ok rfl ?_;refine s_end (hK7 _ ?_);refine s_seq fun K8 hK8=>?_;refine s_regA TY_ok rfl fun K9 hK9=>?_;refine l_eq 126 (.b (decide ((gotL (keyL n) (msg 5 bd) l n).length < 2 * k + 1))) rfl (congrArg SV.b (by rw [hq]; exact decide_eq_decide.2 (by omega))) ?_;refine s_end (hK9 _ ?_);refine s_ifD ((gotL (keyL n) (msg 5 bd) l n).length < 2 * k + 1) rfl (fun hc=>?_) (fun hc=>?_)
  ·obtain rfl : o = none:=by rw [hmk,if_pos hc]
   refine s_regA TY_ok rfl fun K10 hK10=>?_;refine l_is 129 true rfl (by decide) ?_;refine l_autoS TY_ok rfl ?_;refine s_end (hK10 _ ?_);exact s_ret (k_drop 0 rfl (k_retD TY_ok () rfl (by decide) rfl rfl trivial rfl (fun _ _ _=>trivial) (fun _ _=>trivial)))
  ·obtain ⟨cv,hcv⟩ : ∃ cv : CV,cv = ⟨bd,wantL (keyL n) (msg 5 bd) l (2 * k + 1) n,((gotL (keyL n) (msg 5 bd) l n).take (2 * k + 1)).map (·.2)⟩:=⟨_,rfl⟩
   obtain rfl : o = some cv:=by rw [hmk,if_neg hc,hcv]
   have hck:=hck cv rfl
   have hcb : cv.body = bd:=by rw [hcv]
   have hcs : cv.sg = wantL (keyL n) (msg 5 bd) l (2 * k + 1) n:=by rw [hcv]
   have hcl : cv.sg.length ≤ 2 * k + 1:=by rw [hcs]; exact wantL_le (keyL n) (msg 5 bd) l (2 * k + 1) n
   refine s_skip (hK8 _ ?_);refine s_auto TY_ok rfl ?_;refine s_nil0 b.B.heap.size 3 1 eI ?_;refine s_seq fun K11 hK11=>?_;refine s_auto TY_ok rfl ?_;refine s_block ?_
   let F2 : Nat × Option Addr × Nat → Env:=fun ⟨a,W,dW⟩=>⟨[(145,.v (.int .i64 (a : Int))),(144,.v (.int .i64 (n : Int))),(143,.v (.slice A3 n n)),(1,.v (.slice A bd.length c)),(7,.v (.int .i64 (k : Int))),(8,.v (ptr r.g)),(10,.v (.slice B l.length d)),(12,.v (.slice A4 n n)),(19,.a 19 0),(20,.v (.int .i64 0)),(21,.v (.slice W (wantL (keyL n) (msg 5 bd) l (2 * k + 1) a).length dW))],[⟨19,none,45,(eC ci cv).parts1⟩],[OwnS b.B.heap.size 3 1 eI W dW (wantL (keyL n) (msg 5 bd) l (2 * k + 1) a),RingM r.m (keyL n)],fun w=>Rd 1 eV A3 n (rightL (keyL n) (msg 5 bd) l n) w ∧ Rd 64 (eY 64) A4 n (sigsL (keyL n) (msg 5 bd) l n) w ∧ Rd 65 eSh B d l w ∧ Rd 1 eB A c bd w ∧ Ta w,fun w=>CertF ci cv w ∧ RingF r (keyL n) w⟩
   refine c_weak (e':=F2 (0,none,0)) ⟨⟨rfl,rfl,rfl,rfl,rfl,rfl,rfl,rfl,rfl,rfl,rfl,trivial⟩,⟨rfl,rfl,trivial⟩,.refl _,fun _ h _=>⟨h.2.2.1,h.2.1,h.2.2.2.1,h.2.2.2.2.2.1,h.2.2.2.2.1⟩,fun _ h=>⟨h.1,h.2.1⟩⟩ (s_loop (fun x=>n - x.1) F2 (fun x=>x.1 ≤ n) ?_ (0,none,0) (Nat.zero_le _))
   rintro ⟨a,W,dW⟩ ha
   dsimp only at ha
   have hwa:=wantL_le (keyL n) (msg 5 bd) l (2 * k + 1) a;have hwn:=wantL_next (keyL n) (msg 5 bd) l (2 * k + 1) a;refine s_auto TY_ok rfl ?_;refine s_seq fun K12 hK12=>?_;refine s_ifD ((a : Int) < (n : Int)) rfl (fun hlt=>?_) (fun hge=>?_)
   ·have hlt : a < n:=by omega
    refine s_skip (hK12 _ ?_);refine s_seq fun K13 hK13=>?_;refine s_block ?_
    have hno : ∀ e,wantL (keyL n) (msg 5 bd) l (2 * k + 1) (a + 1) = wantL (keyL n) (msg 5 bd) l (2 * k + 1) a → Weak e (F2 (a,W,dW)) → kS b K13 227 e:=by
     intro e hw1 hw
     refine k_weak hw (hK13 _ ?_);refine s_autoE TY_ok rfl ?_;rw [← hw1];exact k_next (a + 1,W,dW) hlt (by show n - (a + 1) < n - a; omega) ⟨⟨congrArg some (congrArg SV.v (congrArg (Value.int .i64) (wrapI rfl (by omega) (by omega)))),rfl,rfl,rfl,rfl,rfl,rfl,rfl,rfl,rfl,rfl,trivial⟩,⟨rfl,rfl,trivial⟩,.refl _,fun _ h _=>h,fun _ h=>h⟩
    cases hR : (firstR ((keyL n)[a]!) (msg 5 bd) a l).isSome with
    | false =>
     refine s_regA TY_ok rfl fun K14 hK14=>?_;refine l_elem TY_ok rfl rfl rfl a rfl (x:=false) (fe:=eV) (by rw [rightL_at _ _ _ hlt,hR]) (rightL_len _ _ _ _).symm rfl (rd_fact fun w h _=>h.1) ?_;refine l_autoS TY_ok rfl ?_;refine s_end (hK14 _ ?_);refine s_auto TY_ok rfl ?_;refine s_no rfl ?_;exact s_skip (hno _ (by rw [hwn,if_neg (by rw [hR]; simp),List.append_nil]) ⟨⟨rfl,rfl,rfl,rfl,rfl,rfl,rfl,rfl,rfl,rfl,rfl,trivial⟩,⟨rfl,rfl,trivial⟩,.refl _,fun _ h _=>h,fun _ h=>h⟩)
    | true =>
     refine s_regA TY_ok rfl fun K14 hK14=>?_;refine l_elem TY_ok rfl rfl rfl a rfl (x:=true) (fe:=eV) (by rw [rightL_at _ _ _ hlt,hR]) (rightL_len _ _ _ _).symm rfl (rd_fact fun w h _=>h.1) ?_;refine l_autoS TY_ok rfl ?_;refine s_end (hK14 _ ?_);refine s_regA TY_ok rfl fun K15 hK15=>?_;refine l_eq 158 (.b (decide ((wantL (keyL n) (msg 5 bd) l (2 * k + 1) a).length < 2 * k + 1))) rfl (congrArg SV.b (by rw [hq]; exact decide_eq_decide.2 (by omega))) ?_;refine s_end (hK15 _ ?_);refine s_ifD ((wantL (keyL n) (msg 5 bd) l (2 * k + 1) a).length < 2 * k + 1) rfl (fun h2=>?_) (fun h2=>?_)
     ·refine s_lit ?_
      refine l_autoS TY_ok rfl ?_;refine l_push TY_ok 0 (a : Int) rfl rfl rfl rfl rfl rfl rfl (eI_ok _) (by decide) (by decide) (by show (_ + 1) * 8 ≤ _; omega) (by omega) (Nat.le_refl _) fun W' dW'=>?_;refine l_autoS TY_ok rfl ?_;refine s_end (hK13 _ ?_);refine s_autoE TY_ok rfl ?_;rw [if_pos ⟨hR,h2⟩] at hwn;rw [← hwn];exact k_next (a + 1,W',dW') hlt (by show n - (a + 1) < n - a; omega) ⟨⟨congrArg some (congrArg SV.v (congrArg (Value.int .i64) (wrapI rfl (by omega) (by omega)))),rfl,rfl,rfl,rfl,rfl,rfl,rfl,rfl,rfl,rfl,trivial⟩,⟨rfl,rfl,trivial⟩,.refl _,fun _ h _=>h,fun _ h=>h⟩
     ·exact s_skip (hno _ (by rw [hwn,if_neg (fun h=>h2 h.2),List.append_nil]) ⟨⟨rfl,rfl,rfl,rfl,rfl,rfl,rfl,rfl,rfl,rfl,rfl,trivial⟩,⟨rfl,rfl,trivial⟩,.refl _,fun _ h _=>h,fun _ h=>h⟩)
   ·obtain rfl : n = a:=by omega
    refine s_exit (k_pass (k_pass (k_out ?_)));refine hK11 _ ?_;refine s_free 0 rfl ?_;rw [← hcs];refine s_seq fun K12 hK12=>?_;refine s_regA TY_ok rfl fun K13 hK13=>?_;refine l_is 166 false rfl (by decide) ?_;refine l_autoS TY_ok rfl ?_;refine l_strB cv.body rfl rfl rfl rfl rfl (rd_fact fun w _ h=>h.1.1) ?_;refine l_autoS TY_ok rfl ?_;refine l_strB bd rfl rfl rfl rfl rfl (rd_fact fun w h _=>h.2.2.2.2.1) ?_;refine l_autoS TY_ok rfl ?_;refine l_op (.b (!decide (cv.body = bd))) trivial rfl rfl rfl (run_neqS rfl rfl rfl) ?_;refine l_autoS TY_ok rfl ?_;refine l_is 174 false rfl (by rw [decide_eq_true hcb]; rfl) ?_;refine l_autoS TY_ok rfl ?_;refine l_is 182 false rfl (decide_eq_false (by simp)) ?_;refine l_autoS TY_ok rfl ?_;have hs1:=check_S r (keyL n) ci cv 5 (by rw [hcb]; exact hb);rw [hcb,hck.1] at hs1;refine l_callA [ptr r.g,.int .u8 ((5 : UInt8).toNat : Int),(eC ci cv).den] rfl rfl rfl own_check rfl rfl (fun _ _=>rfl) hs1 (fun w h hM=>⟨hM.2,h.2.2.2.2.2,hM.1⟩) fun _=>?_;refine l_autoS TY_ok rfl ?_;refine l_is 187 false rfl (by decide) ?_;refine s_end (hK13 _ ?_);refine s_no rfl ?_;refine s_skip (hK12 _ ?_);refine s_seq fun K14 hK14=>?_;refine s_auto TY_ok rfl ?_;refine s_block ?_
    let F3 : Nat → Env:=fun a=>⟨[(190,.v (.int .i64 (a : Int))),(189,.v (.int .i64 (cv.sg.length : Int))),(1,.v (.slice A bd.length c)),(10,.v (.slice B l.length d)),(12,.v (.slice A4 n n)),(19,.a 19 0),(21,.v (.slice W cv.sg.length dW))],[⟨19,none,45,(eC ci cv).parts1⟩],[RingM r.m (keyL n)],fun w=>Rd 1 eI W dW cv.sg w ∧ Rd 64 (eY 64) A4 n (sigsL (keyL n) (msg 5 bd) l n) w,fun w=>CertF ci cv w⟩
    refine c_weak (e':=F3 0) ⟨⟨rfl,rfl,rfl,rfl,rfl,rfl,rfl,trivial⟩,⟨rfl,rfl,trivial⟩,.refl _,fun _ h _=>⟨h.2.1,h.2.2.2.1⟩,fun _ h=>h.2.1⟩ (s_loop (fun a=>cv.sg.length - a) F3 (fun a=>a ≤ cv.sg.length) ?_ 0 (Nat.zero_le _))
    intro a ha
    refine s_auto TY_ok rfl ?_;refine s_seq fun K15 hK15=>?_;refine s_ifD ((a : Int) < (cv.sg.length : Int)) rfl (fun hlt=>?_) (fun hge=>?_)
    ·have hlt : a < cv.sg.length:=by omega
     obtain ⟨q,hqm,hq1,hq2⟩ : ∃ q : Nat × List UInt8,q ∈ gotL (keyL n) (msg 5 bd) l n ∧ cv.sg[a]? = some (q.1 : Int) ∧ cv.si[a]? = some q.2:=by
      have h1 : a < ((gotL (keyL n) (msg 5 bd) l n).take (2 * k + 1)).length:=by rw [hcv] at hlt; simpa [wantL] using hlt
      refine ⟨((gotL (keyL n) (msg 5 bd) l n).take (2 * k + 1))[a],List.mem_of_mem_take (List.getElem_mem h1),?_,?_⟩
      ·rw [hcv]
       show (List.map _ _)[a]? = _
       rw [List.getElem?_map,List.getElem?_eq_getElem h1]
       rfl
      ·rw [hcv]
       show (List.map _ _)[a]? = _
       rw [List.getElem?_map,List.getElem?_eq_getElem h1]
       rfl
     have hg:=gotL_mem hqm
     have hs4 : (sigsL (keyL n) (msg 5 bd) l n)[q.1]? = some q.2:=by rw [sigsL_at _ _ _ hg.1,hg.2]; rfl
     refine s_skip (hK15 _ ?_);refine s_seq fun K16 hK16=>?_;refine s_block ?_;refine s_auto TY_ok rfl ?_;refine s_pure (q.2.length = 64) (fun w _ h=>eY_len (h.2.2.2.2.2.1 q.2 (List.mem_of_getElem? hq2)).1) fun hq64=>?_;refine s_regD 25 (by decide) (by kernel_rfl) (by kernel_rfl) fun K17 hK17 G S w0 hst=>?_;refine g_autoS TY_ok hst rfl ?_;refine g_elem TY_ok hst rfl rfl rfl a rfl hq1 rfl rfl (rd_fact fun w _ h=>h.2.1) ?_;refine g_autoS TY_ok hst rfl ?_;refine g_elem TY_ok hst rfl rfl rfl a rfl hq1 rfl rfl (rd_fact fun w h _=>h.1) ?_;refine g_autoS TY_ok hst rfl ?_;refine g_is 203 false rfl (by simp) ?_;refine g_autoS TY_ok hst rfl ?_;refine g_elem TY_ok hst rfl rfl rfl a rfl hq2 rfl rfl (rd_fact fun w _ h=>h.2.2) ?_;refine g_autoS TY_ok hst rfl ?_;refine g_elem TY_ok hst rfl rfl rfl a rfl hq1 rfl rfl (rd_fact fun w h _=>h.1) ?_;refine g_autoS TY_ok hst rfl ?_;refine g_elem TY_ok hst rfl rfl rfl q.1 rfl hs4 (sigsL_len _ _ _ _).symm rfl (rd_fact fun w h _=>h.2) ?_;refine g_autoS TY_ok hst rfl ?_;refine g_opS (.b (!decide (q.2 = q.2))) trivial rfl rfl rfl (run_neqY rfl rfl rfl Tryd.underlying35 (by kernel_rfl) hq64 hq64) ?_;refine g_autoS TY_ok hst rfl ?_;refine g_endS hst ?_;refine l_is 217 false rfl (by simp) ?_;refine s_end (hK17 _ ?_);refine s_no rfl ?_;refine s_skip (hK16 _ ?_);refine s_autoE TY_ok rfl ?_;exact k_next (a + 1) hlt (by show _ - (a + 1) < _ - a; omega) ⟨⟨congrArg some (congrArg SV.v (congrArg (Value.int .i64) (wrapI rfl (by omega) (by omega)))),rfl,rfl,rfl,rfl,rfl,rfl,trivial⟩,⟨rfl,rfl,trivial⟩,.refl _,fun _ h _=>h,fun _ h=>h⟩
    ·refine s_exit (k_pass (k_pass (k_out ?_)))
     refine hK14 _ ?_;refine s_regA TY_ok rfl fun K15 hK15=>?_;refine l_call0 [.pointer none,.int .u8 5,.slice A bd.length c,.slice B l.length d] rfl rfl rfl own_make rfl rfl (fun _ _=>rfl) (make_nil (.int .u8 5) (.c (.v (.slice A bd.length c))) (.c (.v (.slice B l.length d))) rfl trivial trivial) (fun w _ _=>trivial) fun _=>?_;refine l_autoS TY_ok rfl ?_;refine s_end (hK15 _ ?_);refine s_auto TY_ok rfl ?_;exact s_ret (k_drop 0 rfl (k_retD TY_ok () rfl (by decide) rfl rfl trivial rfl (fun _ _ _=>trivial) (fun _ _=>trivial)))
 refine s_auto TY_ok rfl ?_;refine s_block ?_
 let F : Nat × List Share × Option Addr × Nat → Env:=fun ⟨j,l,B,d⟩=>⟨[(46,.v (.int .i64 (j : Int))),(45,.v (.int .i64 (pl.length : Int))),(44,.v (.slice A2 pl.length c2)),(1,.v (.slice A bd.length c)),(7,.v (.int .i64 (k : Int))),(8,.v (ptr r.g)),(9,.v (.slice SA n sc)),(10,.v (.slice B l.length d)),(11,.v (.slice A3 n n)),(12,.v (.slice A4 n n)),(13,.v (.int .i64 ((gotL (keyL n) (msg 5 bd) l n).length : Int)))],[],[RingM r.m (keyL n),OwnS b.B.heap.size 35 64 (eY 64) A4 n (sigsL (keyL n) (msg 5 bd) l n),OwnS b.B.heap.size 4 1 eV A3 n (rightL (keyL n) (msg 5 bd) l n),OwnS b.B.heap.size 37 65 eSh B d l],fun w=>Ta w ∧ Rd 1 eB A c bd w ∧ Rd 3 eP A2 c2 pl w,fun w=>RingF r (keyL n) w ∧ Rd 32 (eY 32) SA sc (seedsL 2 n) w⟩
 refine c_weak (e':=F (0,[],none,0)) ⟨⟨rfl,rfl,rfl,rfl,rfl,rfl,rfl,rfl,rfl,rfl,congrArg some (congrArg SV.v (congrArg (Value.int .i64) (congrArg Nat.cast e3.symm))),trivial⟩,trivial,List.perm_append_comm (l₁:=[_,_,_]) (l₂:=[_]),fun _ h _=>h.2.2,fun _ h=>h.1⟩ (s_loop (fun x=>pl.length - x.1) F (fun x=>x.1 ≤ pl.length ∧ x.2.1.length = x.1 ∧ x.1 ≤ 20) ?_ (0,[],none,0) ⟨Nat.zero_le _,rfl,Nat.zero_le _⟩)
 rintro ⟨j,l,B,d⟩ ⟨hj,hlj,hj20⟩
 dsimp only at hj hlj hj20
 have hgl:=gotL_le (keyL n) (msg 5 bd) l n;refine s_auto TY_ok rfl ?_;refine s_seq fun K5 hK5=>?_;refine s_ifD ((j : Int) < (pl.length : Int)) rfl (fun hlt=>?_) (fun hge=>?_)
 ·have hlt : j < pl.length:=by omega
  obtain ⟨p,hp⟩ : ∃ p,pl[j]? = some p:=⟨_,List.getElem?_eq_getElem hlt⟩;refine s_skip (hK5 _ ?_);refine s_seq fun K6 hK6=>?_;refine s_block ?_;refine s_regA TY_ok rfl fun K7 hK7=>?_;refine l_elem TY_ok rfl rfl rfl j rfl hp rfl rfl (rd_fact fun w h _=>h.2.2) ?_;refine l_autoS TY_ok rfl ?_;refine s_end (hK7 _ ?_);refine s_seq fun K8 hK8=>?_;refine s_auto TY_ok rfl ?_;refine s_ifD ((j : Int) ≥ 20) rfl (fun h20=>?_) (fun h20=>?_)
  ·refine s_exit (k_pass (k_passB rfl (k_pass (k_pass (k_out ?_)))))
   exact hend l B d (by omega) _ ⟨⟨rfl,rfl,rfl,rfl,rfl,rfl,rfl,rfl,trivial⟩,trivial,.refl _,fun _ h _=>h,fun _ h=>h⟩
  ·refine s_skip (hK8 _ ?_)
   obtain ⟨i,hi, -,hif⟩:=wrapU_mod p.1 (n + 1) (by omega) (by omega);refine s_regA TY_ok rfl fun K9 hK9=>?_;have e5 : IntKind.i64.wrap ((n : Int) + 1) = ((n + 1 : Nat) : Int):=wrapI (by omega) (by omega) (by omega);refine l_num 59 ((n + 1 : Nat) : Int) rfl (by rw [e5]; exact wrapU rfl (by omega) (by omega)) ?_;refine l_op (.v (.int .u64 ((IntKind.u64.wrap p.1).tmod ((n + 1 : Nat) : Int)))) trivial rfl rfl rfl (run_remU (by omega) rfl rfl rfl) ?_;refine l_autoS TY_ok rfl ?_;refine l_num 16 (i : Int) rfl hif ?_;refine s_end (hK9 _ ?_);refine s_auto TY_ok rfl ?_;refine s_seq fun K10 hK10=>?_
   have hpush : ∀ s : List UInt8,s.length = 64 → ∀ e,Weak e ⟨[(46,.v (.int .i64 (j : Int))),(45,.v (.int .i64 (pl.length : Int))),(44,.v (.slice A2 pl.length c2)),(1,.v (.slice A bd.length c)),(7,.v (.int .i64 (k : Int))),(8,.v (ptr r.g)),(9,.v (.slice SA n sc)),(10,.v (.slice B l.length d)),(11,.v (.slice A3 n n)),(12,.v (.slice A4 n n)),(13,.v (.int .i64 ((gotL (keyL n) (msg 5 bd) (l ++ [((i : Int),s)]) n).length : Int))),(17,.a 17 0)],[⟨17,none,37,[.one (.v (.int .i64 (i : Int))),.agg 64 (By s).toArray]⟩],[RingM r.m (keyL n),OwnS b.B.heap.size 35 64 (eY 64) A4 n (sigsL (keyL n) (msg 5 bd) (l ++ [((i : Int),s)]) n),OwnS b.B.heap.size 4 1 eV A3 n (rightL (keyL n) (msg 5 bd) (l ++ [((i : Int),s)]) n),OwnS b.B.heap.size 37 65 eSh B d l],fun w=>Ta w ∧ Rd 1 eB A c bd w ∧ Rd 3 eP A2 c2 pl w,fun w=>RingF r (keyL n) w ∧ Rd 32 (eY 32) SA sc (seedsL 2 n) w⟩ → kS b K10 227 e:=by
    intro s hs e hw
    refine k_weak hw (hK10 _ ?_);refine s_lit ?_;refine l_autoS TY_ok rfl ?_;refine l_push TY_ok 3 ((i : Int),s) rfl rfl rfl rfl rfl rfl rfl (eSh_ok hs) (by decide) (by decide) (by show (_ + 1) * 72 ≤ _; omega) (by omega) (Nat.le_refl _) fun B' d'=>?_;refine l_autoS TY_ok rfl ?_;refine s_end (hK6 _ ?_);refine s_autoE TY_ok rfl ?_;exact k_next (j + 1,l ++ [((i : Int),s)],B',d') ⟨hlt,by show (l ++ [_]).length = j + 1; rw [List.length_append,hlj]; rfl,by show j + 1 ≤ 20; omega⟩ (by show pl.length - (j + 1) < pl.length - j; omega) ⟨⟨congrArg some (congrArg SV.v (congrArg (Value.int .i64) (wrapI rfl (by omega) (by omega)))),rfl,rfl,rfl,rfl,rfl,rfl,rfl,rfl,rfl,rfl,trivial⟩,trivial,.refl _,fun _ h _=>h,fun _ h=>h⟩
   refine s_auto TY_ok rfl ?_;refine s_ifD ((i : Int) < (n : Int)) rfl (fun hin=>?_) (fun hin=>?_)
   ·have hin : i < n:=by omega
    refine s_auto TY_ok rfl ?_;refine s_seq fun K11 hK11=>?_
    have h19 : ∀ (tg : UInt8) e,Weak e ⟨[(46,.v (.int .i64 (j : Int))),(45,.v (.int .i64 (pl.length : Int))),(44,.v (.slice A2 pl.length c2)),(1,.v (.slice A bd.length c)),(7,.v (.int .i64 (k : Int))),(8,.v (ptr r.g)),(9,.v (.slice SA n sc)),(10,.v (.slice B l.length d)),(11,.v (.slice A3 n n)),(12,.v (.slice A4 n n)),(13,.v (.int .i64 ((gotL (keyL n) (msg 5 bd) l n).length : Int))),(15,.a 15 0),(16,.v (.int .i64 (i : Int))),(17,.a 17 0),(18,.v (.int .u8 (tg.toNat : Int)))],[⟨17,none,37,[.one (.v (.int .i64 (i : Int))),.agg 64 (By (List.replicate 64 0)).toArray]⟩,⟨15,none,34,(eP p).parts1⟩],[RingM r.m (keyL n),OwnS b.B.heap.size 35 64 (eY 64) A4 n (sigsL (keyL n) (msg 5 bd) l n),OwnS b.B.heap.size 4 1 eV A3 n (rightL (keyL n) (msg 5 bd) l n),OwnS b.B.heap.size 37 65 eSh B d l],fun w=>Ta w ∧ Rd 1 eB A c bd w ∧ Rd 3 eP A2 c2 pl w,fun w=>RingF r (keyL n) w ∧ Rd 32 (eY 32) SA sc (seedsL 2 n) w⟩ → kS b K11 227 e:=by
     intro tg e hw
     refine k_weak hw (hK11 _ ?_);refine s_regA TY_ok rfl fun K12 hK12=>?_;refine l_elem TY_ok rfl rfl rfl i rfl (seedsL_at hin) (seedsL_len 2 n).symm rfl (rd_fact fun w _ h=>h.2) ?_;refine l_autoS TY_ok rfl ?_;have hse:=seal_S (A:=A) (c:=c) (seed:=seedL 2 i) (b:=bd) tg (seedL_len 2 i) hb;have hsl:=sgSig_len (seedL 2 i) (msg tg bd);generalize sgSig (seedL 2 i) (msg tg bd) = sg at hse hsl;refine l_call0 [.agg (By (seedL 2 i)).toArray,.int .u8 (tg.toNat : Int),.slice A bd.length c] rfl rfl rfl own_seal rfl rfl (fun _ _=>rfl) hse (fun w h _=>⟨h.1,h.2.1⟩) fun _=>?_;refine l_autoS TY_ok rfl ?_;refine s_end (hK12 _ ?_);refine s_seq fun K13 hK13=>?_
     have h22 : ∀ s : List UInt8,s.length = 64 → ∀ e,Weak e ⟨[(46,.v (.int .i64 (j : Int))),(45,.v (.int .i64 (pl.length : Int))),(44,.v (.slice A2 pl.length c2)),(1,.v (.slice A bd.length c)),(7,.v (.int .i64 (k : Int))),(8,.v (ptr r.g)),(9,.v (.slice SA n sc)),(10,.v (.slice B l.length d)),(11,.v (.slice A3 n n)),(12,.v (.slice A4 n n)),(13,.v (.int .i64 ((gotL (keyL n) (msg 5 bd) l n).length : Int))),(16,.v (.int .i64 (i : Int))),(17,.a 17 0)],[⟨17,none,37,[.one (.v (.int .i64 (i : Int))),.agg 64 (By s).toArray]⟩],[RingM r.m (keyL n),OwnS b.B.heap.size 35 64 (eY 64) A4 n (sigsL (keyL n) (msg 5 bd) l n),OwnS b.B.heap.size 4 1 eV A3 n (rightL (keyL n) (msg 5 bd) l n),OwnS b.B.heap.size 37 65 eSh B d l],fun w=>Ta w ∧ Rd 1 eB A c bd w ∧ Rd 3 eP A2 c2 pl w,fun w=>RingF r (keyL n) w ∧ Rd 32 (eY 32) SA sc (seedsL 2 n) w⟩ → kS b K13 227 e:=by
      intro s hs e hw
      refine k_weak hw (hK13 _ ?_);refine s_seq fun K14 hK14=>?_
      cases hR : (firstR ((keyL n)[i]!) (msg 5 bd) i l).isSome with
      | true =>
       have hsame:=same_all (keyL n) (msg 5 bd) l (n:=n) (i:=i) (s:=s) fun _=>.inl hR;refine s_drawn 14 (by decide) (by kernel_rfl) (by kernel_rfl) fun G S w0 hst=>?_;refine g_autoS TY_ok hst rfl ?_;refine g_elem TY_ok hst rfl rfl rfl i rfl (x:=true) (fe:=eV) (by rw [rightL_at _ _ _ hin,hR]) (rightL_len _ _ _ _).symm rfl (rd_own 2 rfl) ?_;refine g_autoS TY_ok hst rfl ?_;refine g_endS hst ?_;refine s_end (hK14 _ ?_);refine s_no rfl ?_;refine s_skip (hpush s hs _ ?_);rw [hsame.1,hsame.2.1,hsame.2.2];exact ⟨⟨rfl,rfl,rfl,rfl,rfl,rfl,rfl,rfl,rfl,rfl,rfl,rfl,trivial⟩,⟨rfl,rfl,trivial⟩,.refl _,fun _ h _=>h,fun _ h=>h⟩
      | false =>
       have hkl : i < (keyL n).length:=by rw [keyL_len]; exact hin
       have hke : (keyL n)[i]! = (keyL n)[i]:=getElem!_pos (keyL n) i hkl
       have hk32 : ((keyL n)[i]).length = 32:=by rw [← hke,keyL_at hin]; exact sgKey_len _
       refine s_drawn 14 (by decide) (by kernel_rfl) (by kernel_rfl) fun G S w0 hst=>?_;refine g_autoS TY_ok hst rfl ?_;refine g_elem TY_ok hst rfl rfl rfl i rfl (x:=false) (fe:=eV) (by rw [rightL_at _ _ _ hin,hR]) (rightL_len _ _ _ _).symm rfl (rd_own 2 rfl) ?_;refine g_autoS TY_ok hst rfl ?_;refine g_callS hst [ptr r.g,.int .i64 (i : Int)] rfl rfl rfl own_rkey rfl rfl (fun _=>rfl) (rkey_S r (keyL n) i hkl) (eY_ok hk32).1 (fun _ _ w h=>h.fresh.1) ?_;refine g_autoS TY_ok hst rfl ?_;refine g_callS hst [.agg (By (keyL n)[i]).toArray,.int .u8 ((5 : UInt8).toNat : Int),.slice A bd.length c,.agg (By s).toArray] rfl rfl rfl own_owned rfl rfl (fun _=>rfl) (owned_S 5 hk32 hs hb) trivial (fun _ _ w h=>⟨h.fact.1,h.fact.2.1⟩) ?_;refine g_autoS TY_ok hst rfl ?_;refine g_endS hst ?_;refine s_end (hK14 _ ?_);refine s_if (rightB (keyL n)[i] s (msg 5 bd)) rfl (fun hy=>?_) (fun hy=>?_)
       ·have hnew:=new_one (keyL n) (msg 5 bd) l hin hR (by rw [hke]; exact hy)
        refine s_regA TY_ok rfl fun K15 hK15=>?_;refine l_place TY_ok 2 true i (fe:=eV) rfl rfl rfl rfl rfl rfl (rightL_len _ _ _ _).symm rfl (by rw [rightL_len]; exact hin) (eV_ok true) ?_;refine s_end (hK15 _ ?_);refine s_auto TY_ok rfl ?_;refine s_lit ?_;refine l_autoS TY_ok rfl ?_;refine l_place TY_ok 1 s i (fe:=eY 64) rfl rfl rfl rfl rfl rfl (sigsL_len _ _ _ _).symm rfl (by rw [sigsL_len]; exact hin) (eY_ok hs) ?_;refine s_end (hpush s hs _ ?_);rw [hnew.1,hnew.2.1,hnew.2.2];exact ⟨⟨rfl,rfl,rfl,rfl,rfl,rfl,rfl,rfl,rfl,rfl,congrArg some (congrArg SV.v (congrArg (Value.int .i64) (wrapI (by omega) (by omega) (by omega)))),rfl,trivial⟩,⟨rfl,rfl,trivial⟩,.refl _,fun _ h _=>h,fun _ h=>h⟩
       ·have hsame:=same_all (keyL n) (msg 5 bd) l (n:=n) (i:=i) (s:=s) fun _=>.inr (by rw [hke]; exact hy)
        refine s_skip (hpush s hs _ ?_);rw [hsame.1,hsame.2.1,hsame.2.2];exact ⟨⟨rfl,rfl,rfl,rfl,rfl,rfl,rfl,rfl,rfl,rfl,rfl,rfl,trivial⟩,⟨rfl,rfl,trivial⟩,.refl _,fun _ h _=>h,fun _ h=>h⟩
     refine s_auto TY_ok rfl ?_;refine s_if p.2.1 rfl (fun h=>?_) (fun h=>?_)
     ·obtain ⟨y,hy⟩:=xor_b1 (sg[5]'(by omega))
      refine s_lit ?_;refine l_autoS TY_ok rfl ?_;refine l_op (.a 17 6) trivial rfl rfl rfl (runO_ixA 5 rfl Tryd.underlying35 rfl rfl rfl (by decide)) ?_;refine l_opV (.v (.int .u8 ((sg[5]'(by omega)).toNat : Int))) trivial rfl rfl rfl (runO_ldA _ rfl rfl rfl (sh_at (l:=sg) (j:=5) (by omega)) Tryd.underlying5 rfl) ?_;refine l_op (.v (.int .u8 (y.toNat : Int))) trivial rfl rfl rfl (by rw [← hy]; exact run_xor rfl rfl rfl) ?_;refine l_autoS TY_ok rfl ?_;refine l_op (.a 17 6) trivial rfl rfl rfl (runO_ixA 5 rfl Tryd.underlying35 rfl rfl rfl (by decide)) ?_
      have hs5 : (sg.set 5 y).length = 64:=by rw [List.length_set]; exact hsl
      refine l_stA [.one (.v (.int .i64 (i : Int))),.agg 64 (By (sg.set 5 y)).toArray] rfl rfl rfl rfl rfl rfl rfl rfl rfl (by show 6 < (#[_] ++ (By sg).toArray).size; simp [By_len,hsl]) (eSh_ok (x:=((i : Int),sg.set 5 y)) hs5).1 (sh_set y) ?_;refine s_end (h22 _ hs5 _ ⟨⟨rfl,rfl,rfl,rfl,rfl,rfl,rfl,rfl,rfl,rfl,rfl,rfl,rfl,trivial⟩,⟨rfl,rfl,trivial⟩,.refl _,fun _ h _=>h.2,fun _ h=>h.2⟩)
     ·exact s_skip (h22 sg hsl _ ⟨⟨rfl,rfl,rfl,rfl,rfl,rfl,rfl,rfl,rfl,rfl,rfl,rfl,rfl,trivial⟩,⟨rfl,rfl,trivial⟩,.refl _,fun _ h _=>h.2,fun _ h=>h.2⟩)
    refine s_auto TY_ok rfl ?_;refine s_if p.2.2 rfl (fun h=>?_) (fun h=>?_)
    ·refine s_autoE TY_ok rfl ?_
     exact h19 4 _ ⟨⟨rfl,rfl,rfl,rfl,rfl,rfl,rfl,rfl,rfl,rfl,rfl,rfl,rfl,rfl,rfl,trivial⟩,⟨rfl,rfl,rfl,rfl,trivial⟩,.refl _,fun _ h _=>h,fun _ h=>h⟩
    ·exact s_skip (h19 5 _ ⟨⟨rfl,rfl,rfl,rfl,rfl,rfl,rfl,rfl,rfl,rfl,rfl,rfl,rfl,rfl,rfl,trivial⟩,⟨rfl,rfl,rfl,rfl,trivial⟩,.refl _,fun _ h _=>h,fun _ h=>h⟩)
   ·have hsame:=same_all (keyL n) (msg 5 bd) l (n:=n) (i:=i) (s:=List.replicate 64 0) fun h=>absurd h (by omega)
    refine s_skip (hpush (List.replicate 64 0) List.length_replicate _ ?_);rw [hsame.1,hsame.2.1,hsame.2.2];exact ⟨⟨rfl,rfl,rfl,rfl,rfl,rfl,rfl,rfl,rfl,rfl,rfl,rfl,trivial⟩,⟨rfl,rfl,trivial⟩,.refl _,fun _ h _=>h,fun _ h=>h⟩
 ·refine s_exit (k_pass (k_pass (k_out ?_)))
  exact hend l B d (by omega) _ ⟨⟨rfl,rfl,rfl,rfl,rfl,rfl,rfl,rfl,trivial⟩,trivial,.refl _,fun _ h _=>h,fun _ h=>h⟩
end Go.Proofs.YtlcbhbahchiofaaDoor
