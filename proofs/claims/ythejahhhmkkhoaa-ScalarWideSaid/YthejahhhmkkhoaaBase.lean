/-
  WORDS FOR MEMORY: rows of bytes and of whole numbers, blocks behind three or four new ones.
-/
import Derived.Test.YthejahhhmkkhoaaMem
import Derived.Laws.CopyOwn
namespace Go.Proofs.Ythejahhhmkkhoaa
open Go.RowKit

/-- Whole numbers as the cells of a row. -/
def Is (l : List Int) : List Value := l.map (.int .i64)
theorem Is_len (l : List Int) : (Is l).length = l.length := by simp [Is]
theorem Is_one (l : List Int) : ∀ u ∈ Is l, u.oneCell' = true := by
  intro u hu
  obtain ⟨x, _, rfl⟩ := List.mem_map.1 hu
  rfl
theorem Is_at {l : List Int} {j : Nat} (h : j < l.length) : (Is l).toArray[j]? = some (.int .i64 l[j]!) := by
  simp [Is, h]
theorem Is_set (l : List Int) (k : Nat) (x : Int) : (Is l).toArray.setIfInBounds k (.int .i64 x) = (Is (l.set k x)).toArray := by
  simp [Is, List.map_set]
theorem By_get {l : List UInt8} {j : Nat} (h : j < l.length) : (By l).toArray[j]? = some (.int .u8 ((l[j]!).toNat : Int)) := by
  simp [By, h]
theorem Blk.drew {w : World} {g t : Nat} {cs : Array Value} (h : Blk w g t cs) : Blk w.drew g t cs := h
theorem blk3_0 (w : World) (t : Nat) (cs : Array Value) (o1 o2 : Obj) : Blk (((w.alloc (.cells cs t)).alloc o1).alloc o2) w.heap.size t cs := ((Blk.new w t cs).alloc o1).alloc o2
theorem blk3_1 (w : World) (t : Nat) (cs : Array Value) (o1 o2 : Obj) : Blk (((w.alloc o1).alloc (.cells cs t)).alloc o2) (w.heap.size + 1) t cs := by
  have h := (Blk.new (w.alloc o1) t cs).alloc o2
  rwa [World.size_alloc] at h
theorem blk3_2 (w : World) (t : Nat) (cs : Array Value) (o1 o2 : Obj) : Blk (((w.alloc o1).alloc o2).alloc (.cells cs t)) (w.heap.size + 1 + 1) t cs := by
  have h := Blk.new ((w.alloc o1).alloc o2) t cs
  rwa [World.size_alloc, World.size_alloc] at h
theorem blk4_0 (w : World) (t : Nat) (cs : Array Value) (o1 o2 o3 : Obj) : Blk ((((w.alloc (.cells cs t)).alloc o1).alloc o2).alloc o3) w.heap.size t cs := (((Blk.new w t cs).alloc o1).alloc o2).alloc o3
theorem blk4_1 (w : World) (t : Nat) (cs : Array Value) (o1 o2 o3 : Obj) : Blk ((((w.alloc o1).alloc (.cells cs t)).alloc o2).alloc o3) (w.heap.size + 1) t cs := by
  have h := ((Blk.new (w.alloc o1) t cs).alloc o2).alloc o3
  rwa [World.size_alloc] at h
theorem blk4_2 (w : World) (t : Nat) (cs : Array Value) (o1 o2 o3 : Obj) : Blk ((((w.alloc o1).alloc o2).alloc (.cells cs t)).alloc o3) (w.heap.size + 1 + 1) t cs := by
  have h := (Blk.new ((w.alloc o1).alloc o2) t cs).alloc o3
  rwa [World.size_alloc, World.size_alloc] at h
theorem blk4_3 (w : World) (t : Nat) (cs : Array Value) (o1 o2 o3 : Obj) : Blk ((((w.alloc o1).alloc o2).alloc o3).alloc (.cells cs t)) (w.heap.size + 1 + 1 + 1) t cs := by
  have h := Blk.new (((w.alloc o1).alloc o2).alloc o3) t cs
  rwa [World.size_alloc, World.size_alloc, World.size_alloc] at h
theorem below4 (w : World) (o1 o2 o3 o4 : Obj) : Below w.heap.size w ((((w.alloc o1).alloc o2).alloc o3).alloc o4) :=
  ((((Below.refl _ _).alloc (Nat.le_refl _) _).alloc (by simp) _).alloc (by simp; omega) _).alloc (by simp; omega) _

def z32 : Array Value := (By (List.replicate 32 0)).toArray

theorem size_hash (cs : Array Value) (h : cs.size = 32) : (Try.prog.info? 22).map (·.size) = some cs.size := by
  rw [h]
  kernel_rfl
theorem By_set (l : List UInt8) (k : Nat) (x : UInt8) : (By l).toArray.setIfInBounds k (.int .u8 (x.toNat : Int)) = (By (l.set k x)).toArray := by
  simp [By, List.map_set]

theorem len_by {l : List UInt8} (h : l.length = 32) : (By l).toArray.size = 32 := by rw [List.size_toArray, By_len, h]

theorem len_is {l : List Int} (h : l.length = 16) : (Is l).toArray.size = 16 := by rw [List.size_toArray, Is_len, h]

end Go.Proofs.Ythejahhhmkkhoaa
