/-
  Rows of bytes that a call makes; the walks of strings.Clone and Less.
-/
import Derived.Test.YtenhncohhikllaaDoorVbase
import Derived.Lib.Walk
import Derived.Lib.BufferWrite
import Derived.Lib.UnsafeStr
import Derived.Laws.MakeOwn
namespace Go.Proofs.YtenhncohhikllaaDoor
open Go.ChangeShapes Go.WideShapes Go.ChangeAt Go.RowKit

/-- bytes as cells -/
def byteRow (l : List UInt8) : Array Value := (l.map fun b => Value.int .u8 b.toNat).toArray
theorem byteRow_at (l : List UInt8) (j : Nat) : (byteRow l)[j]? = (l[j]?).map fun b => Value.int .u8 b.toNat := by simp [byteRow]
theorem byteRow_size (l : List UInt8) : (byteRow l).size = l.length := by simp [byteRow]

theorem infoU8 : (Tryd.prog.info? 5).map (fun i => (i.zero, i.size, i.bytes)) = some (some (.int .u8 0), 1, 1) := by kernel_rfl

/-- a new row of k bytes, all 0 -/
theorem make_bytes (k : Nat) (hk : k ≤ 281474976710656) (W : World) : (Instr.makeSlice 89 (.int .i64 (k : Int)) (.int .i64 (k : Int))).run Tryd.prog W =
    .ok (.slice (some ⟨W.heap.size, 0, none⟩) k k) (W.alloc (.cells (byteRow (List.replicate k 0)) 5)) := by
  obtain ⟨i0, hi, hz0, hz1, hz2⟩ := info_parts infoU8
  rw [run_make (P := Tryd.prog) W 89 5 i0 (.int .u8 0) Tryd.underlying89 hi hz0 .i64 .i64 (k : Int) (k : Int) (by omega) (by omega) (by rw [hz2]; omega) (by omega)]
  have hrow : madeCells (Value.int .u8 0).cells ((k : Int).toNat * i0.size) = byteRow (List.replicate k 0) := by
    rw [hz1, Int.toNat_natCast, Nat.mul_one]
    apply Array.toList_inj.1
    exact (toList_madeCells_one _ _).trans (by simp [byteRow])
  rw [hrow, Int.toNat_natCast]

theorem setRow_alloc (W : World) (M Y : Array Value) (t : TypeId) : (W.alloc (.cells M t)).setRow W.heap.size Y = W.alloc (.cells Y t) := by
  unfold World.setRow World.alloc
  congr 1
  apply Array.ext_getElem?
  intro i
  rw [Array.getElem?_modify, Array.getElem?_push, Array.getElem?_push]
  by_cases h : i = W.heap.size
  · simp [h]
  · simp [h, Ne.symm h]

/-- a string's bytes laid into a row of its size -/
theorem copy_bytes (s : ByteArray) (W : World) : (Builtin.copy_ #[89, 9] 3 #[.slice (some ⟨W.heap.size, 0, none⟩) s.size s.size, .string s]).run Tryd.prog (W.alloc (.cells (byteRow (List.replicate s.size 0)) 5)) =
    .ok (.int .i64 s.size) (W.alloc (.cells (byteRow s.data.toList) 5)) := by
  obtain ⟨i0, hi, _, hz1, _⟩ := info_parts infoU8
  rw [Lib.run_copy_row_string (P := Tryd.prog) _ 89 9 3 5 W.heap.size 0 s.size s.size s _ 5 Tryd.underlying89 (by rw [hi]; simp [hz1]) (heap_alloc_new W _) (Nat.le_refl _) (by rw [byteRow_size]; simp), setRow_alloc]
  have hlist : (byteRow (List.replicate s.size 0)).toList.drop (0 + s.size) = [] := List.drop_of_length_le (by rw [Array.length_toList, byteRow_size]; simp)
  rw [hlist, List.take_zero, List.nil_append, List.append_nil]
  rfl

/-- what a row of bytes is as a string, without a copy: the row is frozen -/
theorem string_bytes (l : List UInt8) (W : World) (h0 : l ≠ []) (hm : l.length ≤ 281474976710656) :
    (Builtin.unsafeString_ #[111, 3] 9 #[.pointer (some ⟨W.heap.size, 0, none⟩), .int .i64 l.length]).run Tryd.prog (W.alloc (.cells (byteRow l) 5)) =
    .ok (.string ⟨l.toArray⟩) ((W.alloc (.cells (byteRow l) 5)).freeze ⟨W.heap.size, 0, none⟩ l.length) := by
  have hg := heap_alloc_new W (.cells (byteRow l) 5)
  refine Lib.run_unsafeString_row (P := Tryd.prog) _ 111 3 9 5 Tryd.underlying111 (by kernel_rfl) W.heap.size l.length (by unfold World.shape?; rw [hg]; simp [byteRow_size]) l h0 (Nat.le_refl _) (by omega) fun j x hx => ?_
  have hadd : (⟨W.heap.size, 0, none⟩ : Addr).add j = ⟨W.heap.size, j, none⟩ := by unfold Addr.add; split <;> simp_all
  rw [hadd, World.cell?_alloc_at _ _ _ _ rfl, byteRow_at, hx]
  rfl

set_option maxRecDepth 100000 in
set_option maxHeartbeats 1000000 in
theorem clone_inner (s : ByteArray) (w : World) (hm : s.size ≤ 281474976710656) :
    Calls Tryd.prog 66 #[.string s] w fun e w' => e = .returned (.string s) ∧ Kept w w' := by
  by_cases he : s.size = 0
  · obtain rfl : s = ⟨#[]⟩ := ByteArray.ext (Array.eq_empty_of_size_eq_zero he)
    go_enter Tryd.func66, Tryd.ntmps66
    go_wp2
    go_ret
    exact ⟨rfl, Kept.refl _⟩
  · have hlen : s.data.toList.length = s.size := by simp
    have f1 := make_bytes s.size hm
    have f2 := copy_bytes s w
    have f3 := string_bytes s.data.toList w (fun h => he (by rw [← hlen, h]; rfl)) (by omega)
    rw [hlen] at f3
    clear hlen
    go_enter Tryd.func66, Tryd.ntmps66
    go_wp2
    go_ret
    exact ⟨rfl, Lib.below_freeze (Kept.alloc (Kept.refl w) _) (p := ⟨w.heap.size, 0, none⟩) (Nat.le_refl _) _⟩

theorem clone_any (s : ByteArray) (w : World) (hm : s.size ≤ 281474976710656) :
    Calls Tryd.prog 46 #[.string s] w fun e w' => e = .returned (.string s) ∧ Kept w w' := by
  go_enter Tryd.func46, Tryd.ntmps46
  go_wp2_with fail
  refine (clone_inner s _ hm).mono ?_
  rintro e w' ⟨rfl, hk⟩
  go_wp2
  go_ret
  exact ⟨rfl, hk⟩

end Go.Proofs.YtenhncohhikllaaDoor
