/-
  A disk in memory; the walks of its writes' units, of a file's bytes, and of files behind a write.
-/
import Derived.Test.YtenhncohhikllaaDoorDmath
import Derived.Test.YtenhncohhikllaaDoorZrow
import Derived.Test.YtenhncohhikllaaDoorVclone
import Derived.BigRegion
import Derived.Deep.QuietTactic
namespace Go.Proofs.YtenhncohhikllaaDoor
open Go.ChangeShapes Go.WideShapes Go.ChangeAt Go.RowKit

/-- files as a value -/
def flv (F : Dk.Fl) : Value := .agg #[.string (F 0), .string (F 1), .string (F 2), .string (F 3)]
/-- a write as a value: its type, what it holds, and whose method tells its units -/
def wt (x : Dk.W) : TypeId := if x.whole = true then 90 else 81
def wp (x : Dk.W) : Value := .agg #[.int .i64 x.file, .string x.s]
def wv (x : Dk.W) : Value := .iface (wt x) (wp x)
def wu (x : Dk.W) : FuncId := if x.whole = true then 111 else 110
theorem units_of (x : Dk.W) (w : World) : (method 243 (wt x) (wp x) "rivulet/disk.units").run Tryd.prog w = .ok (wu x, wp x) w := by
  obtain ⟨f, s, b⟩ := x
  cases b <;> kernel_rfl
theorem units_enter (x : Dk.W) (args : Array Value) (w : World) : (callFunc (wu x) args).run Tryd.prog w = .ok (.enter (wu x) args) w := by
  obtain ⟨f, s, b⟩ := x
  cases b <;> kernel_rfl
theorem wv_one (l : List Dk.W) : ∀ y ∈ l.map wv, y.oneCell' = true := fun y hy => by
  obtain ⟨x, _, rfl⟩ := List.mem_map.1 hy
  rfl
theorem wv_len (l : List Dk.W) : (l.map wv).length = l.length * 1 := by simp
theorem rowW : RowTy 59 85 1 16 .nilIface := ⟨Tryd.underlying59, by kernel_rfl, rfl, by decide, by decide⟩

/-- the cells of a disk -/
def dcells (K N : Dk.Fl) (v : Value) : Array Value := #[.string (K 0), .string (K 1), .string (K 2), .string (K 3), .string (N 0), .string (N 1), .string (N 2), .string (N 3), v]
/-- the disk in block b: what is kept, its writes, in the row v -/
structure Dsk (w : World) (base b : Nat) (K : Dk.Fl) (v : Value) (ws : List Dk.W) : Prop where
  blk : w.heap[b]? = some (.cells (dcells K (Dk.after K ws (Dk.total ws)) v) 61 (0, 0))
  low : base ≤ b
  row : OffV 85 1 w base v ws.length (ws.map wv)
  few : ws.length ≤ 1000000
  ok : ∀ x ∈ ws, x.file < 4 ∧ x.s.size ≤ 65536
  fits : Dk.Fits K ws

theorem isFile_any (f : Int) (w : World) : Calls Tryd.prog 49 #[.int .i64 f] w fun e w' => e = .returned (.bool (decide (0 ≤ f) && decide (f < 4))) ∧ w = w' := by
  go_enter Tryd.func49, Tryd.ntmps49
  go_wp2
  all_goals go_ret
  all_goals (refine ⟨?_, rfl⟩; simp_all; try omega)
theorem isFile_yes (f : Int) (w : World) (h : 0 ≤ f ∧ f < 4) : Calls Tryd.prog 49 #[.int .i64 f] w fun e w' => e = .returned (.bool true) ∧ w = w' :=
  (isFile_any f w).mono fun e w' ⟨h1, h2⟩ => ⟨by rw [h1]; simp [h], h2⟩
theorem isFile_no (f : Int) (w : World) (h : ¬ (0 ≤ f ∧ f < 4)) : Calls Tryd.prog 49 #[.int .i64 f] w fun e w' => e = .returned (.bool false) ∧ w = w' :=
  (isFile_any f w).mono fun e w' ⟨h1, h2⟩ => ⟨by rw [h1]; have : (decide (0 ≤ f) && decide (f < 4)) = false := by simp; omega
                                                 rw [this], h2⟩

theorem add_units (f : Int) (s : ByteArray) (w : World) (_hs : s.size ≤ 65536) : Calls Tryd.prog 110 #[.agg #[.int .i64 f, .string s]] w fun e w' => e = .returned (.int .i64 s.size) ∧ Kept w w' := by
  go_enter Tryd.func110, Tryd.ntmps110
  go_wp2
  go_ret
  exact ⟨rfl, (Kept.refl w).alloc _⟩
theorem exch_units (f : Int) (s : ByteArray) (w : World) : Calls Tryd.prog 111 #[.agg #[.int .i64 f, .string s]] w fun e w' => e = .returned (.int .i64 1) ∧ Kept w w' := by
  go_enter Tryd.func111, Tryd.ntmps111
  go_wp2
  go_ret
  exact ⟨rfl, (Kept.refl w).alloc _⟩

/-- a write's units, whatever it is -/
theorem units_any (x : Dk.W) (w : World) (h : x.s.size ≤ 65536) : Calls Tryd.prog (wu x) #[wp x] w fun e w' => e = .returned (.int .i64 (Dk.units x)) ∧ Kept w w' := by
  obtain ⟨f, s, b⟩ := x
  cases b with
  | true => exact exch_units f s w
  | false => exact add_units f s w h

set_option maxHeartbeats 400000 in
theorem read_file (F : Dk.Fl) (f : Nat) (w : World) (h : f < 4) (hm : (F f).size ≤ 281474976710656) : Calls Tryd.prog 55 #[flv F, .int .i64 f] w fun e w' => e = .returned (.string (F f)) ∧ Kept w w' := by
  unfold flv
  rcases (by omega : f = 0 ∨ f = 1 ∨ f = 2 ∨ f = 3) with rfl | rfl | rfl | rfl
  all_goals
    go_enter Tryd.func55, Tryd.ntmps55
    go_wp2_with (first
      | (go_at_call 49; refine (isFile_yes _ _ (by omega)).mono ?_; rintro e w1 ⟨rfl, rfl⟩)
      | (go_at_call 46; refine (clone_any _ _ hm).mono ?_; rintro e w2 ⟨rfl, k2⟩))
    go_ret
    exact ⟨rfl, ((Kept.refl w).alloc _).trans k2⟩
set_option maxHeartbeats 400000 in
theorem read_none (F : Dk.Fl) (f : Int) (w : World) (h : ¬ (0 ≤ f ∧ f < 4)) : Calls Tryd.prog 55 #[flv F, .int .i64 f] w fun e w' => e = .returned (.string ⟨#[]⟩) ∧ Kept w w' := by
  unfold flv
  go_enter Tryd.func55, Tryd.ntmps55
  go_wp2_with (go_at_call 49; refine (isFile_no _ _ h).mono ?_; rintro e w1 ⟨rfl, rfl⟩)
  go_ret
  exact ⟨rfl, (Kept.refl w).alloc _⟩
end Go.Proofs.YtenhncohhikllaaDoor
