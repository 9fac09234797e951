/-
  The walk of files behind a write.
-/
import Derived.Test.YtenhncohhikllaaDoorDbase
import Derived.Laws.StructEq
namespace Go.Proofs.YtenhncohhikllaaDoor
open Go.ChangeShapes Go.WideShapes Go.ChangeAt Go.RowKit

/-- whether files are the same -/
def samefl (A B : Dk.Fl) : Bool := A 0 == B 0 && (A 1 == B 1 && (A 2 == B 2 && A 3 == B 3))
theorem eqIn_files (d : Nat) (t : TypeId) (ht : Tryd.prog.underlying t = some (.array 4 9)) (a0 a1 a2 a3 b0 b1 b2 b3 : ByteArray) (w : World) :
    (Op.equalIn (d + 2) t (.agg #[.string a0, .string a1, .string a2, .string a3]) (.agg #[.string b0, .string b1, .string b2, .string b3])).run Tryd.prog w = .ok (a0 == b0 && (a1 == b1 && (a2 == b2 && a3 == b3))) w := by
  have hsz : ∀ w : World, (sizeOf 9).run Tryd.prog w = .ok 1 w := fun w => by kernel_rfl
  have hp : ∀ (xs : Array Value) (i : Nat) (w : World) (s : ByteArray), xs[i]? = some (.string s) → (part 9 xs i).run Tryd.prog w = .ok (.string s) w := fun xs i w s h => by
    simp [part, h]
  have hs : ∀ (a b : ByteArray) (w : World), (Op.equalIn (d + 1) 9 (.string a) (.string b)).run Tryd.prog w = .ok (a == b) w := fun a b w => by
    rw [run_equalIn_string w d _ a b Tryd.underlying9, beq_toListBytes]
  rw [Op.equalIn]
  simp only [Sem.run_bind, run_underlying ht, Result.andThen_ok, hsz, Std.Legacy.Range.forIn_eq_forIn_range', Std.Legacy.Range.size]
  simp [List.range', hp, hs]
  cases a0 == b0 <;> cases a1 == b1 <;> cases a2 == b2 <;> cases a3 == b3 <;> rfl
theorem eq_files (A B : Dk.Fl) (w : World) :
    (binOp .eql 58 (.agg #[.string (A 0), .string (A 1), .string (A 2), .string (A 3)]) (.agg #[.string (B 0), .string (B 1), .string (B 2), .string (B 3)])).run Tryd.prog w = .ok (.bool (samefl A B)) w := by
  rw [run_eql_struct, eqIn_files 9998 58 Tryd.underlying58]
  rfl
theorem samefl_refl (A : Dk.Fl) : samefl A A = true := by simp [samefl, beq_toListBytes]

theorem as_aa (v : Value) (w : World) : (Instr.typeAssert (.iface 81 v) 85 81 true).run Tryd.prog w = .ok (.tuple #[v, .bool true]) w := by kernel_rfl
theorem as_ea (v : Value) (w : World) : (Instr.typeAssert (.iface 90 v) 85 81 true).run Tryd.prog w = .ok (.tuple #[.agg #[.int .i64 0, .string ⟨#[]⟩], .bool false]) w := by kernel_rfl
theorem as_ee (v : Value) (w : World) : (Instr.typeAssert (.iface 90 v) 85 90 true).run Tryd.prog w = .ok (.tuple #[v, .bool true]) w := by kernel_rfl

theorem ret_with (tmps : Array Value) (W : World) (R : Nat) (F : Dk.Fl) (h6 : tmps[6]? = some (.pointer (some ⟨R, 0, none⟩))) (hc : W.heap[R]? = some (.cells #[.string (F 0), .string (F 1), .string (F 2), .string (F 3)] 58 (0, 0))) :
    (results Tryd.f51 tmps).run Tryd.prog W = .ok (flv F) W := by
  have c0 : W.cell? ⟨R, 0, none⟩ = some (.string (F 0)) := by simp [World.cell?, hc]
  have c1 : W.cell? ⟨R, 1, none⟩ = some (.string (F 1)) := by simp [World.cell?, hc]
  have c2 : W.cell? ⟨R, 2, none⟩ = some (.string (F 2)) := by simp [World.cell?, hc]
  have c3 : W.cell? ⟨R, 3, none⟩ = some (.string (F 3)) := by simp [World.cell?, hc]
  simp [results, Tryd.f51, go_sem, h6, c0, c1, c2, c3, flv]

set_option maxHeartbeats 400000 in
set_option maxRecDepth 100000 in
theorem with_exch0 (F : Dk.Fl) (f : Nat) (s : ByteArray) (w : World) :
    Calls Tryd.prog 51 #[flv F, .iface 90 (.agg #[.int .i64 f, .string s]), .int .i64 0] w fun e w' => e = .returned (flv F) ∧ Kept w w' := by
  have a1 := as_ea
  have a2 := as_ee
  unfold flv
  go_enter Tryd.func51, Tryd.ntmps51
  go_wp2
  refine bodyPost_ret (v := .agg #[.string (F 0), .string (F 1), .string (F 2), .string (F 3)]) (by simp [results, Tryd.f51, go_sem]) rfl ⟨rfl, ?_⟩
  exact (((Kept.refl w).alloc _).alloc _).alloc _
set_option maxHeartbeats 400000 in
set_option maxRecDepth 100000 in
theorem with_exch1 (F : Dk.Fl) (f : Nat) (s : ByteArray) (w : World) (h : f < 4) :
    Calls Tryd.prog 51 #[flv F, .iface 90 (.agg #[.int .i64 f, .string s]), .int .i64 1] w fun e w' => e = .returned (flv (Dk.put F ⟨f, s, true⟩ 1)) ∧ Kept w w' := by
  have a1 := as_ea
  have a2 := as_ee
  unfold flv
  rcases (by omega : f = 0 ∨ f = 1 ∨ f = 2 ∨ f = 3) with rfl | rfl | rfl | rfl
  all_goals
    go_enter Tryd.func51, Tryd.ntmps51
    go_wp2
    refine bodyPost_ret (v := _) (by simp [results, Tryd.f51, go_sem]; rfl) rfl ⟨by simp [Dk.put], ?_⟩
    exact (((Kept.refl w).alloc _).alloc _).alloc _
set_option maxHeartbeats 400000 in
set_option maxRecDepth 100000 in
theorem with_add (F : Dk.Fl) (f : Nat) (s : ByteArray) (n : Nat) (w : World) (h : f < 4) (h1 : n ≤ s.size) (h2 : (F f).size + n ≤ 9223372036854775807) :
    Calls Tryd.prog 51 #[flv F, .iface 81 (.agg #[.int .i64 f, .string s]), .int .i64 n] w fun e w' => e = .returned (flv (Dk.put F ⟨f, s, false⟩ n)) ∧ Kept w w' := by
  have a1 := as_aa
  have h3 : ¬ (9223372036854775807 < (F f).size + n) := by omega
  unfold flv
  rcases (by omega : f = 0 ∨ f = 1 ∨ f = 2 ∨ f = 3) with rfl | rfl | rfl | rfl
  all_goals
    go_enter Tryd.func51, Tryd.ntmps51
    go_wp2
    go_region
    go_wp2
    refine bodyPost_ret (v := _) (by simp [results, Tryd.f51, go_sem]; rfl) rfl ⟨by simp [Dk.put], ?_⟩
    exact ((((Kept.refl w).alloc _).alloc _).alloc _).drew

/-- files behind the first n units of a write, whatever it is -/
theorem with_any (F : Dk.Fl) (x : Dk.W) (n : Nat) (w : World) (h : x.file < 4) (hn : n ≤ Dk.units x) (hs : (F x.file).size + n ≤ 9223372036854775807) :
    Calls Tryd.prog 51 #[flv F, wv x, .int .i64 n] w fun e w' => e = .returned (flv (Dk.put F x n)) ∧ Kept w w' := by
  obtain ⟨f, s, b⟩ := x
  cases b with
  | true =>
    simp only [Dk.units, if_true] at hn
    rcases (by omega : n = 0 ∨ n = 1) with rfl | rfl
    · rw [Dk.put_zero]; exact with_exch0 F f s w
    · exact with_exch1 F f s w h
  | false => exact with_add F f s n w h (by simpa [Dk.units] using hn) hs
end Go.Proofs.YtenhncohhikllaaDoor
