/-
  The great region of the law's fixed calls, walked by hand (this text is written by program out of the region's operations).
-/
import Derived.Test.YtbenjenifklejaaDoorZreg
namespace Go.Proofs.YtbenjenifklejaaDoor
open Go.ChangeShapes Go.WideShapes Go.ChangeAt Go.RowKit

/-- the cells of an event in a block -/
def FCell (R : Nat) (w : World) : Prop := w.cell? ⟨R, 0, none⟩ = some (.int .i64 1) ∧ w.cell? ⟨R, 1, none⟩ = some (.int .i64 2) ∧ w.cell? ⟨R, 2, none⟩ = some (.string ⟨#[97]⟩) ∧ w.cell? ⟨R, 3, none⟩ = some (.string ⟨#[120]⟩) ∧ w.cell? ⟨R, 4, none⟩ = some (.int .i64 3)
def FCells (R X : Nat) (w : World) : Prop := FCell R w ∧ FCell X w
theorem cell_alloc' {w : World} {R j : Nat} {v : Value} (h : w.cell? ⟨R, j, none⟩ = some v) (o : Obj) : (w.alloc o).cell? ⟨R, j, none⟩ = some v :=
  (Below.cell (Kept.alloc (Kept.refl w) o) (p := ⟨R, j, none⟩) (World.block_lt_of_cell? w _ h)).trans h
theorem FCell.alloc {R : Nat} {w : World} (h : FCell R w) (o : Obj) : FCell R (w.alloc o) :=
  ⟨cell_alloc' h.1 o, cell_alloc' h.2.1 o, cell_alloc' h.2.2.1 o, cell_alloc' h.2.2.2.1 o, cell_alloc' h.2.2.2.2 o⟩
theorem FCells.alloc {R X : Nat} {w : World} (h : FCells R X w) (o : Obj) : FCells R X (w.alloc o) := ⟨h.1.alloc o, h.2.alloc o⟩

section
variable {a : Act} {dst : Option Tmp} {ty : TypeId} {pos : String} {after : Array Edge} {guard : Option (Nat × Bool)}
theorem rn_move {o : Oper} {n : Nat} {v : Value} (h : At a n v) (ho : o.op = .move (.tmp n)) (w : World) : (execOp a.eval o).run Tryd.prog w = .ok (.value v) w := by
  rw [BigFrame.run_move _ ho, h.eval]
theorem rn_asg {n : Nat} {v : Value} (h : At a n v) (w : World) : (execOp a.eval ⟨dst, .assign (.tmp n), ty, pos, after, guard⟩).run Tryd.prog w = .ok (.value v) w := by
  have e1 := h.eval
  generalize a.eval = ρ at *
  simp [go_sem, e1]
theorem rn_eqS {n : Nat} {s : ByteArray} (h : At a n (.string s)) (w : World) : (execOp a.eval ⟨dst, .binOp .eql 9 (.tmp n) (.const (.string s)) 9, ty, pos, after, guard⟩).run Tryd.prog w = .ok (.value (.bool true)) w := by
  have e1 := h.eval
  have e2 : a.eval (.const (.string s)) = .string s := rfl
  generalize a.eval = ρ at *
  simp [go_sem, e1, e2]
theorem rn_eq3 {n : Nat} {x : Int} (h : At a n (.int .i64 x)) (w : World) : (execOp a.eval ⟨dst, .binOp .eql 3 (.tmp n) (.const (.int .i64 x)) 3, ty, pos, after, guard⟩).run Tryd.prog w = .ok (.value (.bool true)) w := by
  have e1 := h.eval
  have e2 : a.eval (.const (.int .i64 x)) = .int .i64 x := rfl
  generalize a.eval = ρ at *
  simp [go_sem, e1, e2]
theorem rn_eq31 {n : Nat} {x : Int} (h : At a n (.int .i64 x)) (w : World) : (execOp a.eval ⟨dst, .binOp .eql 31 (.tmp n) (.const (.int .i64 x)) 31, ty, pos, after, guard⟩).run Tryd.prog w = .ok (.value (.bool true)) w := by
  have e1 := h.eval
  have e2 : a.eval (.const (.int .i64 x)) = .int .i64 x := rfl
  generalize a.eval = ρ at *
  simp [go_sem, e1, e2]
theorem rn_eqE {n m : Nat} {x y z : Int} {s t : ByteArray} (h : At a n (.agg #[.int .i64 x, .int .i64 y, .string s, .string t, .int .i64 z])) (h' : At a m (.agg #[.int .i64 x, .int .i64 y, .string s, .string t, .int .i64 z])) (w : World) : (execOp a.eval ⟨dst, .binOp .eql 23 (.tmp n) (.tmp m) 23, ty, pos, after, guard⟩).run Tryd.prog w = .ok (.value (.bool true)) w := by
  have e1 := h.eval
  have e2 := h'.eval
  generalize a.eval = ρ at *
  simp [go_sem, e1, e2]
theorem rn_pk {n m : Nat} {v u : Value} (h : At a n (.bool true)) (h' : At a m v) (w : World) : (execOp a.eval ⟨dst, .pick (.tmp n) (.tmp m) (.const u), ty, pos, after, guard⟩).run Tryd.prog w = .ok (.value v) w := by
  have e1 := h.eval
  have e2 := h'.eval
  generalize a.eval = ρ at *
  simp [go_sem, e1, e2]
theorem rn_not {n : Nat} (h : At a n (.bool false)) (w : World) : (execOp a.eval ⟨dst, .unOp .not 4 (.tmp n), ty, pos, after, guard⟩).run Tryd.prog w = .ok (.value (.bool true)) w := by
  have e1 := h.eval
  generalize a.eval = ρ at *
  simp [go_sem, e1]
theorem rn_ld {n R : Nat} (h : At a n (.pointer (some ⟨R, 0, none⟩))) (w : World) (hc : FCell R w) : (execOp a.eval ⟨dst, .load 23 (.tmp n), ty, pos, after, guard⟩).run Tryd.prog w = .ok (.value (.agg #[.int .i64 1, .int .i64 2, .string ⟨#[97]⟩, .string ⟨#[120]⟩, .int .i64 3])) w := by
  have e1 := h.eval
  generalize a.eval = ρ at *
  obtain ⟨c0, c1, c2, c3, c4⟩ := hc
  simp [go_sem, e1, c0, c1, c2, c3, c4]
theorem rn_b59 {x y : Int} (w : World) : (execOp a.eval ⟨dst, .build 59 #[(0, .const (.int .i64 x)), (1, .const (.int .i64 y))], ty, pos, after, guard⟩).run Tryd.prog w = .ok (.value (.agg #[.int .i64 x, .int .i64 y])) w := by
  have e1 : a.eval (.const (.int .i64 x)) = .int .i64 x := rfl
  have e2 : a.eval (.const (.int .i64 y)) = .int .i64 y := rfl
  generalize a.eval = ρ at *
  simp [go_sem, e1, e2]
theorem rn_b59z (w : World) : (execOp a.eval ⟨dst, .build 59 #[], ty, pos, after, guard⟩).run Tryd.prog w = .ok (.value (.agg #[.int .i64 0, .int .i64 0])) w := by
  generalize a.eval = ρ at *
  simp [go_sem]
theorem rn_b23z (w : World) : (execOp a.eval ⟨dst, .build 23 #[], ty, pos, after, guard⟩).run Tryd.prog w = .ok (.value (.agg #[.int .i64 0, .int .i64 0, .string ⟨#[]⟩, .string ⟨#[]⟩, .int .i64 0])) w := by
  generalize a.eval = ρ at *
  simp [go_sem]
theorem rn_f4 {n : Nat} {x y z : Int} {s t : ByteArray} (h : At a n (.agg #[.int .i64 x, .int .i64 y, .string s, .string t, .int .i64 z])) (w : World) : (execOp a.eval ⟨dst, .field 23 (.tmp n) 4, ty, pos, after, guard⟩).run Tryd.prog w = .ok (.value (.int .i64 z)) w := by
  have e1 := h.eval
  generalize a.eval = ρ at *
  have hf : (Instr.field 23 (.agg #[.int .i64 x, .int .i64 y, .string s, .string t, .int .i64 z]) 4).run Tryd.prog w = .ok (.int .i64 z) w := by kernel_rfl
  simp [go_sem, e1, hf]
theorem rn_bs2 {n m : Nat} {x y z u : Int} (h : At a n (.agg #[.int .i64 x, .int .i64 y])) (h' : At a m (.agg #[.int .i64 z, .int .i64 u])) (w : World) : (execOp a.eval ⟨dst, .buildSlice 34 2 #[(0, .tmp n), (1, .tmp m)], ty, pos, after, guard⟩).run Tryd.prog w = .ok (.value (.slice (some ⟨w.heap.size, 0, none⟩) 2 2)) (w.alloc (.cells #[.int .i64 x, .int .i64 y, .int .i64 z, .int .i64 u] 59)) := by
  have e1 := h.eval
  have e2 := h'.eval
  generalize a.eval = ρ at *
  simp [go_sem, e1, e2]
theorem rn_bs1 {n : Nat} {x y : Int} (h : At a n (.agg #[.int .i64 x, .int .i64 y])) (w : World) : (execOp a.eval ⟨dst, .buildSlice 34 1 #[(0, .tmp n)], ty, pos, after, guard⟩).run Tryd.prog w = .ok (.value (.slice (some ⟨w.heap.size, 0, none⟩) 1 1)) (w.alloc (.cells #[.int .i64 x, .int .i64 y] 59)) := by
  have e1 := h.eval
  generalize a.eval = ρ at *
  simp [go_sem, e1]
theorem rn_c26 {n0 n1 : Nat} {v0 v1 : Value} (h0 : At a n0 v0) (h1 : At a n1 v1) (w : World) {ats : Array TypeId} : (execOp a.eval ⟨dst, .call { callee := .value (.func 26), args := #[.tmp n0, .tmp n1], argTypes := ats }, ty, pos, after, guard⟩).run Tryd.prog w = .ok (.enter 26 #[v0, v1]) w := by
  rw [execOp_call_go]
  have hx : #[] ++ (#[.tmp n0, .tmp n1] : Array Operand).map a.eval ++ #[] = #[v0, v1] := by simp [h0.eval, h1.eval]
  rw [hx]
  simp [go_sem]
theorem rn_c19 {n0 n1 : Nat} {v0 v1 : Value} (h0 : At a n0 v0) (h1 : At a n1 v1) (w : World) {ats : Array TypeId} : (execOp a.eval ⟨dst, .call { callee := .value (.func 19), args := #[.tmp n0, .tmp n1], argTypes := ats }, ty, pos, after, guard⟩).run Tryd.prog w = .ok (.enter 19 #[v0, v1]) w := by
  rw [execOp_call_go]
  have hx : #[] ++ (#[.tmp n0, .tmp n1] : Array Operand).map a.eval ++ #[] = #[v0, v1] := by simp [h0.eval, h1.eval]
  rw [hx]
  simp [go_sem]
theorem rn_c11 {n0 : Nat} {v0 : Value} (h0 : At a n0 v0) (w : World) {ats : Array TypeId} : (execOp a.eval ⟨dst, .call { callee := .value (.func 11), args := #[.tmp n0], argTypes := ats }, ty, pos, after, guard⟩).run Tryd.prog w = .ok (.enter 11 #[v0]) w := by
  rw [execOp_call_go]
  have hx : #[] ++ (#[.tmp n0] : Array Operand).map a.eval ++ #[] = #[v0] := by simp [h0.eval]
  rw [hx]
  simp [go_sem]
theorem rn_c15 {n0 : Nat} {v0 : Value} (h0 : At a n0 v0) (w : World) {ats : Array TypeId} : (execOp a.eval ⟨dst, .call { callee := .value (.func 15), args := #[.tmp n0], argTypes := ats }, ty, pos, after, guard⟩).run Tryd.prog w = .ok (.enter 15 #[v0]) w := by
  rw [execOp_call_go]
  have hx : #[] ++ (#[.tmp n0] : Array Operand).map a.eval ++ #[] = #[v0] := by simp [h0.eval]
  rw [hx]
  simp [go_sem]
theorem rn_c29 {n0 : Nat} {v0 : Value} (h0 : At a n0 v0) (w : World) {ats : Array TypeId} : (execOp a.eval ⟨dst, .call { callee := .value (.func 29), args := #[.tmp n0], argTypes := ats }, ty, pos, after, guard⟩).run Tryd.prog w = .ok (.enter 29 #[v0]) w := by
  rw [execOp_call_go]
  have hx : #[] ++ (#[.tmp n0] : Array Operand).map a.eval ++ #[] = #[v0] := by simp [h0.eval]
  rw [hx]
  simp [go_sem]
theorem rn_c27 {n0 : Nat} {v0 : Value} (h0 : At a n0 v0) (w : World) {ats : Array TypeId} : (execOp a.eval ⟨dst, .call { callee := .value (.func 27), args := #[.tmp n0], argTypes := ats }, ty, pos, after, guard⟩).run Tryd.prog w = .ok (.enter 27 #[v0]) w := by
  rw [execOp_call_go]
  have hx : #[] ++ (#[.tmp n0] : Array Operand).map a.eval ++ #[] = #[v0] := by simp [h0.eval]
  rw [hx]
  simp [go_sem]
theorem rn_c17k {n0 : Nat} {v0 u : Value} (h0 : At a n0 v0) (w : World) {ats : Array TypeId} : (execOp a.eval ⟨dst, .call { callee := .value (.func 17), args := #[.tmp n0, .const u], argTypes := ats }, ty, pos, after, guard⟩).run Tryd.prog w = .ok (.enter 17 #[v0, u]) w := by
  rw [execOp_call_go]
  have e2 : a.eval (.const u) = u := rfl
  have hx : #[] ++ (#[.tmp n0, .const u] : Array Operand).map a.eval ++ #[] = #[v0, u] := by simp [h0.eval, e2]
  rw [hx]
  simp [go_sem]
end

def litF : Array Oper := #[
  ⟨some 56, Op.move (Operand.tmp 2), 9, "law.go:20", #[], none⟩,
  ⟨some 57, Op.binOp BinOp.eql 9 (Operand.tmp 56) (Operand.const (Value.string { data := #[1, 2, 3, 1, 97, 1, 120] })) 9, 4, "law.go:20", #[⟨0, Ground.data⟩], none⟩,
  ⟨some 58, Op.move (Operand.tmp 57), 4, "law.go:20", #[⟨1, Ground.data⟩], none⟩,
  ⟨some 59, Op.load 23 (Operand.tmp 3), 23, "law.go:20", #[⟨2, Ground.guard⟩], some (2, true)⟩,
  ⟨some 60, Op.load 23 (Operand.tmp 1), 23, "law.go:20", #[⟨2, Ground.guard⟩], some (2, true)⟩,
  ⟨some 61, Op.binOp BinOp.eql 23 (Operand.tmp 59) (Operand.tmp 60) 23, 4, "law.go:20", #[⟨3, Ground.data⟩, ⟨4, Ground.data⟩, ⟨2, Ground.guard⟩], some (2, true)⟩,
  ⟨some 62, Op.pick (Operand.tmp 58) (Operand.tmp 61) (Operand.const (Value.bool false)), 4, "law.go:20", #[⟨2, Ground.data⟩, ⟨5, Ground.data⟩], none⟩,
  ⟨some 63, Op.move (Operand.tmp 62), 4, "law.go:20", #[⟨6, Ground.data⟩, ⟨2, Ground.chain⟩], none⟩,
  ⟨some 64, Op.move (Operand.tmp 4), 3, "law.go:20", #[⟨7, Ground.guard⟩], some (7, true)⟩,
  ⟨some 65, Op.binOp BinOp.eql 3 (Operand.tmp 64) (Operand.const (Value.int IntKind.i64 8)) 3, 4, "law.go:20", #[⟨8, Ground.data⟩, ⟨7, Ground.guard⟩], some (7, true)⟩,
  ⟨some 66, Op.pick (Operand.tmp 63) (Operand.tmp 65) (Operand.const (Value.bool false)), 4, "law.go:20", #[⟨7, Ground.data⟩, ⟨9, Ground.data⟩], none⟩,
  ⟨some 67, Op.move (Operand.tmp 66), 4, "law.go:20", #[⟨10, Ground.data⟩, ⟨7, Ground.chain⟩], none⟩,
  ⟨some 68, Op.move (Operand.tmp 5), 31, "law.go:20", #[⟨11, Ground.guard⟩], some (11, true)⟩,
  ⟨some 69, Op.binOp BinOp.eql 31 (Operand.tmp 68) (Operand.const (Value.int IntKind.i64 0)) 31, 4, "law.go:20", #[⟨12, Ground.data⟩, ⟨11, Ground.guard⟩], some (11, true)⟩,
  ⟨some 70, Op.pick (Operand.tmp 67) (Operand.tmp 69) (Operand.const (Value.bool false)), 4, "law.go:20", #[⟨11, Ground.data⟩, ⟨13, Ground.data⟩], none⟩,
  ⟨some 71, Op.move (Operand.tmp 70), 4, "law.go:20", #[⟨14, Ground.data⟩, ⟨11, Ground.chain⟩], none⟩,
  ⟨some 72, Op.move (Operand.tmp 8), 31, "law.go:20", #[⟨15, Ground.guard⟩], some (15, true)⟩,
  ⟨some 73, Op.binOp BinOp.eql 31 (Operand.tmp 72) (Operand.const (Value.int IntKind.i64 4)) 31, 4, "law.go:20", #[⟨16, Ground.data⟩, ⟨15, Ground.guard⟩], some (15, true)⟩,
  ⟨some 74, Op.pick (Operand.tmp 71) (Operand.tmp 73) (Operand.const (Value.bool false)), 4, "law.go:20", #[⟨15, Ground.data⟩, ⟨17, Ground.data⟩], none⟩,
  ⟨some 75, Op.move (Operand.tmp 74), 4, "law.go:20", #[⟨18, Ground.data⟩, ⟨15, Ground.chain⟩], none⟩,
  ⟨some 76, Op.move (Operand.tmp 11), 31, "law.go:20", #[⟨19, Ground.guard⟩], some (19, true)⟩,
  ⟨some 77, Op.binOp BinOp.eql 31 (Operand.tmp 76) (Operand.const (Value.int IntKind.i64 3)) 31, 4, "law.go:20", #[⟨20, Ground.data⟩, ⟨19, Ground.guard⟩], some (19, true)⟩,
  ⟨some 78, Op.pick (Operand.tmp 75) (Operand.tmp 77) (Operand.const (Value.bool false)), 4, "law.go:20", #[⟨19, Ground.data⟩, ⟨21, Ground.data⟩], none⟩,
  ⟨some 79, Op.move (Operand.tmp 78), 4, "law.go:20", #[⟨22, Ground.data⟩, ⟨19, Ground.chain⟩], none⟩,
  ⟨some 80, Op.move (Operand.tmp 12), 34, "law.go:20", #[⟨23, Ground.guard⟩], some (23, true)⟩,
  ⟨some 81, Op.build 59 #[(0, Operand.const (Value.int IntKind.i64 0)), (1, Operand.const (Value.int IntKind.i64 5))], 59, "law.go:20", #[⟨23, Ground.guard⟩], some (23, true)⟩,
  ⟨some 82, Op.build 59 #[(0, Operand.const (Value.int IntKind.i64 3)), (1, Operand.const (Value.int IntKind.i64 1))], 59, "law.go:20", #[⟨23, Ground.guard⟩], some (23, true)⟩,
  ⟨some 83, Op.buildSlice 34 2 #[(0, Operand.tmp 81), (1, Operand.tmp 82)], 34, "law.go:20", #[⟨25, Ground.data⟩, ⟨26, Ground.data⟩, ⟨23, Ground.guard⟩], some (23, true)⟩,
  ⟨some 84, Op.call { callee := Callee.value (Operand.func 26), args := #[Operand.tmp 80, Operand.tmp 83], argTypes := #[34, 34] }, 4, "law.go:20", #[⟨24, Ground.data⟩, ⟨27, Ground.data⟩, ⟨23, Ground.chain⟩, ⟨23, Ground.guard⟩], some (23, true)⟩,
  ⟨some 85, Op.pick (Operand.tmp 79) (Operand.tmp 84) (Operand.const (Value.bool false)), 4, "law.go:20", #[⟨23, Ground.data⟩, ⟨28, Ground.data⟩], none⟩,
  ⟨some 86, Op.move (Operand.tmp 85), 4, "law.go:20", #[⟨29, Ground.data⟩, ⟨28, Ground.chain⟩], none⟩,
  ⟨some 87, Op.move (Operand.tmp 13), 3, "law.go:20", #[⟨30, Ground.guard⟩], some (30, true)⟩,
  ⟨some 88, Op.binOp BinOp.eql 3 (Operand.tmp 87) (Operand.const (Value.int IntKind.i64 5)) 3, 4, "law.go:20", #[⟨31, Ground.data⟩, ⟨30, Ground.guard⟩], some (30, true)⟩,
  ⟨some 89, Op.pick (Operand.tmp 86) (Operand.tmp 88) (Operand.const (Value.bool false)), 4, "law.go:20", #[⟨30, Ground.data⟩, ⟨32, Ground.data⟩], none⟩,
  ⟨some 90, Op.move (Operand.tmp 89), 4, "law.go:20", #[⟨33, Ground.data⟩, ⟨30, Ground.chain⟩], none⟩,
  ⟨some 91, Op.move (Operand.tmp 14), 31, "law.go:20", #[⟨34, Ground.guard⟩], some (34, true)⟩,
  ⟨some 92, Op.binOp BinOp.eql 31 (Operand.tmp 91) (Operand.const (Value.int IntKind.i64 0)) 31, 4, "law.go:20", #[⟨35, Ground.data⟩, ⟨34, Ground.guard⟩], some (34, true)⟩,
  ⟨some 93, Op.pick (Operand.tmp 90) (Operand.tmp 92) (Operand.const (Value.bool false)), 4, "law.go:20", #[⟨34, Ground.data⟩, ⟨36, Ground.data⟩], none⟩,
  ⟨some 94, Op.move (Operand.tmp 93), 4, "law.go:20", #[⟨37, Ground.data⟩, ⟨34, Ground.chain⟩], none⟩,
  ⟨some 95, Op.move (Operand.tmp 17), 31, "law.go:20", #[⟨38, Ground.guard⟩], some (38, true)⟩,
  ⟨some 96, Op.binOp BinOp.eql 31 (Operand.tmp 95) (Operand.const (Value.int IntKind.i64 4)) 31, 4, "law.go:20", #[⟨39, Ground.data⟩, ⟨38, Ground.guard⟩], some (38, true)⟩,
  ⟨some 97, Op.pick (Operand.tmp 94) (Operand.tmp 96) (Operand.const (Value.bool false)), 4, "law.go:20", #[⟨38, Ground.data⟩, ⟨40, Ground.data⟩], none⟩,
  ⟨some 98, Op.move (Operand.tmp 97), 4, "law.go:20", #[⟨41, Ground.data⟩, ⟨38, Ground.chain⟩], none⟩,
  ⟨some 99, Op.move (Operand.tmp 20), 31, "law.go:20", #[⟨42, Ground.guard⟩], some (42, true)⟩,
  ⟨some 100, Op.binOp BinOp.eql 31 (Operand.tmp 99) (Operand.const (Value.int IntKind.i64 2)) 31, 4, "law.go:20", #[⟨43, Ground.data⟩, ⟨42, Ground.guard⟩], some (42, true)⟩,
  ⟨some 101, Op.pick (Operand.tmp 98) (Operand.tmp 100) (Operand.const (Value.bool false)), 4, "law.go:20", #[⟨42, Ground.data⟩, ⟨44, Ground.data⟩], none⟩,
  ⟨some 102, Op.move (Operand.tmp 101), 4, "law.go:20", #[⟨45, Ground.data⟩, ⟨42, Ground.chain⟩], none⟩,
  ⟨some 103, Op.load 23 (Operand.tmp 1), 23, "law.go:20", #[⟨46, Ground.guard⟩], some (46, true)⟩,
  ⟨some 104, Op.call { callee := Callee.value (Operand.func 11), args := #[Operand.tmp 103], argTypes := #[23] }, 4, "law.go:20", #[⟨47, Ground.data⟩, ⟨46, Ground.chain⟩, ⟨46, Ground.guard⟩], some (46, true)⟩,
  ⟨some 105, Op.pick (Operand.tmp 102) (Operand.tmp 104) (Operand.const (Value.bool false)), 4, "law.go:20", #[⟨46, Ground.data⟩, ⟨48, Ground.data⟩], none⟩,
  ⟨some 106, Op.move (Operand.tmp 105), 4, "law.go:20", #[⟨49, Ground.data⟩, ⟨48, Ground.chain⟩], none⟩,
  ⟨some 107, Op.build 23 #[], 23, "law.go:20", #[⟨50, Ground.guard⟩], some (50, true)⟩,
  ⟨some 108, Op.call { callee := Callee.value (Operand.func 11), args := #[Operand.tmp 107], argTypes := #[23] }, 4, "law.go:20", #[⟨51, Ground.data⟩, ⟨50, Ground.chain⟩, ⟨50, Ground.guard⟩], some (50, true)⟩,
  ⟨some 109, Op.unOp UnOp.not 4 (Operand.tmp 108), 4, "law.go:20", #[⟨52, Ground.data⟩, ⟨50, Ground.guard⟩], some (50, true)⟩,
  ⟨some 110, Op.pick (Operand.tmp 106) (Operand.tmp 109) (Operand.const (Value.bool false)), 4, "law.go:20", #[⟨50, Ground.data⟩, ⟨53, Ground.data⟩], none⟩,
  ⟨some 111, Op.move (Operand.tmp 110), 4, "law.go:20", #[⟨54, Ground.data⟩, ⟨52, Ground.chain⟩], none⟩,
  ⟨some 112, Op.load 23 (Operand.tmp 1), 23, "law.go:20", #[⟨55, Ground.guard⟩], some (55, true)⟩,
  ⟨some 113, Op.call { callee := Callee.value (Operand.func 17), args := #[Operand.tmp 112, Operand.const (Value.int IntKind.i64 2)], argTypes := #[23, 3] }, 23, "law.go:20", #[⟨56, Ground.data⟩, ⟨55, Ground.chain⟩, ⟨55, Ground.guard⟩], some (55, true)⟩,
  ⟨some 114, Op.field 23 (Operand.tmp 113) 4, 3, "law.go:20", #[⟨57, Ground.data⟩, ⟨55, Ground.guard⟩], some (55, true)⟩,
  ⟨some 115, Op.binOp BinOp.eql 3 (Operand.tmp 114) (Operand.const (Value.int IntKind.i64 1)) 3, 4, "law.go:20", #[⟨58, Ground.data⟩, ⟨55, Ground.guard⟩], some (55, true)⟩,
  ⟨some 116, Op.pick (Operand.tmp 111) (Operand.tmp 115) (Operand.const (Value.bool false)), 4, "law.go:20", #[⟨55, Ground.data⟩, ⟨59, Ground.data⟩], none⟩,
  ⟨some 117, Op.move (Operand.tmp 116), 4, "law.go:20", #[⟨60, Ground.data⟩, ⟨57, Ground.chain⟩], none⟩,
  ⟨some 118, Op.load 23 (Operand.tmp 1), 23, "law.go:20", #[⟨61, Ground.guard⟩], some (61, true)⟩,
  ⟨some 119, Op.call { callee := Callee.value (Operand.func 17), args := #[Operand.tmp 118, Operand.const (Value.int IntKind.i64 9)], argTypes := #[23, 3] }, 23, "law.go:20", #[⟨62, Ground.data⟩, ⟨61, Ground.chain⟩, ⟨61, Ground.guard⟩], some (61, true)⟩,
  ⟨some 120, Op.field 23 (Operand.tmp 119) 4, 3, "law.go:20", #[⟨63, Ground.data⟩, ⟨61, Ground.guard⟩], some (61, true)⟩,
  ⟨some 121, Op.binOp BinOp.eql 3 (Operand.tmp 120) (Operand.const (Value.int IntKind.i64 0)) 3, 4, "law.go:20", #[⟨64, Ground.data⟩, ⟨61, Ground.guard⟩], some (61, true)⟩,
  ⟨some 122, Op.pick (Operand.tmp 117) (Operand.tmp 121) (Operand.const (Value.bool false)), 4, "law.go:20", #[⟨61, Ground.data⟩, ⟨65, Ground.data⟩], none⟩,
  ⟨some 123, Op.move (Operand.tmp 122), 4, "law.go:20", #[⟨66, Ground.data⟩, ⟨63, Ground.chain⟩], none⟩,
  ⟨some 124, Op.load 23 (Operand.tmp 1), 23, "law.go:20", #[⟨67, Ground.guard⟩], some (67, true)⟩,
  ⟨some 125, Op.call { callee := Callee.value (Operand.func 17), args := #[Operand.tmp 124, Operand.const (Value.int IntKind.i64 (-1))], argTypes := #[23, 3] }, 23, "law.go:20", #[⟨68, Ground.data⟩, ⟨67, Ground.chain⟩, ⟨67, Ground.guard⟩], some (67, true)⟩,
  ⟨some 126, Op.load 23 (Operand.tmp 1), 23, "law.go:20", #[⟨67, Ground.guard⟩], some (67, true)⟩,
  ⟨some 127, Op.binOp BinOp.eql 23 (Operand.tmp 125) (Operand.tmp 126) 23, 4, "law.go:20", #[⟨69, Ground.data⟩, ⟨70, Ground.data⟩, ⟨67, Ground.guard⟩], some (67, true)⟩,
  ⟨some 128, Op.pick (Operand.tmp 123) (Operand.tmp 127) (Operand.const (Value.bool false)), 4, "law.go:20", #[⟨67, Ground.data⟩, ⟨71, Ground.data⟩], none⟩,
  ⟨some 129, Op.move (Operand.tmp 128), 4, "law.go:20", #[⟨72, Ground.data⟩, ⟨69, Ground.chain⟩], none⟩,
  ⟨some 130, Op.load 23 (Operand.tmp 1), 23, "law.go:20", #[⟨73, Ground.guard⟩], some (73, true)⟩,
  ⟨some 131, Op.load 23 (Operand.tmp 1), 23, "law.go:20", #[⟨73, Ground.guard⟩], some (73, true)⟩,
  ⟨some 132, Op.call { callee := Callee.value (Operand.func 17), args := #[Operand.tmp 131, Operand.const (Value.int IntKind.i64 1)], argTypes := #[23, 3] }, 23, "law.go:20", #[⟨75, Ground.data⟩, ⟨73, Ground.chain⟩, ⟨73, Ground.guard⟩], some (73, true)⟩,
  ⟨some 133, Op.call { callee := Callee.value (Operand.func 19), args := #[Operand.tmp 130, Operand.tmp 132], argTypes := #[23, 23] }, 4, "law.go:20", #[⟨74, Ground.data⟩, ⟨76, Ground.data⟩, ⟨76, Ground.chain⟩, ⟨73, Ground.guard⟩], some (73, true)⟩,
  ⟨some 134, Op.pick (Operand.tmp 129) (Operand.tmp 133) (Operand.const (Value.bool false)), 4, "law.go:20", #[⟨73, Ground.data⟩, ⟨77, Ground.data⟩], none⟩,
  ⟨some 135, Op.move (Operand.tmp 134), 4, "law.go:20", #[⟨78, Ground.data⟩, ⟨77, Ground.chain⟩], none⟩,
  ⟨some 136, Op.load 23 (Operand.tmp 1), 23, "law.go:20", #[⟨79, Ground.guard⟩], some (79, true)⟩,
  ⟨some 137, Op.call { callee := Callee.value (Operand.func 15), args := #[Operand.tmp 136], argTypes := #[23] }, 9, "law.go:20", #[⟨80, Ground.data⟩, ⟨79, Ground.chain⟩, ⟨79, Ground.guard⟩], some (79, true)⟩,
  ⟨some 138, Op.binOp BinOp.eql 9 (Operand.tmp 137) (Operand.const (Value.string { data := #[49, 58, 50, 32, 97, 32, 49, 32, 51] })) 9, 4, "law.go:20", #[⟨81, Ground.data⟩, ⟨79, Ground.guard⟩], some (79, true)⟩,
  ⟨some 139, Op.pick (Operand.tmp 135) (Operand.tmp 138) (Operand.const (Value.bool false)), 4, "law.go:20", #[⟨79, Ground.data⟩, ⟨82, Ground.data⟩], none⟩,
  ⟨some 140, Op.move (Operand.tmp 139), 4, "law.go:20", #[⟨83, Ground.data⟩, ⟨81, Ground.chain⟩], none⟩,
  ⟨some 141, Op.move (Operand.tmp 12), 34, "law.go:20", #[⟨84, Ground.guard⟩], some (84, true)⟩,
  ⟨some 142, Op.call { callee := Callee.value (Operand.func 29), args := #[Operand.tmp 141], argTypes := #[34] }, 9, "law.go:20", #[⟨85, Ground.data⟩, ⟨84, Ground.chain⟩, ⟨84, Ground.guard⟩], some (84, true)⟩,
  ⟨some 143, Op.binOp BinOp.eql 9 (Operand.tmp 142) (Operand.const (Value.string { data := #[2, 0, 5, 3, 1] })) 9, 4, "law.go:20", #[⟨86, Ground.data⟩, ⟨84, Ground.guard⟩], some (84, true)⟩,
  ⟨some 144, Op.pick (Operand.tmp 140) (Operand.tmp 143) (Operand.const (Value.bool false)), 4, "law.go:20", #[⟨84, Ground.data⟩, ⟨87, Ground.data⟩], none⟩,
  ⟨some 145, Op.move (Operand.tmp 144), 4, "law.go:20", #[⟨88, Ground.data⟩, ⟨86, Ground.chain⟩], none⟩,
  ⟨some 146, Op.build 59 #[], 59, "law.go:20", #[⟨89, Ground.guard⟩], some (89, true)⟩,
  ⟨some 147, Op.buildSlice 34 1 #[(0, Operand.tmp 146)], 34, "law.go:20", #[⟨90, Ground.data⟩, ⟨89, Ground.guard⟩], some (89, true)⟩,
  ⟨some 148, Op.call { callee := Callee.value (Operand.func 27), args := #[Operand.tmp 147], argTypes := #[34] }, 4, "law.go:20", #[⟨91, Ground.data⟩, ⟨89, Ground.chain⟩, ⟨89, Ground.guard⟩], some (89, true)⟩,
  ⟨some 149, Op.unOp UnOp.not 4 (Operand.tmp 148), 4, "law.go:20", #[⟨92, Ground.data⟩, ⟨89, Ground.guard⟩], some (89, true)⟩,
  ⟨some 150, Op.pick (Operand.tmp 145) (Operand.tmp 149) (Operand.const (Value.bool false)), 4, "law.go:20", #[⟨89, Ground.data⟩, ⟨93, Ground.data⟩], none⟩,
  ⟨some 0, Op.assign (Operand.tmp 150), 4, "law.go:20", #[⟨94, Ground.data⟩, ⟨92, Ground.chain⟩, ⟨0, Ground.phase⟩, ⟨1, Ground.phase⟩, ⟨2, Ground.phase⟩, ⟨3, Ground.phase⟩, ⟨4, Ground.phase⟩, ⟨5, Ground.phase⟩, ⟨6, Ground.phase⟩, ⟨7, Ground.phase⟩, ⟨8, Ground.phase⟩, ⟨9, Ground.phase⟩, ⟨10, Ground.phase⟩, ⟨11, Ground.phase⟩, ⟨12, Ground.phase⟩, ⟨13, Ground.phase⟩, ⟨14, Ground.phase⟩, ⟨15, Ground.phase⟩, ⟨16, Ground.phase⟩, ⟨17, Ground.phase⟩, ⟨18, Ground.phase⟩, ⟨19, Ground.phase⟩, ⟨20, Ground.phase⟩, ⟨21, Ground.phase⟩, ⟨22, Ground.phase⟩, ⟨23, Ground.phase⟩, ⟨24, Ground.phase⟩, ⟨25, Ground.phase⟩, ⟨26, Ground.phase⟩, ⟨27, Ground.phase⟩, ⟨28, Ground.phase⟩, ⟨29, Ground.phase⟩, ⟨30, Ground.phase⟩, ⟨31, Ground.phase⟩, ⟨32, Ground.phase⟩, ⟨33, Ground.phase⟩, ⟨34, Ground.phase⟩, ⟨35, Ground.phase⟩, ⟨36, Ground.phase⟩, ⟨37, Ground.phase⟩, ⟨38, Ground.phase⟩, ⟨39, Ground.phase⟩, ⟨40, Ground.phase⟩, ⟨41, Ground.phase⟩, ⟨42, Ground.phase⟩, ⟨43, Ground.phase⟩, ⟨44, Ground.phase⟩, ⟨45, Ground.phase⟩, ⟨46, Ground.phase⟩, ⟨47, Ground.phase⟩, ⟨48, Ground.phase⟩, ⟨49, Ground.phase⟩, ⟨50, Ground.phase⟩, ⟨51, Ground.phase⟩, ⟨52, Ground.phase⟩, ⟨53, Ground.phase⟩, ⟨54, Ground.phase⟩, ⟨55, Ground.phase⟩, ⟨56, Ground.phase⟩, ⟨57, Ground.phase⟩, ⟨58, Ground.phase⟩, ⟨59, Ground.phase⟩, ⟨60, Ground.phase⟩, ⟨61, Ground.phase⟩, ⟨62, Ground.phase⟩, ⟨63, Ground.phase⟩, ⟨64, Ground.phase⟩, ⟨65, Ground.phase⟩, ⟨66, Ground.phase⟩, ⟨67, Ground.phase⟩, ⟨68, Ground.phase⟩, ⟨69, Ground.phase⟩, ⟨70, Ground.phase⟩, ⟨71, Ground.phase⟩, ⟨72, Ground.phase⟩, ⟨73, Ground.phase⟩, ⟨74, Ground.phase⟩, ⟨75, Ground.phase⟩, ⟨76, Ground.phase⟩, ⟨77, Ground.phase⟩, ⟨78, Ground.phase⟩, ⟨79, Ground.phase⟩, ⟨80, Ground.phase⟩, ⟨81, Ground.phase⟩, ⟨82, Ground.phase⟩, ⟨83, Ground.phase⟩, ⟨84, Ground.phase⟩, ⟨85, Ground.phase⟩, ⟨86, Ground.phase⟩, ⟨87, Ground.phase⟩, ⟨88, Ground.phase⟩, ⟨89, Ground.phase⟩, ⟨90, Ground.phase⟩, ⟨91, Ground.phase⟩, ⟨92, Ground.phase⟩, ⟨93, Ground.phase⟩, ⟨94, Ground.phase⟩], none⟩]
set_option maxHeartbeats 4000000 in
theorem regF5 {Q : Exit → Act → World → Prop} {ops : Array Oper} {a : Act} {w10 : World} {R X cap : Nat} {av : Option Addr} (hO : ops = litF) (hns : Region.noSelect ops = true)
    (hQ : ∀ c a w (d : Nat) v, Q (.panic c) (a.put (some d) v) w → Q (.panic c) a w) (sz : a.tmps.size = 151) (df : a.defers = [])
    (q12_82 : At a 12 (.slice av 2 cap))
    (q135_82 : At a 135 (.bool true))
    (q137_82 : At a 137 (.string ⟨#[49, 58, 50, 32, 97, 32, 49, 32, 51]⟩))
    (s10 : FCells R X w10)
    (C : Calls Tryd.prog 29 #[.slice av 2 cap] w10 fun e w11 => e = .returned (.string ⟨#[2, 0, 5, 3, 1]⟩) ∧ FCells R X w11 ∧
      Calls Tryd.prog 27 #[.slice (some ⟨w11.heap.size, 0, none⟩) 1 1] (w11.alloc (.cells #[.int .i64 0, .int .i64 0] 59)) fun e w13 => e = .returned (.bool false) ∧ FCells R X w13 ∧
      ∀ a', At a' 0 (.bool true) → a'.defers = [] → Q .normal a' w13) : wpAnyH Tryd.prog .any ops Q (FCells R X) 14 #[true, true, true, true, true, true, true, true, true, true, true, true, true, true, true, true, true, true, true, true, true, true, true, true, true, true, true, true, true, true, true, true, true, true, true, true, true, true, true, true, true, true, true, true, true, true, true, true, true, true, true, true, true, true, true, true, true, true, true, true, true, true, true, true, true, true, true, true, true, true, true, true, true, true, true, true, true, true, true, true, true, true, false, false, false, false, false, false, false, false, false, false, false, false, false, false] a w10 := by
  refine stepV 82 (o := ⟨some 138, Op.binOp BinOp.eql 9 (Operand.tmp 137) (Operand.const (Value.string { data := #[49, 58, 50, 32, 97, 32, 49, 32, 51] })) 9, 4, "law.go:20", #[⟨81, Ground.data⟩, ⟨79, Ground.guard⟩], some (79, true)⟩) (v := .bool true) (d := 138) (listed' := #[true, true, true, true, true, true, true, true, true, true, true, true, true, true, true, true, true, true, true, true, true, true, true, true, true, true, true, true, true, true, true, true, true, true, true, true, true, true, true, true, true, true, true, true, true, true, true, true, true, true, true, true, true, true, true, true, true, true, true, true, true, true, true, true, true, true, true, true, true, true, true, true, true, true, true, true, true, true, true, true, true, true, true, false, false, false, false, false, false, false, false, false, false, false, false, false]) (by rw [hO]; rfl) rfl hns (by rw [hO]; kernel_rfl) (by rw [hO]; kernel_rfl) (by kernel_rfl) hQ ⟨135, by rw [hO]; rfl, q135_82⟩ s10 (fun w _ => rn_eqS q137_82 w) ?_
  intro b83 e83
  have q12_83 := q12_82.mv e83 rfl
  have q135_83 := q135_82.mv e83 rfl
  have q138_83 : At b83 138 (.bool true) := e83 ▸ At.eq (by rw [sz]; decide)
  have z83 : b83.tmps.size = 151 := (e83 ▸ size_put _ _ _).trans sz
  have df83 : b83.defers = [] := by rw [e83]; exact df
  clear q12_82 q135_82 q137_82
  clear e83
  refine stepV 83 (o := ⟨some 139, Op.pick (Operand.tmp 135) (Operand.tmp 138) (Operand.const (Value.bool false)), 4, "law.go:20", #[⟨79, Ground.data⟩, ⟨82, Ground.data⟩], none⟩) (v := .bool true) (d := 139) (listed' := #[true, true, true, true, true, true, true, true, true, true, true, true, true, true, true, true, true, true, true, true, true, true, true, true, true, true, true, true, true, true, true, true, true, true, true, true, true, true, true, true, true, true, true, true, true, true, true, true, true, true, true, true, true, true, true, true, true, true, true, true, true, true, true, true, true, true, true, true, true, true, true, true, true, true, true, true, true, true, true, true, true, true, true, true, false, false, false, false, false, false, false, false, false, false, false, false]) (by rw [hO]; rfl) rfl hns (by rw [hO]; kernel_rfl) (by rw [hO]; kernel_rfl) (by kernel_rfl) hQ trivial s10 (fun w _ => rn_pk q135_83 q138_83 w) ?_
  intro b84 e84
  have q12_84 := q12_83.mv e84 rfl
  have q139_84 : At b84 139 (.bool true) := e84 ▸ At.eq (by rw [z83]; decide)
  have z84 : b84.tmps.size = 151 := (e84 ▸ size_put _ _ _).trans z83
  have df84 : b84.defers = [] := by rw [e84]; exact df83
  clear q12_83 q135_83 q138_83
  clear e84 z83 df83
  refine stepV 84 (o := ⟨some 140, Op.move (Operand.tmp 139), 4, "law.go:20", #[⟨83, Ground.data⟩, ⟨81, Ground.chain⟩], none⟩) (v := .bool true) (d := 140) (listed' := #[true, true, true, true, true, true, true, true, true, true, true, true, true, true, true, true, true, true, true, true, true, true, true, true, true, true, true, true, true, true, true, true, true, true, true, true, true, true, true, true, true, true, true, true, true, true, true, true, true, true, true, true, true, true, true, true, true, true, true, true, true, true, true, true, true, true, true, true, true, true, true, true, true, true, true, true, true, true, true, true, true, true, true, true, true, false, false, false, false, false, false, false, false, false, false, false]) (by rw [hO]; rfl) rfl hns (by rw [hO]; kernel_rfl) (by rw [hO]; kernel_rfl) (by kernel_rfl) hQ trivial s10 (fun w _ => rn_move q139_84 rfl w) ?_
  intro b85 e85
  have q12_85 := q12_84.mv e85 rfl
  have q140_85 : At b85 140 (.bool true) := e85 ▸ At.eq (by rw [z84]; decide)
  have z85 : b85.tmps.size = 151 := (e85 ▸ size_put _ _ _).trans z84
  have df85 : b85.defers = [] := by rw [e85]; exact df84
  clear q12_84 q139_84
  clear e85 z84 df84
  refine stepV 85 (o := ⟨some 141, Op.move (Operand.tmp 12), 34, "law.go:20", #[⟨84, Ground.guard⟩], some (84, true)⟩) (v := .slice av 2 cap) (d := 141) (listed' := #[true, true, true, true, true, true, true, true, true, true, true, true, true, true, true, true, true, true, true, true, true, true, true, true, true, true, true, true, true, true, true, true, true, true, true, true, true, true, true, true, true, true, true, true, true, true, true, true, true, true, true, true, true, true, true, true, true, true, true, true, true, true, true, true, true, true, true, true, true, true, true, true, true, true, true, true, true, true, true, true, true, true, true, true, true, true, false, false, false, false, false, false, false, false, false, false]) (by rw [hO]; rfl) rfl hns (by rw [hO]; kernel_rfl) (by rw [hO]; kernel_rfl) (by kernel_rfl) hQ ⟨140, by rw [hO]; rfl, q140_85⟩ s10 (fun w _ => rn_move q12_85 rfl w) ?_
  intro b86 e86
  have q140_86 := q140_85.mv e86 rfl
  have q141_86 : At b86 141 (.slice av 2 cap) := e86 ▸ At.eq (by rw [z85]; decide)
  have z86 : b86.tmps.size = 151 := (e86 ▸ size_put _ _ _).trans z85
  have df86 : b86.defers = [] := by rw [e86]; exact df85
  clear q12_85 q140_85
  clear e86 z85 df85
  refine stepC 86 (o := ⟨some 142, Op.call { callee := Callee.value (Operand.func 29), args := #[Operand.tmp 141], argTypes := #[34] }, 9, "law.go:20", #[⟨85, Ground.data⟩, ⟨84, Ground.chain⟩, ⟨84, Ground.guard⟩], some (84, true)⟩) (d := 142) (listed' := #[true, true, true, true, true, true, true, true, true, true, true, true, true, true, true, true, true, true, true, true, true, true, true, true, true, true, true, true, true, true, true, true, true, true, true, true, true, true, true, true, true, true, true, true, true, true, true, true, true, true, true, true, true, true, true, true, true, true, true, true, true, true, true, true, true, true, true, true, true, true, true, true, true, true, true, true, true, true, true, true, true, true, true, true, true, true, true, false, false, false, false, false, false, false, false, false]) (by rw [hO]; rfl) rfl (by rw [hO]; kernel_rfl) (by kernel_rfl) ⟨140, by rw [hO]; rfl, q140_86⟩ (rn_c29 q141_86 _) ?_
  refine C.mono ?_
  clear C
  rintro e w11 ⟨rfl, s11, C⟩
  refine ⟨_, rfl, s11, ?_⟩
  intro b87 e87
  have q140_87 := q140_86.mv e87 rfl
  have q142_87 : At b87 142 (.string ⟨#[2, 0, 5, 3, 1]⟩) := e87 ▸ At.eq (by rw [z86]; decide)
  have z87 : b87.tmps.size = 151 := (e87 ▸ size_put _ _ _).trans z86
  have df87 : b87.defers = [] := by rw [e87]; exact df86
  clear q140_86 q141_86
  clear e87 z86 df86
  refine stepV 87 (o := ⟨some 143, Op.binOp BinOp.eql 9 (Operand.tmp 142) (Operand.const (Value.string { data := #[2, 0, 5, 3, 1] })) 9, 4, "law.go:20", #[⟨86, Ground.data⟩, ⟨84, Ground.guard⟩], some (84, true)⟩) (v := .bool true) (d := 143) (listed' := #[true, true, true, true, true, true, true, true, true, true, true, true, true, true, true, true, true, true, true, true, true, true, true, true, true, true, true, true, true, true, true, true, true, true, true, true, true, true, true, true, true, true, true, true, true, true, true, true, true, true, true, true, true, true, true, true, true, true, true, true, true, true, true, true, true, true, true, true, true, true, true, true, true, true, true, true, true, true, true, true, true, true, true, true, true, true, true, true, false, false, false, false, false, false, false, false]) (by rw [hO]; rfl) rfl hns (by rw [hO]; kernel_rfl) (by rw [hO]; kernel_rfl) (by kernel_rfl) hQ ⟨140, by rw [hO]; rfl, q140_87⟩ s11 (fun w _ => rn_eqS q142_87 w) ?_
  intro b88 e88
  have q140_88 := q140_87.mv e88 rfl
  have q143_88 : At b88 143 (.bool true) := e88 ▸ At.eq (by rw [z87]; decide)
  have z88 : b88.tmps.size = 151 := (e88 ▸ size_put _ _ _).trans z87
  have df88 : b88.defers = [] := by rw [e88]; exact df87
  clear q140_87 q142_87
  clear e88 z87 df87
  refine stepV 88 (o := ⟨some 144, Op.pick (Operand.tmp 140) (Operand.tmp 143) (Operand.const (Value.bool false)), 4, "law.go:20", #[⟨84, Ground.data⟩, ⟨87, Ground.data⟩], none⟩) (v := .bool true) (d := 144) (listed' := #[true, true, true, true, true, true, true, true, true, true, true, true, true, true, true, true, true, true, true, true, true, true, true, true, true, true, true, true, true, true, true, true, true, true, true, true, true, true, true, true, true, true, true, true, true, true, true, true, true, true, true, true, true, true, true, true, true, true, true, true, true, true, true, true, true, true, true, true, true, true, true, true, true, true, true, true, true, true, true, true, true, true, true, true, true, true, true, true, true, false, false, false, false, false, false, false]) (by rw [hO]; rfl) rfl hns (by rw [hO]; kernel_rfl) (by rw [hO]; kernel_rfl) (by kernel_rfl) hQ trivial s11 (fun w _ => rn_pk q140_88 q143_88 w) ?_
  intro b89 e89
  have q144_89 : At b89 144 (.bool true) := e89 ▸ At.eq (by rw [z88]; decide)
  have z89 : b89.tmps.size = 151 := (e89 ▸ size_put _ _ _).trans z88
  have df89 : b89.defers = [] := by rw [e89]; exact df88
  clear q140_88 q143_88
  clear e89 z88 df88
  refine stepV 89 (o := ⟨some 145, Op.move (Operand.tmp 144), 4, "law.go:20", #[⟨88, Ground.data⟩, ⟨86, Ground.chain⟩], none⟩) (v := .bool true) (d := 145) (listed' := #[true, true, true, true, true, true, true, true, true, true, true, true, true, true, true, true, true, true, true, true, true, true, true, true, true, true, true, true, true, true, true, true, true, true, true, true, true, true, true, true, true, true, true, true, true, true, true, true, true, true, true, true, true, true, true, true, true, true, true, true, true, true, true, true, true, true, true, true, true, true, true, true, true, true, true, true, true, true, true, true, true, true, true, true, true, true, true, true, true, true, false, false, false, false, false, false]) (by rw [hO]; rfl) rfl hns (by rw [hO]; kernel_rfl) (by rw [hO]; kernel_rfl) (by kernel_rfl) hQ trivial s11 (fun w _ => rn_move q144_89 rfl w) ?_
  intro b90 e90
  have q145_90 : At b90 145 (.bool true) := e90 ▸ At.eq (by rw [z89]; decide)
  have z90 : b90.tmps.size = 151 := (e90 ▸ size_put _ _ _).trans z89
  have df90 : b90.defers = [] := by rw [e90]; exact df89
  clear q144_89
  clear e90 z89 df89
  refine stepV 90 (o := ⟨some 146, Op.build 59 #[], 59, "law.go:20", #[⟨89, Ground.guard⟩], some (89, true)⟩) (v := .agg #[.int .i64 0, .int .i64 0]) (d := 146) (listed' := #[true, true, true, true, true, true, true, true, true, true, true, true, true, true, true, true, true, true, true, true, true, true, true, true, true, true, true, true, true, true, true, true, true, true, true, true, true, true, true, true, true, true, true, true, true, true, true, true, true, true, true, true, true, true, true, true, true, true, true, true, true, true, true, true, true, true, true, true, true, true, true, true, true, true, true, true, true, true, true, true, true, true, true, true, true, true, true, true, true, true, true, false, false, false, false, false]) (by rw [hO]; rfl) rfl hns (by rw [hO]; kernel_rfl) (by rw [hO]; kernel_rfl) (by kernel_rfl) hQ ⟨145, by rw [hO]; rfl, q145_90⟩ s11 (fun w _ => rn_b59z w) ?_
  intro b91 e91
  have q145_91 := q145_90.mv e91 rfl
  have q146_91 : At b91 146 (.agg #[.int .i64 0, .int .i64 0]) := e91 ▸ At.eq (by rw [z90]; decide)
  have z91 : b91.tmps.size = 151 := (e91 ▸ size_put _ _ _).trans z90
  have df91 : b91.defers = [] := by rw [e91]; exact df90
  clear q145_90
  clear e91 z90 df90
  have sa12 : FCells R X (w11.alloc (.cells #[.int .i64 0, .int .i64 0] 59)) := s11.alloc _
  refine stepA 91 (o := ⟨some 147, Op.buildSlice 34 1 #[(0, Operand.tmp 146)], 34, "law.go:20", #[⟨90, Ground.data⟩, ⟨89, Ground.guard⟩], some (89, true)⟩) (v := .slice (some ⟨w11.heap.size, 0, none⟩) 1 1) (d := 147) (listed' := #[true, true, true, true, true, true, true, true, true, true, true, true, true, true, true, true, true, true, true, true, true, true, true, true, true, true, true, true, true, true, true, true, true, true, true, true, true, true, true, true, true, true, true, true, true, true, true, true, true, true, true, true, true, true, true, true, true, true, true, true, true, true, true, true, true, true, true, true, true, true, true, true, true, true, true, true, true, true, true, true, true, true, true, true, true, true, true, true, true, true, true, true, false, false, false, false]) (by rw [hO]; rfl) rfl (by rw [hO]; kernel_rfl) (by kernel_rfl) ⟨145, by rw [hO]; rfl, q145_91⟩ (rn_bs1 q146_91 _) sa12 ?_
  intro b92 e92
  have q145_92 := q145_91.mv e92 rfl
  have q147_92 : At b92 147 (.slice (some ⟨w11.heap.size, 0, none⟩) 1 1) := e92 ▸ At.eq (by rw [z91]; decide)
  have z92 : b92.tmps.size = 151 := (e92 ▸ size_put _ _ _).trans z91
  have df92 : b92.defers = [] := by rw [e92]; exact df91
  clear q145_91 q146_91
  clear e92 z91 df91
  refine stepC 92 (o := ⟨some 148, Op.call { callee := Callee.value (Operand.func 27), args := #[Operand.tmp 147], argTypes := #[34] }, 4, "law.go:20", #[⟨91, Ground.data⟩, ⟨89, Ground.chain⟩, ⟨89, Ground.guard⟩], some (89, true)⟩) (d := 148) (listed' := #[true, true, true, true, true, true, true, true, true, true, true, true, true, true, true, true, true, true, true, true, true, true, true, true, true, true, true, true, true, true, true, true, true, true, true, true, true, true, true, true, true, true, true, true, true, true, true, true, true, true, true, true, true, true, true, true, true, true, true, true, true, true, true, true, true, true, true, true, true, true, true, true, true, true, true, true, true, true, true, true, true, true, true, true, true, true, true, true, true, true, true, true, true, false, false, false]) (by rw [hO]; rfl) rfl (by rw [hO]; kernel_rfl) (by kernel_rfl) ⟨145, by rw [hO]; rfl, q145_92⟩ (rn_c27 q147_92 _) ?_
  refine C.mono ?_
  clear C
  rintro e w13 ⟨rfl, s13, C⟩
  refine ⟨_, rfl, s13, ?_⟩
  intro b93 e93
  have q145_93 := q145_92.mv e93 rfl
  have q148_93 : At b93 148 (.bool false) := e93 ▸ At.eq (by rw [z92]; decide)
  have z93 : b93.tmps.size = 151 := (e93 ▸ size_put _ _ _).trans z92
  have df93 : b93.defers = [] := by rw [e93]; exact df92
  clear q145_92 q147_92
  clear e93 z92 df92
  refine stepV 93 (o := ⟨some 149, Op.unOp UnOp.not 4 (Operand.tmp 148), 4, "law.go:20", #[⟨92, Ground.data⟩, ⟨89, Ground.guard⟩], some (89, true)⟩) (v := .bool true) (d := 149) (listed' := #[true, true, true, true, true, true, true, true, true, true, true, true, true, true, true, true, true, true, true, true, true, true, true, true, true, true, true, true, true, true, true, true, true, true, true, true, true, true, true, true, true, true, true, true, true, true, true, true, true, true, true, true, true, true, true, true, true, true, true, true, true, true, true, true, true, true, true, true, true, true, true, true, true, true, true, true, true, true, true, true, true, true, true, true, true, true, true, true, true, true, true, true, true, true, false, false]) (by rw [hO]; rfl) rfl hns (by rw [hO]; kernel_rfl) (by rw [hO]; kernel_rfl) (by kernel_rfl) hQ ⟨145, by rw [hO]; rfl, q145_93⟩ s13 (fun w _ => rn_not q148_93 w) ?_
  intro b94 e94
  have q145_94 := q145_93.mv e94 rfl
  have q149_94 : At b94 149 (.bool true) := e94 ▸ At.eq (by rw [z93]; decide)
  have z94 : b94.tmps.size = 151 := (e94 ▸ size_put _ _ _).trans z93
  have df94 : b94.defers = [] := by rw [e94]; exact df93
  clear q145_93 q148_93
  clear e94 z93 df93
  refine stepV 94 (o := ⟨some 150, Op.pick (Operand.tmp 145) (Operand.tmp 149) (Operand.const (Value.bool false)), 4, "law.go:20", #[⟨89, Ground.data⟩, ⟨93, Ground.data⟩], none⟩) (v := .bool true) (d := 150) (listed' := #[true, true, true, true, true, true, true, true, true, true, true, true, true, true, true, true, true, true, true, true, true, true, true, true, true, true, true, true, true, true, true, true, true, true, true, true, true, true, true, true, true, true, true, true, true, true, true, true, true, true, true, true, true, true, true, true, true, true, true, true, true, true, true, true, true, true, true, true, true, true, true, true, true, true, true, true, true, true, true, true, true, true, true, true, true, true, true, true, true, true, true, true, true, true, true, false]) (by rw [hO]; rfl) rfl hns (by rw [hO]; kernel_rfl) (by rw [hO]; kernel_rfl) (by kernel_rfl) hQ trivial s13 (fun w _ => rn_pk q145_94 q149_94 w) ?_
  intro b95 e95
  have q150_95 : At b95 150 (.bool true) := e95 ▸ At.eq (by rw [z94]; decide)
  have z95 : b95.tmps.size = 151 := (e95 ▸ size_put _ _ _).trans z94
  have df95 : b95.defers = [] := by rw [e95]; exact df94
  clear q145_94 q149_94
  clear e95 z94 df94
  refine stepV 95 (o := ⟨some 0, Op.assign (Operand.tmp 150), 4, "law.go:20", #[⟨94, Ground.data⟩, ⟨92, Ground.chain⟩, ⟨0, Ground.phase⟩, ⟨1, Ground.phase⟩, ⟨2, Ground.phase⟩, ⟨3, Ground.phase⟩, ⟨4, Ground.phase⟩, ⟨5, Ground.phase⟩, ⟨6, Ground.phase⟩, ⟨7, Ground.phase⟩, ⟨8, Ground.phase⟩, ⟨9, Ground.phase⟩, ⟨10, Ground.phase⟩, ⟨11, Ground.phase⟩, ⟨12, Ground.phase⟩, ⟨13, Ground.phase⟩, ⟨14, Ground.phase⟩, ⟨15, Ground.phase⟩, ⟨16, Ground.phase⟩, ⟨17, Ground.phase⟩, ⟨18, Ground.phase⟩, ⟨19, Ground.phase⟩, ⟨20, Ground.phase⟩, ⟨21, Ground.phase⟩, ⟨22, Ground.phase⟩, ⟨23, Ground.phase⟩, ⟨24, Ground.phase⟩, ⟨25, Ground.phase⟩, ⟨26, Ground.phase⟩, ⟨27, Ground.phase⟩, ⟨28, Ground.phase⟩, ⟨29, Ground.phase⟩, ⟨30, Ground.phase⟩, ⟨31, Ground.phase⟩, ⟨32, Ground.phase⟩, ⟨33, Ground.phase⟩, ⟨34, Ground.phase⟩, ⟨35, Ground.phase⟩, ⟨36, Ground.phase⟩, ⟨37, Ground.phase⟩, ⟨38, Ground.phase⟩, ⟨39, Ground.phase⟩, ⟨40, Ground.phase⟩, ⟨41, Ground.phase⟩, ⟨42, Ground.phase⟩, ⟨43, Ground.phase⟩, ⟨44, Ground.phase⟩, ⟨45, Ground.phase⟩, ⟨46, Ground.phase⟩, ⟨47, Ground.phase⟩, ⟨48, Ground.phase⟩, ⟨49, Ground.phase⟩, ⟨50, Ground.phase⟩, ⟨51, Ground.phase⟩, ⟨52, Ground.phase⟩, ⟨53, Ground.phase⟩, ⟨54, Ground.phase⟩, ⟨55, Ground.phase⟩, ⟨56, Ground.phase⟩, ⟨57, Ground.phase⟩, ⟨58, Ground.phase⟩, ⟨59, Ground.phase⟩, ⟨60, Ground.phase⟩, ⟨61, Ground.phase⟩, ⟨62, Ground.phase⟩, ⟨63, Ground.phase⟩, ⟨64, Ground.phase⟩, ⟨65, Ground.phase⟩, ⟨66, Ground.phase⟩, ⟨67, Ground.phase⟩, ⟨68, Ground.phase⟩, ⟨69, Ground.phase⟩, ⟨70, Ground.phase⟩, ⟨71, Ground.phase⟩, ⟨72, Ground.phase⟩, ⟨73, Ground.phase⟩, ⟨74, Ground.phase⟩, ⟨75, Ground.phase⟩, ⟨76, Ground.phase⟩, ⟨77, Ground.phase⟩, ⟨78, Ground.phase⟩, ⟨79, Ground.phase⟩, ⟨80, Ground.phase⟩, ⟨81, Ground.phase⟩, ⟨82, Ground.phase⟩, ⟨83, Ground.phase⟩, ⟨84, Ground.phase⟩, ⟨85, Ground.phase⟩, ⟨86, Ground.phase⟩, ⟨87, Ground.phase⟩, ⟨88, Ground.phase⟩, ⟨89, Ground.phase⟩, ⟨90, Ground.phase⟩, ⟨91, Ground.phase⟩, ⟨92, Ground.phase⟩, ⟨93, Ground.phase⟩, ⟨94, Ground.phase⟩], none⟩) (v := .bool true) (d := 0) (listed' := #[true, true, true, true, true, true, true, true, true, true, true, true, true, true, true, true, true, true, true, true, true, true, true, true, true, true, true, true, true, true, true, true, true, true, true, true, true, true, true, true, true, true, true, true, true, true, true, true, true, true, true, true, true, true, true, true, true, true, true, true, true, true, true, true, true, true, true, true, true, true, true, true, true, true, true, true, true, true, true, true, true, true, true, true, true, true, true, true, true, true, true, true, true, true, true, true]) (by rw [hO]; rfl) rfl hns (by rw [hO]; kernel_rfl) (by rw [hO]; kernel_rfl) (by kernel_rfl) hQ trivial s13 (fun w _ => rn_asg q150_95 w) ?_
  intro b96 e96
  have q0_96 : At b96 0 (.bool true) := e96 ▸ At.eq (by rw [z95]; decide)
  have z96 : b96.tmps.size = 151 := (e96 ▸ size_put _ _ _).trans z95
  have df96 : b96.defers = [] := by rw [e96]; exact df95
  clear q150_95
  clear e96 z95 df95
  exact wpAnyH_done (by rw [hO]; kernel_rfl) (C _ q0_96 df96) _

set_option maxHeartbeats 4000000 in
theorem regF4 {Q : Exit → Act → World → Prop} {ops : Array Oper} {a : Act} {w8 : World} {R X cap : Nat} {av : Option Addr} (hO : ops = litF) (hns : Region.noSelect ops = true)
    (hQ : ∀ c a w (d : Nat) v, Q (.panic c) (a.put (some d) v) w → Q (.panic c) a w) (sz : a.tmps.size = 151) (df : a.defers = [])
    (q1_77 : At a 1 (.pointer (some ⟨R, 0, none⟩)))
    (q12_77 : At a 12 (.slice av 2 cap))
    (q129_77 : At a 129 (.bool true))
    (q130_77 : At a 130 (.agg #[.int .i64 1, .int .i64 2, .string ⟨#[97]⟩, .string ⟨#[120]⟩, .int .i64 3]))
    (q132_77 : At a 132 (.agg #[.int .i64 1, .int .i64 2, .string ⟨#[97]⟩, .string ⟨#[120]⟩, .int .i64 2]))
    (_s8 : FCells R X w8)
    (C : Calls Tryd.prog 19 #[.agg #[.int .i64 1, .int .i64 2, .string ⟨#[97]⟩, .string ⟨#[120]⟩, .int .i64 3], .agg #[.int .i64 1, .int .i64 2, .string ⟨#[97]⟩, .string ⟨#[120]⟩, .int .i64 2]] w8 fun e w9 => e = .returned (.bool true) ∧ FCells R X w9 ∧
      Calls Tryd.prog 15 #[.agg #[.int .i64 1, .int .i64 2, .string ⟨#[97]⟩, .string ⟨#[120]⟩, .int .i64 3]] w9 fun e w10 => e = .returned (.string ⟨#[49, 58, 50, 32, 97, 32, 49, 32, 51]⟩) ∧ FCells R X w10 ∧
      Calls Tryd.prog 29 #[.slice av 2 cap] w10 fun e w11 => e = .returned (.string ⟨#[2, 0, 5, 3, 1]⟩) ∧ FCells R X w11 ∧
      Calls Tryd.prog 27 #[.slice (some ⟨w11.heap.size, 0, none⟩) 1 1] (w11.alloc (.cells #[.int .i64 0, .int .i64 0] 59)) fun e w13 => e = .returned (.bool false) ∧ FCells R X w13 ∧
      ∀ a', At a' 0 (.bool true) → a'.defers = [] → Q .normal a' w13) : wpAnyH Tryd.prog .any ops Q (FCells R X) 19 #[true, true, true, true, true, true, true, true, true, true, true, true, true, true, true, true, true, true, true, true, true, true, true, true, true, true, true, true, true, true, true, true, true, true, true, true, true, true, true, true, true, true, true, true, true, true, true, true, true, true, true, true, true, true, true, true, true, true, true, true, true, true, true, true, true, true, true, true, true, true, true, true, true, true, true, true, true, false, false, false, false, false, false, false, false, false, false, false, false, false, false, false, false, false, false, false] a w8 := by
  refine stepC 77 (o := ⟨some 133, Op.call { callee := Callee.value (Operand.func 19), args := #[Operand.tmp 130, Operand.tmp 132], argTypes := #[23, 23] }, 4, "law.go:20", #[⟨74, Ground.data⟩, ⟨76, Ground.data⟩, ⟨76, Ground.chain⟩, ⟨73, Ground.guard⟩], some (73, true)⟩) (d := 133) (listed' := #[true, true, true, true, true, true, true, true, true, true, true, true, true, true, true, true, true, true, true, true, true, true, true, true, true, true, true, true, true, true, true, true, true, true, true, true, true, true, true, true, true, true, true, true, true, true, true, true, true, true, true, true, true, true, true, true, true, true, true, true, true, true, true, true, true, true, true, true, true, true, true, true, true, true, true, true, true, true, false, false, false, false, false, false, false, false, false, false, false, false, false, false, false, false, false, false]) (by rw [hO]; rfl) rfl (by rw [hO]; kernel_rfl) (by kernel_rfl) ⟨129, by rw [hO]; rfl, q129_77⟩ (rn_c19 q130_77 q132_77 _) ?_
  refine C.mono ?_
  clear C
  rintro e w9 ⟨rfl, s9, C⟩
  refine ⟨_, rfl, s9, ?_⟩
  intro b78 e78
  have q1_78 := q1_77.mv e78 rfl
  have q12_78 := q12_77.mv e78 rfl
  have q129_78 := q129_77.mv e78 rfl
  have q133_78 : At b78 133 (.bool true) := e78 ▸ At.eq (by rw [sz]; decide)
  have z78 : b78.tmps.size = 151 := (e78 ▸ size_put _ _ _).trans sz
  have df78 : b78.defers = [] := by rw [e78]; exact df
  clear q129_77 q12_77 q130_77 q132_77 q1_77
  clear e78
  refine stepV 78 (o := ⟨some 134, Op.pick (Operand.tmp 129) (Operand.tmp 133) (Operand.const (Value.bool false)), 4, "law.go:20", #[⟨73, Ground.data⟩, ⟨77, Ground.data⟩], none⟩) (v := .bool true) (d := 134) (listed' := #[true, true, true, true, true, true, true, true, true, true, true, true, true, true, true, true, true, true, true, true, true, true, true, true, true, true, true, true, true, true, true, true, true, true, true, true, true, true, true, true, true, true, true, true, true, true, true, true, true, true, true, true, true, true, true, true, true, true, true, true, true, true, true, true, true, true, true, true, true, true, true, true, true, true, true, true, true, true, true, false, false, false, false, false, false, false, false, false, false, false, false, false, false, false, false, false]) (by rw [hO]; rfl) rfl hns (by rw [hO]; kernel_rfl) (by rw [hO]; kernel_rfl) (by kernel_rfl) hQ trivial s9 (fun w _ => rn_pk q129_78 q133_78 w) ?_
  intro b79 e79
  have q1_79 := q1_78.mv e79 rfl
  have q12_79 := q12_78.mv e79 rfl
  have q134_79 : At b79 134 (.bool true) := e79 ▸ At.eq (by rw [z78]; decide)
  have z79 : b79.tmps.size = 151 := (e79 ▸ size_put _ _ _).trans z78
  have df79 : b79.defers = [] := by rw [e79]; exact df78
  clear q129_78 q12_78 q133_78 q1_78
  clear e79 z78 df78
  refine stepV 79 (o := ⟨some 135, Op.move (Operand.tmp 134), 4, "law.go:20", #[⟨78, Ground.data⟩, ⟨77, Ground.chain⟩], none⟩) (v := .bool true) (d := 135) (listed' := #[true, true, true, true, true, true, true, true, true, true, true, true, true, true, true, true, true, true, true, true, true, true, true, true, true, true, true, true, true, true, true, true, true, true, true, true, true, true, true, true, true, true, true, true, true, true, true, true, true, true, true, true, true, true, true, true, true, true, true, true, true, true, true, true, true, true, true, true, true, true, true, true, true, true, true, true, true, true, true, true, false, false, false, false, false, false, false, false, false, false, false, false, false, false, false, false]) (by rw [hO]; rfl) rfl hns (by rw [hO]; kernel_rfl) (by rw [hO]; kernel_rfl) (by kernel_rfl) hQ trivial s9 (fun w _ => rn_move q134_79 rfl w) ?_
  intro b80 e80
  have q1_80 := q1_79.mv e80 rfl
  have q12_80 := q12_79.mv e80 rfl
  have q135_80 : At b80 135 (.bool true) := e80 ▸ At.eq (by rw [z79]; decide)
  have z80 : b80.tmps.size = 151 := (e80 ▸ size_put _ _ _).trans z79
  have df80 : b80.defers = [] := by rw [e80]; exact df79
  clear q12_79 q134_79 q1_79
  clear e80 z79 df79
  refine stepV 80 (o := ⟨some 136, Op.load 23 (Operand.tmp 1), 23, "law.go:20", #[⟨79, Ground.guard⟩], some (79, true)⟩) (v := .agg #[.int .i64 1, .int .i64 2, .string ⟨#[97]⟩, .string ⟨#[120]⟩, .int .i64 3]) (d := 136) (listed' := #[true, true, true, true, true, true, true, true, true, true, true, true, true, true, true, true, true, true, true, true, true, true, true, true, true, true, true, true, true, true, true, true, true, true, true, true, true, true, true, true, true, true, true, true, true, true, true, true, true, true, true, true, true, true, true, true, true, true, true, true, true, true, true, true, true, true, true, true, true, true, true, true, true, true, true, true, true, true, true, true, true, false, false, false, false, false, false, false, false, false, false, false, false, false, false, false]) (by rw [hO]; rfl) rfl hns (by rw [hO]; kernel_rfl) (by rw [hO]; kernel_rfl) (by kernel_rfl) hQ ⟨135, by rw [hO]; rfl, q135_80⟩ s9 (fun w hs => rn_ld q1_80 w hs.1) ?_
  intro b81 e81
  have q12_81 := q12_80.mv e81 rfl
  have q135_81 := q135_80.mv e81 rfl
  have q136_81 : At b81 136 (.agg #[.int .i64 1, .int .i64 2, .string ⟨#[97]⟩, .string ⟨#[120]⟩, .int .i64 3]) := e81 ▸ At.eq (by rw [z80]; decide)
  have z81 : b81.tmps.size = 151 := (e81 ▸ size_put _ _ _).trans z80
  have df81 : b81.defers = [] := by rw [e81]; exact df80
  clear q12_80 q135_80 q1_80
  clear e81 z80 df80
  refine stepC 81 (o := ⟨some 137, Op.call { callee := Callee.value (Operand.func 15), args := #[Operand.tmp 136], argTypes := #[23] }, 9, "law.go:20", #[⟨80, Ground.data⟩, ⟨79, Ground.chain⟩, ⟨79, Ground.guard⟩], some (79, true)⟩) (d := 137) (listed' := #[true, true, true, true, true, true, true, true, true, true, true, true, true, true, true, true, true, true, true, true, true, true, true, true, true, true, true, true, true, true, true, true, true, true, true, true, true, true, true, true, true, true, true, true, true, true, true, true, true, true, true, true, true, true, true, true, true, true, true, true, true, true, true, true, true, true, true, true, true, true, true, true, true, true, true, true, true, true, true, true, true, true, false, false, false, false, false, false, false, false, false, false, false, false, false, false]) (by rw [hO]; rfl) rfl (by rw [hO]; kernel_rfl) (by kernel_rfl) ⟨135, by rw [hO]; rfl, q135_81⟩ (rn_c15 q136_81 _) ?_
  refine C.mono ?_
  clear C
  rintro e w10 ⟨rfl, s10, C⟩
  refine ⟨_, rfl, s10, ?_⟩
  intro b82 e82
  have q12_82 := q12_81.mv e82 rfl
  have q135_82 := q135_81.mv e82 rfl
  have q137_82 : At b82 137 (.string ⟨#[49, 58, 50, 32, 97, 32, 49, 32, 51]⟩) := e82 ▸ At.eq (by rw [z81]; decide)
  have z82 : b82.tmps.size = 151 := (e82 ▸ size_put _ _ _).trans z81
  have df82 : b82.defers = [] := by rw [e82]; exact df81
  clear q12_81 q135_81 q136_81
  clear e82 z81 df81
  exact regF5 hO hns hQ z82 df82 q12_82 q135_82 q137_82 s10 C

set_option maxHeartbeats 4000000 in
theorem regF3 {Q : Exit → Act → World → Prop} {ops : Array Oper} {a : Act} {w6 : World} {R X cap : Nat} {av : Option Addr} (hO : ops = litF) (hns : Region.noSelect ops = true)
    (hQ : ∀ c a w (d : Nat) v, Q (.panic c) (a.put (some d) v) w → Q (.panic c) a w) (sz : a.tmps.size = 151) (df : a.defers = [])
    (q1_64 : At a 1 (.pointer (some ⟨R, 0, none⟩)))
    (q12_64 : At a 12 (.slice av 2 cap))
    (q117_64 : At a 117 (.bool true))
    (q119_64 : At a 119 (.agg #[.int .i64 1, .int .i64 2, .string ⟨#[97]⟩, .string ⟨#[120]⟩, .int .i64 0]))
    (s6 : FCells R X w6)
    (C : Calls Tryd.prog 17 #[.agg #[.int .i64 1, .int .i64 2, .string ⟨#[97]⟩, .string ⟨#[120]⟩, .int .i64 3], .int .i64 (-1)] w6 fun e w7 => e = .returned (.agg #[.int .i64 1, .int .i64 2, .string ⟨#[97]⟩, .string ⟨#[120]⟩, .int .i64 3]) ∧ FCells R X w7 ∧
      Calls Tryd.prog 17 #[.agg #[.int .i64 1, .int .i64 2, .string ⟨#[97]⟩, .string ⟨#[120]⟩, .int .i64 3], .int .i64 1] w7 fun e w8 => e = .returned (.agg #[.int .i64 1, .int .i64 2, .string ⟨#[97]⟩, .string ⟨#[120]⟩, .int .i64 2]) ∧ FCells R X w8 ∧
      Calls Tryd.prog 19 #[.agg #[.int .i64 1, .int .i64 2, .string ⟨#[97]⟩, .string ⟨#[120]⟩, .int .i64 3], .agg #[.int .i64 1, .int .i64 2, .string ⟨#[97]⟩, .string ⟨#[120]⟩, .int .i64 2]] w8 fun e w9 => e = .returned (.bool true) ∧ FCells R X w9 ∧
      Calls Tryd.prog 15 #[.agg #[.int .i64 1, .int .i64 2, .string ⟨#[97]⟩, .string ⟨#[120]⟩, .int .i64 3]] w9 fun e w10 => e = .returned (.string ⟨#[49, 58, 50, 32, 97, 32, 49, 32, 51]⟩) ∧ FCells R X w10 ∧
      Calls Tryd.prog 29 #[.slice av 2 cap] w10 fun e w11 => e = .returned (.string ⟨#[2, 0, 5, 3, 1]⟩) ∧ FCells R X w11 ∧
      Calls Tryd.prog 27 #[.slice (some ⟨w11.heap.size, 0, none⟩) 1 1] (w11.alloc (.cells #[.int .i64 0, .int .i64 0] 59)) fun e w13 => e = .returned (.bool false) ∧ FCells R X w13 ∧
      ∀ a', At a' 0 (.bool true) → a'.defers = [] → Q .normal a' w13) : wpAnyH Tryd.prog .any ops Q (FCells R X) 32 #[true, true, true, true, true, true, true, true, true, true, true, true, true, true, true, true, true, true, true, true, true, true, true, true, true, true, true, true, true, true, true, true, true, true, true, true, true, true, true, true, true, true, true, true, true, true, true, true, true, true, true, true, true, true, true, true, true, true, true, true, true, true, true, true, false, false, false, false, false, false, false, false, false, false, false, false, false, false, false, false, false, false, false, false, false, false, false, false, false, false, false, false, false, false, false, false] a w6 := by
  refine stepV 64 (o := ⟨some 120, Op.field 23 (Operand.tmp 119) 4, 3, "law.go:20", #[⟨63, Ground.data⟩, ⟨61, Ground.guard⟩], some (61, true)⟩) (v := .int .i64 0) (d := 120) (listed' := #[true, true, true, true, true, true, true, true, true, true, true, true, true, true, true, true, true, true, true, true, true, true, true, true, true, true, true, true, true, true, true, true, true, true, true, true, true, true, true, true, true, true, true, true, true, true, true, true, true, true, true, true, true, true, true, true, true, true, true, true, true, true, true, true, true, false, false, false, false, false, false, false, false, false, false, false, false, false, false, false, false, false, false, false, false, false, false, false, false, false, false, false, false, false, false, false]) (by rw [hO]; rfl) rfl hns (by rw [hO]; kernel_rfl) (by rw [hO]; kernel_rfl) (by kernel_rfl) hQ ⟨117, by rw [hO]; rfl, q117_64⟩ s6 (fun w _ => rn_f4 q119_64 w) ?_
  intro b65 e65
  have q1_65 := q1_64.mv e65 rfl
  have q12_65 := q12_64.mv e65 rfl
  have q117_65 := q117_64.mv e65 rfl
  have q120_65 : At b65 120 (.int .i64 0) := e65 ▸ At.eq (by rw [sz]; decide)
  have z65 : b65.tmps.size = 151 := (e65 ▸ size_put _ _ _).trans sz
  have df65 : b65.defers = [] := by rw [e65]; exact df
  clear q117_64 q119_64 q12_64 q1_64
  clear e65
  refine stepV 65 (o := ⟨some 121, Op.binOp BinOp.eql 3 (Operand.tmp 120) (Operand.const (Value.int IntKind.i64 0)) 3, 4, "law.go:20", #[⟨64, Ground.data⟩, ⟨61, Ground.guard⟩], some (61, true)⟩) (v := .bool true) (d := 121) (listed' := #[true, true, true, true, true, true, true, true, true, true, true, true, true, true, true, true, true, true, true, true, true, true, true, true, true, true, true, true, true, true, true, true, true, true, true, true, true, true, true, true, true, true, true, true, true, true, true, true, true, true, true, true, true, true, true, true, true, true, true, true, true, true, true, true, true, true, false, false, false, false, false, false, false, false, false, false, false, false, false, false, false, false, false, false, false, false, false, false, false, false, false, false, false, false, false, false]) (by rw [hO]; rfl) rfl hns (by rw [hO]; kernel_rfl) (by rw [hO]; kernel_rfl) (by kernel_rfl) hQ ⟨117, by rw [hO]; rfl, q117_65⟩ s6 (fun w _ => rn_eq3 q120_65 w) ?_
  intro b66 e66
  have q1_66 := q1_65.mv e66 rfl
  have q12_66 := q12_65.mv e66 rfl
  have q117_66 := q117_65.mv e66 rfl
  have q121_66 : At b66 121 (.bool true) := e66 ▸ At.eq (by rw [z65]; decide)
  have z66 : b66.tmps.size = 151 := (e66 ▸ size_put _ _ _).trans z65
  have df66 : b66.defers = [] := by rw [e66]; exact df65
  clear q117_65 q120_65 q12_65 q1_65
  clear e66 z65 df65
  refine stepV 66 (o := ⟨some 122, Op.pick (Operand.tmp 117) (Operand.tmp 121) (Operand.const (Value.bool false)), 4, "law.go:20", #[⟨61, Ground.data⟩, ⟨65, Ground.data⟩], none⟩) (v := .bool true) (d := 122) (listed' := #[true, true, true, true, true, true, true, true, true, true, true, true, true, true, true, true, true, true, true, true, true, true, true, true, true, true, true, true, true, true, true, true, true, true, true, true, true, true, true, true, true, true, true, true, true, true, true, true, true, true, true, true, true, true, true, true, true, true, true, true, true, true, true, true, true, true, true, false, false, false, false, false, false, false, false, false, false, false, false, false, false, false, false, false, false, false, false, false, false, false, false, false, false, false, false, false]) (by rw [hO]; rfl) rfl hns (by rw [hO]; kernel_rfl) (by rw [hO]; kernel_rfl) (by kernel_rfl) hQ trivial s6 (fun w _ => rn_pk q117_66 q121_66 w) ?_
  intro b67 e67
  have q1_67 := q1_66.mv e67 rfl
  have q12_67 := q12_66.mv e67 rfl
  have q122_67 : At b67 122 (.bool true) := e67 ▸ At.eq (by rw [z66]; decide)
  have z67 : b67.tmps.size = 151 := (e67 ▸ size_put _ _ _).trans z66
  have df67 : b67.defers = [] := by rw [e67]; exact df66
  clear q117_66 q121_66 q12_66 q1_66
  clear e67 z66 df66
  refine stepV 67 (o := ⟨some 123, Op.move (Operand.tmp 122), 4, "law.go:20", #[⟨66, Ground.data⟩, ⟨63, Ground.chain⟩], none⟩) (v := .bool true) (d := 123) (listed' := #[true, true, true, true, true, true, true, true, true, true, true, true, true, true, true, true, true, true, true, true, true, true, true, true, true, true, true, true, true, true, true, true, true, true, true, true, true, true, true, true, true, true, true, true, true, true, true, true, true, true, true, true, true, true, true, true, true, true, true, true, true, true, true, true, true, true, true, true, false, false, false, false, false, false, false, false, false, false, false, false, false, false, false, false, false, false, false, false, false, false, false, false, false, false, false, false]) (by rw [hO]; rfl) rfl hns (by rw [hO]; kernel_rfl) (by rw [hO]; kernel_rfl) (by kernel_rfl) hQ trivial s6 (fun w _ => rn_move q122_67 rfl w) ?_
  intro b68 e68
  have q1_68 := q1_67.mv e68 rfl
  have q12_68 := q12_67.mv e68 rfl
  have q123_68 : At b68 123 (.bool true) := e68 ▸ At.eq (by rw [z67]; decide)
  have z68 : b68.tmps.size = 151 := (e68 ▸ size_put _ _ _).trans z67
  have df68 : b68.defers = [] := by rw [e68]; exact df67
  clear q122_67 q12_67 q1_67
  clear e68 z67 df67
  refine stepV 68 (o := ⟨some 124, Op.load 23 (Operand.tmp 1), 23, "law.go:20", #[⟨67, Ground.guard⟩], some (67, true)⟩) (v := .agg #[.int .i64 1, .int .i64 2, .string ⟨#[97]⟩, .string ⟨#[120]⟩, .int .i64 3]) (d := 124) (listed' := #[true, true, true, true, true, true, true, true, true, true, true, true, true, true, true, true, true, true, true, true, true, true, true, true, true, true, true, true, true, true, true, true, true, true, true, true, true, true, true, true, true, true, true, true, true, true, true, true, true, true, true, true, true, true, true, true, true, true, true, true, true, true, true, true, true, true, true, true, true, false, false, false, false, false, false, false, false, false, false, false, false, false, false, false, false, false, false, false, false, false, false, false, false, false, false, false]) (by rw [hO]; rfl) rfl hns (by rw [hO]; kernel_rfl) (by rw [hO]; kernel_rfl) (by kernel_rfl) hQ ⟨123, by rw [hO]; rfl, q123_68⟩ s6 (fun w hs => rn_ld q1_68 w hs.1) ?_
  intro b69 e69
  have q1_69 := q1_68.mv e69 rfl
  have q12_69 := q12_68.mv e69 rfl
  have q123_69 := q123_68.mv e69 rfl
  have q124_69 : At b69 124 (.agg #[.int .i64 1, .int .i64 2, .string ⟨#[97]⟩, .string ⟨#[120]⟩, .int .i64 3]) := e69 ▸ At.eq (by rw [z68]; decide)
  have z69 : b69.tmps.size = 151 := (e69 ▸ size_put _ _ _).trans z68
  have df69 : b69.defers = [] := by rw [e69]; exact df68
  clear q123_68 q12_68 q1_68
  clear e69 z68 df68
  refine stepV 70 (o := ⟨some 126, Op.load 23 (Operand.tmp 1), 23, "law.go:20", #[⟨67, Ground.guard⟩], some (67, true)⟩) (v := .agg #[.int .i64 1, .int .i64 2, .string ⟨#[97]⟩, .string ⟨#[120]⟩, .int .i64 3]) (d := 126) (listed' := #[true, true, true, true, true, true, true, true, true, true, true, true, true, true, true, true, true, true, true, true, true, true, true, true, true, true, true, true, true, true, true, true, true, true, true, true, true, true, true, true, true, true, true, true, true, true, true, true, true, true, true, true, true, true, true, true, true, true, true, true, true, true, true, true, true, true, true, true, true, false, true, false, false, false, false, false, false, false, false, false, false, false, false, false, false, false, false, false, false, false, false, false, false, false, false, false]) (by rw [hO]; rfl) rfl hns (by rw [hO]; kernel_rfl) (by rw [hO]; kernel_rfl) (by kernel_rfl) hQ ⟨123, by rw [hO]; rfl, q123_69⟩ s6 (fun w hs => rn_ld q1_69 w hs.1) ?_
  intro b70 e70
  have q1_70 := q1_69.mv e70 rfl
  have q12_70 := q12_69.mv e70 rfl
  have q123_70 := q123_69.mv e70 rfl
  have q124_70 := q124_69.mv e70 rfl
  have q126_70 : At b70 126 (.agg #[.int .i64 1, .int .i64 2, .string ⟨#[97]⟩, .string ⟨#[120]⟩, .int .i64 3]) := e70 ▸ At.eq (by rw [z69]; decide)
  have z70 : b70.tmps.size = 151 := (e70 ▸ size_put _ _ _).trans z69
  have df70 : b70.defers = [] := by rw [e70]; exact df69
  clear q123_69 q124_69 q12_69 q1_69
  clear e70 z69 df69
  refine stepC 69 (o := ⟨some 125, Op.call { callee := Callee.value (Operand.func 17), args := #[Operand.tmp 124, Operand.const (Value.int IntKind.i64 (-1))], argTypes := #[23, 3] }, 23, "law.go:20", #[⟨68, Ground.data⟩, ⟨67, Ground.chain⟩, ⟨67, Ground.guard⟩], some (67, true)⟩) (d := 125) (listed' := #[true, true, true, true, true, true, true, true, true, true, true, true, true, true, true, true, true, true, true, true, true, true, true, true, true, true, true, true, true, true, true, true, true, true, true, true, true, true, true, true, true, true, true, true, true, true, true, true, true, true, true, true, true, true, true, true, true, true, true, true, true, true, true, true, true, true, true, true, true, true, true, false, false, false, false, false, false, false, false, false, false, false, false, false, false, false, false, false, false, false, false, false, false, false, false, false]) (by rw [hO]; rfl) rfl (by rw [hO]; kernel_rfl) (by kernel_rfl) ⟨123, by rw [hO]; rfl, q123_70⟩ (rn_c17k q124_70 _) ?_
  refine C.mono ?_
  clear C
  rintro e w7 ⟨rfl, s7, C⟩
  refine ⟨_, rfl, s7, ?_⟩
  intro b71 e71
  have q1_71 := q1_70.mv e71 rfl
  have q12_71 := q12_70.mv e71 rfl
  have q123_71 := q123_70.mv e71 rfl
  have q126_71 := q126_70.mv e71 rfl
  have q125_71 : At b71 125 (.agg #[.int .i64 1, .int .i64 2, .string ⟨#[97]⟩, .string ⟨#[120]⟩, .int .i64 3]) := e71 ▸ At.eq (by rw [z70]; decide)
  have z71 : b71.tmps.size = 151 := (e71 ▸ size_put _ _ _).trans z70
  have df71 : b71.defers = [] := by rw [e71]; exact df70
  clear q123_70 q124_70 q126_70 q12_70 q1_70
  clear e71 z70 df70
  refine stepV 71 (o := ⟨some 127, Op.binOp BinOp.eql 23 (Operand.tmp 125) (Operand.tmp 126) 23, 4, "law.go:20", #[⟨69, Ground.data⟩, ⟨70, Ground.data⟩, ⟨67, Ground.guard⟩], some (67, true)⟩) (v := .bool true) (d := 127) (listed' := #[true, true, true, true, true, true, true, true, true, true, true, true, true, true, true, true, true, true, true, true, true, true, true, true, true, true, true, true, true, true, true, true, true, true, true, true, true, true, true, true, true, true, true, true, true, true, true, true, true, true, true, true, true, true, true, true, true, true, true, true, true, true, true, true, true, true, true, true, true, true, true, true, false, false, false, false, false, false, false, false, false, false, false, false, false, false, false, false, false, false, false, false, false, false, false, false]) (by rw [hO]; rfl) rfl hns (by rw [hO]; kernel_rfl) (by rw [hO]; kernel_rfl) (by kernel_rfl) hQ ⟨123, by rw [hO]; rfl, q123_71⟩ s7 (fun w _ => rn_eqE q125_71 q126_71 w) ?_
  intro b72 e72
  have q1_72 := q1_71.mv e72 rfl
  have q12_72 := q12_71.mv e72 rfl
  have q123_72 := q123_71.mv e72 rfl
  have q127_72 : At b72 127 (.bool true) := e72 ▸ At.eq (by rw [z71]; decide)
  have z72 : b72.tmps.size = 151 := (e72 ▸ size_put _ _ _).trans z71
  have df72 : b72.defers = [] := by rw [e72]; exact df71
  clear q123_71 q125_71 q126_71 q12_71 q1_71
  clear e72 z71 df71
  refine stepV 72 (o := ⟨some 128, Op.pick (Operand.tmp 123) (Operand.tmp 127) (Operand.const (Value.bool false)), 4, "law.go:20", #[⟨67, Ground.data⟩, ⟨71, Ground.data⟩], none⟩) (v := .bool true) (d := 128) (listed' := #[true, true, true, true, true, true, true, true, true, true, true, true, true, true, true, true, true, true, true, true, true, true, true, true, true, true, true, true, true, true, true, true, true, true, true, true, true, true, true, true, true, true, true, true, true, true, true, true, true, true, true, true, true, true, true, true, true, true, true, true, true, true, true, true, true, true, true, true, true, true, true, true, true, false, false, false, false, false, false, false, false, false, false, false, false, false, false, false, false, false, false, false, false, false, false, false]) (by rw [hO]; rfl) rfl hns (by rw [hO]; kernel_rfl) (by rw [hO]; kernel_rfl) (by kernel_rfl) hQ trivial s7 (fun w _ => rn_pk q123_72 q127_72 w) ?_
  intro b73 e73
  have q1_73 := q1_72.mv e73 rfl
  have q12_73 := q12_72.mv e73 rfl
  have q128_73 : At b73 128 (.bool true) := e73 ▸ At.eq (by rw [z72]; decide)
  have z73 : b73.tmps.size = 151 := (e73 ▸ size_put _ _ _).trans z72
  have df73 : b73.defers = [] := by rw [e73]; exact df72
  clear q123_72 q127_72 q12_72 q1_72
  clear e73 z72 df72
  refine stepV 73 (o := ⟨some 129, Op.move (Operand.tmp 128), 4, "law.go:20", #[⟨72, Ground.data⟩, ⟨69, Ground.chain⟩], none⟩) (v := .bool true) (d := 129) (listed' := #[true, true, true, true, true, true, true, true, true, true, true, true, true, true, true, true, true, true, true, true, true, true, true, true, true, true, true, true, true, true, true, true, true, true, true, true, true, true, true, true, true, true, true, true, true, true, true, true, true, true, true, true, true, true, true, true, true, true, true, true, true, true, true, true, true, true, true, true, true, true, true, true, true, true, false, false, false, false, false, false, false, false, false, false, false, false, false, false, false, false, false, false, false, false, false, false]) (by rw [hO]; rfl) rfl hns (by rw [hO]; kernel_rfl) (by rw [hO]; kernel_rfl) (by kernel_rfl) hQ trivial s7 (fun w _ => rn_move q128_73 rfl w) ?_
  intro b74 e74
  have q1_74 := q1_73.mv e74 rfl
  have q12_74 := q12_73.mv e74 rfl
  have q129_74 : At b74 129 (.bool true) := e74 ▸ At.eq (by rw [z73]; decide)
  have z74 : b74.tmps.size = 151 := (e74 ▸ size_put _ _ _).trans z73
  have df74 : b74.defers = [] := by rw [e74]; exact df73
  clear q128_73 q12_73 q1_73
  clear e74 z73 df73
  refine stepV 74 (o := ⟨some 130, Op.load 23 (Operand.tmp 1), 23, "law.go:20", #[⟨73, Ground.guard⟩], some (73, true)⟩) (v := .agg #[.int .i64 1, .int .i64 2, .string ⟨#[97]⟩, .string ⟨#[120]⟩, .int .i64 3]) (d := 130) (listed' := #[true, true, true, true, true, true, true, true, true, true, true, true, true, true, true, true, true, true, true, true, true, true, true, true, true, true, true, true, true, true, true, true, true, true, true, true, true, true, true, true, true, true, true, true, true, true, true, true, true, true, true, true, true, true, true, true, true, true, true, true, true, true, true, true, true, true, true, true, true, true, true, true, true, true, true, false, false, false, false, false, false, false, false, false, false, false, false, false, false, false, false, false, false, false, false, false]) (by rw [hO]; rfl) rfl hns (by rw [hO]; kernel_rfl) (by rw [hO]; kernel_rfl) (by kernel_rfl) hQ ⟨129, by rw [hO]; rfl, q129_74⟩ s7 (fun w hs => rn_ld q1_74 w hs.1) ?_
  intro b75 e75
  have q1_75 := q1_74.mv e75 rfl
  have q12_75 := q12_74.mv e75 rfl
  have q129_75 := q129_74.mv e75 rfl
  have q130_75 : At b75 130 (.agg #[.int .i64 1, .int .i64 2, .string ⟨#[97]⟩, .string ⟨#[120]⟩, .int .i64 3]) := e75 ▸ At.eq (by rw [z74]; decide)
  have z75 : b75.tmps.size = 151 := (e75 ▸ size_put _ _ _).trans z74
  have df75 : b75.defers = [] := by rw [e75]; exact df74
  clear q129_74 q12_74 q1_74
  clear e75 z74 df74
  refine stepV 75 (o := ⟨some 131, Op.load 23 (Operand.tmp 1), 23, "law.go:20", #[⟨73, Ground.guard⟩], some (73, true)⟩) (v := .agg #[.int .i64 1, .int .i64 2, .string ⟨#[97]⟩, .string ⟨#[120]⟩, .int .i64 3]) (d := 131) (listed' := #[true, true, true, true, true, true, true, true, true, true, true, true, true, true, true, true, true, true, true, true, true, true, true, true, true, true, true, true, true, true, true, true, true, true, true, true, true, true, true, true, true, true, true, true, true, true, true, true, true, true, true, true, true, true, true, true, true, true, true, true, true, true, true, true, true, true, true, true, true, true, true, true, true, true, true, true, false, false, false, false, false, false, false, false, false, false, false, false, false, false, false, false, false, false, false, false]) (by rw [hO]; rfl) rfl hns (by rw [hO]; kernel_rfl) (by rw [hO]; kernel_rfl) (by kernel_rfl) hQ ⟨129, by rw [hO]; rfl, q129_75⟩ s7 (fun w hs => rn_ld q1_75 w hs.1) ?_
  intro b76 e76
  have q1_76 := q1_75.mv e76 rfl
  have q12_76 := q12_75.mv e76 rfl
  have q129_76 := q129_75.mv e76 rfl
  have q130_76 := q130_75.mv e76 rfl
  have q131_76 : At b76 131 (.agg #[.int .i64 1, .int .i64 2, .string ⟨#[97]⟩, .string ⟨#[120]⟩, .int .i64 3]) := e76 ▸ At.eq (by rw [z75]; decide)
  have z76 : b76.tmps.size = 151 := (e76 ▸ size_put _ _ _).trans z75
  have df76 : b76.defers = [] := by rw [e76]; exact df75
  clear q129_75 q12_75 q130_75 q1_75
  clear e76 z75 df75
  refine stepC 76 (o := ⟨some 132, Op.call { callee := Callee.value (Operand.func 17), args := #[Operand.tmp 131, Operand.const (Value.int IntKind.i64 1)], argTypes := #[23, 3] }, 23, "law.go:20", #[⟨75, Ground.data⟩, ⟨73, Ground.chain⟩, ⟨73, Ground.guard⟩], some (73, true)⟩) (d := 132) (listed' := #[true, true, true, true, true, true, true, true, true, true, true, true, true, true, true, true, true, true, true, true, true, true, true, true, true, true, true, true, true, true, true, true, true, true, true, true, true, true, true, true, true, true, true, true, true, true, true, true, true, true, true, true, true, true, true, true, true, true, true, true, true, true, true, true, true, true, true, true, true, true, true, true, true, true, true, true, true, false, false, false, false, false, false, false, false, false, false, false, false, false, false, false, false, false, false, false]) (by rw [hO]; rfl) rfl (by rw [hO]; kernel_rfl) (by kernel_rfl) ⟨129, by rw [hO]; rfl, q129_76⟩ (rn_c17k q131_76 _) ?_
  refine C.mono ?_
  clear C
  rintro e w8 ⟨rfl, s8, C⟩
  refine ⟨_, rfl, s8, ?_⟩
  intro b77 e77
  have q1_77 := q1_76.mv e77 rfl
  have q12_77 := q12_76.mv e77 rfl
  have q129_77 := q129_76.mv e77 rfl
  have q130_77 := q130_76.mv e77 rfl
  have q132_77 : At b77 132 (.agg #[.int .i64 1, .int .i64 2, .string ⟨#[97]⟩, .string ⟨#[120]⟩, .int .i64 2]) := e77 ▸ At.eq (by rw [z76]; decide)
  have z77 : b77.tmps.size = 151 := (e77 ▸ size_put _ _ _).trans z76
  have df77 : b77.defers = [] := by rw [e77]; exact df76
  clear q129_76 q12_76 q130_76 q131_76 q1_76
  clear e77 z76 df76
  exact regF4 hO hns hQ z77 df77 q1_77 q12_77 q129_77 q130_77 q132_77 s8 C

set_option maxHeartbeats 4000000 in
theorem regF2 {Q : Exit → Act → World → Prop} {ops : Array Oper} {a : Act} {w4 : World} {R X cap : Nat} {av : Option Addr} (hO : ops = litF) (hns : Region.noSelect ops = true)
    (hQ : ∀ c a w (d : Nat) v, Q (.panic c) (a.put (some d) v) w → Q (.panic c) a w) (sz : a.tmps.size = 151) (df : a.defers = [])
    (q1_53 : At a 1 (.pointer (some ⟨R, 0, none⟩)))
    (q12_53 : At a 12 (.slice av 2 cap))
    (q106_53 : At a 106 (.bool true))
    (q108_53 : At a 108 (.bool false))
    (s4 : FCells R X w4)
    (C : Calls Tryd.prog 17 #[.agg #[.int .i64 1, .int .i64 2, .string ⟨#[97]⟩, .string ⟨#[120]⟩, .int .i64 3], .int .i64 2] w4 fun e w5 => e = .returned (.agg #[.int .i64 1, .int .i64 2, .string ⟨#[97]⟩, .string ⟨#[120]⟩, .int .i64 1]) ∧ FCells R X w5 ∧
      Calls Tryd.prog 17 #[.agg #[.int .i64 1, .int .i64 2, .string ⟨#[97]⟩, .string ⟨#[120]⟩, .int .i64 3], .int .i64 9] w5 fun e w6 => e = .returned (.agg #[.int .i64 1, .int .i64 2, .string ⟨#[97]⟩, .string ⟨#[120]⟩, .int .i64 0]) ∧ FCells R X w6 ∧
      Calls Tryd.prog 17 #[.agg #[.int .i64 1, .int .i64 2, .string ⟨#[97]⟩, .string ⟨#[120]⟩, .int .i64 3], .int .i64 (-1)] w6 fun e w7 => e = .returned (.agg #[.int .i64 1, .int .i64 2, .string ⟨#[97]⟩, .string ⟨#[120]⟩, .int .i64 3]) ∧ FCells R X w7 ∧
      Calls Tryd.prog 17 #[.agg #[.int .i64 1, .int .i64 2, .string ⟨#[97]⟩, .string ⟨#[120]⟩, .int .i64 3], .int .i64 1] w7 fun e w8 => e = .returned (.agg #[.int .i64 1, .int .i64 2, .string ⟨#[97]⟩, .string ⟨#[120]⟩, .int .i64 2]) ∧ FCells R X w8 ∧
      Calls Tryd.prog 19 #[.agg #[.int .i64 1, .int .i64 2, .string ⟨#[97]⟩, .string ⟨#[120]⟩, .int .i64 3], .agg #[.int .i64 1, .int .i64 2, .string ⟨#[97]⟩, .string ⟨#[120]⟩, .int .i64 2]] w8 fun e w9 => e = .returned (.bool true) ∧ FCells R X w9 ∧
      Calls Tryd.prog 15 #[.agg #[.int .i64 1, .int .i64 2, .string ⟨#[97]⟩, .string ⟨#[120]⟩, .int .i64 3]] w9 fun e w10 => e = .returned (.string ⟨#[49, 58, 50, 32, 97, 32, 49, 32, 51]⟩) ∧ FCells R X w10 ∧
      Calls Tryd.prog 29 #[.slice av 2 cap] w10 fun e w11 => e = .returned (.string ⟨#[2, 0, 5, 3, 1]⟩) ∧ FCells R X w11 ∧
      Calls Tryd.prog 27 #[.slice (some ⟨w11.heap.size, 0, none⟩) 1 1] (w11.alloc (.cells #[.int .i64 0, .int .i64 0] 59)) fun e w13 => e = .returned (.bool false) ∧ FCells R X w13 ∧
      ∀ a', At a' 0 (.bool true) → a'.defers = [] → Q .normal a' w13) : wpAnyH Tryd.prog .any ops Q (FCells R X) 43 #[true, true, true, true, true, true, true, true, true, true, true, true, true, true, true, true, true, true, true, true, true, true, true, true, true, true, true, true, true, true, true, true, true, true, true, true, true, true, true, true, true, true, true, true, true, true, true, true, true, true, true, true, true, false, false, false, false, false, false, false, false, false, false, false, false, false, false, false, false, false, false, false, false, false, false, false, false, false, false, false, false, false, false, false, false, false, false, false, false, false, false, false, false, false, false, false] a w4 := by
  refine stepV 53 (o := ⟨some 109, Op.unOp UnOp.not 4 (Operand.tmp 108), 4, "law.go:20", #[⟨52, Ground.data⟩, ⟨50, Ground.guard⟩], some (50, true)⟩) (v := .bool true) (d := 109) (listed' := #[true, true, true, true, true, true, true, true, true, true, true, true, true, true, true, true, true, true, true, true, true, true, true, true, true, true, true, true, true, true, true, true, true, true, true, true, true, true, true, true, true, true, true, true, true, true, true, true, true, true, true, true, true, true, false, false, false, false, false, false, false, false, false, false, false, false, false, false, false, false, false, false, false, false, false, false, false, false, false, false, false, false, false, false, false, false, false, false, false, false, false, false, false, false, false, false]) (by rw [hO]; rfl) rfl hns (by rw [hO]; kernel_rfl) (by rw [hO]; kernel_rfl) (by kernel_rfl) hQ ⟨106, by rw [hO]; rfl, q106_53⟩ s4 (fun w _ => rn_not q108_53 w) ?_
  intro b54 e54
  have q1_54 := q1_53.mv e54 rfl
  have q12_54 := q12_53.mv e54 rfl
  have q106_54 := q106_53.mv e54 rfl
  have q109_54 : At b54 109 (.bool true) := e54 ▸ At.eq (by rw [sz]; decide)
  have z54 : b54.tmps.size = 151 := (e54 ▸ size_put _ _ _).trans sz
  have df54 : b54.defers = [] := by rw [e54]; exact df
  clear q106_53 q108_53 q12_53 q1_53
  clear e54
  refine stepV 54 (o := ⟨some 110, Op.pick (Operand.tmp 106) (Operand.tmp 109) (Operand.const (Value.bool false)), 4, "law.go:20", #[⟨50, Ground.data⟩, ⟨53, Ground.data⟩], none⟩) (v := .bool true) (d := 110) (listed' := #[true, true, true, true, true, true, true, true, true, true, true, true, true, true, true, true, true, true, true, true, true, true, true, true, true, true, true, true, true, true, true, true, true, true, true, true, true, true, true, true, true, true, true, true, true, true, true, true, true, true, true, true, true, true, true, false, false, false, false, false, false, false, false, false, false, false, false, false, false, false, false, false, false, false, false, false, false, false, false, false, false, false, false, false, false, false, false, false, false, false, false, false, false, false, false, false]) (by rw [hO]; rfl) rfl hns (by rw [hO]; kernel_rfl) (by rw [hO]; kernel_rfl) (by kernel_rfl) hQ trivial s4 (fun w _ => rn_pk q106_54 q109_54 w) ?_
  intro b55 e55
  have q1_55 := q1_54.mv e55 rfl
  have q12_55 := q12_54.mv e55 rfl
  have q110_55 : At b55 110 (.bool true) := e55 ▸ At.eq (by rw [z54]; decide)
  have z55 : b55.tmps.size = 151 := (e55 ▸ size_put _ _ _).trans z54
  have df55 : b55.defers = [] := by rw [e55]; exact df54
  clear q106_54 q109_54 q12_54 q1_54
  clear e55 z54 df54
  refine stepV 55 (o := ⟨some 111, Op.move (Operand.tmp 110), 4, "law.go:20", #[⟨54, Ground.data⟩, ⟨52, Ground.chain⟩], none⟩) (v := .bool true) (d := 111) (listed' := #[true, true, true, true, true, true, true, true, true, true, true, true, true, true, true, true, true, true, true, true, true, true, true, true, true, true, true, true, true, true, true, true, true, true, true, true, true, true, true, true, true, true, true, true, true, true, true, true, true, true, true, true, true, true, true, true, false, false, false, false, false, false, false, false, false, false, false, false, false, false, false, false, false, false, false, false, false, false, false, false, false, false, false, false, false, false, false, false, false, false, false, false, false, false, false, false]) (by rw [hO]; rfl) rfl hns (by rw [hO]; kernel_rfl) (by rw [hO]; kernel_rfl) (by kernel_rfl) hQ trivial s4 (fun w _ => rn_move q110_55 rfl w) ?_
  intro b56 e56
  have q1_56 := q1_55.mv e56 rfl
  have q12_56 := q12_55.mv e56 rfl
  have q111_56 : At b56 111 (.bool true) := e56 ▸ At.eq (by rw [z55]; decide)
  have z56 : b56.tmps.size = 151 := (e56 ▸ size_put _ _ _).trans z55
  have df56 : b56.defers = [] := by rw [e56]; exact df55
  clear q110_55 q12_55 q1_55
  clear e56 z55 df55
  refine stepV 56 (o := ⟨some 112, Op.load 23 (Operand.tmp 1), 23, "law.go:20", #[⟨55, Ground.guard⟩], some (55, true)⟩) (v := .agg #[.int .i64 1, .int .i64 2, .string ⟨#[97]⟩, .string ⟨#[120]⟩, .int .i64 3]) (d := 112) (listed' := #[true, true, true, true, true, true, true, true, true, true, true, true, true, true, true, true, true, true, true, true, true, true, true, true, true, true, true, true, true, true, true, true, true, true, true, true, true, true, true, true, true, true, true, true, true, true, true, true, true, true, true, true, true, true, true, true, true, false, false, false, false, false, false, false, false, false, false, false, false, false, false, false, false, false, false, false, false, false, false, false, false, false, false, false, false, false, false, false, false, false, false, false, false, false, false, false]) (by rw [hO]; rfl) rfl hns (by rw [hO]; kernel_rfl) (by rw [hO]; kernel_rfl) (by kernel_rfl) hQ ⟨111, by rw [hO]; rfl, q111_56⟩ s4 (fun w hs => rn_ld q1_56 w hs.1) ?_
  intro b57 e57
  have q1_57 := q1_56.mv e57 rfl
  have q12_57 := q12_56.mv e57 rfl
  have q111_57 := q111_56.mv e57 rfl
  have q112_57 : At b57 112 (.agg #[.int .i64 1, .int .i64 2, .string ⟨#[97]⟩, .string ⟨#[120]⟩, .int .i64 3]) := e57 ▸ At.eq (by rw [z56]; decide)
  have z57 : b57.tmps.size = 151 := (e57 ▸ size_put _ _ _).trans z56
  have df57 : b57.defers = [] := by rw [e57]; exact df56
  clear q111_56 q12_56 q1_56
  clear e57 z56 df56
  refine stepC 57 (o := ⟨some 113, Op.call { callee := Callee.value (Operand.func 17), args := #[Operand.tmp 112, Operand.const (Value.int IntKind.i64 2)], argTypes := #[23, 3] }, 23, "law.go:20", #[⟨56, Ground.data⟩, ⟨55, Ground.chain⟩, ⟨55, Ground.guard⟩], some (55, true)⟩) (d := 113) (listed' := #[true, true, true, true, true, true, true, true, true, true, true, true, true, true, true, true, true, true, true, true, true, true, true, true, true, true, true, true, true, true, true, true, true, true, true, true, true, true, true, true, true, true, true, true, true, true, true, true, true, true, true, true, true, true, true, true, true, true, false, false, false, false, false, false, false, false, false, false, false, false, false, false, false, false, false, false, false, false, false, false, false, false, false, false, false, false, false, false, false, false, false, false, false, false, false, false]) (by rw [hO]; rfl) rfl (by rw [hO]; kernel_rfl) (by kernel_rfl) ⟨111, by rw [hO]; rfl, q111_57⟩ (rn_c17k q112_57 _) ?_
  refine C.mono ?_
  clear C
  rintro e w5 ⟨rfl, s5, C⟩
  refine ⟨_, rfl, s5, ?_⟩
  intro b58 e58
  have q1_58 := q1_57.mv e58 rfl
  have q12_58 := q12_57.mv e58 rfl
  have q111_58 := q111_57.mv e58 rfl
  have q113_58 : At b58 113 (.agg #[.int .i64 1, .int .i64 2, .string ⟨#[97]⟩, .string ⟨#[120]⟩, .int .i64 1]) := e58 ▸ At.eq (by rw [z57]; decide)
  have z58 : b58.tmps.size = 151 := (e58 ▸ size_put _ _ _).trans z57
  have df58 : b58.defers = [] := by rw [e58]; exact df57
  clear q111_57 q112_57 q12_57 q1_57
  clear e58 z57 df57
  refine stepV 58 (o := ⟨some 114, Op.field 23 (Operand.tmp 113) 4, 3, "law.go:20", #[⟨57, Ground.data⟩, ⟨55, Ground.guard⟩], some (55, true)⟩) (v := .int .i64 1) (d := 114) (listed' := #[true, true, true, true, true, true, true, true, true, true, true, true, true, true, true, true, true, true, true, true, true, true, true, true, true, true, true, true, true, true, true, true, true, true, true, true, true, true, true, true, true, true, true, true, true, true, true, true, true, true, true, true, true, true, true, true, true, true, true, false, false, false, false, false, false, false, false, false, false, false, false, false, false, false, false, false, false, false, false, false, false, false, false, false, false, false, false, false, false, false, false, false, false, false, false, false]) (by rw [hO]; rfl) rfl hns (by rw [hO]; kernel_rfl) (by rw [hO]; kernel_rfl) (by kernel_rfl) hQ ⟨111, by rw [hO]; rfl, q111_58⟩ s5 (fun w _ => rn_f4 q113_58 w) ?_
  intro b59 e59
  have q1_59 := q1_58.mv e59 rfl
  have q12_59 := q12_58.mv e59 rfl
  have q111_59 := q111_58.mv e59 rfl
  have q114_59 : At b59 114 (.int .i64 1) := e59 ▸ At.eq (by rw [z58]; decide)
  have z59 : b59.tmps.size = 151 := (e59 ▸ size_put _ _ _).trans z58
  have df59 : b59.defers = [] := by rw [e59]; exact df58
  clear q111_58 q113_58 q12_58 q1_58
  clear e59 z58 df58
  refine stepV 59 (o := ⟨some 115, Op.binOp BinOp.eql 3 (Operand.tmp 114) (Operand.const (Value.int IntKind.i64 1)) 3, 4, "law.go:20", #[⟨58, Ground.data⟩, ⟨55, Ground.guard⟩], some (55, true)⟩) (v := .bool true) (d := 115) (listed' := #[true, true, true, true, true, true, true, true, true, true, true, true, true, true, true, true, true, true, true, true, true, true, true, true, true, true, true, true, true, true, true, true, true, true, true, true, true, true, true, true, true, true, true, true, true, true, true, true, true, true, true, true, true, true, true, true, true, true, true, true, false, false, false, false, false, false, false, false, false, false, false, false, false, false, false, false, false, false, false, false, false, false, false, false, false, false, false, false, false, false, false, false, false, false, false, false]) (by rw [hO]; rfl) rfl hns (by rw [hO]; kernel_rfl) (by rw [hO]; kernel_rfl) (by kernel_rfl) hQ ⟨111, by rw [hO]; rfl, q111_59⟩ s5 (fun w _ => rn_eq3 q114_59 w) ?_
  intro b60 e60
  have q1_60 := q1_59.mv e60 rfl
  have q12_60 := q12_59.mv e60 rfl
  have q111_60 := q111_59.mv e60 rfl
  have q115_60 : At b60 115 (.bool true) := e60 ▸ At.eq (by rw [z59]; decide)
  have z60 : b60.tmps.size = 151 := (e60 ▸ size_put _ _ _).trans z59
  have df60 : b60.defers = [] := by rw [e60]; exact df59
  clear q111_59 q114_59 q12_59 q1_59
  clear e60 z59 df59
  refine stepV 60 (o := ⟨some 116, Op.pick (Operand.tmp 111) (Operand.tmp 115) (Operand.const (Value.bool false)), 4, "law.go:20", #[⟨55, Ground.data⟩, ⟨59, Ground.data⟩], none⟩) (v := .bool true) (d := 116) (listed' := #[true, true, true, true, true, true, true, true, true, true, true, true, true, true, true, true, true, true, true, true, true, true, true, true, true, true, true, true, true, true, true, true, true, true, true, true, true, true, true, true, true, true, true, true, true, true, true, true, true, true, true, true, true, true, true, true, true, true, true, true, true, false, false, false, false, false, false, false, false, false, false, false, false, false, false, false, false, false, false, false, false, false, false, false, false, false, false, false, false, false, false, false, false, false, false, false]) (by rw [hO]; rfl) rfl hns (by rw [hO]; kernel_rfl) (by rw [hO]; kernel_rfl) (by kernel_rfl) hQ trivial s5 (fun w _ => rn_pk q111_60 q115_60 w) ?_
  intro b61 e61
  have q1_61 := q1_60.mv e61 rfl
  have q12_61 := q12_60.mv e61 rfl
  have q116_61 : At b61 116 (.bool true) := e61 ▸ At.eq (by rw [z60]; decide)
  have z61 : b61.tmps.size = 151 := (e61 ▸ size_put _ _ _).trans z60
  have df61 : b61.defers = [] := by rw [e61]; exact df60
  clear q111_60 q115_60 q12_60 q1_60
  clear e61 z60 df60
  refine stepV 61 (o := ⟨some 117, Op.move (Operand.tmp 116), 4, "law.go:20", #[⟨60, Ground.data⟩, ⟨57, Ground.chain⟩], none⟩) (v := .bool true) (d := 117) (listed' := #[true, true, true, true, true, true, true, true, true, true, true, true, true, true, true, true, true, true, true, true, true, true, true, true, true, true, true, true, true, true, true, true, true, true, true, true, true, true, true, true, true, true, true, true, true, true, true, true, true, true, true, true, true, true, true, true, true, true, true, true, true, true, false, false, false, false, false, false, false, false, false, false, false, false, false, false, false, false, false, false, false, false, false, false, false, false, false, false, false, false, false, false, false, false, false, false]) (by rw [hO]; rfl) rfl hns (by rw [hO]; kernel_rfl) (by rw [hO]; kernel_rfl) (by kernel_rfl) hQ trivial s5 (fun w _ => rn_move q116_61 rfl w) ?_
  intro b62 e62
  have q1_62 := q1_61.mv e62 rfl
  have q12_62 := q12_61.mv e62 rfl
  have q117_62 : At b62 117 (.bool true) := e62 ▸ At.eq (by rw [z61]; decide)
  have z62 : b62.tmps.size = 151 := (e62 ▸ size_put _ _ _).trans z61
  have df62 : b62.defers = [] := by rw [e62]; exact df61
  clear q116_61 q12_61 q1_61
  clear e62 z61 df61
  refine stepV 62 (o := ⟨some 118, Op.load 23 (Operand.tmp 1), 23, "law.go:20", #[⟨61, Ground.guard⟩], some (61, true)⟩) (v := .agg #[.int .i64 1, .int .i64 2, .string ⟨#[97]⟩, .string ⟨#[120]⟩, .int .i64 3]) (d := 118) (listed' := #[true, true, true, true, true, true, true, true, true, true, true, true, true, true, true, true, true, true, true, true, true, true, true, true, true, true, true, true, true, true, true, true, true, true, true, true, true, true, true, true, true, true, true, true, true, true, true, true, true, true, true, true, true, true, true, true, true, true, true, true, true, true, true, false, false, false, false, false, false, false, false, false, false, false, false, false, false, false, false, false, false, false, false, false, false, false, false, false, false, false, false, false, false, false, false, false]) (by rw [hO]; rfl) rfl hns (by rw [hO]; kernel_rfl) (by rw [hO]; kernel_rfl) (by kernel_rfl) hQ ⟨117, by rw [hO]; rfl, q117_62⟩ s5 (fun w hs => rn_ld q1_62 w hs.1) ?_
  intro b63 e63
  have q1_63 := q1_62.mv e63 rfl
  have q12_63 := q12_62.mv e63 rfl
  have q117_63 := q117_62.mv e63 rfl
  have q118_63 : At b63 118 (.agg #[.int .i64 1, .int .i64 2, .string ⟨#[97]⟩, .string ⟨#[120]⟩, .int .i64 3]) := e63 ▸ At.eq (by rw [z62]; decide)
  have z63 : b63.tmps.size = 151 := (e63 ▸ size_put _ _ _).trans z62
  have df63 : b63.defers = [] := by rw [e63]; exact df62
  clear q117_62 q12_62 q1_62
  clear e63 z62 df62
  refine stepC 63 (o := ⟨some 119, Op.call { callee := Callee.value (Operand.func 17), args := #[Operand.tmp 118, Operand.const (Value.int IntKind.i64 9)], argTypes := #[23, 3] }, 23, "law.go:20", #[⟨62, Ground.data⟩, ⟨61, Ground.chain⟩, ⟨61, Ground.guard⟩], some (61, true)⟩) (d := 119) (listed' := #[true, true, true, true, true, true, true, true, true, true, true, true, true, true, true, true, true, true, true, true, true, true, true, true, true, true, true, true, true, true, true, true, true, true, true, true, true, true, true, true, true, true, true, true, true, true, true, true, true, true, true, true, true, true, true, true, true, true, true, true, true, true, true, true, false, false, false, false, false, false, false, false, false, false, false, false, false, false, false, false, false, false, false, false, false, false, false, false, false, false, false, false, false, false, false, false]) (by rw [hO]; rfl) rfl (by rw [hO]; kernel_rfl) (by kernel_rfl) ⟨117, by rw [hO]; rfl, q117_63⟩ (rn_c17k q118_63 _) ?_
  refine C.mono ?_
  clear C
  rintro e w6 ⟨rfl, s6, C⟩
  refine ⟨_, rfl, s6, ?_⟩
  intro b64 e64
  have q1_64 := q1_63.mv e64 rfl
  have q12_64 := q12_63.mv e64 rfl
  have q117_64 := q117_63.mv e64 rfl
  have q119_64 : At b64 119 (.agg #[.int .i64 1, .int .i64 2, .string ⟨#[97]⟩, .string ⟨#[120]⟩, .int .i64 0]) := e64 ▸ At.eq (by rw [z63]; decide)
  have z64 : b64.tmps.size = 151 := (e64 ▸ size_put _ _ _).trans z63
  have df64 : b64.defers = [] := by rw [e64]; exact df63
  clear q117_63 q118_63 q12_63 q1_63
  clear e64 z63 df63
  exact regF3 hO hns hQ z64 df64 q1_64 q12_64 q117_64 q119_64 s6 C

set_option maxHeartbeats 4000000 in
theorem regF1 {Q : Exit → Act → World → Prop} {ops : Array Oper} {a : Act} {w2 : World} {R X cap : Nat} {av : Option Addr} (hO : ops = litF) (hns : Region.noSelect ops = true)
    (hQ : ∀ c a w (d : Nat) v, Q (.panic c) (a.put (some d) v) w → Q (.panic c) a w) (sz : a.tmps.size = 151) (df : a.defers = [])
    (q1_29 : At a 1 (.pointer (some ⟨R, 0, none⟩)))
    (q12_29 : At a 12 (.slice av 2 cap))
    (q13_29 : At a 13 (.int .i64 5))
    (q14_29 : At a 14 (.int .i64 0))
    (q17_29 : At a 17 (.int .i64 4))
    (q20_29 : At a 20 (.int .i64 2))
    (q79_29 : At a 79 (.bool true))
    (q84_29 : At a 84 (.bool true))
    (s2 : FCells R X w2)
    (C : Calls Tryd.prog 11 #[.agg #[.int .i64 1, .int .i64 2, .string ⟨#[97]⟩, .string ⟨#[120]⟩, .int .i64 3]] w2 fun e w3 => e = .returned (.bool true) ∧ FCells R X w3 ∧
      Calls Tryd.prog 11 #[.agg #[.int .i64 0, .int .i64 0, .string ⟨#[]⟩, .string ⟨#[]⟩, .int .i64 0]] w3 fun e w4 => e = .returned (.bool false) ∧ FCells R X w4 ∧
      Calls Tryd.prog 17 #[.agg #[.int .i64 1, .int .i64 2, .string ⟨#[97]⟩, .string ⟨#[120]⟩, .int .i64 3], .int .i64 2] w4 fun e w5 => e = .returned (.agg #[.int .i64 1, .int .i64 2, .string ⟨#[97]⟩, .string ⟨#[120]⟩, .int .i64 1]) ∧ FCells R X w5 ∧
      Calls Tryd.prog 17 #[.agg #[.int .i64 1, .int .i64 2, .string ⟨#[97]⟩, .string ⟨#[120]⟩, .int .i64 3], .int .i64 9] w5 fun e w6 => e = .returned (.agg #[.int .i64 1, .int .i64 2, .string ⟨#[97]⟩, .string ⟨#[120]⟩, .int .i64 0]) ∧ FCells R X w6 ∧
      Calls Tryd.prog 17 #[.agg #[.int .i64 1, .int .i64 2, .string ⟨#[97]⟩, .string ⟨#[120]⟩, .int .i64 3], .int .i64 (-1)] w6 fun e w7 => e = .returned (.agg #[.int .i64 1, .int .i64 2, .string ⟨#[97]⟩, .string ⟨#[120]⟩, .int .i64 3]) ∧ FCells R X w7 ∧
      Calls Tryd.prog 17 #[.agg #[.int .i64 1, .int .i64 2, .string ⟨#[97]⟩, .string ⟨#[120]⟩, .int .i64 3], .int .i64 1] w7 fun e w8 => e = .returned (.agg #[.int .i64 1, .int .i64 2, .string ⟨#[97]⟩, .string ⟨#[120]⟩, .int .i64 2]) ∧ FCells R X w8 ∧
      Calls Tryd.prog 19 #[.agg #[.int .i64 1, .int .i64 2, .string ⟨#[97]⟩, .string ⟨#[120]⟩, .int .i64 3], .agg #[.int .i64 1, .int .i64 2, .string ⟨#[97]⟩, .string ⟨#[120]⟩, .int .i64 2]] w8 fun e w9 => e = .returned (.bool true) ∧ FCells R X w9 ∧
      Calls Tryd.prog 15 #[.agg #[.int .i64 1, .int .i64 2, .string ⟨#[97]⟩, .string ⟨#[120]⟩, .int .i64 3]] w9 fun e w10 => e = .returned (.string ⟨#[49, 58, 50, 32, 97, 32, 49, 32, 51]⟩) ∧ FCells R X w10 ∧
      Calls Tryd.prog 29 #[.slice av 2 cap] w10 fun e w11 => e = .returned (.string ⟨#[2, 0, 5, 3, 1]⟩) ∧ FCells R X w11 ∧
      Calls Tryd.prog 27 #[.slice (some ⟨w11.heap.size, 0, none⟩) 1 1] (w11.alloc (.cells #[.int .i64 0, .int .i64 0] 59)) fun e w13 => e = .returned (.bool false) ∧ FCells R X w13 ∧
      ∀ a', At a' 0 (.bool true) → a'.defers = [] → Q .normal a' w13) : wpAnyH Tryd.prog .any ops Q (FCells R X) 67 #[true, true, true, true, true, true, true, true, true, true, true, true, true, true, true, true, true, true, true, true, true, true, true, true, true, true, true, true, true, false, false, false, false, false, false, false, false, false, false, false, false, false, false, false, false, false, false, false, false, false, false, false, false, false, false, false, false, false, false, false, false, false, false, false, false, false, false, false, false, false, false, false, false, false, false, false, false, false, false, false, false, false, false, false, false, false, false, false, false, false, false, false, false, false, false, false] a w2 := by
  refine stepV 29 (o := ⟨some 85, Op.pick (Operand.tmp 79) (Operand.tmp 84) (Operand.const (Value.bool false)), 4, "law.go:20", #[⟨23, Ground.data⟩, ⟨28, Ground.data⟩], none⟩) (v := .bool true) (d := 85) (listed' := #[true, true, true, true, true, true, true, true, true, true, true, true, true, true, true, true, true, true, true, true, true, true, true, true, true, true, true, true, true, true, false, false, false, false, false, false, false, false, false, false, false, false, false, false, false, false, false, false, false, false, false, false, false, false, false, false, false, false, false, false, false, false, false, false, false, false, false, false, false, false, false, false, false, false, false, false, false, false, false, false, false, false, false, false, false, false, false, false, false, false, false, false, false, false, false, false]) (by rw [hO]; rfl) rfl hns (by rw [hO]; kernel_rfl) (by rw [hO]; kernel_rfl) (by kernel_rfl) hQ trivial s2 (fun w _ => rn_pk q79_29 q84_29 w) ?_
  intro b30 e30
  have q1_30 := q1_29.mv e30 rfl
  have q12_30 := q12_29.mv e30 rfl
  have q13_30 := q13_29.mv e30 rfl
  have q14_30 := q14_29.mv e30 rfl
  have q17_30 := q17_29.mv e30 rfl
  have q20_30 := q20_29.mv e30 rfl
  have q85_30 : At b30 85 (.bool true) := e30 ▸ At.eq (by rw [sz]; decide)
  have z30 : b30.tmps.size = 151 := (e30 ▸ size_put _ _ _).trans sz
  have df30 : b30.defers = [] := by rw [e30]; exact df
  clear q12_29 q13_29 q14_29 q17_29 q1_29 q20_29 q79_29 q84_29
  clear e30
  refine stepV 30 (o := ⟨some 86, Op.move (Operand.tmp 85), 4, "law.go:20", #[⟨29, Ground.data⟩, ⟨28, Ground.chain⟩], none⟩) (v := .bool true) (d := 86) (listed' := #[true, true, true, true, true, true, true, true, true, true, true, true, true, true, true, true, true, true, true, true, true, true, true, true, true, true, true, true, true, true, true, false, false, false, false, false, false, false, false, false, false, false, false, false, false, false, false, false, false, false, false, false, false, false, false, false, false, false, false, false, false, false, false, false, false, false, false, false, false, false, false, false, false, false, false, false, false, false, false, false, false, false, false, false, false, false, false, false, false, false, false, false, false, false, false, false]) (by rw [hO]; rfl) rfl hns (by rw [hO]; kernel_rfl) (by rw [hO]; kernel_rfl) (by kernel_rfl) hQ trivial s2 (fun w _ => rn_move q85_30 rfl w) ?_
  intro b31 e31
  have q1_31 := q1_30.mv e31 rfl
  have q12_31 := q12_30.mv e31 rfl
  have q13_31 := q13_30.mv e31 rfl
  have q14_31 := q14_30.mv e31 rfl
  have q17_31 := q17_30.mv e31 rfl
  have q20_31 := q20_30.mv e31 rfl
  have q86_31 : At b31 86 (.bool true) := e31 ▸ At.eq (by rw [z30]; decide)
  have z31 : b31.tmps.size = 151 := (e31 ▸ size_put _ _ _).trans z30
  have df31 : b31.defers = [] := by rw [e31]; exact df30
  clear q12_30 q13_30 q14_30 q17_30 q1_30 q20_30 q85_30
  clear e31 z30 df30
  refine stepV 31 (o := ⟨some 87, Op.move (Operand.tmp 13), 3, "law.go:20", #[⟨30, Ground.guard⟩], some (30, true)⟩) (v := .int .i64 5) (d := 87) (listed' := #[true, true, true, true, true, true, true, true, true, true, true, true, true, true, true, true, true, true, true, true, true, true, true, true, true, true, true, true, true, true, true, true, false, false, false, false, false, false, false, false, false, false, false, false, false, false, false, false, false, false, false, false, false, false, false, false, false, false, false, false, false, false, false, false, false, false, false, false, false, false, false, false, false, false, false, false, false, false, false, false, false, false, false, false, false, false, false, false, false, false, false, false, false, false, false, false]) (by rw [hO]; rfl) rfl hns (by rw [hO]; kernel_rfl) (by rw [hO]; kernel_rfl) (by kernel_rfl) hQ ⟨86, by rw [hO]; rfl, q86_31⟩ s2 (fun w _ => rn_move q13_31 rfl w) ?_
  intro b32 e32
  have q1_32 := q1_31.mv e32 rfl
  have q12_32 := q12_31.mv e32 rfl
  have q14_32 := q14_31.mv e32 rfl
  have q17_32 := q17_31.mv e32 rfl
  have q20_32 := q20_31.mv e32 rfl
  have q86_32 := q86_31.mv e32 rfl
  have q87_32 : At b32 87 (.int .i64 5) := e32 ▸ At.eq (by rw [z31]; decide)
  have z32 : b32.tmps.size = 151 := (e32 ▸ size_put _ _ _).trans z31
  have df32 : b32.defers = [] := by rw [e32]; exact df31
  clear q12_31 q13_31 q14_31 q17_31 q1_31 q20_31 q86_31
  clear e32 z31 df31
  refine stepV 32 (o := ⟨some 88, Op.binOp BinOp.eql 3 (Operand.tmp 87) (Operand.const (Value.int IntKind.i64 5)) 3, 4, "law.go:20", #[⟨31, Ground.data⟩, ⟨30, Ground.guard⟩], some (30, true)⟩) (v := .bool true) (d := 88) (listed' := #[true, true, true, true, true, true, true, true, true, true, true, true, true, true, true, true, true, true, true, true, true, true, true, true, true, true, true, true, true, true, true, true, true, false, false, false, false, false, false, false, false, false, false, false, false, false, false, false, false, false, false, false, false, false, false, false, false, false, false, false, false, false, false, false, false, false, false, false, false, false, false, false, false, false, false, false, false, false, false, false, false, false, false, false, false, false, false, false, false, false, false, false, false, false, false, false]) (by rw [hO]; rfl) rfl hns (by rw [hO]; kernel_rfl) (by rw [hO]; kernel_rfl) (by kernel_rfl) hQ ⟨86, by rw [hO]; rfl, q86_32⟩ s2 (fun w _ => rn_eq3 q87_32 w) ?_
  intro b33 e33
  have q1_33 := q1_32.mv e33 rfl
  have q12_33 := q12_32.mv e33 rfl
  have q14_33 := q14_32.mv e33 rfl
  have q17_33 := q17_32.mv e33 rfl
  have q20_33 := q20_32.mv e33 rfl
  have q86_33 := q86_32.mv e33 rfl
  have q88_33 : At b33 88 (.bool true) := e33 ▸ At.eq (by rw [z32]; decide)
  have z33 : b33.tmps.size = 151 := (e33 ▸ size_put _ _ _).trans z32
  have df33 : b33.defers = [] := by rw [e33]; exact df32
  clear q12_32 q14_32 q17_32 q1_32 q20_32 q86_32 q87_32
  clear e33 z32 df32
  refine stepV 33 (o := ⟨some 89, Op.pick (Operand.tmp 86) (Operand.tmp 88) (Operand.const (Value.bool false)), 4, "law.go:20", #[⟨30, Ground.data⟩, ⟨32, Ground.data⟩], none⟩) (v := .bool true) (d := 89) (listed' := #[true, true, true, true, true, true, true, true, true, true, true, true, true, true, true, true, true, true, true, true, true, true, true, true, true, true, true, true, true, true, true, true, true, true, false, false, false, false, false, false, false, false, false, false, false, false, false, false, false, false, false, false, false, false, false, false, false, false, false, false, false, false, false, false, false, false, false, false, false, false, false, false, false, false, false, false, false, false, false, false, false, false, false, false, false, false, false, false, false, false, false, false, false, false, false, false]) (by rw [hO]; rfl) rfl hns (by rw [hO]; kernel_rfl) (by rw [hO]; kernel_rfl) (by kernel_rfl) hQ trivial s2 (fun w _ => rn_pk q86_33 q88_33 w) ?_
  intro b34 e34
  have q1_34 := q1_33.mv e34 rfl
  have q12_34 := q12_33.mv e34 rfl
  have q14_34 := q14_33.mv e34 rfl
  have q17_34 := q17_33.mv e34 rfl
  have q20_34 := q20_33.mv e34 rfl
  have q89_34 : At b34 89 (.bool true) := e34 ▸ At.eq (by rw [z33]; decide)
  have z34 : b34.tmps.size = 151 := (e34 ▸ size_put _ _ _).trans z33
  have df34 : b34.defers = [] := by rw [e34]; exact df33
  clear q12_33 q14_33 q17_33 q1_33 q20_33 q86_33 q88_33
  clear e34 z33 df33
  refine stepV 34 (o := ⟨some 90, Op.move (Operand.tmp 89), 4, "law.go:20", #[⟨33, Ground.data⟩, ⟨30, Ground.chain⟩], none⟩) (v := .bool true) (d := 90) (listed' := #[true, true, true, true, true, true, true, true, true, true, true, true, true, true, true, true, true, true, true, true, true, true, true, true, true, true, true, true, true, true, true, true, true, true, true, false, false, false, false, false, false, false, false, false, false, false, false, false, false, false, false, false, false, false, false, false, false, false, false, false, false, false, false, false, false, false, false, false, false, false, false, false, false, false, false, false, false, false, false, false, false, false, false, false, false, false, false, false, false, false, false, false, false, false, false, false]) (by rw [hO]; rfl) rfl hns (by rw [hO]; kernel_rfl) (by rw [hO]; kernel_rfl) (by kernel_rfl) hQ trivial s2 (fun w _ => rn_move q89_34 rfl w) ?_
  intro b35 e35
  have q1_35 := q1_34.mv e35 rfl
  have q12_35 := q12_34.mv e35 rfl
  have q14_35 := q14_34.mv e35 rfl
  have q17_35 := q17_34.mv e35 rfl
  have q20_35 := q20_34.mv e35 rfl
  have q90_35 : At b35 90 (.bool true) := e35 ▸ At.eq (by rw [z34]; decide)
  have z35 : b35.tmps.size = 151 := (e35 ▸ size_put _ _ _).trans z34
  have df35 : b35.defers = [] := by rw [e35]; exact df34
  clear q12_34 q14_34 q17_34 q1_34 q20_34 q89_34
  clear e35 z34 df34
  refine stepV 35 (o := ⟨some 91, Op.move (Operand.tmp 14), 31, "law.go:20", #[⟨34, Ground.guard⟩], some (34, true)⟩) (v := .int .i64 0) (d := 91) (listed' := #[true, true, true, true, true, true, true, true, true, true, true, true, true, true, true, true, true, true, true, true, true, true, true, true, true, true, true, true, true, true, true, true, true, true, true, true, false, false, false, false, false, false, false, false, false, false, false, false, false, false, false, false, false, false, false, false, false, false, false, false, false, false, false, false, false, false, false, false, false, false, false, false, false, false, false, false, false, false, false, false, false, false, false, false, false, false, false, false, false, false, false, false, false, false, false, false]) (by rw [hO]; rfl) rfl hns (by rw [hO]; kernel_rfl) (by rw [hO]; kernel_rfl) (by kernel_rfl) hQ ⟨90, by rw [hO]; rfl, q90_35⟩ s2 (fun w _ => rn_move q14_35 rfl w) ?_
  intro b36 e36
  have q1_36 := q1_35.mv e36 rfl
  have q12_36 := q12_35.mv e36 rfl
  have q17_36 := q17_35.mv e36 rfl
  have q20_36 := q20_35.mv e36 rfl
  have q90_36 := q90_35.mv e36 rfl
  have q91_36 : At b36 91 (.int .i64 0) := e36 ▸ At.eq (by rw [z35]; decide)
  have z36 : b36.tmps.size = 151 := (e36 ▸ size_put _ _ _).trans z35
  have df36 : b36.defers = [] := by rw [e36]; exact df35
  clear q12_35 q14_35 q17_35 q1_35 q20_35 q90_35
  clear e36 z35 df35
  refine stepV 36 (o := ⟨some 92, Op.binOp BinOp.eql 31 (Operand.tmp 91) (Operand.const (Value.int IntKind.i64 0)) 31, 4, "law.go:20", #[⟨35, Ground.data⟩, ⟨34, Ground.guard⟩], some (34, true)⟩) (v := .bool true) (d := 92) (listed' := #[true, true, true, true, true, true, true, true, true, true, true, true, true, true, true, true, true, true, true, true, true, true, true, true, true, true, true, true, true, true, true, true, true, true, true, true, true, false, false, false, false, false, false, false, false, false, false, false, false, false, false, false, false, false, false, false, false, false, false, false, false, false, false, false, false, false, false, false, false, false, false, false, false, false, false, false, false, false, false, false, false, false, false, false, false, false, false, false, false, false, false, false, false, false, false, false]) (by rw [hO]; rfl) rfl hns (by rw [hO]; kernel_rfl) (by rw [hO]; kernel_rfl) (by kernel_rfl) hQ ⟨90, by rw [hO]; rfl, q90_36⟩ s2 (fun w _ => rn_eq31 q91_36 w) ?_
  intro b37 e37
  have q1_37 := q1_36.mv e37 rfl
  have q12_37 := q12_36.mv e37 rfl
  have q17_37 := q17_36.mv e37 rfl
  have q20_37 := q20_36.mv e37 rfl
  have q90_37 := q90_36.mv e37 rfl
  have q92_37 : At b37 92 (.bool true) := e37 ▸ At.eq (by rw [z36]; decide)
  have z37 : b37.tmps.size = 151 := (e37 ▸ size_put _ _ _).trans z36
  have df37 : b37.defers = [] := by rw [e37]; exact df36
  clear q12_36 q17_36 q1_36 q20_36 q90_36 q91_36
  clear e37 z36 df36
  refine stepV 37 (o := ⟨some 93, Op.pick (Operand.tmp 90) (Operand.tmp 92) (Operand.const (Value.bool false)), 4, "law.go:20", #[⟨34, Ground.data⟩, ⟨36, Ground.data⟩], none⟩) (v := .bool true) (d := 93) (listed' := #[true, true, true, true, true, true, true, true, true, true, true, true, true, true, true, true, true, true, true, true, true, true, true, true, true, true, true, true, true, true, true, true, true, true, true, true, true, true, false, false, false, false, false, false, false, false, false, false, false, false, false, false, false, false, false, false, false, false, false, false, false, false, false, false, false, false, false, false, false, false, false, false, false, false, false, false, false, false, false, false, false, false, false, false, false, false, false, false, false, false, false, false, false, false, false, false]) (by rw [hO]; rfl) rfl hns (by rw [hO]; kernel_rfl) (by rw [hO]; kernel_rfl) (by kernel_rfl) hQ trivial s2 (fun w _ => rn_pk q90_37 q92_37 w) ?_
  intro b38 e38
  have q1_38 := q1_37.mv e38 rfl
  have q12_38 := q12_37.mv e38 rfl
  have q17_38 := q17_37.mv e38 rfl
  have q20_38 := q20_37.mv e38 rfl
  have q93_38 : At b38 93 (.bool true) := e38 ▸ At.eq (by rw [z37]; decide)
  have z38 : b38.tmps.size = 151 := (e38 ▸ size_put _ _ _).trans z37
  have df38 : b38.defers = [] := by rw [e38]; exact df37
  clear q12_37 q17_37 q1_37 q20_37 q90_37 q92_37
  clear e38 z37 df37
  refine stepV 38 (o := ⟨some 94, Op.move (Operand.tmp 93), 4, "law.go:20", #[⟨37, Ground.data⟩, ⟨34, Ground.chain⟩], none⟩) (v := .bool true) (d := 94) (listed' := #[true, true, true, true, true, true, true, true, true, true, true, true, true, true, true, true, true, true, true, true, true, true, true, true, true, true, true, true, true, true, true, true, true, true, true, true, true, true, true, false, false, false, false, false, false, false, false, false, false, false, false, false, false, false, false, false, false, false, false, false, false, false, false, false, false, false, false, false, false, false, false, false, false, false, false, false, false, false, false, false, false, false, false, false, false, false, false, false, false, false, false, false, false, false, false, false]) (by rw [hO]; rfl) rfl hns (by rw [hO]; kernel_rfl) (by rw [hO]; kernel_rfl) (by kernel_rfl) hQ trivial s2 (fun w _ => rn_move q93_38 rfl w) ?_
  intro b39 e39
  have q1_39 := q1_38.mv e39 rfl
  have q12_39 := q12_38.mv e39 rfl
  have q17_39 := q17_38.mv e39 rfl
  have q20_39 := q20_38.mv e39 rfl
  have q94_39 : At b39 94 (.bool true) := e39 ▸ At.eq (by rw [z38]; decide)
  have z39 : b39.tmps.size = 151 := (e39 ▸ size_put _ _ _).trans z38
  have df39 : b39.defers = [] := by rw [e39]; exact df38
  clear q12_38 q17_38 q1_38 q20_38 q93_38
  clear e39 z38 df38
  refine stepV 39 (o := ⟨some 95, Op.move (Operand.tmp 17), 31, "law.go:20", #[⟨38, Ground.guard⟩], some (38, true)⟩) (v := .int .i64 4) (d := 95) (listed' := #[true, true, true, true, true, true, true, true, true, true, true, true, true, true, true, true, true, true, true, true, true, true, true, true, true, true, true, true, true, true, true, true, true, true, true, true, true, true, true, true, false, false, false, false, false, false, false, false, false, false, false, false, false, false, false, false, false, false, false, false, false, false, false, false, false, false, false, false, false, false, false, false, false, false, false, false, false, false, false, false, false, false, false, false, false, false, false, false, false, false, false, false, false, false, false, false]) (by rw [hO]; rfl) rfl hns (by rw [hO]; kernel_rfl) (by rw [hO]; kernel_rfl) (by kernel_rfl) hQ ⟨94, by rw [hO]; rfl, q94_39⟩ s2 (fun w _ => rn_move q17_39 rfl w) ?_
  intro b40 e40
  have q1_40 := q1_39.mv e40 rfl
  have q12_40 := q12_39.mv e40 rfl
  have q20_40 := q20_39.mv e40 rfl
  have q94_40 := q94_39.mv e40 rfl
  have q95_40 : At b40 95 (.int .i64 4) := e40 ▸ At.eq (by rw [z39]; decide)
  have z40 : b40.tmps.size = 151 := (e40 ▸ size_put _ _ _).trans z39
  have df40 : b40.defers = [] := by rw [e40]; exact df39
  clear q12_39 q17_39 q1_39 q20_39 q94_39
  clear e40 z39 df39
  refine stepV 40 (o := ⟨some 96, Op.binOp BinOp.eql 31 (Operand.tmp 95) (Operand.const (Value.int IntKind.i64 4)) 31, 4, "law.go:20", #[⟨39, Ground.data⟩, ⟨38, Ground.guard⟩], some (38, true)⟩) (v := .bool true) (d := 96) (listed' := #[true, true, true, true, true, true, true, true, true, true, true, true, true, true, true, true, true, true, true, true, true, true, true, true, true, true, true, true, true, true, true, true, true, true, true, true, true, true, true, true, true, false, false, false, false, false, false, false, false, false, false, false, false, false, false, false, false, false, false, false, false, false, false, false, false, false, false, false, false, false, false, false, false, false, false, false, false, false, false, false, false, false, false, false, false, false, false, false, false, false, false, false, false, false, false, false]) (by rw [hO]; rfl) rfl hns (by rw [hO]; kernel_rfl) (by rw [hO]; kernel_rfl) (by kernel_rfl) hQ ⟨94, by rw [hO]; rfl, q94_40⟩ s2 (fun w _ => rn_eq31 q95_40 w) ?_
  intro b41 e41
  have q1_41 := q1_40.mv e41 rfl
  have q12_41 := q12_40.mv e41 rfl
  have q20_41 := q20_40.mv e41 rfl
  have q94_41 := q94_40.mv e41 rfl
  have q96_41 : At b41 96 (.bool true) := e41 ▸ At.eq (by rw [z40]; decide)
  have z41 : b41.tmps.size = 151 := (e41 ▸ size_put _ _ _).trans z40
  have df41 : b41.defers = [] := by rw [e41]; exact df40
  clear q12_40 q1_40 q20_40 q94_40 q95_40
  clear e41 z40 df40
  refine stepV 41 (o := ⟨some 97, Op.pick (Operand.tmp 94) (Operand.tmp 96) (Operand.const (Value.bool false)), 4, "law.go:20", #[⟨38, Ground.data⟩, ⟨40, Ground.data⟩], none⟩) (v := .bool true) (d := 97) (listed' := #[true, true, true, true, true, true, true, true, true, true, true, true, true, true, true, true, true, true, true, true, true, true, true, true, true, true, true, true, true, true, true, true, true, true, true, true, true, true, true, true, true, true, false, false, false, false, false, false, false, false, false, false, false, false, false, false, false, false, false, false, false, false, false, false, false, false, false, false, false, false, false, false, false, false, false, false, false, false, false, false, false, false, false, false, false, false, false, false, false, false, false, false, false, false, false, false]) (by rw [hO]; rfl) rfl hns (by rw [hO]; kernel_rfl) (by rw [hO]; kernel_rfl) (by kernel_rfl) hQ trivial s2 (fun w _ => rn_pk q94_41 q96_41 w) ?_
  intro b42 e42
  have q1_42 := q1_41.mv e42 rfl
  have q12_42 := q12_41.mv e42 rfl
  have q20_42 := q20_41.mv e42 rfl
  have q97_42 : At b42 97 (.bool true) := e42 ▸ At.eq (by rw [z41]; decide)
  have z42 : b42.tmps.size = 151 := (e42 ▸ size_put _ _ _).trans z41
  have df42 : b42.defers = [] := by rw [e42]; exact df41
  clear q12_41 q1_41 q20_41 q94_41 q96_41
  clear e42 z41 df41
  refine stepV 42 (o := ⟨some 98, Op.move (Operand.tmp 97), 4, "law.go:20", #[⟨41, Ground.data⟩, ⟨38, Ground.chain⟩], none⟩) (v := .bool true) (d := 98) (listed' := #[true, true, true, true, true, true, true, true, true, true, true, true, true, true, true, true, true, true, true, true, true, true, true, true, true, true, true, true, true, true, true, true, true, true, true, true, true, true, true, true, true, true, true, false, false, false, false, false, false, false, false, false, false, false, false, false, false, false, false, false, false, false, false, false, false, false, false, false, false, false, false, false, false, false, false, false, false, false, false, false, false, false, false, false, false, false, false, false, false, false, false, false, false, false, false, false]) (by rw [hO]; rfl) rfl hns (by rw [hO]; kernel_rfl) (by rw [hO]; kernel_rfl) (by kernel_rfl) hQ trivial s2 (fun w _ => rn_move q97_42 rfl w) ?_
  intro b43 e43
  have q1_43 := q1_42.mv e43 rfl
  have q12_43 := q12_42.mv e43 rfl
  have q20_43 := q20_42.mv e43 rfl
  have q98_43 : At b43 98 (.bool true) := e43 ▸ At.eq (by rw [z42]; decide)
  have z43 : b43.tmps.size = 151 := (e43 ▸ size_put _ _ _).trans z42
  have df43 : b43.defers = [] := by rw [e43]; exact df42
  clear q12_42 q1_42 q20_42 q97_42
  clear e43 z42 df42
  refine stepV 43 (o := ⟨some 99, Op.move (Operand.tmp 20), 31, "law.go:20", #[⟨42, Ground.guard⟩], some (42, true)⟩) (v := .int .i64 2) (d := 99) (listed' := #[true, true, true, true, true, true, true, true, true, true, true, true, true, true, true, true, true, true, true, true, true, true, true, true, true, true, true, true, true, true, true, true, true, true, true, true, true, true, true, true, true, true, true, true, false, false, false, false, false, false, false, false, false, false, false, false, false, false, false, false, false, false, false, false, false, false, false, false, false, false, false, false, false, false, false, false, false, false, false, false, false, false, false, false, false, false, false, false, false, false, false, false, false, false, false, false]) (by rw [hO]; rfl) rfl hns (by rw [hO]; kernel_rfl) (by rw [hO]; kernel_rfl) (by kernel_rfl) hQ ⟨98, by rw [hO]; rfl, q98_43⟩ s2 (fun w _ => rn_move q20_43 rfl w) ?_
  intro b44 e44
  have q1_44 := q1_43.mv e44 rfl
  have q12_44 := q12_43.mv e44 rfl
  have q98_44 := q98_43.mv e44 rfl
  have q99_44 : At b44 99 (.int .i64 2) := e44 ▸ At.eq (by rw [z43]; decide)
  have z44 : b44.tmps.size = 151 := (e44 ▸ size_put _ _ _).trans z43
  have df44 : b44.defers = [] := by rw [e44]; exact df43
  clear q12_43 q1_43 q20_43 q98_43
  clear e44 z43 df43
  refine stepV 44 (o := ⟨some 100, Op.binOp BinOp.eql 31 (Operand.tmp 99) (Operand.const (Value.int IntKind.i64 2)) 31, 4, "law.go:20", #[⟨43, Ground.data⟩, ⟨42, Ground.guard⟩], some (42, true)⟩) (v := .bool true) (d := 100) (listed' := #[true, true, true, true, true, true, true, true, true, true, true, true, true, true, true, true, true, true, true, true, true, true, true, true, true, true, true, true, true, true, true, true, true, true, true, true, true, true, true, true, true, true, true, true, true, false, false, false, false, false, false, false, false, false, false, false, false, false, false, false, false, false, false, false, false, false, false, false, false, false, false, false, false, false, false, false, false, false, false, false, false, false, false, false, false, false, false, false, false, false, false, false, false, false, false, false]) (by rw [hO]; rfl) rfl hns (by rw [hO]; kernel_rfl) (by rw [hO]; kernel_rfl) (by kernel_rfl) hQ ⟨98, by rw [hO]; rfl, q98_44⟩ s2 (fun w _ => rn_eq31 q99_44 w) ?_
  intro b45 e45
  have q1_45 := q1_44.mv e45 rfl
  have q12_45 := q12_44.mv e45 rfl
  have q98_45 := q98_44.mv e45 rfl
  have q100_45 : At b45 100 (.bool true) := e45 ▸ At.eq (by rw [z44]; decide)
  have z45 : b45.tmps.size = 151 := (e45 ▸ size_put _ _ _).trans z44
  have df45 : b45.defers = [] := by rw [e45]; exact df44
  clear q12_44 q1_44 q98_44 q99_44
  clear e45 z44 df44
  refine stepV 45 (o := ⟨some 101, Op.pick (Operand.tmp 98) (Operand.tmp 100) (Operand.const (Value.bool false)), 4, "law.go:20", #[⟨42, Ground.data⟩, ⟨44, Ground.data⟩], none⟩) (v := .bool true) (d := 101) (listed' := #[true, true, true, true, true, true, true, true, true, true, true, true, true, true, true, true, true, true, true, true, true, true, true, true, true, true, true, true, true, true, true, true, true, true, true, true, true, true, true, true, true, true, true, true, true, true, false, false, false, false, false, false, false, false, false, false, false, false, false, false, false, false, false, false, false, false, false, false, false, false, false, false, false, false, false, false, false, false, false, false, false, false, false, false, false, false, false, false, false, false, false, false, false, false, false, false]) (by rw [hO]; rfl) rfl hns (by rw [hO]; kernel_rfl) (by rw [hO]; kernel_rfl) (by kernel_rfl) hQ trivial s2 (fun w _ => rn_pk q98_45 q100_45 w) ?_
  intro b46 e46
  have q1_46 := q1_45.mv e46 rfl
  have q12_46 := q12_45.mv e46 rfl
  have q101_46 : At b46 101 (.bool true) := e46 ▸ At.eq (by rw [z45]; decide)
  have z46 : b46.tmps.size = 151 := (e46 ▸ size_put _ _ _).trans z45
  have df46 : b46.defers = [] := by rw [e46]; exact df45
  clear q100_45 q12_45 q1_45 q98_45
  clear e46 z45 df45
  refine stepV 46 (o := ⟨some 102, Op.move (Operand.tmp 101), 4, "law.go:20", #[⟨45, Ground.data⟩, ⟨42, Ground.chain⟩], none⟩) (v := .bool true) (d := 102) (listed' := #[true, true, true, true, true, true, true, true, true, true, true, true, true, true, true, true, true, true, true, true, true, true, true, true, true, true, true, true, true, true, true, true, true, true, true, true, true, true, true, true, true, true, true, true, true, true, true, false, false, false, false, false, false, false, false, false, false, false, false, false, false, false, false, false, false, false, false, false, false, false, false, false, false, false, false, false, false, false, false, false, false, false, false, false, false, false, false, false, false, false, false, false, false, false, false, false]) (by rw [hO]; rfl) rfl hns (by rw [hO]; kernel_rfl) (by rw [hO]; kernel_rfl) (by kernel_rfl) hQ trivial s2 (fun w _ => rn_move q101_46 rfl w) ?_
  intro b47 e47
  have q1_47 := q1_46.mv e47 rfl
  have q12_47 := q12_46.mv e47 rfl
  have q102_47 : At b47 102 (.bool true) := e47 ▸ At.eq (by rw [z46]; decide)
  have z47 : b47.tmps.size = 151 := (e47 ▸ size_put _ _ _).trans z46
  have df47 : b47.defers = [] := by rw [e47]; exact df46
  clear q101_46 q12_46 q1_46
  clear e47 z46 df46
  refine stepV 47 (o := ⟨some 103, Op.load 23 (Operand.tmp 1), 23, "law.go:20", #[⟨46, Ground.guard⟩], some (46, true)⟩) (v := .agg #[.int .i64 1, .int .i64 2, .string ⟨#[97]⟩, .string ⟨#[120]⟩, .int .i64 3]) (d := 103) (listed' := #[true, true, true, true, true, true, true, true, true, true, true, true, true, true, true, true, true, true, true, true, true, true, true, true, true, true, true, true, true, true, true, true, true, true, true, true, true, true, true, true, true, true, true, true, true, true, true, true, false, false, false, false, false, false, false, false, false, false, false, false, false, false, false, false, false, false, false, false, false, false, false, false, false, false, false, false, false, false, false, false, false, false, false, false, false, false, false, false, false, false, false, false, false, false, false, false]) (by rw [hO]; rfl) rfl hns (by rw [hO]; kernel_rfl) (by rw [hO]; kernel_rfl) (by kernel_rfl) hQ ⟨102, by rw [hO]; rfl, q102_47⟩ s2 (fun w hs => rn_ld q1_47 w hs.1) ?_
  intro b48 e48
  have q1_48 := q1_47.mv e48 rfl
  have q12_48 := q12_47.mv e48 rfl
  have q102_48 := q102_47.mv e48 rfl
  have q103_48 : At b48 103 (.agg #[.int .i64 1, .int .i64 2, .string ⟨#[97]⟩, .string ⟨#[120]⟩, .int .i64 3]) := e48 ▸ At.eq (by rw [z47]; decide)
  have z48 : b48.tmps.size = 151 := (e48 ▸ size_put _ _ _).trans z47
  have df48 : b48.defers = [] := by rw [e48]; exact df47
  clear q102_47 q12_47 q1_47
  clear e48 z47 df47
  refine stepC 48 (o := ⟨some 104, Op.call { callee := Callee.value (Operand.func 11), args := #[Operand.tmp 103], argTypes := #[23] }, 4, "law.go:20", #[⟨47, Ground.data⟩, ⟨46, Ground.chain⟩, ⟨46, Ground.guard⟩], some (46, true)⟩) (d := 104) (listed' := #[true, true, true, true, true, true, true, true, true, true, true, true, true, true, true, true, true, true, true, true, true, true, true, true, true, true, true, true, true, true, true, true, true, true, true, true, true, true, true, true, true, true, true, true, true, true, true, true, true, false, false, false, false, false, false, false, false, false, false, false, false, false, false, false, false, false, false, false, false, false, false, false, false, false, false, false, false, false, false, false, false, false, false, false, false, false, false, false, false, false, false, false, false, false, false, false]) (by rw [hO]; rfl) rfl (by rw [hO]; kernel_rfl) (by kernel_rfl) ⟨102, by rw [hO]; rfl, q102_48⟩ (rn_c11 q103_48 _) ?_
  refine C.mono ?_
  clear C
  rintro e w3 ⟨rfl, s3, C⟩
  refine ⟨_, rfl, s3, ?_⟩
  intro b49 e49
  have q1_49 := q1_48.mv e49 rfl
  have q12_49 := q12_48.mv e49 rfl
  have q102_49 := q102_48.mv e49 rfl
  have q104_49 : At b49 104 (.bool true) := e49 ▸ At.eq (by rw [z48]; decide)
  have z49 : b49.tmps.size = 151 := (e49 ▸ size_put _ _ _).trans z48
  have df49 : b49.defers = [] := by rw [e49]; exact df48
  clear q102_48 q103_48 q12_48 q1_48
  clear e49 z48 df48
  refine stepV 49 (o := ⟨some 105, Op.pick (Operand.tmp 102) (Operand.tmp 104) (Operand.const (Value.bool false)), 4, "law.go:20", #[⟨46, Ground.data⟩, ⟨48, Ground.data⟩], none⟩) (v := .bool true) (d := 105) (listed' := #[true, true, true, true, true, true, true, true, true, true, true, true, true, true, true, true, true, true, true, true, true, true, true, true, true, true, true, true, true, true, true, true, true, true, true, true, true, true, true, true, true, true, true, true, true, true, true, true, true, true, false, false, false, false, false, false, false, false, false, false, false, false, false, false, false, false, false, false, false, false, false, false, false, false, false, false, false, false, false, false, false, false, false, false, false, false, false, false, false, false, false, false, false, false, false, false]) (by rw [hO]; rfl) rfl hns (by rw [hO]; kernel_rfl) (by rw [hO]; kernel_rfl) (by kernel_rfl) hQ trivial s3 (fun w _ => rn_pk q102_49 q104_49 w) ?_
  intro b50 e50
  have q1_50 := q1_49.mv e50 rfl
  have q12_50 := q12_49.mv e50 rfl
  have q105_50 : At b50 105 (.bool true) := e50 ▸ At.eq (by rw [z49]; decide)
  have z50 : b50.tmps.size = 151 := (e50 ▸ size_put _ _ _).trans z49
  have df50 : b50.defers = [] := by rw [e50]; exact df49
  clear q102_49 q104_49 q12_49 q1_49
  clear e50 z49 df49
  refine stepV 50 (o := ⟨some 106, Op.move (Operand.tmp 105), 4, "law.go:20", #[⟨49, Ground.data⟩, ⟨48, Ground.chain⟩], none⟩) (v := .bool true) (d := 106) (listed' := #[true, true, true, true, true, true, true, true, true, true, true, true, true, true, true, true, true, true, true, true, true, true, true, true, true, true, true, true, true, true, true, true, true, true, true, true, true, true, true, true, true, true, true, true, true, true, true, true, true, true, true, false, false, false, false, false, false, false, false, false, false, false, false, false, false, false, false, false, false, false, false, false, false, false, false, false, false, false, false, false, false, false, false, false, false, false, false, false, false, false, false, false, false, false, false, false]) (by rw [hO]; rfl) rfl hns (by rw [hO]; kernel_rfl) (by rw [hO]; kernel_rfl) (by kernel_rfl) hQ trivial s3 (fun w _ => rn_move q105_50 rfl w) ?_
  intro b51 e51
  have q1_51 := q1_50.mv e51 rfl
  have q12_51 := q12_50.mv e51 rfl
  have q106_51 : At b51 106 (.bool true) := e51 ▸ At.eq (by rw [z50]; decide)
  have z51 : b51.tmps.size = 151 := (e51 ▸ size_put _ _ _).trans z50
  have df51 : b51.defers = [] := by rw [e51]; exact df50
  clear q105_50 q12_50 q1_50
  clear e51 z50 df50
  refine stepV 51 (o := ⟨some 107, Op.build 23 #[], 23, "law.go:20", #[⟨50, Ground.guard⟩], some (50, true)⟩) (v := .agg #[.int .i64 0, .int .i64 0, .string ⟨#[]⟩, .string ⟨#[]⟩, .int .i64 0]) (d := 107) (listed' := #[true, true, true, true, true, true, true, true, true, true, true, true, true, true, true, true, true, true, true, true, true, true, true, true, true, true, true, true, true, true, true, true, true, true, true, true, true, true, true, true, true, true, true, true, true, true, true, true, true, true, true, true, false, false, false, false, false, false, false, false, false, false, false, false, false, false, false, false, false, false, false, false, false, false, false, false, false, false, false, false, false, false, false, false, false, false, false, false, false, false, false, false, false, false, false, false]) (by rw [hO]; rfl) rfl hns (by rw [hO]; kernel_rfl) (by rw [hO]; kernel_rfl) (by kernel_rfl) hQ ⟨106, by rw [hO]; rfl, q106_51⟩ s3 (fun w _ => rn_b23z w) ?_
  intro b52 e52
  have q1_52 := q1_51.mv e52 rfl
  have q12_52 := q12_51.mv e52 rfl
  have q106_52 := q106_51.mv e52 rfl
  have q107_52 : At b52 107 (.agg #[.int .i64 0, .int .i64 0, .string ⟨#[]⟩, .string ⟨#[]⟩, .int .i64 0]) := e52 ▸ At.eq (by rw [z51]; decide)
  have z52 : b52.tmps.size = 151 := (e52 ▸ size_put _ _ _).trans z51
  have df52 : b52.defers = [] := by rw [e52]; exact df51
  clear q106_51 q12_51 q1_51
  clear e52 z51 df51
  refine stepC 52 (o := ⟨some 108, Op.call { callee := Callee.value (Operand.func 11), args := #[Operand.tmp 107], argTypes := #[23] }, 4, "law.go:20", #[⟨51, Ground.data⟩, ⟨50, Ground.chain⟩, ⟨50, Ground.guard⟩], some (50, true)⟩) (d := 108) (listed' := #[true, true, true, true, true, true, true, true, true, true, true, true, true, true, true, true, true, true, true, true, true, true, true, true, true, true, true, true, true, true, true, true, true, true, true, true, true, true, true, true, true, true, true, true, true, true, true, true, true, true, true, true, true, false, false, false, false, false, false, false, false, false, false, false, false, false, false, false, false, false, false, false, false, false, false, false, false, false, false, false, false, false, false, false, false, false, false, false, false, false, false, false, false, false, false, false]) (by rw [hO]; rfl) rfl (by rw [hO]; kernel_rfl) (by kernel_rfl) ⟨106, by rw [hO]; rfl, q106_52⟩ (rn_c11 q107_52 _) ?_
  refine C.mono ?_
  clear C
  rintro e w4 ⟨rfl, s4, C⟩
  refine ⟨_, rfl, s4, ?_⟩
  intro b53 e53
  have q1_53 := q1_52.mv e53 rfl
  have q12_53 := q12_52.mv e53 rfl
  have q106_53 := q106_52.mv e53 rfl
  have q108_53 : At b53 108 (.bool false) := e53 ▸ At.eq (by rw [z52]; decide)
  have z53 : b53.tmps.size = 151 := (e53 ▸ size_put _ _ _).trans z52
  have df53 : b53.defers = [] := by rw [e53]; exact df52
  clear q106_52 q107_52 q12_52 q1_52
  clear e53 z52 df52
  exact regF2 hO hns hQ z53 df53 q1_53 q12_53 q106_53 q108_53 s4 C

set_option maxHeartbeats 4000000 in
theorem regF0 {Q : Exit → Act → World → Prop} {ops : Array Oper} {a : Act} {w : World} {R X cap : Nat} {av : Option Addr} (hO : ops = litF) (hns : Region.noSelect ops = true)
    (hQ : ∀ c a w (d : Nat) v, Q (.panic c) (a.put (some d) v) w → Q (.panic c) a w) (sz : a.tmps.size = 151) (df : a.defers = [])
    (q1_0 : At a 1 (.pointer (some ⟨R, 0, none⟩)))
    (q2_0 : At a 2 (.string ⟨#[1, 2, 3, 1, 97, 1, 120]⟩))
    (q3_0 : At a 3 (.pointer (some ⟨X, 0, none⟩)))
    (q4_0 : At a 4 (.int .i64 8))
    (q5_0 : At a 5 (.int .i64 0))
    (q8_0 : At a 8 (.int .i64 4))
    (q11_0 : At a 11 (.int .i64 3))
    (q12_0 : At a 12 (.slice av 2 cap))
    (q13_0 : At a 13 (.int .i64 5))
    (q14_0 : At a 14 (.int .i64 0))
    (q17_0 : At a 17 (.int .i64 4))
    (q20_0 : At a 20 (.int .i64 2))
    (s0 : FCells R X w)
    (C : Calls Tryd.prog 26 #[.slice av 2 cap, .slice (some ⟨w.heap.size, 0, none⟩) 2 2] (w.alloc (.cells #[.int .i64 0, .int .i64 5, .int .i64 3, .int .i64 1] 59)) fun e w2 => e = .returned (.bool true) ∧ FCells R X w2 ∧
      Calls Tryd.prog 11 #[.agg #[.int .i64 1, .int .i64 2, .string ⟨#[97]⟩, .string ⟨#[120]⟩, .int .i64 3]] w2 fun e w3 => e = .returned (.bool true) ∧ FCells R X w3 ∧
      Calls Tryd.prog 11 #[.agg #[.int .i64 0, .int .i64 0, .string ⟨#[]⟩, .string ⟨#[]⟩, .int .i64 0]] w3 fun e w4 => e = .returned (.bool false) ∧ FCells R X w4 ∧
      Calls Tryd.prog 17 #[.agg #[.int .i64 1, .int .i64 2, .string ⟨#[97]⟩, .string ⟨#[120]⟩, .int .i64 3], .int .i64 2] w4 fun e w5 => e = .returned (.agg #[.int .i64 1, .int .i64 2, .string ⟨#[97]⟩, .string ⟨#[120]⟩, .int .i64 1]) ∧ FCells R X w5 ∧
      Calls Tryd.prog 17 #[.agg #[.int .i64 1, .int .i64 2, .string ⟨#[97]⟩, .string ⟨#[120]⟩, .int .i64 3], .int .i64 9] w5 fun e w6 => e = .returned (.agg #[.int .i64 1, .int .i64 2, .string ⟨#[97]⟩, .string ⟨#[120]⟩, .int .i64 0]) ∧ FCells R X w6 ∧
      Calls Tryd.prog 17 #[.agg #[.int .i64 1, .int .i64 2, .string ⟨#[97]⟩, .string ⟨#[120]⟩, .int .i64 3], .int .i64 (-1)] w6 fun e w7 => e = .returned (.agg #[.int .i64 1, .int .i64 2, .string ⟨#[97]⟩, .string ⟨#[120]⟩, .int .i64 3]) ∧ FCells R X w7 ∧
      Calls Tryd.prog 17 #[.agg #[.int .i64 1, .int .i64 2, .string ⟨#[97]⟩, .string ⟨#[120]⟩, .int .i64 3], .int .i64 1] w7 fun e w8 => e = .returned (.agg #[.int .i64 1, .int .i64 2, .string ⟨#[97]⟩, .string ⟨#[120]⟩, .int .i64 2]) ∧ FCells R X w8 ∧
      Calls Tryd.prog 19 #[.agg #[.int .i64 1, .int .i64 2, .string ⟨#[97]⟩, .string ⟨#[120]⟩, .int .i64 3], .agg #[.int .i64 1, .int .i64 2, .string ⟨#[97]⟩, .string ⟨#[120]⟩, .int .i64 2]] w8 fun e w9 => e = .returned (.bool true) ∧ FCells R X w9 ∧
      Calls Tryd.prog 15 #[.agg #[.int .i64 1, .int .i64 2, .string ⟨#[97]⟩, .string ⟨#[120]⟩, .int .i64 3]] w9 fun e w10 => e = .returned (.string ⟨#[49, 58, 50, 32, 97, 32, 49, 32, 51]⟩) ∧ FCells R X w10 ∧
      Calls Tryd.prog 29 #[.slice av 2 cap] w10 fun e w11 => e = .returned (.string ⟨#[2, 0, 5, 3, 1]⟩) ∧ FCells R X w11 ∧
      Calls Tryd.prog 27 #[.slice (some ⟨w11.heap.size, 0, none⟩) 1 1] (w11.alloc (.cells #[.int .i64 0, .int .i64 0] 59)) fun e w13 => e = .returned (.bool false) ∧ FCells R X w13 ∧
      ∀ a', At a' 0 (.bool true) → a'.defers = [] → Q .normal a' w13) : wpAnyH Tryd.prog .any ops Q (FCells R X) 96 #[false, false, false, false, false, false, false, false, false, false, false, false, false, false, false, false, false, false, false, false, false, false, false, false, false, false, false, false, false, false, false, false, false, false, false, false, false, false, false, false, false, false, false, false, false, false, false, false, false, false, false, false, false, false, false, false, false, false, false, false, false, false, false, false, false, false, false, false, false, false, false, false, false, false, false, false, false, false, false, false, false, false, false, false, false, false, false, false, false, false, false, false, false, false, false, false] a w := by
  refine stepV 0 (o := ⟨some 56, Op.move (Operand.tmp 2), 9, "law.go:20", #[], none⟩) (v := .string ⟨#[1, 2, 3, 1, 97, 1, 120]⟩) (d := 56) (listed' := #[true, false, false, false, false, false, false, false, false, false, false, false, false, false, false, false, false, false, false, false, false, false, false, false, false, false, false, false, false, false, false, false, false, false, false, false, false, false, false, false, false, false, false, false, false, false, false, false, false, false, false, false, false, false, false, false, false, false, false, false, false, false, false, false, false, false, false, false, false, false, false, false, false, false, false, false, false, false, false, false, false, false, false, false, false, false, false, false, false, false, false, false, false, false, false, false]) (by rw [hO]; rfl) rfl hns (by rw [hO]; kernel_rfl) (by rw [hO]; kernel_rfl) (by kernel_rfl) hQ trivial s0 (fun w _ => rn_move q2_0 rfl w) ?_
  intro b1 e1
  have q1_1 := q1_0.mv e1 rfl
  have q3_1 := q3_0.mv e1 rfl
  have q4_1 := q4_0.mv e1 rfl
  have q5_1 := q5_0.mv e1 rfl
  have q8_1 := q8_0.mv e1 rfl
  have q11_1 := q11_0.mv e1 rfl
  have q12_1 := q12_0.mv e1 rfl
  have q13_1 := q13_0.mv e1 rfl
  have q14_1 := q14_0.mv e1 rfl
  have q17_1 := q17_0.mv e1 rfl
  have q20_1 := q20_0.mv e1 rfl
  have q56_1 : At b1 56 (.string ⟨#[1, 2, 3, 1, 97, 1, 120]⟩) := e1 ▸ At.eq (by rw [sz]; decide)
  have z1 : b1.tmps.size = 151 := (e1 ▸ size_put _ _ _).trans sz
  have df1 : b1.defers = [] := by rw [e1]; exact df
  clear q11_0 q12_0 q13_0 q14_0 q17_0 q1_0 q20_0 q2_0 q3_0 q4_0 q5_0 q8_0
  clear e1 
  refine stepV 1 (o := ⟨some 57, Op.binOp BinOp.eql 9 (Operand.tmp 56) (Operand.const (Value.string { data := #[1, 2, 3, 1, 97, 1, 120] })) 9, 4, "law.go:20", #[⟨0, Ground.data⟩], none⟩) (v := .bool true) (d := 57) (listed' := #[true, true, false, false, false, false, false, false, false, false, false, false, false, false, false, false, false, false, false, false, false, false, false, false, false, false, false, false, false, false, false, false, false, false, false, false, false, false, false, false, false, false, false, false, false, false, false, false, false, false, false, false, false, false, false, false, false, false, false, false, false, false, false, false, false, false, false, false, false, false, false, false, false, false, false, false, false, false, false, false, false, false, false, false, false, false, false, false, false, false, false, false, false, false, false, false]) (by rw [hO]; rfl) rfl hns (by rw [hO]; kernel_rfl) (by rw [hO]; kernel_rfl) (by kernel_rfl) hQ trivial s0 (fun w _ => rn_eqS q56_1 w) ?_
  intro b2 e2
  have q1_2 := q1_1.mv e2 rfl
  have q3_2 := q3_1.mv e2 rfl
  have q4_2 := q4_1.mv e2 rfl
  have q5_2 := q5_1.mv e2 rfl
  have q8_2 := q8_1.mv e2 rfl
  have q11_2 := q11_1.mv e2 rfl
  have q12_2 := q12_1.mv e2 rfl
  have q13_2 := q13_1.mv e2 rfl
  have q14_2 := q14_1.mv e2 rfl
  have q17_2 := q17_1.mv e2 rfl
  have q20_2 := q20_1.mv e2 rfl
  have q57_2 : At b2 57 (.bool true) := e2 ▸ At.eq (by rw [z1]; decide)
  have z2 : b2.tmps.size = 151 := (e2 ▸ size_put _ _ _).trans z1
  have df2 : b2.defers = [] := by rw [e2]; exact df1
  clear q11_1 q12_1 q13_1 q14_1 q17_1 q1_1 q20_1 q3_1 q4_1 q56_1 q5_1 q8_1
  clear e2 z1 df1
  refine stepV 2 (o := ⟨some 58, Op.move (Operand.tmp 57), 4, "law.go:20", #[⟨1, Ground.data⟩], none⟩) (v := .bool true) (d := 58) (listed' := #[true, true, true, false, false, false, false, false, false, false, false, false, false, false, false, false, false, false, false, false, false, false, false, false, false, false, false, false, false, false, false, false, false, false, false, false, false, false, false, false, false, false, false, false, false, false, false, false, false, false, false, false, false, false, false, false, false, false, false, false, false, false, false, false, false, false, false, false, false, false, false, false, false, false, false, false, false, false, false, false, false, false, false, false, false, false, false, false, false, false, false, false, false, false, false, false]) (by rw [hO]; rfl) rfl hns (by rw [hO]; kernel_rfl) (by rw [hO]; kernel_rfl) (by kernel_rfl) hQ trivial s0 (fun w _ => rn_move q57_2 rfl w) ?_
  intro b3 e3
  have q1_3 := q1_2.mv e3 rfl
  have q3_3 := q3_2.mv e3 rfl
  have q4_3 := q4_2.mv e3 rfl
  have q5_3 := q5_2.mv e3 rfl
  have q8_3 := q8_2.mv e3 rfl
  have q11_3 := q11_2.mv e3 rfl
  have q12_3 := q12_2.mv e3 rfl
  have q13_3 := q13_2.mv e3 rfl
  have q14_3 := q14_2.mv e3 rfl
  have q17_3 := q17_2.mv e3 rfl
  have q20_3 := q20_2.mv e3 rfl
  have q58_3 : At b3 58 (.bool true) := e3 ▸ At.eq (by rw [z2]; decide)
  have z3 : b3.tmps.size = 151 := (e3 ▸ size_put _ _ _).trans z2
  have df3 : b3.defers = [] := by rw [e3]; exact df2
  clear q11_2 q12_2 q13_2 q14_2 q17_2 q1_2 q20_2 q3_2 q4_2 q57_2 q5_2 q8_2
  clear e3 z2 df2
  refine stepV 3 (o := ⟨some 59, Op.load 23 (Operand.tmp 3), 23, "law.go:20", #[⟨2, Ground.guard⟩], some (2, true)⟩) (v := .agg #[.int .i64 1, .int .i64 2, .string ⟨#[97]⟩, .string ⟨#[120]⟩, .int .i64 3]) (d := 59) (listed' := #[true, true, true, true, false, false, false, false, false, false, false, false, false, false, false, false, false, false, false, false, false, false, false, false, false, false, false, false, false, false, false, false, false, false, false, false, false, false, false, false, false, false, false, false, false, false, false, false, false, false, false, false, false, false, false, false, false, false, false, false, false, false, false, false, false, false, false, false, false, false, false, false, false, false, false, false, false, false, false, false, false, false, false, false, false, false, false, false, false, false, false, false, false, false, false, false]) (by rw [hO]; rfl) rfl hns (by rw [hO]; kernel_rfl) (by rw [hO]; kernel_rfl) (by kernel_rfl) hQ ⟨58, by rw [hO]; rfl, q58_3⟩ s0 (fun w hs => rn_ld q3_3 w hs.2) ?_
  intro b4 e4
  have q1_4 := q1_3.mv e4 rfl
  have q4_4 := q4_3.mv e4 rfl
  have q5_4 := q5_3.mv e4 rfl
  have q8_4 := q8_3.mv e4 rfl
  have q11_4 := q11_3.mv e4 rfl
  have q12_4 := q12_3.mv e4 rfl
  have q13_4 := q13_3.mv e4 rfl
  have q14_4 := q14_3.mv e4 rfl
  have q17_4 := q17_3.mv e4 rfl
  have q20_4 := q20_3.mv e4 rfl
  have q58_4 := q58_3.mv e4 rfl
  have q59_4 : At b4 59 (.agg #[.int .i64 1, .int .i64 2, .string ⟨#[97]⟩, .string ⟨#[120]⟩, .int .i64 3]) := e4 ▸ At.eq (by rw [z3]; decide)
  have z4 : b4.tmps.size = 151 := (e4 ▸ size_put _ _ _).trans z3
  have df4 : b4.defers = [] := by rw [e4]; exact df3
  clear q11_3 q12_3 q13_3 q14_3 q17_3 q1_3 q20_3 q3_3 q4_3 q58_3 q5_3 q8_3
  clear e4 z3 df3
  refine stepV 4 (o := ⟨some 60, Op.load 23 (Operand.tmp 1), 23, "law.go:20", #[⟨2, Ground.guard⟩], some (2, true)⟩) (v := .agg #[.int .i64 1, .int .i64 2, .string ⟨#[97]⟩, .string ⟨#[120]⟩, .int .i64 3]) (d := 60) (listed' := #[true, true, true, true, true, false, false, false, false, false, false, false, false, false, false, false, false, false, false, false, false, false, false, false, false, false, false, false, false, false, false, false, false, false, false, false, false, false, false, false, false, false, false, false, false, false, false, false, false, false, false, false, false, false, false, false, false, false, false, false, false, false, false, false, false, false, false, false, false, false, false, false, false, false, false, false, false, false, false, false, false, false, false, false, false, false, false, false, false, false, false, false, false, false, false, false]) (by rw [hO]; rfl) rfl hns (by rw [hO]; kernel_rfl) (by rw [hO]; kernel_rfl) (by kernel_rfl) hQ ⟨58, by rw [hO]; rfl, q58_4⟩ s0 (fun w hs => rn_ld q1_4 w hs.1) ?_
  intro b5 e5
  have q1_5 := q1_4.mv e5 rfl
  have q4_5 := q4_4.mv e5 rfl
  have q5_5 := q5_4.mv e5 rfl
  have q8_5 := q8_4.mv e5 rfl
  have q11_5 := q11_4.mv e5 rfl
  have q12_5 := q12_4.mv e5 rfl
  have q13_5 := q13_4.mv e5 rfl
  have q14_5 := q14_4.mv e5 rfl
  have q17_5 := q17_4.mv e5 rfl
  have q20_5 := q20_4.mv e5 rfl
  have q58_5 := q58_4.mv e5 rfl
  have q59_5 := q59_4.mv e5 rfl
  have q60_5 : At b5 60 (.agg #[.int .i64 1, .int .i64 2, .string ⟨#[97]⟩, .string ⟨#[120]⟩, .int .i64 3]) := e5 ▸ At.eq (by rw [z4]; decide)
  have z5 : b5.tmps.size = 151 := (e5 ▸ size_put _ _ _).trans z4
  have df5 : b5.defers = [] := by rw [e5]; exact df4
  clear q11_4 q12_4 q13_4 q14_4 q17_4 q1_4 q20_4 q4_4 q58_4 q59_4 q5_4 q8_4
  clear e5 z4 df4
  refine stepV 5 (o := ⟨some 61, Op.binOp BinOp.eql 23 (Operand.tmp 59) (Operand.tmp 60) 23, 4, "law.go:20", #[⟨3, Ground.data⟩, ⟨4, Ground.data⟩, ⟨2, Ground.guard⟩], some (2, true)⟩) (v := .bool true) (d := 61) (listed' := #[true, true, true, true, true, true, false, false, false, false, false, false, false, false, false, false, false, false, false, false, false, false, false, false, false, false, false, false, false, false, false, false, false, false, false, false, false, false, false, false, false, false, false, false, false, false, false, false, false, false, false, false, false, false, false, false, false, false, false, false, false, false, false, false, false, false, false, false, false, false, false, false, false, false, false, false, false, false, false, false, false, false, false, false, false, false, false, false, false, false, false, false, false, false, false, false]) (by rw [hO]; rfl) rfl hns (by rw [hO]; kernel_rfl) (by rw [hO]; kernel_rfl) (by kernel_rfl) hQ ⟨58, by rw [hO]; rfl, q58_5⟩ s0 (fun w _ => rn_eqE q59_5 q60_5 w) ?_
  intro b6 e6
  have q1_6 := q1_5.mv e6 rfl
  have q4_6 := q4_5.mv e6 rfl
  have q5_6 := q5_5.mv e6 rfl
  have q8_6 := q8_5.mv e6 rfl
  have q11_6 := q11_5.mv e6 rfl
  have q12_6 := q12_5.mv e6 rfl
  have q13_6 := q13_5.mv e6 rfl
  have q14_6 := q14_5.mv e6 rfl
  have q17_6 := q17_5.mv e6 rfl
  have q20_6 := q20_5.mv e6 rfl
  have q58_6 := q58_5.mv e6 rfl
  have q61_6 : At b6 61 (.bool true) := e6 ▸ At.eq (by rw [z5]; decide)
  have z6 : b6.tmps.size = 151 := (e6 ▸ size_put _ _ _).trans z5
  have df6 : b6.defers = [] := by rw [e6]; exact df5
  clear q11_5 q12_5 q13_5 q14_5 q17_5 q1_5 q20_5 q4_5 q58_5 q59_5 q5_5 q60_5 q8_5
  clear e6 z5 df5
  refine stepV 6 (o := ⟨some 62, Op.pick (Operand.tmp 58) (Operand.tmp 61) (Operand.const (Value.bool false)), 4, "law.go:20", #[⟨2, Ground.data⟩, ⟨5, Ground.data⟩], none⟩) (v := .bool true) (d := 62) (listed' := #[true, true, true, true, true, true, true, false, false, false, false, false, false, false, false, false, false, false, false, false, false, false, false, false, false, false, false, false, false, false, false, false, false, false, false, false, false, false, false, false, false, false, false, false, false, false, false, false, false, false, false, false, false, false, false, false, false, false, false, false, false, false, false, false, false, false, false, false, false, false, false, false, false, false, false, false, false, false, false, false, false, false, false, false, false, false, false, false, false, false, false, false, false, false, false, false]) (by rw [hO]; rfl) rfl hns (by rw [hO]; kernel_rfl) (by rw [hO]; kernel_rfl) (by kernel_rfl) hQ trivial s0 (fun w _ => rn_pk q58_6 q61_6 w) ?_
  intro b7 e7
  have q1_7 := q1_6.mv e7 rfl
  have q4_7 := q4_6.mv e7 rfl
  have q5_7 := q5_6.mv e7 rfl
  have q8_7 := q8_6.mv e7 rfl
  have q11_7 := q11_6.mv e7 rfl
  have q12_7 := q12_6.mv e7 rfl
  have q13_7 := q13_6.mv e7 rfl
  have q14_7 := q14_6.mv e7 rfl
  have q17_7 := q17_6.mv e7 rfl
  have q20_7 := q20_6.mv e7 rfl
  have q62_7 : At b7 62 (.bool true) := e7 ▸ At.eq (by rw [z6]; decide)
  have z7 : b7.tmps.size = 151 := (e7 ▸ size_put _ _ _).trans z6
  have df7 : b7.defers = [] := by rw [e7]; exact df6
  clear q11_6 q12_6 q13_6 q14_6 q17_6 q1_6 q20_6 q4_6 q58_6 q5_6 q61_6 q8_6
  clear e7 z6 df6
  refine stepV 7 (o := ⟨some 63, Op.move (Operand.tmp 62), 4, "law.go:20", #[⟨6, Ground.data⟩, ⟨2, Ground.chain⟩], none⟩) (v := .bool true) (d := 63) (listed' := #[true, true, true, true, true, true, true, true, false, false, false, false, false, false, false, false, false, false, false, false, false, false, false, false, false, false, false, false, false, false, false, false, false, false, false, false, false, false, false, false, false, false, false, false, false, false, false, false, false, false, false, false, false, false, false, false, false, false, false, false, false, false, false, false, false, false, false, false, false, false, false, false, false, false, false, false, false, false, false, false, false, false, false, false, false, false, false, false, false, false, false, false, false, false, false, false]) (by rw [hO]; rfl) rfl hns (by rw [hO]; kernel_rfl) (by rw [hO]; kernel_rfl) (by kernel_rfl) hQ trivial s0 (fun w _ => rn_move q62_7 rfl w) ?_
  intro b8 e8
  have q1_8 := q1_7.mv e8 rfl
  have q4_8 := q4_7.mv e8 rfl
  have q5_8 := q5_7.mv e8 rfl
  have q8_8 := q8_7.mv e8 rfl
  have q11_8 := q11_7.mv e8 rfl
  have q12_8 := q12_7.mv e8 rfl
  have q13_8 := q13_7.mv e8 rfl
  have q14_8 := q14_7.mv e8 rfl
  have q17_8 := q17_7.mv e8 rfl
  have q20_8 := q20_7.mv e8 rfl
  have q63_8 : At b8 63 (.bool true) := e8 ▸ At.eq (by rw [z7]; decide)
  have z8 : b8.tmps.size = 151 := (e8 ▸ size_put _ _ _).trans z7
  have df8 : b8.defers = [] := by rw [e8]; exact df7
  clear q11_7 q12_7 q13_7 q14_7 q17_7 q1_7 q20_7 q4_7 q5_7 q62_7 q8_7
  clear e8 z7 df7
  refine stepV 8 (o := ⟨some 64, Op.move (Operand.tmp 4), 3, "law.go:20", #[⟨7, Ground.guard⟩], some (7, true)⟩) (v := .int .i64 8) (d := 64) (listed' := #[true, true, true, true, true, true, true, true, true, false, false, false, false, false, false, false, false, false, false, false, false, false, false, false, false, false, false, false, false, false, false, false, false, false, false, false, false, false, false, false, false, false, false, false, false, false, false, false, false, false, false, false, false, false, false, false, false, false, false, false, false, false, false, false, false, false, false, false, false, false, false, false, false, false, false, false, false, false, false, false, false, false, false, false, false, false, false, false, false, false, false, false, false, false, false, false]) (by rw [hO]; rfl) rfl hns (by rw [hO]; kernel_rfl) (by rw [hO]; kernel_rfl) (by kernel_rfl) hQ ⟨63, by rw [hO]; rfl, q63_8⟩ s0 (fun w _ => rn_move q4_8 rfl w) ?_
  intro b9 e9
  have q1_9 := q1_8.mv e9 rfl
  have q5_9 := q5_8.mv e9 rfl
  have q8_9 := q8_8.mv e9 rfl
  have q11_9 := q11_8.mv e9 rfl
  have q12_9 := q12_8.mv e9 rfl
  have q13_9 := q13_8.mv e9 rfl
  have q14_9 := q14_8.mv e9 rfl
  have q17_9 := q17_8.mv e9 rfl
  have q20_9 := q20_8.mv e9 rfl
  have q63_9 := q63_8.mv e9 rfl
  have q64_9 : At b9 64 (.int .i64 8) := e9 ▸ At.eq (by rw [z8]; decide)
  have z9 : b9.tmps.size = 151 := (e9 ▸ size_put _ _ _).trans z8
  have df9 : b9.defers = [] := by rw [e9]; exact df8
  clear q11_8 q12_8 q13_8 q14_8 q17_8 q1_8 q20_8 q4_8 q5_8 q63_8 q8_8
  clear e9 z8 df8
  refine stepV 9 (o := ⟨some 65, Op.binOp BinOp.eql 3 (Operand.tmp 64) (Operand.const (Value.int IntKind.i64 8)) 3, 4, "law.go:20", #[⟨8, Ground.data⟩, ⟨7, Ground.guard⟩], some (7, true)⟩) (v := .bool true) (d := 65) (listed' := #[true, true, true, true, true, true, true, true, true, true, false, false, false, false, false, false, false, false, false, false, false, false, false, false, false, false, false, false, false, false, false, false, false, false, false, false, false, false, false, false, false, false, false, false, false, false, false, false, false, false, false, false, false, false, false, false, false, false, false, false, false, false, false, false, false, false, false, false, false, false, false, false, false, false, false, false, false, false, false, false, false, false, false, false, false, false, false, false, false, false, false, false, false, false, false, false]) (by rw [hO]; rfl) rfl hns (by rw [hO]; kernel_rfl) (by rw [hO]; kernel_rfl) (by kernel_rfl) hQ ⟨63, by rw [hO]; rfl, q63_9⟩ s0 (fun w _ => rn_eq3 q64_9 w) ?_
  intro b10 e10
  have q1_10 := q1_9.mv e10 rfl
  have q5_10 := q5_9.mv e10 rfl
  have q8_10 := q8_9.mv e10 rfl
  have q11_10 := q11_9.mv e10 rfl
  have q12_10 := q12_9.mv e10 rfl
  have q13_10 := q13_9.mv e10 rfl
  have q14_10 := q14_9.mv e10 rfl
  have q17_10 := q17_9.mv e10 rfl
  have q20_10 := q20_9.mv e10 rfl
  have q63_10 := q63_9.mv e10 rfl
  have q65_10 : At b10 65 (.bool true) := e10 ▸ At.eq (by rw [z9]; decide)
  have z10 : b10.tmps.size = 151 := (e10 ▸ size_put _ _ _).trans z9
  have df10 : b10.defers = [] := by rw [e10]; exact df9
  clear q11_9 q12_9 q13_9 q14_9 q17_9 q1_9 q20_9 q5_9 q63_9 q64_9 q8_9
  clear e10 z9 df9
  refine stepV 10 (o := ⟨some 66, Op.pick (Operand.tmp 63) (Operand.tmp 65) (Operand.const (Value.bool false)), 4, "law.go:20", #[⟨7, Ground.data⟩, ⟨9, Ground.data⟩], none⟩) (v := .bool true) (d := 66) (listed' := #[true, true, true, true, true, true, true, true, true, true, true, false, false, false, false, false, false, false, false, false, false, false, false, false, false, false, false, false, false, false, false, false, false, false, false, false, false, false, false, false, false, false, false, false, false, false, false, false, false, false, false, false, false, false, false, false, false, false, false, false, false, false, false, false, false, false, false, false, false, false, false, false, false, false, false, false, false, false, false, false, false, false, false, false, false, false, false, false, false, false, false, false, false, false, false, false]) (by rw [hO]; rfl) rfl hns (by rw [hO]; kernel_rfl) (by rw [hO]; kernel_rfl) (by kernel_rfl) hQ trivial s0 (fun w _ => rn_pk q63_10 q65_10 w) ?_
  intro b11 e11
  have q1_11 := q1_10.mv e11 rfl
  have q5_11 := q5_10.mv e11 rfl
  have q8_11 := q8_10.mv e11 rfl
  have q11_11 := q11_10.mv e11 rfl
  have q12_11 := q12_10.mv e11 rfl
  have q13_11 := q13_10.mv e11 rfl
  have q14_11 := q14_10.mv e11 rfl
  have q17_11 := q17_10.mv e11 rfl
  have q20_11 := q20_10.mv e11 rfl
  have q66_11 : At b11 66 (.bool true) := e11 ▸ At.eq (by rw [z10]; decide)
  have z11 : b11.tmps.size = 151 := (e11 ▸ size_put _ _ _).trans z10
  have df11 : b11.defers = [] := by rw [e11]; exact df10
  clear q11_10 q12_10 q13_10 q14_10 q17_10 q1_10 q20_10 q5_10 q63_10 q65_10 q8_10
  clear e11 z10 df10
  refine stepV 11 (o := ⟨some 67, Op.move (Operand.tmp 66), 4, "law.go:20", #[⟨10, Ground.data⟩, ⟨7, Ground.chain⟩], none⟩) (v := .bool true) (d := 67) (listed' := #[true, true, true, true, true, true, true, true, true, true, true, true, false, false, false, false, false, false, false, false, false, false, false, false, false, false, false, false, false, false, false, false, false, false, false, false, false, false, false, false, false, false, false, false, false, false, false, false, false, false, false, false, false, false, false, false, false, false, false, false, false, false, false, false, false, false, false, false, false, false, false, false, false, false, false, false, false, false, false, false, false, false, false, false, false, false, false, false, false, false, false, false, false, false, false, false]) (by rw [hO]; rfl) rfl hns (by rw [hO]; kernel_rfl) (by rw [hO]; kernel_rfl) (by kernel_rfl) hQ trivial s0 (fun w _ => rn_move q66_11 rfl w) ?_
  intro b12 e12
  have q1_12 := q1_11.mv e12 rfl
  have q5_12 := q5_11.mv e12 rfl
  have q8_12 := q8_11.mv e12 rfl
  have q11_12 := q11_11.mv e12 rfl
  have q12_12 := q12_11.mv e12 rfl
  have q13_12 := q13_11.mv e12 rfl
  have q14_12 := q14_11.mv e12 rfl
  have q17_12 := q17_11.mv e12 rfl
  have q20_12 := q20_11.mv e12 rfl
  have q67_12 : At b12 67 (.bool true) := e12 ▸ At.eq (by rw [z11]; decide)
  have z12 : b12.tmps.size = 151 := (e12 ▸ size_put _ _ _).trans z11
  have df12 : b12.defers = [] := by rw [e12]; exact df11
  clear q11_11 q12_11 q13_11 q14_11 q17_11 q1_11 q20_11 q5_11 q66_11 q8_11
  clear e12 z11 df11
  refine stepV 12 (o := ⟨some 68, Op.move (Operand.tmp 5), 31, "law.go:20", #[⟨11, Ground.guard⟩], some (11, true)⟩) (v := .int .i64 0) (d := 68) (listed' := #[true, true, true, true, true, true, true, true, true, true, true, true, true, false, false, false, false, false, false, false, false, false, false, false, false, false, false, false, false, false, false, false, false, false, false, false, false, false, false, false, false, false, false, false, false, false, false, false, false, false, false, false, false, false, false, false, false, false, false, false, false, false, false, false, false, false, false, false, false, false, false, false, false, false, false, false, false, false, false, false, false, false, false, false, false, false, false, false, false, false, false, false, false, false, false, false]) (by rw [hO]; rfl) rfl hns (by rw [hO]; kernel_rfl) (by rw [hO]; kernel_rfl) (by kernel_rfl) hQ ⟨67, by rw [hO]; rfl, q67_12⟩ s0 (fun w _ => rn_move q5_12 rfl w) ?_
  intro b13 e13
  have q1_13 := q1_12.mv e13 rfl
  have q8_13 := q8_12.mv e13 rfl
  have q11_13 := q11_12.mv e13 rfl
  have q12_13 := q12_12.mv e13 rfl
  have q13_13 := q13_12.mv e13 rfl
  have q14_13 := q14_12.mv e13 rfl
  have q17_13 := q17_12.mv e13 rfl
  have q20_13 := q20_12.mv e13 rfl
  have q67_13 := q67_12.mv e13 rfl
  have q68_13 : At b13 68 (.int .i64 0) := e13 ▸ At.eq (by rw [z12]; decide)
  have z13 : b13.tmps.size = 151 := (e13 ▸ size_put _ _ _).trans z12
  have df13 : b13.defers = [] := by rw [e13]; exact df12
  clear q11_12 q12_12 q13_12 q14_12 q17_12 q1_12 q20_12 q5_12 q67_12 q8_12
  clear e13 z12 df12
  refine stepV 13 (o := ⟨some 69, Op.binOp BinOp.eql 31 (Operand.tmp 68) (Operand.const (Value.int IntKind.i64 0)) 31, 4, "law.go:20", #[⟨12, Ground.data⟩, ⟨11, Ground.guard⟩], some (11, true)⟩) (v := .bool true) (d := 69) (listed' := #[true, true, true, true, true, true, true, true, true, true, true, true, true, true, false, false, false, false, false, false, false, false, false, false, false, false, false, false, false, false, false, false, false, false, false, false, false, false, false, false, false, false, false, false, false, false, false, false, false, false, false, false, false, false, false, false, false, false, false, false, false, false, false, false, false, false, false, false, false, false, false, false, false, false, false, false, false, false, false, false, false, false, false, false, false, false, false, false, false, false, false, false, false, false, false, false]) (by rw [hO]; rfl) rfl hns (by rw [hO]; kernel_rfl) (by rw [hO]; kernel_rfl) (by kernel_rfl) hQ ⟨67, by rw [hO]; rfl, q67_13⟩ s0 (fun w _ => rn_eq31 q68_13 w) ?_
  intro b14 e14
  have q1_14 := q1_13.mv e14 rfl
  have q8_14 := q8_13.mv e14 rfl
  have q11_14 := q11_13.mv e14 rfl
  have q12_14 := q12_13.mv e14 rfl
  have q13_14 := q13_13.mv e14 rfl
  have q14_14 := q14_13.mv e14 rfl
  have q17_14 := q17_13.mv e14 rfl
  have q20_14 := q20_13.mv e14 rfl
  have q67_14 := q67_13.mv e14 rfl
  have q69_14 : At b14 69 (.bool true) := e14 ▸ At.eq (by rw [z13]; decide)
  have z14 : b14.tmps.size = 151 := (e14 ▸ size_put _ _ _).trans z13
  have df14 : b14.defers = [] := by rw [e14]; exact df13
  clear q11_13 q12_13 q13_13 q14_13 q17_13 q1_13 q20_13 q67_13 q68_13 q8_13
  clear e14 z13 df13
  refine stepV 14 (o := ⟨some 70, Op.pick (Operand.tmp 67) (Operand.tmp 69) (Operand.const (Value.bool false)), 4, "law.go:20", #[⟨11, Ground.data⟩, ⟨13, Ground.data⟩], none⟩) (v := .bool true) (d := 70) (listed' := #[true, true, true, true, true, true, true, true, true, true, true, true, true, true, true, false, false, false, false, false, false, false, false, false, false, false, false, false, false, false, false, false, false, false, false, false, false, false, false, false, false, false, false, false, false, false, false, false, false, false, false, false, false, false, false, false, false, false, false, false, false, false, false, false, false, false, false, false, false, false, false, false, false, false, false, false, false, false, false, false, false, false, false, false, false, false, false, false, false, false, false, false, false, false, false, false]) (by rw [hO]; rfl) rfl hns (by rw [hO]; kernel_rfl) (by rw [hO]; kernel_rfl) (by kernel_rfl) hQ trivial s0 (fun w _ => rn_pk q67_14 q69_14 w) ?_
  intro b15 e15
  have q1_15 := q1_14.mv e15 rfl
  have q8_15 := q8_14.mv e15 rfl
  have q11_15 := q11_14.mv e15 rfl
  have q12_15 := q12_14.mv e15 rfl
  have q13_15 := q13_14.mv e15 rfl
  have q14_15 := q14_14.mv e15 rfl
  have q17_15 := q17_14.mv e15 rfl
  have q20_15 := q20_14.mv e15 rfl
  have q70_15 : At b15 70 (.bool true) := e15 ▸ At.eq (by rw [z14]; decide)
  have z15 : b15.tmps.size = 151 := (e15 ▸ size_put _ _ _).trans z14
  have df15 : b15.defers = [] := by rw [e15]; exact df14
  clear q11_14 q12_14 q13_14 q14_14 q17_14 q1_14 q20_14 q67_14 q69_14 q8_14
  clear e15 z14 df14
  refine stepV 15 (o := ⟨some 71, Op.move (Operand.tmp 70), 4, "law.go:20", #[⟨14, Ground.data⟩, ⟨11, Ground.chain⟩], none⟩) (v := .bool true) (d := 71) (listed' := #[true, true, true, true, true, true, true, true, true, true, true, true, true, true, true, true, false, false, false, false, false, false, false, false, false, false, false, false, false, false, false, false, false, false, false, false, false, false, false, false, false, false, false, false, false, false, false, false, false, false, false, false, false, false, false, false, false, false, false, false, false, false, false, false, false, false, false, false, false, false, false, false, false, false, false, false, false, false, false, false, false, false, false, false, false, false, false, false, false, false, false, false, false, false, false, false]) (by rw [hO]; rfl) rfl hns (by rw [hO]; kernel_rfl) (by rw [hO]; kernel_rfl) (by kernel_rfl) hQ trivial s0 (fun w _ => rn_move q70_15 rfl w) ?_
  intro b16 e16
  have q1_16 := q1_15.mv e16 rfl
  have q8_16 := q8_15.mv e16 rfl
  have q11_16 := q11_15.mv e16 rfl
  have q12_16 := q12_15.mv e16 rfl
  have q13_16 := q13_15.mv e16 rfl
  have q14_16 := q14_15.mv e16 rfl
  have q17_16 := q17_15.mv e16 rfl
  have q20_16 := q20_15.mv e16 rfl
  have q71_16 : At b16 71 (.bool true) := e16 ▸ At.eq (by rw [z15]; decide)
  have z16 : b16.tmps.size = 151 := (e16 ▸ size_put _ _ _).trans z15
  have df16 : b16.defers = [] := by rw [e16]; exact df15
  clear q11_15 q12_15 q13_15 q14_15 q17_15 q1_15 q20_15 q70_15 q8_15
  clear e16 z15 df15
  refine stepV 16 (o := ⟨some 72, Op.move (Operand.tmp 8), 31, "law.go:20", #[⟨15, Ground.guard⟩], some (15, true)⟩) (v := .int .i64 4) (d := 72) (listed' := #[true, true, true, true, true, true, true, true, true, true, true, true, true, true, true, true, true, false, false, false, false, false, false, false, false, false, false, false, false, false, false, false, false, false, false, false, false, false, false, false, false, false, false, false, false, false, false, false, false, false, false, false, false, false, false, false, false, false, false, false, false, false, false, false, false, false, false, false, false, false, false, false, false, false, false, false, false, false, false, false, false, false, false, false, false, false, false, false, false, false, false, false, false, false, false, false]) (by rw [hO]; rfl) rfl hns (by rw [hO]; kernel_rfl) (by rw [hO]; kernel_rfl) (by kernel_rfl) hQ ⟨71, by rw [hO]; rfl, q71_16⟩ s0 (fun w _ => rn_move q8_16 rfl w) ?_
  intro b17 e17
  have q1_17 := q1_16.mv e17 rfl
  have q11_17 := q11_16.mv e17 rfl
  have q12_17 := q12_16.mv e17 rfl
  have q13_17 := q13_16.mv e17 rfl
  have q14_17 := q14_16.mv e17 rfl
  have q17_17 := q17_16.mv e17 rfl
  have q20_17 := q20_16.mv e17 rfl
  have q71_17 := q71_16.mv e17 rfl
  have q72_17 : At b17 72 (.int .i64 4) := e17 ▸ At.eq (by rw [z16]; decide)
  have z17 : b17.tmps.size = 151 := (e17 ▸ size_put _ _ _).trans z16
  have df17 : b17.defers = [] := by rw [e17]; exact df16
  clear q11_16 q12_16 q13_16 q14_16 q17_16 q1_16 q20_16 q71_16 q8_16
  clear e17 z16 df16
  refine stepV 17 (o := ⟨some 73, Op.binOp BinOp.eql 31 (Operand.tmp 72) (Operand.const (Value.int IntKind.i64 4)) 31, 4, "law.go:20", #[⟨16, Ground.data⟩, ⟨15, Ground.guard⟩], some (15, true)⟩) (v := .bool true) (d := 73) (listed' := #[true, true, true, true, true, true, true, true, true, true, true, true, true, true, true, true, true, true, false, false, false, false, false, false, false, false, false, false, false, false, false, false, false, false, false, false, false, false, false, false, false, false, false, false, false, false, false, false, false, false, false, false, false, false, false, false, false, false, false, false, false, false, false, false, false, false, false, false, false, false, false, false, false, false, false, false, false, false, false, false, false, false, false, false, false, false, false, false, false, false, false, false, false, false, false, false]) (by rw [hO]; rfl) rfl hns (by rw [hO]; kernel_rfl) (by rw [hO]; kernel_rfl) (by kernel_rfl) hQ ⟨71, by rw [hO]; rfl, q71_17⟩ s0 (fun w _ => rn_eq31 q72_17 w) ?_
  intro b18 e18
  have q1_18 := q1_17.mv e18 rfl
  have q11_18 := q11_17.mv e18 rfl
  have q12_18 := q12_17.mv e18 rfl
  have q13_18 := q13_17.mv e18 rfl
  have q14_18 := q14_17.mv e18 rfl
  have q17_18 := q17_17.mv e18 rfl
  have q20_18 := q20_17.mv e18 rfl
  have q71_18 := q71_17.mv e18 rfl
  have q73_18 : At b18 73 (.bool true) := e18 ▸ At.eq (by rw [z17]; decide)
  have z18 : b18.tmps.size = 151 := (e18 ▸ size_put _ _ _).trans z17
  have df18 : b18.defers = [] := by rw [e18]; exact df17
  clear q11_17 q12_17 q13_17 q14_17 q17_17 q1_17 q20_17 q71_17 q72_17
  clear e18 z17 df17
  refine stepV 18 (o := ⟨some 74, Op.pick (Operand.tmp 71) (Operand.tmp 73) (Operand.const (Value.bool false)), 4, "law.go:20", #[⟨15, Ground.data⟩, ⟨17, Ground.data⟩], none⟩) (v := .bool true) (d := 74) (listed' := #[true, true, true, true, true, true, true, true, true, true, true, true, true, true, true, true, true, true, true, false, false, false, false, false, false, false, false, false, false, false, false, false, false, false, false, false, false, false, false, false, false, false, false, false, false, false, false, false, false, false, false, false, false, false, false, false, false, false, false, false, false, false, false, false, false, false, false, false, false, false, false, false, false, false, false, false, false, false, false, false, false, false, false, false, false, false, false, false, false, false, false, false, false, false, false, false]) (by rw [hO]; rfl) rfl hns (by rw [hO]; kernel_rfl) (by rw [hO]; kernel_rfl) (by kernel_rfl) hQ trivial s0 (fun w _ => rn_pk q71_18 q73_18 w) ?_
  intro b19 e19
  have q1_19 := q1_18.mv e19 rfl
  have q11_19 := q11_18.mv e19 rfl
  have q12_19 := q12_18.mv e19 rfl
  have q13_19 := q13_18.mv e19 rfl
  have q14_19 := q14_18.mv e19 rfl
  have q17_19 := q17_18.mv e19 rfl
  have q20_19 := q20_18.mv e19 rfl
  have q74_19 : At b19 74 (.bool true) := e19 ▸ At.eq (by rw [z18]; decide)
  have z19 : b19.tmps.size = 151 := (e19 ▸ size_put _ _ _).trans z18
  have df19 : b19.defers = [] := by rw [e19]; exact df18
  clear q11_18 q12_18 q13_18 q14_18 q17_18 q1_18 q20_18 q71_18 q73_18
  clear e19 z18 df18
  refine stepV 19 (o := ⟨some 75, Op.move (Operand.tmp 74), 4, "law.go:20", #[⟨18, Ground.data⟩, ⟨15, Ground.chain⟩], none⟩) (v := .bool true) (d := 75) (listed' := #[true, true, true, true, true, true, true, true, true, true, true, true, true, true, true, true, true, true, true, true, false, false, false, false, false, false, false, false, false, false, false, false, false, false, false, false, false, false, false, false, false, false, false, false, false, false, false, false, false, false, false, false, false, false, false, false, false, false, false, false, false, false, false, false, false, false, false, false, false, false, false, false, false, false, false, false, false, false, false, false, false, false, false, false, false, false, false, false, false, false, false, false, false, false, false, false]) (by rw [hO]; rfl) rfl hns (by rw [hO]; kernel_rfl) (by rw [hO]; kernel_rfl) (by kernel_rfl) hQ trivial s0 (fun w _ => rn_move q74_19 rfl w) ?_
  intro b20 e20
  have q1_20 := q1_19.mv e20 rfl
  have q11_20 := q11_19.mv e20 rfl
  have q12_20 := q12_19.mv e20 rfl
  have q13_20 := q13_19.mv e20 rfl
  have q14_20 := q14_19.mv e20 rfl
  have q17_20 := q17_19.mv e20 rfl
  have q20_20 := q20_19.mv e20 rfl
  have q75_20 : At b20 75 (.bool true) := e20 ▸ At.eq (by rw [z19]; decide)
  have z20 : b20.tmps.size = 151 := (e20 ▸ size_put _ _ _).trans z19
  have df20 : b20.defers = [] := by rw [e20]; exact df19
  clear q11_19 q12_19 q13_19 q14_19 q17_19 q1_19 q20_19 q74_19
  clear e20 z19 df19
  refine stepV 20 (o := ⟨some 76, Op.move (Operand.tmp 11), 31, "law.go:20", #[⟨19, Ground.guard⟩], some (19, true)⟩) (v := .int .i64 3) (d := 76) (listed' := #[true, true, true, true, true, true, true, true, true, true, true, true, true, true, true, true, true, true, true, true, true, false, false, false, false, false, false, false, false, false, false, false, false, false, false, false, false, false, false, false, false, false, false, false, false, false, false, false, false, false, false, false, false, false, false, false, false, false, false, false, false, false, false, false, false, false, false, false, false, false, false, false, false, false, false, false, false, false, false, false, false, false, false, false, false, false, false, false, false, false, false, false, false, false, false, false]) (by rw [hO]; rfl) rfl hns (by rw [hO]; kernel_rfl) (by rw [hO]; kernel_rfl) (by kernel_rfl) hQ ⟨75, by rw [hO]; rfl, q75_20⟩ s0 (fun w _ => rn_move q11_20 rfl w) ?_
  intro b21 e21
  have q1_21 := q1_20.mv e21 rfl
  have q12_21 := q12_20.mv e21 rfl
  have q13_21 := q13_20.mv e21 rfl
  have q14_21 := q14_20.mv e21 rfl
  have q17_21 := q17_20.mv e21 rfl
  have q20_21 := q20_20.mv e21 rfl
  have q75_21 := q75_20.mv e21 rfl
  have q76_21 : At b21 76 (.int .i64 3) := e21 ▸ At.eq (by rw [z20]; decide)
  have z21 : b21.tmps.size = 151 := (e21 ▸ size_put _ _ _).trans z20
  have df21 : b21.defers = [] := by rw [e21]; exact df20
  clear q11_20 q12_20 q13_20 q14_20 q17_20 q1_20 q20_20 q75_20
  clear e21 z20 df20
  refine stepV 21 (o := ⟨some 77, Op.binOp BinOp.eql 31 (Operand.tmp 76) (Operand.const (Value.int IntKind.i64 3)) 31, 4, "law.go:20", #[⟨20, Ground.data⟩, ⟨19, Ground.guard⟩], some (19, true)⟩) (v := .bool true) (d := 77) (listed' := #[true, true, true, true, true, true, true, true, true, true, true, true, true, true, true, true, true, true, true, true, true, true, false, false, false, false, false, false, false, false, false, false, false, false, false, false, false, false, false, false, false, false, false, false, false, false, false, false, false, false, false, false, false, false, false, false, false, false, false, false, false, false, false, false, false, false, false, false, false, false, false, false, false, false, false, false, false, false, false, false, false, false, false, false, false, false, false, false, false, false, false, false, false, false, false, false]) (by rw [hO]; rfl) rfl hns (by rw [hO]; kernel_rfl) (by rw [hO]; kernel_rfl) (by kernel_rfl) hQ ⟨75, by rw [hO]; rfl, q75_21⟩ s0 (fun w _ => rn_eq31 q76_21 w) ?_
  intro b22 e22
  have q1_22 := q1_21.mv e22 rfl
  have q12_22 := q12_21.mv e22 rfl
  have q13_22 := q13_21.mv e22 rfl
  have q14_22 := q14_21.mv e22 rfl
  have q17_22 := q17_21.mv e22 rfl
  have q20_22 := q20_21.mv e22 rfl
  have q75_22 := q75_21.mv e22 rfl
  have q77_22 : At b22 77 (.bool true) := e22 ▸ At.eq (by rw [z21]; decide)
  have z22 : b22.tmps.size = 151 := (e22 ▸ size_put _ _ _).trans z21
  have df22 : b22.defers = [] := by rw [e22]; exact df21
  clear q12_21 q13_21 q14_21 q17_21 q1_21 q20_21 q75_21 q76_21
  clear e22 z21 df21
  refine stepV 22 (o := ⟨some 78, Op.pick (Operand.tmp 75) (Operand.tmp 77) (Operand.const (Value.bool false)), 4, "law.go:20", #[⟨19, Ground.data⟩, ⟨21, Ground.data⟩], none⟩) (v := .bool true) (d := 78) (listed' := #[true, true, true, true, true, true, true, true, true, true, true, true, true, true, true, true, true, true, true, true, true, true, true, false, false, false, false, false, false, false, false, false, false, false, false, false, false, false, false, false, false, false, false, false, false, false, false, false, false, false, false, false, false, false, false, false, false, false, false, false, false, false, false, false, false, false, false, false, false, false, false, false, false, false, false, false, false, false, false, false, false, false, false, false, false, false, false, false, false, false, false, false, false, false, false, false]) (by rw [hO]; rfl) rfl hns (by rw [hO]; kernel_rfl) (by rw [hO]; kernel_rfl) (by kernel_rfl) hQ trivial s0 (fun w _ => rn_pk q75_22 q77_22 w) ?_
  intro b23 e23
  have q1_23 := q1_22.mv e23 rfl
  have q12_23 := q12_22.mv e23 rfl
  have q13_23 := q13_22.mv e23 rfl
  have q14_23 := q14_22.mv e23 rfl
  have q17_23 := q17_22.mv e23 rfl
  have q20_23 := q20_22.mv e23 rfl
  have q78_23 : At b23 78 (.bool true) := e23 ▸ At.eq (by rw [z22]; decide)
  have z23 : b23.tmps.size = 151 := (e23 ▸ size_put _ _ _).trans z22
  have df23 : b23.defers = [] := by rw [e23]; exact df22
  clear q12_22 q13_22 q14_22 q17_22 q1_22 q20_22 q75_22 q77_22
  clear e23 z22 df22
  refine stepV 23 (o := ⟨some 79, Op.move (Operand.tmp 78), 4, "law.go:20", #[⟨22, Ground.data⟩, ⟨19, Ground.chain⟩], none⟩) (v := .bool true) (d := 79) (listed' := #[true, true, true, true, true, true, true, true, true, true, true, true, true, true, true, true, true, true, true, true, true, true, true, true, false, false, false, false, false, false, false, false, false, false, false, false, false, false, false, false, false, false, false, false, false, false, false, false, false, false, false, false, false, false, false, false, false, false, false, false, false, false, false, false, false, false, false, false, false, false, false, false, false, false, false, false, false, false, false, false, false, false, false, false, false, false, false, false, false, false, false, false, false, false, false, false]) (by rw [hO]; rfl) rfl hns (by rw [hO]; kernel_rfl) (by rw [hO]; kernel_rfl) (by kernel_rfl) hQ trivial s0 (fun w _ => rn_move q78_23 rfl w) ?_
  intro b24 e24
  have q1_24 := q1_23.mv e24 rfl
  have q12_24 := q12_23.mv e24 rfl
  have q13_24 := q13_23.mv e24 rfl
  have q14_24 := q14_23.mv e24 rfl
  have q17_24 := q17_23.mv e24 rfl
  have q20_24 := q20_23.mv e24 rfl
  have q79_24 : At b24 79 (.bool true) := e24 ▸ At.eq (by rw [z23]; decide)
  have z24 : b24.tmps.size = 151 := (e24 ▸ size_put _ _ _).trans z23
  have df24 : b24.defers = [] := by rw [e24]; exact df23
  clear q12_23 q13_23 q14_23 q17_23 q1_23 q20_23 q78_23
  clear e24 z23 df23
  refine stepV 24 (o := ⟨some 80, Op.move (Operand.tmp 12), 34, "law.go:20", #[⟨23, Ground.guard⟩], some (23, true)⟩) (v := .slice av 2 cap) (d := 80) (listed' := #[true, true, true, true, true, true, true, true, true, true, true, true, true, true, true, true, true, true, true, true, true, true, true, true, true, false, false, false, false, false, false, false, false, false, false, false, false, false, false, false, false, false, false, false, false, false, false, false, false, false, false, false, false, false, false, false, false, false, false, false, false, false, false, false, false, false, false, false, false, false, false, false, false, false, false, false, false, false, false, false, false, false, false, false, false, false, false, false, false, false, false, false, false, false, false, false]) (by rw [hO]; rfl) rfl hns (by rw [hO]; kernel_rfl) (by rw [hO]; kernel_rfl) (by kernel_rfl) hQ ⟨79, by rw [hO]; rfl, q79_24⟩ s0 (fun w _ => rn_move q12_24 rfl w) ?_
  intro b25 e25
  have q1_25 := q1_24.mv e25 rfl
  have q12_25 := q12_24.mv e25 rfl
  have q13_25 := q13_24.mv e25 rfl
  have q14_25 := q14_24.mv e25 rfl
  have q17_25 := q17_24.mv e25 rfl
  have q20_25 := q20_24.mv e25 rfl
  have q79_25 := q79_24.mv e25 rfl
  have q80_25 : At b25 80 (.slice av 2 cap) := e25 ▸ At.eq (by rw [z24]; decide)
  have z25 : b25.tmps.size = 151 := (e25 ▸ size_put _ _ _).trans z24
  have df25 : b25.defers = [] := by rw [e25]; exact df24
  clear q12_24 q13_24 q14_24 q17_24 q1_24 q20_24 q79_24
  clear e25 z24 df24
  refine stepV 25 (o := ⟨some 81, Op.build 59 #[(0, Operand.const (Value.int IntKind.i64 0)), (1, Operand.const (Value.int IntKind.i64 5))], 59, "law.go:20", #[⟨23, Ground.guard⟩], some (23, true)⟩) (v := .agg #[.int .i64 0, .int .i64 5]) (d := 81) (listed' := #[true, true, true, true, true, true, true, true, true, true, true, true, true, true, true, true, true, true, true, true, true, true, true, true, true, true, false, false, false, false, false, false, false, false, false, false, false, false, false, false, false, false, false, false, false, false, false, false, false, false, false, false, false, false, false, false, false, false, false, false, false, false, false, false, false, false, false, false, false, false, false, false, false, false, false, false, false, false, false, false, false, false, false, false, false, false, false, false, false, false, false, false, false, false, false, false]) (by rw [hO]; rfl) rfl hns (by rw [hO]; kernel_rfl) (by rw [hO]; kernel_rfl) (by kernel_rfl) hQ ⟨79, by rw [hO]; rfl, q79_25⟩ s0 (fun w _ => rn_b59 w) ?_
  intro b26 e26
  have q1_26 := q1_25.mv e26 rfl
  have q12_26 := q12_25.mv e26 rfl
  have q13_26 := q13_25.mv e26 rfl
  have q14_26 := q14_25.mv e26 rfl
  have q17_26 := q17_25.mv e26 rfl
  have q20_26 := q20_25.mv e26 rfl
  have q79_26 := q79_25.mv e26 rfl
  have q80_26 := q80_25.mv e26 rfl
  have q81_26 : At b26 81 (.agg #[.int .i64 0, .int .i64 5]) := e26 ▸ At.eq (by rw [z25]; decide)
  have z26 : b26.tmps.size = 151 := (e26 ▸ size_put _ _ _).trans z25
  have df26 : b26.defers = [] := by rw [e26]; exact df25
  clear q12_25 q13_25 q14_25 q17_25 q1_25 q20_25 q79_25 q80_25
  clear e26 z25 df25
  refine stepV 26 (o := ⟨some 82, Op.build 59 #[(0, Operand.const (Value.int IntKind.i64 3)), (1, Operand.const (Value.int IntKind.i64 1))], 59, "law.go:20", #[⟨23, Ground.guard⟩], some (23, true)⟩) (v := .agg #[.int .i64 3, .int .i64 1]) (d := 82) (listed' := #[true, true, true, true, true, true, true, true, true, true, true, true, true, true, true, true, true, true, true, true, true, true, true, true, true, true, true, false, false, false, false, false, false, false, false, false, false, false, false, false, false, false, false, false, false, false, false, false, false, false, false, false, false, false, false, false, false, false, false, false, false, false, false, false, false, false, false, false, false, false, false, false, false, false, false, false, false, false, false, false, false, false, false, false, false, false, false, false, false, false, false, false, false, false, false, false]) (by rw [hO]; rfl) rfl hns (by rw [hO]; kernel_rfl) (by rw [hO]; kernel_rfl) (by kernel_rfl) hQ ⟨79, by rw [hO]; rfl, q79_26⟩ s0 (fun w _ => rn_b59 w) ?_
  intro b27 e27
  have q1_27 := q1_26.mv e27 rfl
  have q12_27 := q12_26.mv e27 rfl
  have q13_27 := q13_26.mv e27 rfl
  have q14_27 := q14_26.mv e27 rfl
  have q17_27 := q17_26.mv e27 rfl
  have q20_27 := q20_26.mv e27 rfl
  have q79_27 := q79_26.mv e27 rfl
  have q80_27 := q80_26.mv e27 rfl
  have q81_27 := q81_26.mv e27 rfl
  have q82_27 : At b27 82 (.agg #[.int .i64 3, .int .i64 1]) := e27 ▸ At.eq (by rw [z26]; decide)
  have z27 : b27.tmps.size = 151 := (e27 ▸ size_put _ _ _).trans z26
  have df27 : b27.defers = [] := by rw [e27]; exact df26
  clear q12_26 q13_26 q14_26 q17_26 q1_26 q20_26 q79_26 q80_26 q81_26
  clear e27 z26 df26
  have sa1 : FCells R X (w.alloc (.cells #[.int .i64 0, .int .i64 5, .int .i64 3, .int .i64 1] 59)) := s0.alloc _
  refine stepA 27 (o := ⟨some 83, Op.buildSlice 34 2 #[(0, Operand.tmp 81), (1, Operand.tmp 82)], 34, "law.go:20", #[⟨25, Ground.data⟩, ⟨26, Ground.data⟩, ⟨23, Ground.guard⟩], some (23, true)⟩) (v := .slice (some ⟨w.heap.size, 0, none⟩) 2 2) (d := 83) (listed' := #[true, true, true, true, true, true, true, true, true, true, true, true, true, true, true, true, true, true, true, true, true, true, true, true, true, true, true, true, false, false, false, false, false, false, false, false, false, false, false, false, false, false, false, false, false, false, false, false, false, false, false, false, false, false, false, false, false, false, false, false, false, false, false, false, false, false, false, false, false, false, false, false, false, false, false, false, false, false, false, false, false, false, false, false, false, false, false, false, false, false, false, false, false, false, false, false]) (by rw [hO]; rfl) rfl (by rw [hO]; kernel_rfl) (by kernel_rfl) ⟨79, by rw [hO]; rfl, q79_27⟩ (rn_bs2 q81_27 q82_27 _) sa1 ?_
  intro b28 e28
  have q1_28 := q1_27.mv e28 rfl
  have q12_28 := q12_27.mv e28 rfl
  have q13_28 := q13_27.mv e28 rfl
  have q14_28 := q14_27.mv e28 rfl
  have q17_28 := q17_27.mv e28 rfl
  have q20_28 := q20_27.mv e28 rfl
  have q79_28 := q79_27.mv e28 rfl
  have q80_28 := q80_27.mv e28 rfl
  have q83_28 : At b28 83 (.slice (some ⟨w.heap.size, 0, none⟩) 2 2) := e28 ▸ At.eq (by rw [z27]; decide)
  have z28 : b28.tmps.size = 151 := (e28 ▸ size_put _ _ _).trans z27
  have df28 : b28.defers = [] := by rw [e28]; exact df27
  clear q12_27 q13_27 q14_27 q17_27 q1_27 q20_27 q79_27 q80_27 q81_27 q82_27
  clear e28 z27 df27
  refine stepC 28 (o := ⟨some 84, Op.call { callee := Callee.value (Operand.func 26), args := #[Operand.tmp 80, Operand.tmp 83], argTypes := #[34, 34] }, 4, "law.go:20", #[⟨24, Ground.data⟩, ⟨27, Ground.data⟩, ⟨23, Ground.chain⟩, ⟨23, Ground.guard⟩], some (23, true)⟩) (d := 84) (listed' := #[true, true, true, true, true, true, true, true, true, true, true, true, true, true, true, true, true, true, true, true, true, true, true, true, true, true, true, true, true, false, false, false, false, false, false, false, false, false, false, false, false, false, false, false, false, false, false, false, false, false, false, false, false, false, false, false, false, false, false, false, false, false, false, false, false, false, false, false, false, false, false, false, false, false, false, false, false, false, false, false, false, false, false, false, false, false, false, false, false, false, false, false, false, false, false, false]) (by rw [hO]; rfl) rfl (by rw [hO]; kernel_rfl) (by kernel_rfl) ⟨79, by rw [hO]; rfl, q79_28⟩ (rn_c26 q80_28 q83_28 _) ?_
  refine C.mono ?_
  clear C
  rintro e w2 ⟨rfl, s2, C⟩
  refine ⟨_, rfl, s2, ?_⟩
  intro b29 e29
  have q1_29 := q1_28.mv e29 rfl
  have q12_29 := q12_28.mv e29 rfl
  have q13_29 := q13_28.mv e29 rfl
  have q14_29 := q14_28.mv e29 rfl
  have q17_29 := q17_28.mv e29 rfl
  have q20_29 := q20_28.mv e29 rfl
  have q79_29 := q79_28.mv e29 rfl
  have q84_29 : At b29 84 (.bool true) := e29 ▸ At.eq (by rw [z28]; decide)
  have z29 : b29.tmps.size = 151 := (e29 ▸ size_put _ _ _).trans z28
  have df29 : b29.defers = [] := by rw [e29]; exact df28
  clear q12_28 q13_28 q14_28 q17_28 q1_28 q20_28 q79_28 q80_28 q83_28
  clear e29 z28 df28
  exact regF1 hO hns hQ z29 df29 q1_29 q12_29 q13_29 q14_29 q17_29 q20_29 q79_29 q84_29 s2 C

theorem regF {Q : Exit → Act → World → Prop} {ops : Array Oper} (hO : ops = litF) {a : Act} {w : World} {R X cap : Nat} {av : Option Addr}
    (hQ : ∀ c a w (d : Nat) v, Q (.panic c) (a.put (some d) v) w → Q (.panic c) a w) (sz : a.tmps.size = 151) (df : a.defers = [])
    (q1_0 : At a 1 (.pointer (some ⟨R, 0, none⟩)))
    (q2_0 : At a 2 (.string ⟨#[1, 2, 3, 1, 97, 1, 120]⟩))
    (q3_0 : At a 3 (.pointer (some ⟨X, 0, none⟩)))
    (q4_0 : At a 4 (.int .i64 8))
    (q5_0 : At a 5 (.int .i64 0))
    (q8_0 : At a 8 (.int .i64 4))
    (q11_0 : At a 11 (.int .i64 3))
    (q12_0 : At a 12 (.slice av 2 cap))
    (q13_0 : At a 13 (.int .i64 5))
    (q14_0 : At a 14 (.int .i64 0))
    (q17_0 : At a 17 (.int .i64 4))
    (q20_0 : At a 20 (.int .i64 2))
    (s0 : FCells R X w.drew)
    (C : Calls Tryd.prog 26 #[.slice av 2 cap, .slice (some ⟨w.drew.heap.size, 0, none⟩) 2 2] (w.drew.alloc (.cells #[.int .i64 0, .int .i64 5, .int .i64 3, .int .i64 1] 59)) fun e w2 => e = .returned (.bool true) ∧ FCells R X w2 ∧
      Calls Tryd.prog 11 #[.agg #[.int .i64 1, .int .i64 2, .string ⟨#[97]⟩, .string ⟨#[120]⟩, .int .i64 3]] w2 fun e w3 => e = .returned (.bool true) ∧ FCells R X w3 ∧
      Calls Tryd.prog 11 #[.agg #[.int .i64 0, .int .i64 0, .string ⟨#[]⟩, .string ⟨#[]⟩, .int .i64 0]] w3 fun e w4 => e = .returned (.bool false) ∧ FCells R X w4 ∧
      Calls Tryd.prog 17 #[.agg #[.int .i64 1, .int .i64 2, .string ⟨#[97]⟩, .string ⟨#[120]⟩, .int .i64 3], .int .i64 2] w4 fun e w5 => e = .returned (.agg #[.int .i64 1, .int .i64 2, .string ⟨#[97]⟩, .string ⟨#[120]⟩, .int .i64 1]) ∧ FCells R X w5 ∧
      Calls Tryd.prog 17 #[.agg #[.int .i64 1, .int .i64 2, .string ⟨#[97]⟩, .string ⟨#[120]⟩, .int .i64 3], .int .i64 9] w5 fun e w6 => e = .returned (.agg #[.int .i64 1, .int .i64 2, .string ⟨#[97]⟩, .string ⟨#[120]⟩, .int .i64 0]) ∧ FCells R X w6 ∧
      Calls Tryd.prog 17 #[.agg #[.int .i64 1, .int .i64 2, .string ⟨#[97]⟩, .string ⟨#[120]⟩, .int .i64 3], .int .i64 (-1)] w6 fun e w7 => e = .returned (.agg #[.int .i64 1, .int .i64 2, .string ⟨#[97]⟩, .string ⟨#[120]⟩, .int .i64 3]) ∧ FCells R X w7 ∧
      Calls Tryd.prog 17 #[.agg #[.int .i64 1, .int .i64 2, .string ⟨#[97]⟩, .string ⟨#[120]⟩, .int .i64 3], .int .i64 1] w7 fun e w8 => e = .returned (.agg #[.int .i64 1, .int .i64 2, .string ⟨#[97]⟩, .string ⟨#[120]⟩, .int .i64 2]) ∧ FCells R X w8 ∧
      Calls Tryd.prog 19 #[.agg #[.int .i64 1, .int .i64 2, .string ⟨#[97]⟩, .string ⟨#[120]⟩, .int .i64 3], .agg #[.int .i64 1, .int .i64 2, .string ⟨#[97]⟩, .string ⟨#[120]⟩, .int .i64 2]] w8 fun e w9 => e = .returned (.bool true) ∧ FCells R X w9 ∧
      Calls Tryd.prog 15 #[.agg #[.int .i64 1, .int .i64 2, .string ⟨#[97]⟩, .string ⟨#[120]⟩, .int .i64 3]] w9 fun e w10 => e = .returned (.string ⟨#[49, 58, 50, 32, 97, 32, 49, 32, 51]⟩) ∧ FCells R X w10 ∧
      Calls Tryd.prog 29 #[.slice av 2 cap] w10 fun e w11 => e = .returned (.string ⟨#[2, 0, 5, 3, 1]⟩) ∧ FCells R X w11 ∧
      Calls Tryd.prog 27 #[.slice (some ⟨w11.heap.size, 0, none⟩) 1 1] (w11.alloc (.cells #[.int .i64 0, .int .i64 0] 59)) fun e w13 => e = .returned (.bool false) ∧ FCells R X w13 ∧
      ∀ a', At a' 0 (.bool true) → a'.defers = [] → Q .normal a' w13) : (Code.region 9 ops true).wp Tryd.prog Q a w := by
  have hns : Region.noSelect ops = true := by rw [hO]; kernel_rfl
  have hsz : ops.size = 96 := by rw [hO]; rfl
  refine wp_region_held (S := FCells R X) (by kernel_rfl) ?_
  rw [hsz]
  exact regF0 hO hns hQ sz df q1_0 q2_0 q3_0 q4_0 q5_0 q8_0 q11_0 q12_0 q13_0 q14_0 q17_0 q20_0 s0 C
end Go.Proofs.YtbenjenifklejaaDoor
